/- Part 1 of the texts that YtfapgnbnfhpicaaGreatDoorGrcAll leans on. -/
import Derived.Test.YtfapgnbnfhpicaaGreatDoorGm
import Derived.Deep.QuietTactic
import Derived.BigQuiet
import Derived.Deep.DeepMust
import Derived.Deep.RegionHeld3
import Derived.Deep.DeepCutAuto
import Derived.Deep.RegionLaw
import Derived.Lib.LazyBuf
import Derived.Test.YtfapgnbnfhpicaaGreatDoorShl
import Derived.Test.YtfapgnbnfhpicaaGreatDoorGpu
import Derived.Test.YtfapgnbnfhpicaaGreatDoorFnd
import Derived.DeepKeys4
import Derived.Maps.Own
import Derived.Maps.Keyed
import Derived.Maps.OwnSet
import Derived.Deep.DrawnRows
import Derived.StillTailTactics
namespace Go.Proofs.YtfapgnbnfhpicaaGreatDoor
set_option maxRecDepth 20000
set_option linter.unusedVariables false
set_option linter.unusedSimpArgs false
open Go.ChangeShapes Go.WideShapes Go.ChangeAt Go.RowKit

section
variable {α : Type} [DecidableEq α]
def eqD (l m : List α) : Bool := decide (l = m)
theorem eqD_len {l m : List α} (h : l.length ≠ m.length) : eqD l m = false := by unfold eqD; rw [decide_eq_false_iff_not]; rintro rfl; exact h rfl
theorem eqD_no {l m : List α} {k : Nat} {a b : α} (ha : l[k]? = some a) (hb : m[k]? = some b) (h : a ≠ b) : eqD l m = false := by
  unfold eqD; rw [decide_eq_false_iff_not]; rintro rfl; rw [ha] at hb; exact h (Option.some.inj hb)
theorem eqD_yes {l m : List α} {n : Nat} (hl : l.length = n) (hm : m.length = n) (h : ∀ j, j < n → l[j]? = m[j]?) : eqD l m = true := by
  unfold eqD; rw [decide_eq_true_eq]
  apply List.ext_getElem?
  intro j
  by_cases hj : j < n
  · exact h j hj
  · rw [List.getElem?_eq_none (by omega), List.getElem?_eq_none (by omega)]
omit [DecidableEq α] in
theorem eqD_step {l m : List α} {k : Nat} {a b : α} (h : ∀ j, j < k → l[j]? = m[j]?) (ha : l[k]? = some a) (hb : m[k]? = some b) (e : a = b) : ∀ j, j < k + 1 → l[j]? = m[j]? := by
  intro j hj
  by_cases e2 : j = k
  · subst e2; rw [ha, hb, e]
  · exact h j (by omega)
end
/-- It returned this, and only draws were made. -/
def RetQ (w : World) (v : Value) (e : Ending) (w' : World) : Prop := e = .returned v ∧ ∃ q : Nat, w' = w.drewN q
theorem RetQ.mk {w : World} {b c : Bool} {q : Nat} (h : c = b) : RetQ w (.bool c) (.returned (.bool b)) (w.drewN q) := ⟨by rw [h], q, rfl⟩
theorem RetQ.mk2 {w : World} {b c : Bool} {q r : Nat} (h : c = b) : RetQ w (.bool c) (.returned (.bool b)) ((w.drewN q).drewN r) := ⟨by rw [h], q + r, World.drewN_drewN _ _ _⟩
theorem RetQ.mk0 {w : World} {b c : Bool} (h : c = b) : RetQ w (.bool c) (.returned (.bool b)) w := ⟨by rw [h], 0, rfl⟩
set_option maxHeartbeats 1600000 in
theorem equal_int (x y : RH) (ex ey : List (Option Nat)) (w : World) (hx : RHok w ex x) (hy : RHok w ey y) :
    Calls Tryz.prog 41 #[.slice x.A x.n x.c, .slice y.A y.n y.c] w (RetQ w (.bool (eqD x.l y.l))) := by
  have hn := hx.few
  have hm := hy.few
  have HX := hid hx
  have HY := hid hy
  have HL := hid hx.len
  have HM := hid hy.len
  clear hx hy
  obtain ⟨A, n, c, l⟩ := x
  obtain ⟨B, m, c2, l2⟩ := y
  simp only at *
  by_cases hlen : n = m
  · subst hlen
    go_enter Tryz.func41, Tryz.ntmps41
    go_wp2_with fail
    go_loopw [5, 13] (fun _ iv wr => ∃ (k q : Nat), k ≤ n ∧ iv = .int .i64 k ∧ wr = w.drewN q ∧ Hid (∀ j, j < k → l[j]? = l2[j]?)) (fun _ iv _ => n - (intOf iv).toNat)
    case atStart => exact ⟨0, 0, by omega, rfl, rfl, hid (fun j h => by omega)⟩
    case round =>
      obtain ⟨k, q, hk, rfl, rfl, hE⟩ := hrel
      by_cases hlt : k < n
      · obtain ⟨a, ha, -⟩ := get_at HL.out hlt
        obtain ⟨b, hb, -⟩ := get_at HM.out hlt
        obtain ⟨ad, hA, had, hc⟩ := HX.out.cell ha
        obtain ⟨ad2, hB, had2, hc2⟩ := HY.out.cell hb
        simp only at hA hB
        subst hA
        subst hB
        have Ha := hid ha
        have Hb := hid hb
        clear ha hb
        by_cases h1 : a = b
        · subst h1
          have Hr := hid (eqD_step hE.out Ha.out Hb.out rfl)
          clear hE
          go_wp2_with fail
          go_quiet (fail)
          go_wp2_with fail
          go_roundw
          case rel => exact ⟨k + 1, _, by omega, by go_num, rfl, Hr⟩
          case measure => simp [intOf]; omega
        · have Hr := hid (eqD_no Ha.out Hb.out h1)
          have t1 : (a == b) = false := by simpa using h1
          have t2 : (a != b) = true := by simpa using h1
          clear hE h1
          go_wp2_with fail
          go_quiet (fail)
          go_wp2_with fail
          go_ret
          exact RetQ.mk2 Hr.out
      · obtain rfl : k = n := by omega
        have Hr := hid (eqD_yes HL.out HM.out hE.out)
        clear hE
        go_wp2_with fail
        go_ret
        exact RetQ.mk Hr.out
  · have Hr := hid (eqD_len (l := l) (m := l2) (by rw [HL.out, HM.out]; exact hlen))
    have t1 : ((n : Int) == (m : Int)) = false := by simp; omega
    have t2 : ((n : Int) != (m : Int)) = true := by simp; omega
    clear hlen
    go_enter Tryz.func41, Tryz.ntmps41
    go_wp2_with fail
    go_ret
    exact RetQ.mk0 Hr.out
set_option maxHeartbeats 1600000 in
theorem refInts_any (x y : RH) (ex ey : List (Option Nat)) (w : World) (hx : RHok w ex x) (hy : RHok w ey y) :
    Calls Tryz.prog 12 #[.slice x.A x.n x.c, .slice y.A y.n y.c] w (RetQ w (.bool (eqD x.l y.l))) := by
  have hn := hx.few
  have hm := hy.few
  have HX := hid hx
  have HY := hid hy
  have HL := hid hx.len
  have HM := hid hy.len
  clear hx hy
  obtain ⟨A, n, c, l⟩ := x
  obtain ⟨B, m, c2, l2⟩ := y
  simp only at *
  by_cases hlen : n = m
  · subst hlen
    go_enter Tryz.func12, Tryz.ntmps12
    go_wp2_with fail
    go_loopw [5] (fun iv wr => ∃ (k q : Nat), k ≤ n ∧ iv = .int .i64 k ∧ wr = w.drewN q ∧ Hid (∀ j, j < k → l[j]? = l2[j]?)) (fun iv _ => n - (intOf iv).toNat)
    case atStart => exact ⟨0, 0, by omega, rfl, rfl, hid (fun j h => by omega)⟩
    case round =>
      obtain ⟨k, q, hk, rfl, rfl, hE⟩ := hrel
      by_cases hlt : k < n
      · obtain ⟨a, ha, -⟩ := get_at HL.out hlt
        obtain ⟨b, hb, -⟩ := get_at HM.out hlt
        obtain ⟨ad, hA, had, hc⟩ := HX.out.cell ha
        obtain ⟨ad2, hB, had2, hc2⟩ := HY.out.cell hb
        simp only at hA hB
        subst hA
        subst hB
        have Ha := hid ha
        have Hb := hid hb
        clear ha hb
        by_cases h1 : a = b
        · subst h1
          have Hr := hid (eqD_step hE.out Ha.out Hb.out rfl)
          clear hE
          go_wp2_with fail
          go_quiet (fail)
          go_wp2_with fail
          go_roundw
          case rel => exact ⟨k + 1, _, by omega, by go_num, rfl, Hr⟩
          case measure => simp [intOf]; omega
        · have Hr := hid (eqD_no Ha.out Hb.out h1)
          have t1 : (a == b) = false := by simpa using h1
          have t2 : (a != b) = true := by simpa using h1
          clear hE h1
          go_wp2_with fail
          go_quiet (fail)
          go_wp2_with fail
          go_ret
          exact RetQ.mk2 Hr.out
      · obtain rfl : k = n := by omega
        have Hr := hid (eqD_yes HL.out HM.out hE.out)
        clear hE
        go_wp2_with fail
        go_ret
        exact RetQ.mk Hr.out
  · have Hr := hid (eqD_len (l := l) (m := l2) (by rw [HL.out, HM.out]; exact hlen))
    have t1 : ((n : Int) == (m : Int)) = false := by simp; omega
    have t2 : ((n : Int) != (m : Int)) = true := by simp; omega
    clear hlen
    go_enter Tryz.func12, Tryz.ntmps12
    go_wp2_with fail
    go_ret
    exact RetQ.mk0 Hr.out
set_option maxHeartbeats 3200000 in
/-- EqualFunc over lists of lists, by Equal. -/
theorem equal_rows (x y : LH) (ex ey : List (Option Nat)) (w : World) (hx : LHok w ex x) (hy : LHok w ey y) :
    Calls Tryz.prog 39 #[.slice x.A x.n x.c, .slice y.A y.n y.c, .func (Fn.func 41) #[] #[]] w (RetQ w (.bool (eqD x.v y.v))) := by
  have hn := hx.few
  have hm := hy.few
  have HX := hid hx
  have HY := hid hy
  have HL := hid hx.len
  have HM := hid hy.len
  have HvL := hid (LH.vlen x)
  have HvM := hid (LH.vlen y)
  have HaX := hid (fun (k : Nat) (z : RH) (hz : x.l[k]? = some z) => LH.at hz)
  have HaY := hid (fun (k : Nat) (z : RH) (hz : y.l[k]? = some z) => LH.at hz)
  clear hx hy
  generalize hv : x.v = v at *
  generalize hv2 : y.v = v2 at *
  clear hv hv2
  obtain ⟨A, n, c, l⟩ := x
  obtain ⟨B, m, c2, l2⟩ := y
  simp only at *
  by_cases hlen : n = m
  · subst hlen
    go_enter Tryz.func39, Tryz.ntmps39
    go_wp2_with fail
    go_loopw [7, 8, 9, 17] (fun _ _ _ iv wr => ∃ (k q : Nat), k ≤ n ∧ iv = .int .i64 k ∧ wr = w.drewN q ∧ Hid (∀ j, j < k → v[j]? = v2[j]?)) (fun _ _ _ iv _ => n - (intOf iv).toNat)
    case atStart => exact ⟨0, 0, by omega, rfl, rfl, hid (fun j h => by omega)⟩
    case round =>
      obtain ⟨k, q, hk, rfl, rfl, hE⟩ := hrel
      by_cases hlt : k < n
      · obtain ⟨a, ha, ham⟩ := get_at HL.out hlt
        obtain ⟨b, hb, hbm⟩ := get_at HM.out hlt
        obtain ⟨ad, hA, had, hc⟩ := HX.out.cell ha
        obtain ⟨ad2, hB, had2, hc2⟩ := HY.out.cell hb
        simp only at hA hB
        subst hA
        subst hB
        have Ha := hid (HaX.out k a ha)
        have Hb := hid (HaY.out k b hb)
        have HC := hid (equal_int a b ex ey (w.drewN q) ((HX.out.all a ham).below (below_drewN (Below.refl _ _) q)) ((HY.out.all b hbm).below (below_drewN (Below.refl _ _) q)))
        clear ha hb ham hbm
        obtain ⟨aA, an, ac, al⟩ := a
        obtain ⟨bA, bn, bc, bl⟩ := b
        simp only at *
        by_cases h1 : al = bl
        · subst h1
          have Hr := hid (eqD_step hE.out Ha.out Hb.out rfl)
          have e1 : eqD al al = true := by unfold eqD; simp
          rw [e1] at HC
          clear hE e1
          go_wp2_with fail
          refine HC.out.mono ?_
          rintro e w' ⟨rfl, q2, rfl⟩
          go_wp2_with fail
          go_roundw
          case rel => exact ⟨k + 1, _, by omega, by go_num, rfl, Hr⟩
          case measure => simp [intOf]; omega
        · have Hr := hid (eqD_no Ha.out Hb.out h1)
          have e1 : eqD al bl = false := by unfold eqD; simpa using h1
          rw [e1] at HC
          clear hE h1 e1
          go_wp2_with fail
          refine HC.out.mono ?_
          rintro e w' ⟨rfl, q2, rfl⟩
          go_wp2_with fail
          go_ret
          exact RetQ.mk Hr.out
      · obtain rfl : k = n := by omega
        have Hr := hid (eqD_yes (HvL.out.trans HL.out) (HvM.out.trans HM.out) hE.out)
        clear hE
        go_wp2_with fail
        go_ret
        exact RetQ.mk Hr.out
  · have Hr := hid (eqD_len (l := v) (m := v2) (by rw [HvL.out, HvM.out, HL.out, HM.out]; exact hlen))
    have t1 : ((n : Int) == (m : Int)) = false := by simp; omega
    have t2 : ((n : Int) != (m : Int)) = true := by simp; omega
    clear hlen
    go_enter Tryz.func39, Tryz.ntmps39
    go_wp2_with fail
    go_ret
    exact RetQ.mk0 Hr.out
end Go.Proofs.YtfapgnbnfhpicaaGreatDoor

namespace Go.Proofs.YtfapgnbnfhpicaaGreatDoor
set_option maxRecDepth 20000
set_option linter.unusedVariables false
set_option linter.unusedSimpArgs false
open Go.ChangeShapes Go.WideShapes Go.ChangeAt Go.RowKit

theorem info3 : (Tryz.prog.info? 3).map (fun i => (i.zero, i.size, i.bytes)) = some (some (.int .i64 0), 1, 8) := by kernel_rfl
theorem info22 : (Tryz.prog.info? 22).map (fun i => (i.zero, i.size, i.bytes)) = some (some (.slice none 0 0), 1, 24) := by kernel_rfl
def upd (f : Nat → List Int) (i : Nat) (l : List Int) : Nat → List Int := fun j => if j = i then l else f j
theorem upd_at (f : Nat → List Int) (i : Nat) (l : List Int) : upd f i l i = l := by unfold upd; rw [if_pos rfl]
theorem upd_ne (f : Nat → List Int) {i j : Nat} (l : List Int) (h : j ≠ i) : upd f i l j = f j := by unfold upd; rw [if_neg h]
/-- Block M holds N slices, each of which owns its row, apart from the others. -/
def Mx (w : World) (M N : Nat) (f : Nat → List Int) : Prop :=
  ∃ vs : List Value, vs.length = N ∧ Fb w M vs.toArray 22 ∧ (∀ i v, vs[i]? = some v → w.ownsRow (M + 1) 3 1 v (f i).length (ints (f i))) ∧
    (∀ (i j : Nat) (u v : Value) (g : Nat), i ≠ j → vs[i]? = some u → vs[j]? = some v → u.ownBlock = some g → v.ownBlock ≠ some g)
section
variable {w w' : World} {M N : Nat} {f : Nat → List Int}
theorem Mx.lt (h : Mx w M N f) : M < w.heap.size := by obtain ⟨vs, h1, h2, h3, h4⟩ := h; exact h2.lt
theorem Mx.below (h : Mx w M N f) (hb : Below w.heap.size w w') : Mx w' M N f := by
  obtain ⟨vs, h1, h2, h3, h4⟩ := h
  exact ⟨vs, h1, h2.below hb h2.lt, fun i v hv => own_below (h3 i v hv) hb, h4⟩
theorem Mx.alloc (h : Mx w M N f) (o : Obj) : Mx (w.alloc o) M N f := h.below ((Below.refl _ _).alloc (Nat.le_refl _) o)
theorem Mx.congr {g : Nat → List Int} (h : Mx w M N f) (hg : ∀ i, i < N → f i = g i) : Mx w M N g := by
  obtain ⟨vs, h1, h2, h3, h4⟩ := h
  refine ⟨vs, h1, h2, fun i v hv => ?_, h4⟩
  have hi : i < N := by rw [← h1]; exact (List.getElem?_eq_some_iff.1 hv).1
  rw [← hg i hi]; exact h3 i v hv
/-- A world in which another block has been written. -/
theorem Mx.grown {row : Option Nat} (h : Mx w M N f) (hg : w.grownBy w' row) (hr : ∀ k, row = some k → k < M) : Mx w' M N f := by
  obtain ⟨vs, h1, h2, h3, h4⟩ := h
  refine ⟨vs, h1, h2.grown hg (fun e => by have := hr M e.symm; omega), fun i v hv => (h3 i v hv).kept hg ?_, h4⟩
  cases hb : v.ownBlock with
  | none => exact .inl rfl
  | some k => exact .inr (fun e => by have := hr k e.symm; have := ((h3 i v hv).lt k hb).1; omega)
theorem Mx.start (w : World) (N : Nat) : Mx (w.alloc (.cells (Array.replicate N (Value.slice none 0 0)) 22)) w.heap.size N (fun _ => []) := by
  refine ⟨List.replicate N (.slice none 0 0), by simp, by rw [List.toArray_replicate]; exact Fb.new _ _ _, fun i v hv => ?_, fun i j u v g _ hu hv hg => ?_⟩
  · obtain rfl := List.eq_of_mem_replicate (List.mem_of_getElem? hv)
    exact World.ownsRow_nil _ _ _ _
  · obtain rfl := List.eq_of_mem_replicate (List.mem_of_getElem? hu)
    simp [Value.ownBlock] at hg
/-- One slice. -/
theorem Mx.at (h : Mx w M N f) {i : Nat} (hi : i < N) : ∃ v, w.ownsRow (M + 1) 3 1 v (f i).length (ints (f i)) ∧ w.cell? ⟨M, i, none⟩ = some v ∧ w.frozen? ⟨M, i, none⟩ = false ∧ (∃ A c, v = .slice A (f i).length c) ∧
    (∀ w' : World, w.grownBy w' v.ownBlock → w'.cell? ⟨M, i, none⟩ = some v ∧ w'.frozen? ⟨M, i, none⟩ = false) ∧
    (∀ (w' : World) (u : Value) (l : List Int), w.grownBy w' v.ownBlock → w'.ownsRow (M + 1) 3 1 u l.length (ints l) → (∀ g, u.ownBlock = some g → v.ownBlock = some g ∨ w.heap.size ≤ g) →
      Mx (w'.setCell ⟨M, i, none⟩ u) M N (upd f i l)) := by
  obtain ⟨vs, h1, h2, h3, h4⟩ := h
  have hi' : i < vs.length := by omega
  have hv : vs[i]? = some vs[i] := List.getElem?_eq_getElem hi'
  have hown := h3 i _ hv
  have hc : ∀ {w' : World}, Fb w' M vs.toArray 22 → w'.cell? ⟨M, i, none⟩ = some vs[i] ∧ w'.frozen? ⟨M, i, none⟩ = false := fun h => ⟨by rw [h.cell]; simp, h.frozen i⟩
  have hM : ∀ {w' : World}, w.grownBy w' vs[i].ownBlock → Fb w' M vs.toArray 22 := fun hg => h2.grown hg (by
    intro e
    have := (hown.lt M e.symm).1
    omega)
  refine ⟨vs[i], hown, (hc h2).1, (hc h2).2, own_any_slice hown, fun w' hg => hc (hM hg), fun w' nv l hg ho hat => ?_⟩
  have hset := setCell_grown w' ⟨M, i, none⟩ nv
  have hfar : ∀ {v : Value} {n : Nat} {xs : List Value}, w'.ownsRow (M + 1) 3 1 v n xs → (w'.setCell ⟨M, i, none⟩ nv).ownsRow (M + 1) 3 1 v n xs := fun {v} {n} {xs} h => h.kept hset (by
    cases hb : v.ownBlock with
    | none => exact .inl rfl
    | some k => exact .inr (fun e => by injection e with e; have := (h.lt k hb).1; simp at e; omega))
  refine ⟨vs.set i nv, by simpa using h1, ?_, fun j v hj => ?_, fun a b u v g2 hab ha hb hg2 => ?_⟩
  · have := (hM hg).set i nv
    simpa using this
  · rw [List.getElem?_set] at hj
    by_cases e : i = j
    · subst e
      rw [if_pos rfl, if_pos hi'] at hj
      obtain rfl := Option.some.inj hj
      rw [upd_at]
      exact hfar ho
    · rw [if_neg e] at hj
      rw [upd_ne _ _ (Ne.symm e)]
      refine hfar ((h3 j v hj).kept hg ?_)
      cases hb : v.ownBlock with
      | none => exact .inl rfl
      | some k => exact .inr (fun e2 => h4 j i v vs[i] k (Ne.symm e) hj hv hb e2.symm)
  · have hnew : ∀ (j : Nat) (v : Value) (g : Nat), j ≠ i → vs[j]? = some v → nv.ownBlock = some g → v.ownBlock ≠ some g := by
      intro j v g hji hj hng he
      rcases hat g hng with h | h
      · exact h4 j i v vs[i] g hji hj hv he h
      · have := ((h3 j v hj).lt g he).2
        omega
    rw [List.getElem?_set] at ha hb
    by_cases e1 : i = a
    · subst e1
      rw [if_pos rfl, if_pos hi'] at ha
      rw [if_neg hab] at hb
      obtain rfl := Option.some.inj ha
      exact hnew b v g2 (Ne.symm hab) hb hg2
    · rw [if_neg e1] at ha
      by_cases e2 : i = b
      · subst e2
        rw [if_pos rfl, if_pos hi'] at hb
        obtain rfl := Option.some.inj hb
        intro e
        exact hnew a u g2 hab ha e hg2
      · rw [if_neg e2] at hb
        exact h4 a b u v g2 hab ha hb hg2
end
/-- The rows that a matrix holds, as a list of lists. -/
def rowsF (N : Nat) (f : Nat → List Int) : List (List Int) := (List.range N).map f
def rhOf (v : Value) (l : List Int) : RH := match v with
  | .slice A n c => ⟨A, n, c, l⟩
  | _ => ⟨none, 0, 0, l⟩
theorem Mx.lists {w : World} {M N : Nat} {f : Nat → List Int} (h : Mx w M N f) (hN : N ≤ 9223372036854775807) :
    ∃ y : LH, y.A = some ⟨M, 0, none⟩ ∧ y.n = N ∧ y.c = N ∧ y.v = rowsF N f ∧ ∀ ex : List (Option Nat), (∀ k, some k ∈ ex → k < M) → LHok w ex y := by
  obtain ⟨vs, h1, h2, h3, h4⟩ := h
  have hsl : ∀ i v, vs[i]? = some v → RH.v (rhOf v (f i)) = v ∧ (rhOf v (f i)).l = f i ∧ (rhOf v (f i)).n = (f i).length ∧ (f i).length ≤ 9223372036854775807 ∧ ∀ ex : List (Option Nat), (∀ k, some k ∈ ex → k < M) → EAt w ex (rhOf v (f i)).A (ints (f i)) := by
    intro i v hv
    have hown := h3 i v hv
    obtain ⟨A, c, rfl⟩ := own_any_slice hown
    refine ⟨rfl, rfl, rfl, ?_, fun ex hex => EAt.own hown fun g hg hm => ?_⟩
    · rcases hown.2 with ⟨e, h0⟩ | ⟨g, cap, cur, _, _, _, h5, h6, _⟩
      · rw [h0]; omega
      · unfold maxLen at h6; omega
    · have := hex g hm; have := (hown.lt g hg).1; omega
  let l := (List.range N).map fun i => rhOf (vs.getD i default) (f i)
  have hl : ∀ i, i < N → l[i]? = some (rhOf (vs.getD i default) (f i)) := fun i hi => by show ((List.range N).map _)[i]? = _; rw [List.getElem?_map, List.getElem?_range hi]; rfl
  have hget : ∀ i, i < N → vs[i]? = some (vs.getD i default) := fun i hi => by rw [List.getD_eq_getElem?_getD, List.getElem?_eq_getElem (by omega)]; rfl
  have hll : l.length = N := by simp [l]
  have hvs : l.map RH.v = vs := by
    apply List.ext_getElem?
    intro i
    by_cases hi : i < N
    · rw [List.getElem?_map, hl i hi, hget i hi]
      exact congrArg some (hsl i _ (hget i hi)).1
    · rw [List.getElem?_eq_none (by simp [l]; omega), List.getElem?_eq_none (by omega)]
  refine ⟨⟨some ⟨M, 0, none⟩, N, N, l⟩, rfl, rfl, rfl, ?_, fun ex hex => ⟨?_, hll, hN, fun y hy => ?_⟩⟩
  · show l.map RH.l = (List.range N).map f
    show ((List.range N).map _).map _ = _
    rw [List.map_map]
    refine List.map_congr_left fun i hi => ?_
    exact (hsl i _ (hget i (List.mem_range.1 hi))).2.1
  · show EAt w ex (some ⟨M, 0, none⟩) (l.map RH.v)
    rw [hvs]
    exact EAt.fb h2 (fun hm => by have := hex M hm; omega) (fun j u hu => by simpa using hu)
  · obtain ⟨i, hi, rfl⟩ := List.mem_map.1 hy
    have hi := List.mem_range.1 hi
    obtain ⟨e1, e2, e3, e4, e5⟩ := hsl i _ (hget i hi)
    exact ⟨by rw [e2]; exact e5 ex hex, by rw [e2, e3], by rw [e3]; exact e4⟩
/-- A list of lists came back, in new memory. -/
def RetLL (w : World) (v : List (List Int)) (e : Ending) (w' : World) : Prop :=
  ∃ y : LH, e = .returned (.slice y.A y.n y.c) ∧ y.v = v ∧ (∀ ex : List (Option Nat), (∀ k, some k ∈ ex → k < w.heap.size) → LHok w' ex y) ∧ Below w.heap.size w w'

theorem run_mkrows (n : Nat) (hn : n ≤ 100000) (w : World) :
    (Instr.makeSlice 26 (.int .i64 (n : Int)) (.int .i64 (n : Int))).run Tryz.prog w = .ok (.slice (some ⟨w.heap.size, 0, none⟩) n n) (w.alloc (.cells (Array.replicate n (Value.slice none 0 0)) 22)) := by
  obtain ⟨i, hi, hz0, hz1, hz2⟩ := info_parts info22
  have h := run_make (P := Tryz.prog) w 26 22 i (.slice none 0 0) Tryz.underlying26 hi hz0 .i64 .i64 n n (by omega) (by omega) (by rw [hz2]; omega) (by omega)
  rw [h, hz1]
  simp only [Int.toNat_natCast, Nat.mul_one]
  have e2 : madeCells (Value.slice none 0 0).cells n = Array.replicate n (Value.slice none 0 0) := by
    apply Array.toList_inj.1
    rw [show (Value.slice none 0 0).cells = #[Value.slice none 0 0] from rfl, toList_madeCells_one]
    simp
  rw [e2]
/-- What the loops of reversed have built. -/
def revF (S : List (List Int)) (k : Nat) (b : Nat) : List Int := rowP k fun a => decide ((b : Int) ∈ rw0 S a)
def revG (S : List (List Int)) (k : Nat) (l : List Int) (b : Nat) : List Int := revF S k b ++ (if (b : Int) ∈ l then [(k : Int)] else [])
theorem rowP_succ (k : Nat) (f : Nat → Bool) : rowP (k + 1) f = rowP k f ++ (if f k = true then [(k : Int)] else []) := by
  unfold rowP
  rw [List.range_succ, List.filter_append, List.map_append]
  congr 1
  by_cases h : f k = true <;> simp [h]
theorem revF_succ {S : List (List Int)} {k : Nat} {l : List Int} (h : S[k]? = some l) (b : Nat) : revF S (k + 1) b = revG S k l b := by
  unfold revF revG
  rw [rowP_succ, rw0_at h]
  unfold revF
  simp
theorem revG_nil (S : List (List Int)) (k : Nat) (b : Nat) : revG S k [] b = revF S k b := by unfold revG; simp
theorem revG_succ {S : List (List Int)} {k : Nat} {l : List Int} {j c : Nat} (hl : l.Pairwise (· < ·)) (hj : l[j]? = some (c : Int)) (b : Nat) : upd (revG S k (l.take j)) c (revG S k (l.take j) c ++ [(k : Int)]) b = revG S k (l.take (j + 1)) b := by
  have ht : l.take (j + 1) = l.take j ++ [(c : Int)] := by rw [List.take_add_one, hj]; rfl
  have hno : (c : Int) ∉ l.take j := by
    intro hm
    obtain ⟨i, hi, he⟩ := List.mem_iff_getElem.1 hm
    rw [List.getElem_take] at he
    obtain ⟨hj1, hj2⟩ := List.getElem?_eq_some_iff.1 hj
    have hij : i < j := by simp at hi; omega
    have := List.pairwise_iff_getElem.1 hl i j (by omega) hj1 hij
    omega
  by_cases e : b = c
  · subst e
    rw [upd_at, ht]
    unfold revG
    rw [if_neg hno, if_pos (by simp)]
    simp
  · rw [upd_ne _ _ e, ht]
    unfold revG
    have : ((b : Int) ∈ l.take j ++ [(c : Int)]) ↔ (b : Int) ∈ l.take j := by simp; omega
    simp only [this]
theorem revG_len (S : List (List Int)) (k : Nat) (l : List Int) (b : Nat) : (revG S k l b).length ≤ k + 1 := by
  unfold revG revF
  have := rowP_len k fun a => decide ((b : Int) ∈ rw0 S a)
  rw [List.length_append]
  split <;> simp <;> omega
theorem after_own {M : Nat} {w wr w5 : World} {o : Obj} {v : Value} (hB : Below M w wr) (hM : M ≤ wr.heap.size) (hg : (wr.alloc o).grownBy w5 v.ownBlock) (h : ∀ k, v.ownBlock = some k → M + 1 ≤ k) : Below M w w5 :=
  (hB.alloc hM o).grown hg (by rw [World.size_alloc]; omega) (fun k hk => by have := h k hk; omega)
theorem own_hat {w : World} {v : Value} {g n c : Nat} (h : v.ownBlock = some g ∨ g = w.heap.size) : ∀ k, (Value.slice (some ⟨g, 0, none⟩) n c).ownBlock = some k → v.ownBlock = some k ∨ w.heap.size ≤ k := by
  intro k hk
  simp only [Value.ownBlock, Option.some.injEq] at hk
  subst hk
  rcases h with h | h
  · exact .inl h
  · exact .inr (by omega)
theorem ints_snoc (l : List Int) (x : Int) : ints (l ++ [x]) = ints l ++ [Value.int .i64 x] := by simp [ints]
theorem one_int1 (x : Int) : ∀ u ∈ [Value.int .i64 x], u.oneCell' = true := by intro u hu; simp at hu; subst hu; rfl
theorem int_new (w : World) (x : Int) (t : Nat) : ∀ (j : Nat) (u : Value), [Value.int .i64 x][j]? = some u → (w.alloc (.cells #[.int .i64 x] t)).cell? ((⟨w.heap.size, 0, none⟩ : Addr).add j) = some u := by
  intro j u h
  have hb := Fb.new w #[.int .i64 x] t
  rw [add_of, hb.cell]
  simpa using h
set_option maxHeartbeats 3200000 in
theorem reversed_any (x : LH) (ex : List (Option Nat)) (w : World) (h : LHok w ex x) (hn : x.n ≤ 100000) (hris : ∀ l ∈ x.v, RisP x.n l) :
    Calls Tryz.prog 40 #[.slice x.A x.n x.c] w (RetLL w (revL x.n x.v)) := by
  obtain ⟨i1, hi, hz0, hz1, hz2⟩ := info_parts info3
  have Hi := hid hi; have Hz0 := hid hz0; have Hz1 := hid hz1; have Hz2 := hid hz2
  clear hi hz0 hz1 hz2
  have HX := hid h
  have HR := hid hris
  have HL := hid h.len
  have Hat := hid (fun (k : Nat) (z : RH) (hz : x.l[k]? = some z) => LH.at hz)
  clear h hris
  generalize hv : x.v = v at *
  clear hv
  obtain ⟨A, n, c, l⟩ := x
  simp only at *
  have hrow := run_mkrows n hn
  go_enter Tryz.func40, Tryz.ntmps40
  go_wp2_with fail
  have HM := hid (show Mx (w.alloc (.cells (Array.replicate n (Value.slice none 0 0)) 22)) w.heap.size n (revF v 0) from (Mx.start w n).congr (fun i _ => by unfold revF rowP; simp))
  have HB := hid ((Below.refl w.heap.size w).alloc (Nat.le_refl _) (.cells (Array.replicate n (Value.slice none 0 0)) 22))
  generalize w.alloc (.cells (Array.replicate n (Value.slice none 0 0)) 22) = w0 at HM HB ⊢
  clear hrow
  generalize hMd : w.heap.size = M at *
  go_loopw [4, 5, 7, 13, 20] (fun _ _ _ iv _ wr => ∃ k : Nat, k ≤ n ∧ iv = .int .i64 k ∧ Hid (Mx wr M n (revF v k)) ∧ Hid (Below M w wr)) (fun _ _ _ iv _ _ => n - (intOf iv).toNat)
  case atStart => exact ⟨0, by omega, rfl, HM, HB⟩
  case round =>
    clear HM HB
    obtain ⟨k, hk, rfl, hM, hB⟩ := hrel
    by_cases hlt : k < n
    · obtain ⟨y, hy, hym⟩ := get_at HL.out hlt
      have HPr := hid (HX.out.go (Go2.below (hMd ▸ hB.out)))
      obtain ⟨ad, hA, had, hc⟩ := HPr.out.cell hy
      simp only at hA
      subst hA
      have HY := hid (fun (u : World) (h : Below M w u) => (HX.out.go (Go2.below (hMd ▸ h))).all y hym)
      have Hyv := hid (Hat.out k y hy)
      have Hyr := hid (HR.out y.l (List.mem_of_getElem? (Hat.out k y hy)))
      have Hyl := hid ((HPr.out.all y hym).len)
      have hyn := (HPr.out.all y hym).few
      have hyn2 : y.n ≤ n := by have := ris_len Hyr.out; have := Hyl.out; omega
      clear hy hym HPr
      obtain ⟨yA, yn, yc, yl⟩ := y
      simp only at *
      go_wp2_with fail
      clear hc
      have HM2 := hid (show Mx wr M n (revG v k (yl.take 0)) from hM.out.congr (fun b _ => by rw [List.take_zero, revG_nil]))
      go_loopw [7, 20] (fun _ iv wr => ∃ j : Nat, j ≤ yn ∧ iv = .int .i64 j ∧ Hid (Mx wr M n (revG v k (yl.take j))) ∧ Hid (Below M w wr)) (fun _ iv _ => yn - (intOf iv).toNat)
      case atStart => exact ⟨0, by omega, rfl, HM2, hB⟩
      case round =>
        clear HM2 hM hB
        obtain ⟨j, hj, rfl, hM, hB⟩ := hrel
        by_cases hlt2 : j < yn
        · obtain ⟨a, ha, ham⟩ := get_at Hyl.out hlt2
          obtain ⟨ad2, hA2, had2, hc2⟩ := (HY.out _ hB.out).cell ha
          simp only at hA2
          subst hA2
          have har := Hyr.out.2 a ham
          obtain ⟨b, rfl⟩ := Int.eq_ofNat_of_zero_le har.1
          have hbn : b < n := by omega
          have Hst := hid (fun b2 : Nat => revG_succ (S := v) (k := k) Hyr.out.1 ha b2)
          have hlen := revG_len v k (yl.take j) b
          obtain ⟨rv, hown, hcell, hfr, ⟨rA, rc, hrv⟩, hkeep, hput⟩ := hM.out.at hbn
          have HMa := hid (hM.out.alloc (.cells #[.int .i64 (k : Int)] 3))
          obtain ⟨rv2, hown2, hcell2, hfr2, -, hkeep2, hput2⟩ := HMa.out.at hbn
          obtain rfl : rv = rv2 := by
            have := Below.cell (show Below wr.heap.size wr (wr.alloc (.cells #[.int .i64 (k : Int)] 3)) from (Below.refl _ _).alloc (Nat.le_refl _) _) (p := ⟨M, b, none⟩) hM.out.lt
            rw [hcell, hcell2] at this
            exact (Option.some.inj this).symm
          have HO := hid hown2
          have HP := hid hput2
          have HK := hid hkeep2
          have HN1 := hid (int_new wr (k : Int) 3)
          have hMl := hM.out.lt
          have HB1 := hid (below_step (W := wr) ((Below.refl wr.heap.size wr).alloc (Nat.le_refl _) (.cells #[.int .i64 (k : Int)] 3)) (Below.refl _ _))
          have Hbw := hid hB.out
          have Hrlt := hid (fun k2 (hk2 : rv.ownBlock = some k2) => (hown2.lt k2 hk2).1)
          have hszM : M + 1 ≤ wr.heap.size := hMl
          clear hown hfr hkeep hput hown2 hcell2 hfr2 hkeep2 hput2 ha ham hM hB HMa
          generalize revG v k (yl.take j) = F at *
          subst hrv
          go_wp2_with ((
            at_builtin
            go_must (refine wpList_append_lies _ rfl _ _ 22 rfl (M + 1) 3 i1 _ 1 8 Tryz.underlying22 Hi.out Hz0.out Hz1.out Hz2.out rfl (by decide) _ (F b).length (ints (F b)) rfl HO.out ⟨wr.heap.size, 0, none⟩ 1 1 [Value.int .i64 (k : Int)] rfl rfl HN1.out (one_int1 _) (by omega) (by unfold maxLen; omega) (by omega) (by simp; omega) _ rfl ?_)
            intro g5 cap5 w5 hown5 hgr5 hat5 hlt5
            obtain ⟨y0, y1⟩ := HK.out _ hgr5
            have H5 := hid (HP.out _ (.slice (some ⟨g5, 0, none⟩) ((F b).length + 1) cap5) (F b ++ [(k : Int)]) hgr5 (by rw [ints_snoc, List.length_append]; exact hown5) (own_hat hat5))
            have HB5 := hid (after_own Hbw.out (by omega) hgr5 Hrlt.out)
            clear hown5 hgr5 hat5 hlt5))
          go_roundw
          case rel => exact ⟨j + 1, by omega, by go_num, hid (H5.out.congr (fun b2 _ => Hst.out b2)), hid (HB5.out.setCell (by simp) _)⟩
          case measure => simp [intOf]; omega
        · obtain rfl : j = yn := by omega
          have HM3 := hid (show Mx wr M n (revF v (k + 1)) from hM.out.congr (fun b _ => by rw [List.take_of_length_le (by rw [Hyl.out]; omega), revF_succ Hyv.out]))
          clear hM
          go_wp2_with fail
          go_roundw
          case rel => exact ⟨k + 1, by omega, by go_num, HM3, hB⟩
          case measure => simp [intOf]; omega
    · obtain rfl : k = n := by omega
      obtain ⟨y, hy1, hy2, hy3, hy4, hy5⟩ := hM.out.lists (by omega)
      have HF := hid (show RetLL w (revL k v) (.returned (.slice (some ⟨M, 0, none⟩) k k)) wr from ⟨y, by rw [hy1, hy2, hy3], hy4, fun ex hex => hy5 ex (fun q hq => by have := hex q hq; omega), by rw [hMd]; exact hB.out⟩)
      clear hy1 hy2 hy3 hy4 hy5 hM hB
      go_wp2_with fail
      go_ret
      exact HF.out
end Go.Proofs.YtfapgnbnfhpicaaGreatDoor

namespace Go.Proofs.YtfapgnbnfhpicaaGreatDoor
set_option maxRecDepth 20000
set_option linter.unusedVariables false
set_option linter.unusedSimpArgs false
open Go.ChangeShapes Go.WideShapes Go.ChangeAt Go.RowKit

theorem Fb.thr {w : World} {g t : Nat} {a b c : Value} (h : Fb w g #[a, b, c] t) : w.cell? ⟨g, 0, none⟩ = some a ∧ w.cell? ⟨g, 1, none⟩ = some b ∧ w.cell? ⟨g, 2, none⟩ = some c := ⟨h.cell 0, h.cell 1, h.cell 2⟩
theorem RetQ.below {w w' : World} {v : Value} {e : Ending} (h : RetQ w v e w') : e = .returned v ∧ Below w.heap.size w w' := by
  obtain ⟨h1, q, rfl⟩ := h
  exact ⟨h1, below_drewN (Below.refl _ _) q⟩
/-- It returned this, and nothing old has changed. -/
def RetVb (w : World) (v : Value) (e : Ending) (w' : World) : Prop := e = .returned v ∧ Below w.heap.size w w'
theorem retVb_b {w w' : World} {b c : Bool} (h : c = b) (hb : Below w.heap.size w w') : RetVb w (.bool c) (.returned (.bool b)) w' := ⟨by rw [h], hb⟩
theorem retVb_i {w w' : World} {b c : Int} (h : c = b) (hb : Below w.heap.size w w') : RetVb w (.int .i64 c) (.returned (.int .i64 b)) w' := ⟨by rw [h], hb⟩
/-- A graph as argument: what stands while it is read. -/
structure GW (w : World) (G : Nat) (ex : List (Option Nat)) (x : GH) (v : World) : Prop where
  bel : Below w.heap.size w v
  box : Fb v G #[.slice x.A x.n x.c, .slice x.S.A x.S.n x.S.c, .slice x.P.A x.P.n x.P.c] 28
  g : GHok v ex x
theorem GW.below {w v v' : World} {G : Nat} {ex : List (Option Nat)} {x : GH} (h : GW w G ex x v) (hb : Below v.heap.size v v') : GW w G ex x v' :=
  ⟨below_step h.bel hb, h.box.below hb h.box.lt, h.g.below hb⟩
theorem GW.start {w : World} {ex : List (Option Nat)} {x : GH} (h : GHok w ex x) : GW w w.heap.size ex x (w.alloc (.cells #[.slice x.A x.n x.c, .slice x.S.A x.S.n x.S.c, .slice x.P.A x.P.n x.P.c] 28)) :=
  ⟨(Below.refl _ _).alloc (Nat.le_refl _) _, Fb.new _ _ _, h.below ((Below.refl _ _).alloc (Nat.le_refl _) _)⟩
theorem all_false {N : Nat} {S : List (List Int)} {k : Nat} {l : List Int} (h : S[k]? = some l) (hr : risB N l = false) : S.all (risB N) = false := by
  rw [List.all_eq_false]
  exact ⟨l, List.mem_of_getElem? h, by rw [hr]; simp⟩
theorem all_true {N n : Nat} {S : List (List Int)} (hn : S.length = n) (h : ∀ (j : Nat) (l : List Int), j < n → S[j]? = some l → risB N l = true) : S.all (risB N) = true := by
  rw [List.all_eq_true]
  intro l hl
  obtain ⟨j, hj, rfl⟩ := List.mem_iff_getElem.1 hl
  exact h j _ (by omega) (List.getElem?_eq_getElem hj)
theorem tot_le {S : List (List Int)} {N : Nat} (h : ∀ l ∈ S, l.length ≤ N) : tot S ≤ S.length * N := by
  induction S with
  | nil => simp [tot]
  | cons x S ih =>
    have h1 := h x (by simp)
    have h2 := ih (fun l hl => h l (by simp [hl]))
    unfold tot at *
    rw [List.map_cons, List.sum_cons, List.length_cons, Nat.add_mul]
    omega
set_option maxHeartbeats 6400000 in
theorem valid_graph (x : GH) (ex : List (Option Nat)) (w : World) (h : GHok w ex x) :
    Calls Tryz.prog 17 #[x.a] w (RetVb w (.bool (validB x.n x.S.v x.P.v))) := by
  have HG := hid (GW.start h)
  have hn0 := h.few
  have hs0 := h.s.few
  have hp0 := h.p.few
  have HL := hid h.s.len
  have HvS := hid ((LH.vlen x.S).trans h.s.len)
  have HvP := hid ((LH.vlen x.P).trans h.p.len)
  have Hat := hid (fun (k : Nat) (z : RH) (hz : x.S.l[k]? = some z) => LH.at hz)
  have HrS := hid (fun (v : World) (hv : GW w w.heap.size ex x v) (hr : ∀ l ∈ x.S.v, RisP x.S.n l) (hn : x.S.n ≤ 100000) => reversed_any x.S ex v hv.g.s hn hr)
  have HcS := hid (fun (v : World) (hv : GW w w.heap.size ex x v) (hr : ∀ l ∈ x.S.v, RisP x.S.n l) (hn : x.S.n ≤ 100000) => count_any x.S x.S.n ex v hv.g.s hn (fun y hy => by
    rw [← (hv.g.s.all y hy).len]
    have := ris_len (hr y.l (by obtain ⟨j, hj, rfl⟩ := List.mem_iff_getElem.1 hy; exact List.mem_of_getElem? (LH.at (List.getElem?_eq_getElem hj))))
    omega))
  have HeP := hid (fun (v : World) (hv : GW w w.heap.size ex x v) (y : LH) (hy : LHok v [] y) => equal_rows y x.P [] ex v hy hv.g.p)
  have hR : ∃ R, validB x.n x.S.v x.P.v = R := ⟨_, rfl⟩
  obtain ⟨R, hR⟩ := hR
  have Hv := hid (show R = (decide (1 ≤ x.n) && (decide (x.n ≤ 256) && (decide (x.S.v.length = x.n) && (decide (x.P.v.length = x.n) && (x.S.v.all (risB x.n) && (decide (tot x.S.v ≤ 1024) && decide (revL x.n x.S.v = x.P.v))))))) from hR.symm)
  rw [hR]
  unfold GH.a
  clear h hR
  have HK := hid (fun (v u : World) (h : GW w w.heap.size ex x v) (hb : Below v.heap.size v u) => h.below hb)
  generalize hsv : x.S.v = Sv at *
  generalize hpv : x.P.v = Pv at *
  clear hsv hpv
  obtain ⟨A, n, c, ns, ⟨SA, sn, sc, sl⟩, ⟨PA, pn, pc, pl⟩⟩ := x
  simp only at *
  go_enter Tryz.func17, Tryz.ntmps17
  have hG : ∃ G, w.heap.size = G := ⟨_, rfl⟩
  obtain ⟨G, hG⟩ := hG
  have HGe := hid hG
  rw [hG] at HG HrS HcS HeP HK
  clear hG
  by_cases h1 : 1 ≤ n
  · by_cases h2 : n ≤ 256
    · by_cases h3 : sn = n
      · by_cases h4 : pn = n
        · subst h3
          subst h4
          have Hv2 := hid (show R = (Sv.all (risB pn) && (decide (tot Sv ≤ 1024) && decide (revL pn Sv = Pv))) by rw [Hv.out, decide_eq_true h1, decide_eq_true h2, decide_eq_true HvS.out, decide_eq_true HvP.out]; rfl)
          clear Hv
          go_wp2_with fail
          rw [HGe.out]
          generalize w.alloc (.cells #[.slice A pn c, .slice SA pn sc, .slice PA pn pc] 28) = w0 at HG ⊢
          obtain ⟨c0, c1, c2⟩ := HG.out.box.thr
          have hGl := HG.out.box.lt
          go_loop [5, 32] (fun _ iv => ∃ k : Nat, k ≤ pn ∧ iv = .int .i64 k ∧ Hid (∀ (j : Nat) (l : List Int), j < k → Sv[j]? = some l → risB pn l = true)) (fun _ iv => pn - (intOf iv).toNat)
          case atStart => exact ⟨0, by omega, rfl, hid (fun j l h => by omega)⟩
          case round =>
            obtain ⟨k, hk, rfl, hE⟩ := hrel
            by_cases hlt : k < pn
            · obtain ⟨y, hy, hym⟩ := get_at HL.out hlt
              obtain ⟨ad, hA, had, hc⟩ := HG.out.g.s.cell hy
              simp only at hA
              subst hA
              have Hy := hid (Hat.out k y hy)
              have HC := hid (asc_any y pn ex w0 (HG.out.g.s.all y hym) (by omega))
              clear hy hym
              obtain ⟨yA, yn, yc, yl⟩ := y
              simp only at *
              cases hr : risB pn yl with
              | false =>
                as_aux_lemma =>
                  rw [hr] at HC
                  have Hr := hid (show R = false by rw [Hv2.out, all_false Hy.out hr]; rfl)
                  clear hr
                  go_wp2_with fail
                  refine HC.out.mono ?_
                  rintro e w1 ⟨rfl, rfl⟩
                  go_wp2_with fail
                  go_ret
                  exact retVb_b Hr.out HG.out.bel
              | true =>
                as_aux_lemma =>
                  rw [hr] at HC
                  have Hr := hid (show ∀ (j : Nat) (l : List Int), j < k + 1 → Sv[j]? = some l → risB pn l = true by
                    intro j l hj hl
                    by_cases e : j = k
                    · subst e
                      rw [Hy.out] at hl
                      rw [← Option.some.inj hl]
                      exact hr
                    · exact hE.out j l (by omega) hl)
                  clear hr hE
                  go_wp2_with fail
                  refine HC.out.mono ?_
                  rintro e w1 ⟨rfl, rfl⟩
                  go_wp2_with fail
                  go_round
                  case rel => exact ⟨k + 1, by omega, by go_num, Hr⟩
                  case measure => simp [intOf]; omega
            · obtain rfl : k = pn := by omega
              have Hall := hid (all_true HvS.out hE.out)
              have Hris := hid (show ∀ l ∈ Sv, RisP k l from fun l hl => risB_iff.1 (List.all_eq_true.1 Hall.out l hl))
              have Hv3 := hid (show R = (decide (tot Sv ≤ 1024) && decide (revL k Sv = Pv)) by rw [Hv2.out, Hall.out]; rfl)
              have htl : tot Sv ≤ k * 256 := by
                have := tot_le (S := Sv) (N := 256) (fun l hl => by have := ris_len (Hris.out l hl); omega)
                rw [HvS.out] at this; exact this
              have htl2 : tot Sv ≤ 65536 := by omega
              clear htl hE Hv2
              generalize tot Sv = t at *
              cases ht : decide (t ≤ 1024) with
              | false =>
                as_aux_lemma =>
                  have Hr := hid (show R = false by rw [Hv3.out, ht]; rfl)
                  have t1 : decide ((t : Int) ≤ 1024) = false := by simp at ht ⊢; omega
                  clear ht
                  go_wp2_with fail
                  go_quiet ((go_at_call 37; exact quiet_same (HcS.out _ (HK.out _ _ HG.out (below_drewN (Below.refl _ _) _)) Hris.out (by omega))))
                  go_wp2_with fail
                  go_ret
                  exact retVb_b Hr.out (below_drewN HG.out.bel _)
              | true =>
                as_aux_lemma =>
                  have Hr := hid (show R = eqD (revL k Sv) Pv by rw [Hv3.out, ht]; rfl)
                  have t1 : decide ((t : Int) ≤ 1024) = true := by simp at ht ⊢; omega
                  clear ht
                  have HKc := hid (fun (v : World) (h : GW w G ex ⟨A, k, c, ns, ⟨SA, k, sc, sl⟩, ⟨PA, k, pc, pl⟩⟩ v) => h.box.thr)
                  have HD := hid (fun (v : World) (h : GW w G ex ⟨A, k, c, ns, ⟨SA, k, sc, sl⟩, ⟨PA, k, pc, pl⟩⟩ v) => h.box.lt)
                  go_wp2_with fail
                  have hcur : GW w G ex ⟨A, k, c, ns, ⟨SA, k, sc, sl⟩, ⟨PA, k, pc, pl⟩⟩ w0.drew := HK.out _ _ HG.out (Below.refl _ _).drew
                  clear HG
                  go_region_law (
                    (go_simp
                     first
                     | (go_at_call 37
                        refine (HcS.out _ hcur Hris.out (by omega)).mono ?_
                        rintro e wn ⟨rfl, rfl⟩)
                     | (go_at_call 40
                        refine (HrS.out _ hcur Hris.out (by omega)).mono ?_
                        rintro e wn ⟨y, rfl, hyv, hyok, hbk⟩
                        have hcur := HK.out _ _ hcur hbk
                        obtain ⟨c0, c1, c2⟩ := HKc.out _ hcur
                        have hGl := HD.out _ hcur
                        have hyok := hyok [] (by simp)
                        have Hyv := hid hyv
                        have Hyok := hid hyok
                        clear hbk hyv hyok)
                     | (go_at_call 39
                        refine (HeP.out _ hcur _ Hyok.out).mono ?_
                        rw [Hyv.out]
                        rintro e wn ⟨rfl, q, rfl⟩)))
                  all_goals
                    go_wp2_with fail
                    go_ret
                    exact retVb_b Hr.out (below_drewN hcur.bel _)
        · as_aux_lemma =>
            have Hr := hid (show R = false by rw [Hv.out, decide_eq_false (p := Pv.length = n) (by rw [HvP.out]; exact h4)]; simp)
            have t1 : ((pn : Int) == (n : Int)) = false := by simp; omega
            have t2 : ((pn : Int) != (n : Int)) = true := by simp; omega
            subst h3
            clear h4
            go_wp2_with fail
            go_ret
            exact retVb_b Hr.out HG.out.bel
      · as_aux_lemma =>
          have Hr := hid (show R = false by rw [Hv.out, decide_eq_false (p := Sv.length = n) (by rw [HvS.out]; exact h3)]; simp)
          have t1 : ((sn : Int) == (n : Int)) = false := by simp; omega
          have t2 : ((sn : Int) != (n : Int)) = true := by simp; omega
          clear h3
          go_wp2_with fail
          go_ret
          exact retVb_b Hr.out HG.out.bel
    · as_aux_lemma =>
        have Hr := hid (show R = false by rw [Hv.out, decide_eq_false h2]; simp)
        go_wp2_with fail
        go_ret
        exact retVb_b Hr.out HG.out.bel
  · as_aux_lemma =>
      have Hr := hid (show R = false by rw [Hv.out, decide_eq_false h1]; simp)
      go_wp2_with fail
      go_ret
      exact retVb_b Hr.out HG.out.bel
end Go.Proofs.YtfapgnbnfhpicaaGreatDoor

namespace Go.Proofs.YtfapgnbnfhpicaaGreatDoor
set_option maxRecDepth 20000
set_option linter.unusedVariables false
set_option linter.unusedSimpArgs false
open Go.ChangeShapes Go.WideShapes Go.ChangeAt Go.RowKit

theorem info50 : (Tryz.prog.info? 75).map (fun i => (i.zero, i.size, i.bytes)) = some (some (.agg #[.int .i64 0, .int .i64 0, .int .i64 0, .int .i64 0]), 4, 32) := by kernel_rfl
/-- A copy came back, a row of its own. -/
def RetOw (w : World) (ty : TypeId) (k n : Nat) (xs : List Value) (e : Ending) (w' : World) : Prop :=
  ∃ (A : Option Addr) (c : Nat), e = .returned (.slice A n c) ∧ w'.ownsRow w.heap.size ty k (.slice A n c) n xs ∧ Below w.heap.size w w'
theorem one_ints (l : List Int) : ∀ u ∈ ints l, u.oneCell' = true := by
  intro u hu
  unfold ints at hu
  obtain ⟨x, _, rfl⟩ := List.mem_map.1 hu
  rfl
set_option maxHeartbeats 1600000 in
theorem clone_int (A : Option Addr) (n c : Nat) (l : List Int) (ex : List (Option Nat)) (w : World) (hA : EAt w ex A (ints l)) (hl : l.length = n) (hf : n ≤ 1000000) : Calls Tryz.prog 63 #[.slice A n c] w (RetOw w 3 1 n (ints l)) := by
  obtain ⟨i0, hi, hz0, hz1, hz2⟩ := info_parts info3
  have Hi := hid hi; have Hz0 := hid hz0; have Hz1 := hid hz1; have Hz2 := hid hz2
  clear hi hz0 hz1 hz2
  have HL := hid hl
  have HA := hid hA
  clear hA
  by_cases h0 : n = 0
  · subst h0
    have Hl := hid (show l = [] from List.length_eq_zero_iff.1 HL.out)
    clear hl
    rcases A with _ | a0
    · have hnil : ∀ w : World, (binOp .eql 22 (.slice none 0 c) (.slice none 0 0)).run Tryz.prog w = .ok (.bool true) w := fun w => Lib.run_eql_slice_nil w 22 3 none 0 c 0 0 Tryz.underlying22
      go_enter Tryz.func63, Tryz.ntmps63
      go_wp2_with fail
      go_ret
      rw [Hl.out]
      exact ⟨none, 0, rfl, World.ownsRow_nil _ _ _ _, Below.refl _ _⟩
    · have HB := hid ((Below.refl w.heap.size w).alloc (Nat.le_refl _) (.cells #[] 3))
      have HO := hid (World.ownsRow_lit (base := w.heap.size) (e := 3) (size := 1) w #[] 0 (Nat.le_refl _) (by unfold maxLen; omega) rfl)
      have hnil : ∀ w : World, (binOp .eql 22 (.slice (some a0) 0 c) (.slice none 0 0)).run Tryz.prog w = .ok (.bool false) w := fun w => Lib.run_eql_slice_nil w 22 3 (some a0) 0 c 0 0 Tryz.underlying22
      go_enter Tryz.func63, Tryz.ntmps63
      go_wp2_with fail
      go_ret
      rw [Hl.out]
      exact ⟨_, _, rfl, HO.out, HB.out⟩
  · obtain ⟨ad, rfl, had, hc⟩ : ∃ ad, A = some ad ∧ Safe w ex ad.block ∧ ∀ j u, (ints l)[j]? = some u → w.cell? (ad.add j) = some u := by
      rcases HA.out with h | h
      · have := congrArg List.length h; simp [ints] at this; subst this; simp at hl; omega
      · exact h
    have hb2 := (Below.refl w.heap.size w).alloc (Nat.le_refl _) (.cells #[] 3)
    have HB2 := hid hb2
    have Hc := hid (fun j u (h : (ints l)[j]? = some u) => (show (w.alloc (.cells #[] 3)).cell? (ad.add j) = some u from (World.cell?_of_block (by rw [add_block]; exact hb2.block _ had.1)).trans (hc j u h)))
    have HO := hid (World.ownsRow_lit (base := w.heap.size) (e := 3) (size := 1) w #[] 0 (Nat.le_refl _) (by unfold maxLen; omega) rfl)
    have Hul := hid (show (ints l).length = n * 1 by unfold ints; rw [List.length_map, HL.out]; omega)
    have hpos : 0 < n := by omega
    clear hc hl hb2 h0
    have hnil : ∀ w : World, (binOp .eql 22 (.slice (some ad) n c) (.slice none 0 0)).run Tryz.prog w = .ok (.bool false) w := fun w => Lib.run_eql_slice_nil w 22 3 (some ad) n c 0 0 Tryz.underlying22
    go_enter Tryz.func63, Tryz.ntmps63
    go_wp2_with ((
      at_builtin
      go_must (refine wpList_append_lies _ rfl _ _ 22 rfl w.heap.size 3 i0 _ 1 8 Tryz.underlying22 Hi.out Hz0.out Hz1.out Hz2.out rfl (by decide) _ 0 [] rfl HO.out ad n c (ints l) rfl Hul.out Hc.out (one_ints l) hpos (by unfold maxLen; omega) (by omega) (by rw [World.size_alloc]; omega) _ rfl ?_)
      intro g5 cap5 w5 hown5 hgr5 hat5 hlt5))
    have HB5 := hid (HB2.out.grown hgr5 HB2.out.size (fun k hk => (HO.out.lt k hk).1))
    have Hown := hid hown5
    clear hown5 hgr5 hat5 hlt5
    go_wp2_with fail
    go_ret
    exact ⟨some ⟨g5, 0, none⟩, cap5, by simp, by have := Hown.out; rw [List.nil_append, Nat.zero_add] at this; exact this, HB5.out⟩
set_option maxHeartbeats 1600000 in
theorem clone_nodes (A : Option Addr) (n c : Nat) (l : List Nd) (ex : List (Option Nat)) (w : World) (hA : EAt w ex A (l.flatMap ndc)) (hl : l.length = n) (hf : n ≤ 1000000) : Calls Tryz.prog 29 #[.slice A n c] w (RetOw w 75 4 n (l.flatMap ndc)) := by
  obtain ⟨i0, hi, hz0, hz1, hz2⟩ := info_parts info50
  have Hi := hid hi; have Hz0 := hid hz0; have Hz1 := hid hz1; have Hz2 := hid hz2
  clear hi hz0 hz1 hz2
  have HL := hid hl
  have HA := hid hA
  clear hA
  by_cases h0 : n = 0
  · subst h0
    have Hl := hid (show l = [] from List.length_eq_zero_iff.1 HL.out)
    clear hl
    rcases A with _ | a0
    · have hnil : ∀ w : World, (binOp .eql 25 (.slice none 0 c) (.slice none 0 0)).run Tryz.prog w = .ok (.bool true) w := fun w => Lib.run_eql_slice_nil w 25 75 none 0 c 0 0 Tryz.underlying25
      go_enter Tryz.func29, Tryz.ntmps29
      go_wp2_with fail
      go_ret
      rw [Hl.out]
      exact ⟨none, 0, rfl, World.ownsRow_nil _ _ _ _, Below.refl _ _⟩
    · have HB := hid ((Below.refl w.heap.size w).alloc (Nat.le_refl _) (.cells #[] 75))
      have HO := hid (World.ownsRow_lit (base := w.heap.size) (e := 75) (size := 4) w #[] 0 (Nat.le_refl _) (by unfold maxLen; omega) rfl)
      have hnil : ∀ w : World, (binOp .eql 25 (.slice (some a0) 0 c) (.slice none 0 0)).run Tryz.prog w = .ok (.bool false) w := fun w => Lib.run_eql_slice_nil w 25 75 (some a0) 0 c 0 0 Tryz.underlying25
      go_enter Tryz.func29, Tryz.ntmps29
      go_wp2_with fail
      go_ret
      rw [Hl.out]
      exact ⟨_, _, rfl, HO.out, HB.out⟩
  · obtain ⟨ad, rfl, had, hc⟩ : ∃ ad, A = some ad ∧ Safe w ex ad.block ∧ ∀ j u, (l.flatMap ndc)[j]? = some u → w.cell? (ad.add j) = some u := by
      rcases HA.out with h | h
      · have := congrArg List.length h; rw [flat_len ndc_len] at this; simp only [List.length_nil] at this; omega
      · exact h
    have hb2 := (Below.refl w.heap.size w).alloc (Nat.le_refl _) (.cells #[] 75)
    have HB2 := hid hb2
    have Hc := hid (fun j u (h : (l.flatMap ndc)[j]? = some u) => (show (w.alloc (.cells #[] 75)).cell? (ad.add j) = some u from (World.cell?_of_block (by rw [add_block]; exact hb2.block _ had.1)).trans (hc j u h)))
    have HO := hid (World.ownsRow_lit (base := w.heap.size) (e := 75) (size := 4) w #[] 0 (Nat.le_refl _) (by unfold maxLen; omega) rfl)
    have Hul := hid (show (l.flatMap ndc).length = n * 4 by rw [flat_len ndc_len, HL.out])
    have Hone := hid (show ∀ u ∈ l.flatMap ndc, u.oneCell' = true from fun u hu => by obtain ⟨x, _, hx⟩ := List.mem_flatMap.1 hu; exact one_ndc x u hx)
    have hpos : 0 < n := by omega
    clear hc hl hb2 h0
    have hnil : ∀ w : World, (binOp .eql 25 (.slice (some ad) n c) (.slice none 0 0)).run Tryz.prog w = .ok (.bool false) w := fun w => Lib.run_eql_slice_nil w 25 75 (some ad) n c 0 0 Tryz.underlying25
    go_enter Tryz.func29, Tryz.ntmps29
    go_wp2_with ((
      at_builtin
      go_must (refine wpList_append_lies _ rfl _ _ 25 rfl w.heap.size 75 i0 _ 4 32 Tryz.underlying25 Hi.out Hz0.out Hz1.out Hz2.out rfl (by decide) _ 0 [] rfl HO.out ad n c (l.flatMap ndc) rfl Hul.out Hc.out Hone.out hpos (by unfold maxLen; omega) (by omega) (by rw [World.size_alloc]; omega) _ rfl ?_)
      intro g5 cap5 w5 hown5 hgr5 hat5 hlt5))
    have HB5 := hid (HB2.out.grown hgr5 HB2.out.size (fun k hk => (HO.out.lt k hk).1))
    have Hown := hid hown5
    clear hown5 hgr5 hat5 hlt5
    go_wp2_with fail
    go_ret
    exact ⟨some ⟨g5, 0, none⟩, cap5, by simp, by have := Hown.out; rw [List.nil_append, Nat.zero_add] at this; exact this, HB5.out⟩
theorem own_mono1 {w : World} {b b2 : Nat} {ty : TypeId} {k : Nat} {v : Value} {n : Nat} {xs : List Value} (h : w.ownsRow b ty k v n xs) (hb : b2 ≤ b) : w.ownsRow b2 ty k v n xs := by
  obtain ⟨h1, h2⟩ := h
  refine ⟨h1, ?_⟩
  rcases h2 with h | ⟨g, cap, cur, e, hg, r⟩
  · exact .inl h
  · exact .inr ⟨g, cap, cur, e, by omega, r⟩
/-- What copied has copied. -/
def cpF (v : List (List Int)) (k : Nat) (b : Nat) : List Int := if b < k then rw0 v b else []
theorem cpF_zero (v : List (List Int)) (b : Nat) : cpF v 0 b = [] := by unfold cpF; rw [if_neg (by omega)]
theorem cpF_step {v : List (List Int)} {k : Nat} {l : List Int} (h : v[k]? = some l) (b : Nat) : upd (cpF v k) k l b = cpF v (k + 1) b := by
  by_cases e : b = k
  · subst e
    rw [upd_at]
    unfold cpF
    rw [if_pos (by omega), rw0_at h]
  · rw [upd_ne _ _ e]
    unfold cpF
    by_cases e2 : b < k
    · rw [if_pos e2, if_pos (by omega)]
    · rw [if_neg e2, if_neg (by omega)]
theorem cpF_all {v : List (List Int)} {n : Nat} (h : v.length = n) : rowsF n (cpF v n) = v := by
  conv => rhs; rw [list_range h]
  unfold rowsF
  refine List.map_congr_left fun b hb => ?_
  unfold cpF
  rw [if_pos (List.mem_range.1 hb)]
set_option maxHeartbeats 3200000 in
theorem copied_any (x : LH) (ex : List (Option Nat)) (w : World) (h : LHok w ex x) (hn : x.n ≤ 100000) (hr : ∀ y ∈ x.l, y.n ≤ 1000000) :
    Calls Tryz.prog 30 #[.slice x.A x.n x.c] w (RetLL w x.v) := by
  have HX := hid h
  have HR := hid hr
  have HL := hid h.len
  have HV := hid ((LH.vlen x).trans h.len)
  have Hat := hid (fun (k : Nat) (z : RH) (hz : x.l[k]? = some z) => LH.at hz)
  clear h hr
  generalize hv : x.v = v at *
  clear hv
  obtain ⟨A, n, c, l⟩ := x
  simp only at *
  have hrow := run_mkrows n hn
  go_enter Tryz.func30, Tryz.ntmps30
  go_wp2_with fail
  have HM := hid (show Mx (w.alloc (.cells (Array.replicate n (Value.slice none 0 0)) 22)) w.heap.size n (cpF v 0) from (Mx.start w n).congr (fun i _ => (cpF_zero v i).symm))
  have HB := hid ((Below.refl w.heap.size w).alloc (Nat.le_refl _) (.cells (Array.replicate n (Value.slice none 0 0)) 22))
  generalize w.alloc (.cells (Array.replicate n (Value.slice none 0 0)) 22) = w0 at HM HB ⊢
  clear hrow
  generalize hMd : w.heap.size = M at *
  go_loopw [4, 5, 11] (fun _ _ iv wr => ∃ k : Nat, k ≤ n ∧ iv = .int .i64 k ∧ Hid (Mx wr M n (cpF v k)) ∧ Hid (Below M w wr)) (fun _ _ iv _ => n - (intOf iv).toNat)
  case atStart => exact ⟨0, by omega, rfl, HM, HB⟩
  case round =>
    clear HM HB
    obtain ⟨k, hk, rfl, hM, hB⟩ := hrel
    by_cases hlt : k < n
    · obtain ⟨y, hy, hym⟩ := get_at HL.out hlt
      have HPr := hid (HX.out.go (Go2.below (hMd ▸ hB.out)))
      obtain ⟨ad, hA, had, hc⟩ := HPr.out.cell hy
      simp only at hA
      subst hA
      have HY := hid (HPr.out.all y hym)
      have hyn := HR.out y hym
      have Hst := hid (fun b : Nat => cpF_step (Hat.out k y hy) b)
      have HC := hid (clone_int y.A y.n y.c y.l ex wr HY.out.lies HY.out.len hyn)
      have Hyl := hid HY.out.len
      obtain ⟨rv, hown, hcell, hfr, -, hkeep, hput⟩ := hM.out.at hlt
      have HK := hid hkeep
      have HP := hid hput
      have hszM : M + 1 ≤ wr.heap.size := hM.out.lt
      clear hy hym HPr hown hcell hfr hkeep hput hM HY
      obtain ⟨yA, yn, yc, yl⟩ := y
      simp only at *
      go_wp2_with fail
      refine HC.out.mono ?_
      rintro e wc ⟨B, bc, rfl, ho, hb⟩
      obtain ⟨y0, y1⟩ := HK.out _ (grown_of_below hb _)
      have HF := hid (HP.out wc (.slice B yn bc) yl (grown_of_below hb _) (by rw [Hyl.out]; exact own_mono1 ho hszM) (fun g hg => .inr (ho.lt g hg).1))
      have HB2 := hid ((hB.out.trans (hb.mono (by omega))).setCell (p := ⟨M, k, none⟩) (Nat.le_refl _) (.slice B yn bc))
      clear ho hb HC HK HP hB
      go_wp2_with fail
      go_roundw
      case rel => exact ⟨k + 1, by omega, by go_num, hid (HF.out.congr (fun b _ => Hst.out b)), HB2⟩
      case measure => simp [intOf]; omega
    · obtain rfl : k = n := by omega
      obtain ⟨y, hy1, hy2, hy3, hy4, hy5⟩ := hM.out.lists (by omega)
      have HF := hid (show RetLL w v (.returned (.slice (some ⟨M, 0, none⟩) k k)) wr from ⟨y, by rw [hy1, hy2, hy3], by rw [hy4, cpF_all HV.out], fun ex hex => hy5 ex (fun q hq => by have := hex q hq; omega), by rw [hMd]; exact hB.out⟩)
      clear hy1 hy2 hy3 hy4 hy5 hM hB
      go_wp2_with fail
      go_ret
      exact HF.out
/-- The number of edges. -/
def edgN (N : Nat) (S P : List (List Int)) : Nat := if validB N S P then tot S else 0
theorem rows_small {x : LH} {w : World} {ex : List (Option Nat)} (h : LHok w ex x) {N : Nat} (hr : ∀ l ∈ x.v, RisP N l) : ∀ y ∈ x.l, y.n ≤ N := by
  intro y hy
  rw [← (h.all y hy).len]
  exact ris_len (hr y.l (by obtain ⟨j, hj, rfl⟩ := List.mem_iff_getElem.1 hy; exact List.mem_of_getElem? (LH.at (List.getElem?_eq_getElem hj))))
set_option maxHeartbeats 1600000 in
theorem edges_any (x : GH) (ex : List (Option Nat)) (w : World) (h : GHok w ex x) :
    Calls Tryz.prog 16 #[x.a] w (RetVb w (.int .i64 (edgN x.n x.S.v x.P.v : Nat))) := by
  have HG := hid (GW.start h)
  have HK := hid (fun (v u : World) (h : GW w w.heap.size ex x v) (hb : Below v.heap.size v u) => h.below hb)
  have HV := hid (fun (v : World) (h : GW w w.heap.size ex x v) => valid_graph x ex v h.g)
  have HC := hid (fun (v : World) (hv : GW w w.heap.size ex x v) (h2 : ValG x.n x.S.v x.P.v) => count_any x.S x.S.n ex v hv.g.s (by have := h2.slen; have := h2.few; have := LH.vlen x.S; have := h.s.len; omega) (fun y hy => by have := rows_small h.s h2.ris y hy; have := h2.few; omega))
  have Hb := hid (fun (v : World) (h : GW w w.heap.size ex x v) => h.box.thr)
  have Hbl := hid (fun (v : World) (h : GW w w.heap.size ex x v) => h.box.lt)
  have Hbb := hid (fun (v : World) (h : GW w w.heap.size ex x v) => h.bel)
  unfold GH.a at *
  clear h
  generalize hsv : x.S.v = Sv at *
  generalize hpv : x.P.v = Pv at *
  clear hsv hpv
  obtain ⟨A, n, c, ns, ⟨SA, sn, sc, sl⟩, ⟨PA, pn, pc, pl⟩⟩ := x
  simp only at *
  cases hv : validB n Sv Pv with
  | false =>
    have Hr := hid (show ((edgN n Sv Pv : Nat) : Int) = 0 by unfold edgN; rw [hv]; rfl)
    rw [hv] at HV
    go_enter Tryz.func16, Tryz.ntmps16
    obtain ⟨c0, c1, c2⟩ := Hb.out _ HG.out
    have hGl := Hbl.out _ HG.out
    go_wp2_with fail
    refine (HV.out _ HG.out).mono ?_
    rintro e w1 ⟨rfl, hb1⟩
    have HF := hid (Hbb.out _ (HK.out _ _ HG.out hb1))
    clear HG c0 c1 c2 hGl
    go_wp2_with fail
    go_ret
    exact retVb_i Hr.out HF.out
  | true =>
    have Hr := hid (show ((edgN n Sv Pv : Nat) : Int) = (tot Sv : Nat) by unfold edgN; rw [hv]; rfl)
    have Hval := hid (validB_iff.1 hv)
    rw [hv] at HV
    go_enter Tryz.func16, Tryz.ntmps16
    obtain ⟨c0, c1, c2⟩ := Hb.out _ HG.out
    have hGl := Hbl.out _ HG.out
    go_wp2_with fail
    refine (HV.out _ HG.out).mono ?_
    rintro e w1 ⟨rfl, hb1⟩
    have HG1 := hid (HK.out _ _ HG.out hb1)
    clear HG c0 c1 c2 hGl
    obtain ⟨c0, c1, c2⟩ := Hb.out _ HG1.out
    have hGl := Hbl.out _ HG1.out
    go_wp2_with fail
    refine (HC.out _ HG1.out Hval.out).mono ?_
    rintro e w2 ⟨rfl, rfl⟩
    go_wp2_with fail
    go_ret
    exact retVb_i Hr.out (Hbb.out _ HG1.out)
end Go.Proofs.YtfapgnbnfhpicaaGreatDoor

namespace Go.Proofs.YtfapgnbnfhpicaaGreatDoor
set_option maxRecDepth 20000
set_option linter.unusedVariables false
set_option linter.unusedSimpArgs false
open Go.ChangeShapes Go.WideShapes Go.ChangeAt Go.RowKit

/-- A graph and an error came back. -/
def RetGr (w : World) (ns : List Nd) (S P : List (List Int)) (er : Int) (e : Ending) (w' : World) : Prop :=
  ∃ y : GH, e = .returned (.tuple #[y.a, .int .i64 er]) ∧ y.ns = ns ∧ y.S.v = S ∧ y.P.v = P ∧ (∀ ex : List (Option Nat), (∀ k, some k ∈ ex → k < w.heap.size) → GHok w' ex y) ∧ Below w.heap.size w w'
def lh0 : LH := ⟨none, 0, 0, []⟩
def gh0 : GH := ⟨none, 0, 0, [], lh0, lh0⟩
theorem lh0_ok (w : World) (ex : List (Option Nat)) : LHok w ex lh0 := ⟨EAt.nil _ _ _, rfl, by show 0 ≤ _; omega, fun y hy => by simp [lh0] at hy⟩
theorem gh0_ok (w : World) (ex : List (Option Nat)) : GHok w ex gh0 := ⟨EAt.nil _ _ _, rfl, by show 0 ≤ _; omega, lh0_ok w ex, lh0_ok w ex⟩
theorem RetGr.none {w w' : World} (er : Int) (hb : Below w.heap.size w w') : RetGr w [] [] [] er (.returned (.tuple #[.agg #[.slice none 0 0, .slice none 0 0, .slice none 0 0], .int .i64 er])) w' :=
  ⟨gh0, rfl, rfl, rfl, rfl, fun ex _ => gh0_ok w' ex, hb⟩
theorem Fb.thrz {w : World} {g t : Nat} {a b c : Value} (h : Fb w g #[a, b, c] t) : w.frozen? ⟨g, 0, none⟩ = false ∧ w.frozen? ⟨g, 1, none⟩ = false ∧ w.frozen? ⟨g, 2, none⟩ = false := ⟨h.frozen 0, h.frozen 1, h.frozen 2⟩
/-- The result's cell beside the argument's. -/
structure GR (w : World) (G : Nat) (ex : List (Option Nat)) (x : GH) (v : World) : Prop where
  gw : GW w G ex x v
  res : Fb v (G + 1) #[.slice none 0 0, .slice none 0 0, .slice none 0 0] 28
  gle : G = w.heap.size
theorem GR.below {w v v' : World} {G : Nat} {ex : List (Option Nat)} {x : GH} (h : GR w G ex x v) (hb : Below v.heap.size v v') : GR w G ex x v' :=
  ⟨h.gw.below hb, h.res.below hb h.res.lt, h.gle⟩
theorem GR.start {w : World} {ex : List (Option Nat)} {x : GH} (h : GHok w ex x) : GR w w.heap.size ex x ((w.alloc (.cells #[.slice x.A x.n x.c, .slice x.S.A x.S.n x.S.c, .slice x.P.A x.P.n x.P.c] 28)).alloc (.cells #[.slice none 0 0, .slice none 0 0, .slice none 0 0] 28)) :=
  ⟨(GW.start h).below ((Below.refl _ _).alloc (Nat.le_refl _) _), by have := Fb.new (w.alloc (.cells #[.slice x.A x.n x.c, .slice x.S.A x.S.n x.S.c, .slice x.P.A x.P.n x.P.c] 28)) #[.slice none 0 0, .slice none 0 0, .slice none 0 0] 28; rwa [World.size_alloc] at this, rfl⟩
/-- What the result's cell holds last. -/
theorem GR.done {w v : World} {G : Nat} {ex : List (Option Nat)} {x : GH} (h : GR w G ex x v) (a b c : Value) {y : GH} (hy : ∀ ex : List (Option Nat), (∀ k, some k ∈ ex → k < w.heap.size + 2) → GHok v ex y) :
    (∀ ex : List (Option Nat), (∀ k, some k ∈ ex → k < w.heap.size) → GHok (((v.setCell ⟨G + 1, 0, none⟩ a).setCell ⟨G + 1, 1, none⟩ b).setCell ⟨G + 1, 2, none⟩ c) ex y) ∧ Below w.heap.size w (((v.setCell ⟨G + 1, 0, none⟩ a).setCell ⟨G + 1, 1, none⟩ b).setCell ⟨G + 1, 2, none⟩ c) := by
  have hg := h.gle
  refine ⟨fun ex hex => ?_, ((h.gw.bel.setCell (by simp; omega) _).setCell (by simp; omega) _).setCell (by simp; omega) _⟩
  have h1 := hy (some (G + 1) :: ex) (fun k hk => by
    rcases List.mem_cons.1 hk with e | e
    · injection e with e; omega
    · have := hex k e; omega)
  have hs : ∀ (u : World) (o : Nat) (z : Value), Go2 u (some (G + 1) :: ex) (u.setCell ⟨G + 1, o, none⟩ z) (some (G + 1) :: ex) := fun u o z => Go2.same (row := some (G + 1)) (setCell_grown u ⟨G + 1, o, none⟩ z) (.inr (by simp))
  exact (((h1.go (hs _ 0 a)).go (hs _ 1 b)).go (hs _ 2 c)).go (Go2.less _ (fun k hk => by simp [hk]))
theorem LHok.far {w : World} {ex : List (Option Nat)} {y : LH} {N : Nat} (h : ∀ ex : List (Option Nat), (∀ k, some k ∈ ex → k < N) → LHok w ex y) {M : Nat} (hM : M ≤ N) : ∀ ex : List (Option Nat), (∀ k, some k ∈ ex → k < M) → LHok w ex y :=
  fun ex hex => h ex (fun k hk => Nat.lt_of_lt_of_le (hex k hk) hM)
set_option maxHeartbeats 6400000 in
theorem reverse_yes (x : GH) (ex : List (Option Nat)) (w : World) (h : GHok w ex x) (hval : ValG x.n x.S.v x.P.v) :
    Calls Tryz.prog 9 #[x.a] w (RetGr w x.ns x.P.v x.S.v 0) := by
  have HG := hid (GR.start h)
  have HK := hid (fun (v u : World) (h : GR w w.heap.size ex x v) (hb : Below v.heap.size v u) => h.below hb)
  have HV := hid (fun (v : World) (h : GR w w.heap.size ex x v) => valid_graph x ex v h.gw.g)
  rw [validB_iff.2 hval] at HV
  have hsz : x.n ≤ 256 := hval.few
  have HCS := hid (fun (v : World) (hv : GR w w.heap.size ex x v) => copied_any x.S ex v hv.gw.g.s (by have := hval.slen; have := LH.vlen x.S; have := hv.gw.g.s.len; omega) (fun y hy => by have := rows_small hv.gw.g.s hval.ris y hy; omega))
  have HCP := hid (fun (v : World) (hv : GR w w.heap.size ex x v) => copied_any x.P ex v hv.gw.g.p (by have := hval.plen; have := LH.vlen x.P; have := hv.gw.g.p.len; omega) (fun y hy => by have := rows_small hv.gw.g.p hval.pris y hy; omega))
  have HCN := hid (fun (v : World) (hv : GR w w.heap.size ex x v) => clone_nodes x.A x.n x.c x.ns ex v hv.gw.g.lies hv.gw.g.len (by omega))
  have Hnl := hid h.len
  have Hb := hid (fun (v : World) (h : GR w w.heap.size ex x v) => h.gw.box.thr)
  have Hbl := hid (fun (v : World) (h : GR w w.heap.size ex x v) => h.gw.box.lt)
  have Hr := hid (fun (v : World) (h : GR w w.heap.size ex x v) => h.res.thr)
  have Hrz := hid (fun (v : World) (h : GR w w.heap.size ex x v) => h.res.thrz)
  have Hrl := hid (fun (v : World) (h : GR w w.heap.size ex x v) => h.res.lt)
  have Hsz := hid (fun (v : World) (h : GR w w.heap.size ex x v) => show w.heap.size + 2 ≤ v.heap.size from h.res.lt)
  unfold GH.a at *
  clear h hval
  have hS : ∃ Sv, x.S.v = Sv := ⟨_, rfl⟩
  obtain ⟨Sv, hS⟩ := hS
  have hP : ∃ Pv, x.P.v = Pv := ⟨_, rfl⟩
  obtain ⟨Pv, hP⟩ := hP
  rw [hS] at HCS ⊢
  rw [hP] at HCP ⊢
  clear hS hP
  have hG : ∃ G, w.heap.size = G := ⟨_, rfl⟩
  obtain ⟨G, hG⟩ := hG
  have HGe := hid hG
  rw [hG] at HG HK HV HCS HCP HCN Hb Hbl Hr Hrz Hrl Hsz
  clear hG
  have HD := hid (fun (v : World) (a b c : Value) (h : GR w G ex x v) (y : GH) hy => h.done a b c (y := y) hy)
  obtain ⟨A, n, c, ns, ⟨SA, sn, sc, sl⟩, ⟨PA, pn, pc, pl⟩⟩ := x
  simp only at *
  go_enter Tryz.func9, Tryz.ntmps9
  obtain ⟨c0, c1, c2⟩ := Hb.out _ HG.out
  have hGl := Hbl.out _ HG.out
  rw [← HGe.out] at c0 c1 c2 hGl
  go_wp2_with fail
  refine (HV.out _ HG.out).mono ?_
  rintro e w1 ⟨rfl, hb1⟩
  have HG1 := hid (HK.out _ _ HG.out hb1)
  clear HG c0 c1 c2 hGl hb1
  rw [HGe.out]
  go_wp2_with fail
  have hcur := HK.out _ _ HG1.out (Below.refl _ _).drew
  obtain ⟨c0, c1, c2⟩ := Hb.out _ hcur
  have hGl := Hbl.out _ hcur
  obtain ⟨r0, r1, r2⟩ := Hr.out _ hcur
  obtain ⟨z0, z1, z2⟩ := Hrz.out _ hcur
  have hRl := Hrl.out _ hcur
  clear HG1
  go_region_law (
    (go_simp
     first
     | (go_at_call 29
        refine (HCN.out _ hcur).mono ?_
        rintro e wn ⟨B1, k1, rfl, ho1, hbk⟩
        have H1 := hid (own_mono1 ho1 (Hsz.out _ hcur))
        have hcur := HK.out _ _ hcur hbk
        obtain ⟨c0, c1, c2⟩ := Hb.out _ hcur
        have hGl := Hbl.out _ hcur
        obtain ⟨r0, r1, r2⟩ := Hr.out _ hcur
        obtain ⟨z0, z1, z2⟩ := Hrz.out _ hcur
        have hRl := Hrl.out _ hcur
        clear ho1 hbk)
     | (go_at_call_of 30 PA
        refine (HCP.out _ hcur).mono ?_
        rintro e wn ⟨y2, rfl, hv2, hok2, hbk⟩
        have H2v := hid hv2
        have hs2 := Hsz.out _ hcur
        have H2 : Hid (∀ ex : List (Option Nat), (∀ k, some k ∈ ex → k < G + 2) → LHok wn ex y2) := hid (fun ex hex => hok2 ex (fun k hk => Nat.lt_of_lt_of_le (hex k hk) hs2))
        clear hs2
        have H1 := hid (own_below H1.out hbk)
        have hcur := HK.out _ _ hcur hbk
        obtain ⟨c0, c1, c2⟩ := Hb.out _ hcur
        have hGl := Hbl.out _ hcur
        obtain ⟨r0, r1, r2⟩ := Hr.out _ hcur
        obtain ⟨z0, z1, z2⟩ := Hrz.out _ hcur
        have hRl := Hrl.out _ hcur
        clear hv2 hok2 hbk)
     | (go_at_call_of 30 SA
        refine (HCS.out _ hcur).mono ?_
        rintro e wn ⟨y3, rfl, hv3, hok3, hbk⟩
        have H3v := hid hv3
        have hs2 := Hsz.out _ hcur
        have H3 : Hid (∀ ex : List (Option Nat), (∀ k, some k ∈ ex → k < G + 2) → LHok wn ex y3) := hid (fun ex hex => hok3 ex (fun k hk => Nat.lt_of_lt_of_le (hex k hk) hs2))
        clear hs2
        have H1 := hid (own_below H1.out hbk)
        have H2 : Hid (∀ ex : List (Option Nat), (∀ k, some k ∈ ex → k < G + 2) → LHok wn ex y2) := hid (fun ex hex => (H2.out ex hex).below hbk)
        have hcur := HK.out _ _ hcur hbk
        obtain ⟨c0, c1, c2⟩ := Hb.out _ hcur
        have hGl := Hbl.out _ hcur
        obtain ⟨r0, r1, r2⟩ := Hr.out _ hcur
        obtain ⟨z0, z1, z2⟩ := Hrz.out _ hcur
        have hRl := Hrl.out _ hcur
        clear hv3 hok3 hbk)))
  all_goals
    have HF := hid (HD.out _ (.slice B1 n k1) (.slice y2.A y2.n y2.c) (.slice y3.A y3.n y3.c) hcur ⟨B1, n, k1, ns, y2, y3⟩ (fun ex hex => ⟨EAt.own H1.out (fun g hg hm => by have := hex g hm; have := (H1.out.lt g hg).1; have := HGe.out; omega), Hnl.out, by show n ≤ _; omega, H2.out ex (by rw [← HGe.out]; exact hex), H3.out ex (by rw [← HGe.out]; exact hex)⟩))
    go_wp2_with fail
    refine bodyPost_ret (v := .tuple #[.agg #[.slice B1 n k1, .slice y2.A y2.n y2.c, .slice y3.A y3.n y3.c], .int .i64 0]) (by simp [results, Tryz.results9, go_sem, r0, r1, r2, z0, z1, z2, hRl]) rfl ?_
    exact ⟨⟨B1, n, k1, ns, y2, y3⟩, rfl, rfl, H2v.out, H3v.out, HF.out.1, HF.out.2⟩
set_option maxHeartbeats 1600000 in
theorem reverse_no (x : GH) (ex : List (Option Nat)) (w : World) (h : GHok w ex x) (hval : validB x.n x.S.v x.P.v = false) :
    Calls Tryz.prog 9 #[x.a] w (RetGr w [] [] [] 1) := by
  have HG := hid (GR.start h)
  have HK := hid (fun (v u : World) (h : GR w w.heap.size ex x v) (hb : Below v.heap.size v u) => h.below hb)
  have HV := hid (fun (v : World) (h : GR w w.heap.size ex x v) => valid_graph x ex v h.gw.g)
  rw [hval] at HV
  have Hb := hid (fun (v : World) (h : GR w w.heap.size ex x v) => h.gw.box.thr)
  have Hbl := hid (fun (v : World) (h : GR w w.heap.size ex x v) => h.gw.box.lt)
  have Hr := hid (fun (v : World) (h : GR w w.heap.size ex x v) => h.res.thr)
  have Hrz := hid (fun (v : World) (h : GR w w.heap.size ex x v) => h.res.thrz)
  have Hrl := hid (fun (v : World) (h : GR w w.heap.size ex x v) => h.res.lt)
  have HD := hid (fun (v : World) (a b c : Value) (h : GR w w.heap.size ex x v) => (h.done a b c (y := gh0) (fun ex _ => gh0_ok _ ex)).2)
  unfold GH.a at *
  clear h hval
  obtain ⟨A, n, c, ns, ⟨SA, sn, sc, sl⟩, ⟨PA, pn, pc, pl⟩⟩ := x
  simp only at *
  go_enter Tryz.func9, Tryz.ntmps9
  obtain ⟨c0, c1, c2⟩ := Hb.out _ HG.out
  have hGl := Hbl.out _ HG.out
  go_wp2_with fail
  refine (HV.out _ HG.out).mono ?_
  rintro e w1 ⟨rfl, hb1⟩
  have HG1 := hid (HK.out _ _ HG.out hb1)
  clear HG c0 c1 c2 hGl hb1
  obtain ⟨r0, r1, r2⟩ := Hr.out _ HG1.out
  obtain ⟨z0, z1, z2⟩ := Hrz.out _ HG1.out
  have hRl := Hrl.out _ HG1.out
  have HF := hid (HD.out _ (.slice none 0 0) (.slice none 0 0) (.slice none 0 0) HG1.out)
  clear HG1
  go_wp2_with fail
  refine bodyPost_ret (v := .tuple #[.agg #[.slice none 0 0, .slice none 0 0, .slice none 0 0], .int .i64 1]) (by simp [results, Tryz.results9, go_sem, r0, r1, r2, z0, z1, z2, hRl]) rfl ?_
  exact RetGr.none 1 HF.out
end Go.Proofs.YtfapgnbnfhpicaaGreatDoor

namespace Go.Proofs.YtfapgnbnfhpicaaGreatDoor
set_option maxRecDepth 20000
set_option linter.unusedVariables false
set_option linter.unusedSimpArgs false
open Go.ChangeShapes Go.WideShapes Go.ChangeAt Go.RowKit

/-- The numbers in order. -/
def srtI (l : List Int) : List Int := l.mergeSort fun x y => decide (x ≤ y)
theorem srtI_perm (l : List Int) : (srtI l).Perm l := List.mergeSort_perm _ _
theorem srtI_nil : srtI [] = [] := by unfold srtI; simp
theorem srtI_len (l : List Int) : (srtI l).length = l.length := (srtI_perm l).length_eq
theorem srtI_mem {l : List Int} {x : Int} : x ∈ srtI l ↔ x ∈ l := (srtI_perm l).mem_iff
theorem srtI_sorted (l : List Int) : (srtI l).Pairwise (· ≤ ·) := by
  have h := List.pairwise_mergeSort (le := fun x y : Int => decide (x ≤ y)) (fun a b c h1 h2 => by simp at *; omega) (fun a b => by simp; omega) l
  exact h.imp (fun h => by simpa using h)
theorem arr_get {l : List Int} {j : Nat} (h : j < l.length) : l.toArray[j]! = l[j] := by rw [getElem!_pos l.toArray j (by simpa using h)]; simp
theorem compact_mem {l : List Int} {x : Int} : x ∈ Lib.compact l ↔ x ∈ l := by
  unfold Lib.compact Lib.compactUpTo
  constructor
  · intro h
    obtain ⟨j, hj, rfl⟩ := List.mem_map.1 h
    have hj2 := List.mem_range.1 (List.mem_filter.1 hj).1
    rw [arr_get hj2]
    exact List.getElem_mem hj2
  · intro h
    obtain ⟨j, hj, he⟩ := List.mem_iff_getElem.1 h
    have key : ∀ k, ∀ hk : k < l.length, l[k] = x → ∃ i, i ≤ k ∧ ∃ hi : i < l.length, l[i] = x ∧ Lib.keeps l.toArray i = true := by
      intro k
      induction k with
      | zero => intro hk e; exact ⟨0, Nat.le_refl _, hk, e, by simp [Lib.keeps]⟩
      | succ k ih =>
        intro hk e
        by_cases e2 : l[k] = x
        · obtain ⟨i, h1, h2⟩ := ih (by omega) e2
          exact ⟨i, by omega, h2⟩
        · refine ⟨k + 1, Nat.le_refl _, hk, e, ?_⟩
          unfold Lib.keeps
          rw [decide_eq_true_eq]
          right
          rw [arr_get hk, show k + 1 - 1 = k from rfl, arr_get (by omega), e]
          exact fun h => e2 h.symm
    obtain ⟨i, _, hi, e, hk⟩ := key j hj he
    exact List.mem_map.2 ⟨i, List.mem_filter.2 ⟨List.mem_range.2 hi, hk⟩, by rw [arr_get hi, e]⟩
theorem compact_asc {l : List Int} (h : l.Pairwise (· ≤ ·)) : (Lib.compact l).Pairwise (· < ·) := by
  unfold Lib.compact Lib.compactUpTo
  rw [List.pairwise_map]
  have h1 : ((List.range l.length).filter (Lib.keeps l.toArray)).Pairwise (· < ·) := (List.pairwise_lt_range (n := l.length)).filter _
  refine (List.Pairwise.and_mem.1 h1).imp ?_
  rintro i j ⟨hi, hj, hij⟩
  have hi2 := List.mem_range.1 (List.mem_filter.1 hi).1
  have hj2 := List.mem_range.1 (List.mem_filter.1 hj).1
  have hk := (List.mem_filter.1 hj).2
  unfold Lib.keeps at hk
  rw [decide_eq_true_eq] at hk
  rcases hk with hk | hk
  · omega
  · rw [arr_get hj2, arr_get (show j - 1 < l.length by omega)] at hk
    rw [arr_get hi2, arr_get hj2]
    have ha : l[j - 1] ≤ l[j] := List.pairwise_iff_getElem.1 h (j - 1) j (by omega) hj2 (by omega)
    have hb : l[i] ≤ l[j - 1] := by
      by_cases e : i = j - 1
      · subst e; omega
      · exact List.pairwise_iff_getElem.1 h i (j - 1) hi2 (by omega) (by omega)
    omega
theorem compact_len (l : List Int) : (Lib.compact l).length ≤ l.length := by
  unfold Lib.compact Lib.compactUpTo
  rw [List.length_map]
  exact Nat.le_trans (List.length_filter_le _ _) (by simp)
/-- Sorted and compacted: the row of the numbers that occur. -/
theorem compact_row {N : Nat} {l : List Int} (h : ∀ x ∈ l, 0 ≤ x ∧ x < (N : Int)) : Lib.compact (srtI l) = rowP N fun b => decide ((b : Int) ∈ l) := by
  refine ris_row ⟨compact_asc (srtI_sorted l), fun x hx => h x (srtI_mem.1 (compact_mem.1 hx))⟩ fun k _ => ?_
  rw [compact_mem, srtI_mem, decide_eq_true_eq]
/-- The cells of a row that was written anew. -/
theorem put_own {w : World} {base g cap : Nat} {l ds : List Int} {n n2 : Nat} (h : w.ownsRow base 3 1 (.slice (some ⟨g, 0, none⟩) n cap) n (ints l)) (hn : n2 ≤ n) (hd : ds.length = n) (q : Nat) (os : Array Obj) :
    (Go.Sort.grow (Go.Sort.putRow (Value.int .i64) (Go.Sort.ahead w q) g 0 ds.toArray) os).ownsRow base 3 1 (.slice (some ⟨g, 0, none⟩) n2 cap) n2 (ints (ds.take n2)) ∧
    w.grownBy (Go.Sort.grow (Go.Sort.putRow (Value.int .i64) (Go.Sort.ahead w q) g 0 ds.toArray) os) (some g) := by
  rcases h.2 with ⟨e, _⟩ | ⟨g1, cap1, cur, e, hb, hg, hc1, hc2, hc3, _⟩
  · cases e
  · injection e with e1 _ e3
    injection e1 with e1
    injection e1 with e1
    subst e1
    subst e3
    have hlt : g < w.heap.size := (Array.getElem?_eq_some_iff.1 hg).1
    have hheap : (Go.Sort.grow (Go.Sort.putRow (Value.int .i64) (Go.Sort.ahead w q) g 0 ds.toArray) os).heap[g]? = some (.cells (Go.Sort.putCells (Value.int .i64) 0 ds.toArray cur) 3 (0, 0)) := by
      unfold Go.Sort.putRow
      rw [Go.Sort.heap_grow_old _ _ (by simp [Go.Sort.mapBlock, Go.Sort.ahead]; exact hlt)]
      simp only [Go.Sort.mapBlock, Go.Sort.ahead, Array.getElem?_modify, if_true, hg, Option.map_some, Go.Sort.onCells]
    refine ⟨⟨by unfold ints; rw [List.length_map, List.length_take]; omega, .inr ⟨g, cap, _, rfl, hb, hheap, by omega, hc2, by simp [Go.Sort.putCells]; omega, ?_⟩⟩, ?_⟩
    · apply List.ext_getElem?
      intro j
      by_cases hj : j < n2
      · rw [List.getElem?_take, if_pos (by omega), Array.getElem?_toList]
        unfold Go.Sort.putCells ints
        rw [Array.getElem?_mapIdx, Array.getElem?_eq_getElem (by omega), List.getElem?_map, List.getElem?_take, if_pos hj, List.getElem?_eq_getElem (by omega)]
        simp only [Option.map_some, Option.some.injEq]
        rw [if_pos ⟨Nat.zero_le _, by simp; omega⟩, Nat.sub_zero, arr_get (by omega)]
      · rw [List.getElem?_take, if_neg (by omega), List.getElem?_eq_none (by unfold ints; simp; omega)]
    · refine ⟨rfl, rfl, rfl, ?_, fun k hk hne => ?_⟩
      · simp [Go.Sort.grow, Go.Sort.putRow, Go.Sort.mapBlock, Go.Sort.ahead]
      · unfold Go.Sort.putRow
        rw [Go.Sort.heap_grow_old _ _ (by simp [Go.Sort.mapBlock, Go.Sort.ahead]; exact hk)]
        simp only [Go.Sort.mapBlock, Go.Sort.ahead, Array.getElem?_modify]
        rw [if_neg (by intro e; exact hne (by rw [e]))]
theorem holds_own {w : World} {base g cap n : Nat} {l : List Int} (h : w.ownsRow base 3 1 (.slice (some ⟨g, 0, none⟩) n cap) n (ints l)) (hl : l.length = n) : Go.Sort.Holds (Value.int .i64) w g 0 l.toArray ∧ g < w.heap.size ∧ n ≤ cap := by
  rcases h.2 with ⟨e, _⟩ | ⟨g1, cap1, cur, e, hb, hg, hc1, hc2, hc3, hx⟩
  · cases e
  · injection e with e1 _ e3
    injection e1 with e1
    injection e1 with e1
    subst e1
    subst e3
    refine ⟨fun j hj => ?_, (Array.getElem?_eq_some_iff.1 hg).1, hc1⟩
    have hj : j < l.length := by simpa using hj
    rw [Nat.zero_add, arr_get hj]
    refine ⟨?_, by simp [World.frozen?, hg]⟩
    have h1 : (cur.toList.take (n * 1))[j]? = some (.int .i64 l[j]) := by rw [hx]; unfold ints; rw [List.getElem?_map, List.getElem?_eq_getElem hj]; rfl
    rw [List.getElem?_take, if_pos (by omega)] at h1
    simp only [World.cell?, hg]
    simpa using h1
theorem grow_zero (w : World) : Go.Sort.grow w #[] = w := Go.Sort.grow_empty w
theorem sort_own {w : World} {base n c : Nat} {A : Option Addr} {l : List Int} (h : w.ownsRow base 3 1 (.slice A n c) n (ints l)) (hl : l.length = n) (hn : n ≤ 10000000) :
    Calls Tryz.prog 33 #[.slice A n c] w fun e w' => e = .returned (.tuple #[]) ∧ w'.ownsRow base 3 1 (.slice A n c) n (ints (srtI l)) ∧ w.grownBy w' (Value.slice A n c).ownBlock := by
  subst hl
  rcases h.2 with ⟨e, h0⟩ | ⟨g, cap, cur, e, hb, hg, hc1, hc2, hc3, _⟩
  · injection e with e1 e2 e3
    subst e1
    subst e3
    have hl0 : l = [] := List.length_eq_zero_iff.1 h0
    subst hl0
    refine (Tryz.slices_Sort_int_none none 0 w).mono ?_
    rintro e w' ⟨rfl, rfl⟩
    rw [srtI_nil]
    exact ⟨rfl, World.ownsRow_nil _ _ _ _, World.grownBy.refl _ _⟩
  · injection e with e1 _ e3
    subst e1
    subst e3
    obtain ⟨h1, h2, h3⟩ := holds_own h rfl
    refine (Tryz.slices_Sort_int g 0 c l w h1 h2 (by omega)).mono ?_
    rintro e w' ⟨rfl, q, os, rfl⟩
    obtain ⟨ho, hgr⟩ := put_own h (Nat.le_refl _) (srtI_len l) q os
    rw [List.take_of_length_le (by rw [srtI_len]; omega)] at ho
    exact ⟨rfl, ho, hgr⟩
theorem compact_own {w : World} {base n c : Nat} {A : Option Addr} {l : List Int} (h : w.ownsRow base 3 1 (.slice A n c) n (ints l)) (hl : l.length = n) (hn : n ≤ 10000000) :
    Calls Tryz.prog 73 #[.slice A n c] w fun e w' => e = .returned (.slice A (Lib.compact l).length c) ∧ w'.ownsRow base 3 1 (.slice A (Lib.compact l).length c) (Lib.compact l).length (ints (Lib.compact l)) ∧ w.grownBy w' (Value.slice A n c).ownBlock := by
  subst hl
  rcases h.2 with ⟨e, h0⟩ | ⟨g, cap, cur, e, hb, hg, hc1, hc2, hc3, _⟩
  · injection e with e1 e2 e3
    subst e1
    subst e3
    have hl0 : l = [] := List.length_eq_zero_iff.1 h0
    subst hl0
    refine (Tryz.slices_Compact_int_empty none 0 w).mono ?_
    rintro e w' ⟨rfl, rfl⟩
    exact ⟨rfl, World.ownsRow_nil _ _ _ _, World.grownBy.refl _ _⟩
  · injection e with e1 _ e3
    subst e1
    subst e3
    obtain ⟨h1, h2, h3⟩ := holds_own h rfl
    refine (Tryz.slices_Compact_int g 0 c l w h1 (by omega) h3).mono ?_
    rintro e w' ⟨rfl, q, rfl⟩
    have hcl := compact_len l
    obtain ⟨ho, hgr⟩ := put_own h hcl (ds := Lib.compact l ++ List.replicate (l.length - (Lib.compact l).length) 0) (by rw [List.length_append, List.length_replicate]; omega) q #[]
    rw [grow_zero] at ho hgr
    rw [List.take_left'  rfl] at ho
    exact ⟨rfl, ho, hgr⟩
end Go.Proofs.YtfapgnbnfhpicaaGreatDoor

namespace Go.Proofs.YtfapgnbnfhpicaaGreatDoor
set_option linter.unusedVariables false

/-- A number put behind a list that lacks it. -/
def addI (R : List Int) (a : Int) : List Int := if a ∈ R then R else R ++ [a]
theorem addI_yes {R : List Int} {a : Int} (h : a ∈ R) : addI R a = R := by unfold addI; rw [if_pos h]
theorem addI_no {R : List Int} {a : Int} (h : a ∉ R) : addI R a = R ++ [a] := by unfold addI; rw [if_neg h]
theorem addI_mem {R : List Int} {a x : Int} : x ∈ addI R a ↔ x ∈ R ∨ x = a := by
  by_cases h : a ∈ R
  · rw [addI_yes h]
    exact ⟨.inl, fun h2 => h2.elim id (fun e => e ▸ h)⟩
  · rw [addI_no h]; simp
theorem addI_nodup {R : List Int} {a : Int} (h : R.Nodup) : (addI R a).Nodup := by
  by_cases h2 : a ∈ R
  · rw [addI_yes h2]; exact h
  · rw [addI_no h2, List.nodup_append]
    refine ⟨h, by simp, fun x hx y hy e => ?_⟩
    simp at hy
    subst hy
    subst e
    exact h2 hx
theorem addI_pre {R : List Int} {a : Int} : R <+: addI R a := by
  by_cases h2 : a ∈ R
  · rw [addI_yes h2]; exact List.prefix_refl R
  · rw [addI_no h2]; exact List.prefix_append R [a]
/-- A whole list visited. -/
def visI (R l : List Int) : List Int := l.foldl addI R
theorem visI_take {R l : List Int} {k : Nat} {a : Int} (h : l[k]? = some a) : visI R (l.take (k + 1)) = addI (visI R (l.take k)) a := by
  unfold visI; rw [List.take_add_one, h, List.foldl_append]; rfl
theorem visI_mem {R l : List Int} {x : Int} : x ∈ visI R l ↔ x ∈ R ∨ x ∈ l := by
  unfold visI
  induction l generalizing R with
  | nil => simp
  | cons a l ih => rw [List.foldl_cons, ih, addI_mem, List.mem_cons, or_assoc]
theorem visI_nodup {R l : List Int} (h : R.Nodup) : (visI R l).Nodup := by
  unfold visI
  induction l generalizing R with
  | nil => exact h
  | cons a l ih => rw [List.foldl_cons]; exact ih (addI_nodup h)
theorem visI_pre {R l : List Int} : R <+: visI R l := by
  unfold visI
  induction l generalizing R with
  | nil => exact List.prefix_refl R
  | cons a l ih => rw [List.foldl_cons]; exact List.IsPrefix.trans addI_pre ih
theorem pre_get {R T : List Int} (h : R <+: T) {j : Nat} (hj : j < R.length) : T[j]? = R[j]? := by
  obtain ⟨u, rfl⟩ := h
  rw [List.getElem?_append_left hj]
theorem nodup_few : ∀ (V S : List Int), V.Nodup → (∀ x ∈ V, x ∈ S) → V.length ≤ S.length := by
  intro V
  induction V with
  | nil => intro S _ _; simp
  | cons v V ih =>
    intro S hd hm
    rw [List.nodup_cons] at hd
    have hv := hm v (List.mem_cons_self ..)
    have h1 := ih (S.erase v) hd.2 (fun x hx => (List.mem_erase_of_ne (fun e => by subst e; exact hd.1 hx)).2 (hm x (List.mem_cons_of_mem _ hx)))
    rw [List.length_erase_of_mem hv] at h1
    have := List.length_pos_of_mem hv
    rw [List.length_cons]; omega
theorem nodup_below {N : Nat} {V : List Int} (h : V.Nodup) (hr : ∀ x ∈ V, 0 ≤ x ∧ x < (N : Int)) : V.length ≤ N := by
  have h1 := nodup_few V ((List.range N).map Int.ofNat) h (fun x hx => by
    have := hr x hx
    refine List.mem_map.2 ⟨x.toNat, List.mem_range.2 (by omega), ?_⟩
    show ((x.toNat : Nat) : Int) = x
    omega)
  simpa using h1
/-- What has been marked. -/
def fnd (N : Nat) (R : List Int) : List Bool := (List.range N).map fun k : Nat => decide ((k : Int) ∈ R)
theorem fnd_len (N : Nat) (R : List Int) : (fnd N R).length = N := by simp [fnd]
theorem fnd_nil (N : Nat) : fnd N [] = List.replicate N false := by
  apply List.ext_getElem?
  intro i
  unfold fnd
  rw [List.getElem?_map, List.getElem?_replicate]
  by_cases h : i < N
  · rw [List.getElem?_range h, if_pos h]; simp
  · rw [List.getElem?_eq_none (by simpa using h), if_neg h]; rfl
theorem fnd_at {N : Nat} {R : List Int} {k : Nat} (h : k < N) : (fnd N R)[k]? = some (decide ((k : Int) ∈ R)) := by
  unfold fnd; rw [List.getElem?_map, List.getElem?_range h]; rfl
theorem fnd_set {N : Nat} {R : List Int} {k : Nat} (h : k < N) : (fnd N R).set k true = fnd N (R ++ [(k : Int)]) := by
  apply List.ext_getElem?
  intro i
  by_cases hi : i < N
  · rw [List.getElem?_set, fnd_at hi, fnd_at hi, fnd_len]
    by_cases e : k = i
    · subst e; rw [if_pos rfl, if_pos hi]; simp
    · rw [if_neg e]
      have : ((i : Int) ∈ R ++ [(k : Int)]) ↔ (i : Int) ∈ R := by simp; omega
      simp only [this]
  · rw [List.getElem?_eq_none (by rw [List.length_set, fnd_len]; omega), List.getElem?_eq_none (by rw [fnd_len]; omega)]
/-- What stands while the list of the reached grows: the first i of it have been left. -/
structure RcG (N : Nat) (S : List (List Int)) (F R : List Int) (i : Nat) : Prop where
  nd : R.Nodup
  rng : ∀ x ∈ R, 0 ≤ x ∧ x < (N : Int)
  st : ∀ x ∈ F, x ∈ R
  rch : ∀ k : Nat, (k : Int) ∈ R → Rch S F k
  cl : ∀ (j : Nat) (a : Int), j < i → R[j]? = some a → ∀ b ∈ rw0 S a.toNat, b ∈ R
theorem RcG.start {N : Nat} {S : List (List Int)} {F : List Int} (hF : ∀ x ∈ F, 0 ≤ x ∧ x < (N : Int)) : RcG N S F (visI [] F) 0 :=
  ⟨visI_nodup List.nodup_nil, fun x hx => by rcases visI_mem.1 hx with h | h; cases h; exact hF x h, fun x hx => visI_mem.2 (.inr hx),
    fun k hk => by rcases visI_mem.1 hk with h | h; cases h; exact .start h, fun j a hj => by omega⟩
theorem RcG.few {N : Nat} {S : List (List Int)} {F R : List Int} {i : Nat} (h : RcG N S F R i) : R.length ≤ N := nodup_below h.nd h.rng
theorem RcG.step {N : Nat} {S : List (List Int)} {F R : List Int} {i : Nat} {a : Int} (h : RcG N S F R i) (hS : ∀ l ∈ S, RisP N l) (ha : R[i]? = some a) : RcG N S F (visI R (rw0 S a.toNat)) (i + 1) := by
  have ham := List.mem_of_getElem? ha
  have har := h.rng a ham
  have hae : ((a.toNat : Nat) : Int) = a := by omega
  refine ⟨visI_nodup h.nd, fun x hx => ?_, fun x hx => visI_mem.2 (.inl (h.st x hx)), fun k hk => ?_, fun j c hj hc b hb => ?_⟩
  · rcases visI_mem.1 hx with h1 | h1
    · exact h.rng x h1
    · exact (rw0_ris hS _).2 x h1
  · rcases visI_mem.1 hk with h1 | h1
    · exact h.rch k h1
    · exact .step (h.rch _ (by rw [hae]; exact ham)) h1
  · rw [pre_get visI_pre (by have := (List.getElem?_eq_some_iff.1 ha).1; omega)] at hc
    by_cases e : j = i
    · subst e
      obtain rfl := Option.some.inj (ha.symm.trans hc)
      exact visI_mem.2 (.inr hb)
    · exact visI_mem.2 (.inl (h.cl j c (by omega) hc b hb))
theorem RcG.done {N : Nat} {S : List (List Int)} {F R l : List Int} {i : Nat} (h : RcG N S F R i) (hi : R.length ≤ i) (hp : l.Perm R) (hs : l.Pairwise (· ≤ ·)) : l = rchL N S F := by
  have hnd : l.Nodup := hp.nodup_iff.2 h.nd
  have hm : ∀ x, x ∈ l ↔ x ∈ R := fun x => hp.mem_iff
  refine rchL_of ⟨?_, fun x hx => h.rng x ((hm x).1 hx)⟩ (fun x hx => (hm x).2 (h.st x hx)) (fun a b ha hb => ?_) (fun k hk => h.rch k ((hm _).1 hk))
  · refine (hs.and (List.nodup_iff_pairwise_ne.1 hnd)).imp fun {x y} h => ?_
    have := h.1
    have := h.2
    omega
  · obtain ⟨j, hj, he⟩ := List.mem_iff_getElem.1 ((hm _).1 ha)
    refine (hm _).2 (h.cl j a (by omega) (by rw [List.getElem?_eq_getElem hj, he]) b ?_)
    simpa using hb
end Go.Proofs.YtfapgnbnfhpicaaGreatDoor

namespace Go.Proofs.YtfapgnbnfhpicaaGreatDoor
set_option maxRecDepth 20000
set_option linter.unusedVariables false
set_option linter.unusedSimpArgs false
open Go.ChangeShapes Go.WideShapes Go.ChangeAt Go.RowKit

structure Rsv (W : World) (F fb rb N : Nat) (B : List Bool) (R : List Int) (v : Value) (wr : World) : Prop where
  own : wr.ownsRow W.heap.size 3 1 v R.length (ints R)
  fnd : Fb wr F (B.map Value.bool).toArray 4
  fbx : Fb wr fb #[.slice (some ⟨F, 0, none⟩) N N] 78
  rbx : Fb wr rb #[v] 22
  bl : B.length = N
  bel : Below W.heap.size W wr
  lo : W.heap.size ≤ F ∧ W.heap.size ≤ fb ∧ W.heap.size ≤ rb
  ne : F ≠ fb ∧ F ≠ rb ∧ fb ≠ rb
section
variable {W wr w' : World} {F fb rb N : Nat} {B : List Bool} {R : List Int} {v : Value}
theorem Rsv.below (h : Rsv W F fb rb N B R v wr) (hb : Below wr.heap.size wr w') : Rsv W F fb rb N B R v w' :=
  ⟨own_below h.own hb, h.fnd.below hb h.fnd.lt, h.fbx.below hb h.fbx.lt, h.rbx.below hb h.rbx.lt, h.bl, below_step h.bel hb, h.lo, h.ne⟩
theorem Rsv.alloc (h : Rsv W F fb rb N B R v wr) (o : Obj) : Rsv W F fb rb N B R v (wr.alloc o) := h.below ((Below.refl _ _).alloc (Nat.le_refl _) o)
theorem Rsv.mark (h : Rsv W F fb rb N B R v wr) (a : Nat) : Rsv W F fb rb N (B.set a true) R v (wr.setCell ⟨F, a, none⟩ (.bool true)) := by
  have h1 := h.lo
  have h2 := h.ne
  have hset := setCell_grown wr ⟨F, a, none⟩ (.bool true)
  refine ⟨h.own.kept hset (.inr fun e => (fb_ne_own h.fnd h.own (by decide)) e.symm), ?_, h.fbx.grown hset (by intro e; injection e with e; simp only at e; omega), h.rbx.grown hset (by intro e; injection e with e; simp only at e; omega), by rw [List.length_set]; exact h.bl, h.bel.setCell (p := ⟨F, a, none⟩) h1.1 _, h.lo, h.ne⟩
  have := h.fnd.set a (.bool true)
  simpa [List.map_set] using this
theorem Rsv.cellF (h : Rsv W F fb rb N B R v wr) {a : Nat} {u : Bool} (ha : B[a]? = some u) : wr.cell? ⟨F, a, none⟩ = some (.bool u) ∧ wr.frozen? ⟨F, a, none⟩ = false := by
  refine ⟨?_, h.fnd.frozen a⟩
  rw [h.fnd.cell]
  simp [ha]
/-- What stands behind the append, ahead of the store into the box. -/
theorem Rsv.grown (h : Rsv W F fb rb N B R v wr) (hg : wr.grownBy w' v.ownBlock) : w'.cell? ⟨rb, 0, none⟩ = some v ∧ w'.frozen? ⟨rb, 0, none⟩ = false := by
  have := h.rbx.grown hg (fb_ne_own h.rbx h.own (by decide))
  exact ⟨this.onec, this.frozen 0⟩
theorem Rsv.push {g cap : Nat} {a : Int} (h : Rsv W F fb rb N B R v wr) (hown : w'.ownsRow W.heap.size 3 1 (.slice (some ⟨g, 0, none⟩) (R.length + 1) cap) (R.length + 1) (ints R ++ [.int .i64 a])) (hg : wr.grownBy w' v.ownBlock) :
    Rsv W F fb rb N B (R ++ [a]) (.slice (some ⟨g, 0, none⟩) (R.length + 1) cap) (w'.setCell ⟨rb, 0, none⟩ (.slice (some ⟨g, 0, none⟩) (R.length + 1) cap)) := by
  have h1 := h.lo
  have h2 := h.ne
  have e1 := fb_ne_own h.fnd h.own (by decide)
  have e2 := fb_ne_own h.fbx h.own (by decide)
  have e3 := fb_ne_own h.rbx h.own (by decide)
  have f1 := h.fnd.grown hg e1
  have f2 := h.fbx.grown hg e2
  have f3 := h.rbx.grown hg e3
  have hset := setCell_grown w' ⟨rb, 0, none⟩ (.slice (some ⟨g, 0, none⟩) (R.length + 1) cap)
  refine ⟨?_, f1.grown hset (by intro e; injection e with e; simp only at e; omega), f2.grown hset (by intro e; injection e with e; simp only at e; omega), ?_, h.bl, ?_, h.lo, h.ne⟩
  · rw [ints_snoc, List.length_append]
    exact hown.kept hset (.inr fun e => (fb_ne_own f3 hown (by decide)) e.symm)
  · have := f3.set 0 (.slice (some ⟨g, 0, none⟩) (R.length + 1) cap)
    simpa using this
  · exact ((h.bel).grown hg h.bel.size (fun k hk => (h.own.lt k hk).1)).setCell (p := ⟨rb, 0, none⟩) h1.2.2 _
end
set_option maxHeartbeats 3200000 in
theorem visit_any (x : RH) (N F fb rb : Nat) (R0 : List Int) (v0 : Value) (W w : World) (hx : RHok W [] x) (hr : ∀ a ∈ x.l, 0 ≤ a ∧ a < (N : Int)) (hd : R0.Nodup) (hR : ∀ a ∈ R0, 0 ≤ a ∧ a < (N : Int)) (hN : N ≤ 100000) (h : Rsv W F fb rb N (fnd N R0) R0 v0 w) :
    Calls Tryz.prog 32 #[.slice x.A x.n x.c, .pointer (some ⟨fb, 0, none⟩), .pointer (some ⟨rb, 0, none⟩)] w fun e w' => e = .returned (.tuple #[]) ∧ ∃ v, Rsv W F fb rb N (fnd N (visI R0 x.l)) (visI R0 x.l) v w' := by
  obtain ⟨i1, hi, hz0, hz1, hz2⟩ := info_parts info3
  have Hi := hid hi; have Hz0 := hid hz0; have Hz1 := hid hz1; have Hz2 := hid hz2
  clear hi hz0 hz1 hz2
  have hn := hx.few
  have HX := hid hx
  have HL := hid hx.len
  have HR := hid hr
  have HD := hid hd
  have HRR := hid hR
  have H0 := hid h
  clear hx hr hd hR h
  obtain ⟨A, n, c, l⟩ := x
  simp only at *
  go_enter Tryz.func32, Tryz.ntmps32
  go_wp2_with fail
  go_loopw [5, 8] (fun _ iv wr => ∃ (k : Nat) (v : Value), k ≤ n ∧ iv = .int .i64 k ∧ Hid (Rsv W F fb rb N (fnd N (visI R0 (l.take k))) (visI R0 (l.take k)) v wr)) (fun _ iv _ => n - (intOf iv).toNat)
  case atStart => exact ⟨0, v0, by omega, rfl, hid (by rw [List.take_zero]; exact H0.out)⟩
  case round =>
    clear H0
    obtain ⟨k, v, hk, rfl, hS⟩ := hrel
    by_cases hlt : k < n
    · obtain ⟨a, ha, ham⟩ := get_at HL.out hlt
      obtain ⟨ad, hA, had, hc⟩ := (HX.out.below hS.out.bel).cell ha
      simp only at hA
      subst hA
      have har := HR.out a ham
      obtain ⟨j, rfl⟩ : ∃ j : Nat, a = (j : Int) := ⟨a.toNat, by omega⟩
      have hjN : j < N := by omega
      have Htk := hid (visI_take (R := R0) ha)
      have Hnd := hid (visI_nodup (l := l.take k) HD.out)
      have Hrg := hid (show ∀ z ∈ visI R0 (l.take k), 0 ≤ z ∧ z < (N : Int) from fun z hz => by
        rcases visI_mem.1 hz with h1 | h1
        · exact HRR.out z h1
        · exact HR.out z (List.mem_of_mem_take h1))
      have hfew : (visI R0 (l.take k)).length ≤ N := nodup_below Hnd.out Hrg.out
      clear ha ham har
      generalize visI R0 (l.take k) = R at *
      have hb0 := hS.out.fbx.onec
      obtain ⟨hf0, hf1⟩ := hS.out.cellF (fnd_at (R := R) hjN)
      have hfl := hS.out.fnd.lt
      cases hm : decide ((j : Int) ∈ R) with
      | true =>
        rw [hm] at hf0
        as_aux_lemma =>
          have Hr := hid (show visI R0 (l.take (k + 1)) = R by rw [Htk.out, addI_yes (by simpa using hm)])
          clear hm
          go_wp2_with fail
          go_roundw
          case rel => exact ⟨k + 1, v, by omega, by go_num, hid (by rw [Hr.out]; exact hS.out)⟩
          case measure => simp [intOf]; omega
      | false =>
        rw [hm] at hf0
        as_aux_lemma =>
          have Hr := hid (show visI R0 (l.take (k + 1)) = R ++ [(j : Int)] by rw [Htk.out, addI_no (by simpa using hm)])
          clear hm
          have H1 := hid (hS.out.mark j)
          rw [fnd_set hjN] at H1
          have hv1 := H1.out.rbx.onec
          have hb1 := H1.out.fbx.onec
          have hrl := H1.out.rbx.lt
          have H2 := hid (H1.out.alloc (.cells #[.int .i64 (j : Int)] 3))
          have hnew := int_new (wr.setCell ⟨F, j, none⟩ (.bool true)) (j : Int) 3
          rw [show (wr.setCell ⟨F, j, none⟩ (.bool true)).heap.size = wr.heap.size by simp [World.setCell]] at hnew
          have Hnew := hid hnew
          clear hnew
          obtain ⟨sA, sc, hsv⟩ := own_any_slice H1.out.own
          subst hsv
          go_wp2_with ((
            at_builtin
            go_must (refine wpList_append_lies _ rfl _ _ 22 rfl W.heap.size 3 i1 _ 1 8 Tryz.underlying22 Hi.out Hz0.out Hz1.out Hz2.out rfl (by decide) _ R.length (ints R) rfl H2.out.own ⟨wr.heap.size, 0, none⟩ 1 1 [.int .i64 (j : Int)] rfl rfl Hnew.out (one_int1 _) (by omega) (by unfold maxLen; omega) (by omega) H2.out.bel.size _ rfl ?_)
            intro g5 cap5 w5 hown5 hgr5 hat5 hlt5
            obtain ⟨y0, y1⟩ := H2.out.grown hgr5
            have H5 := hid (H2.out.push hown5 hgr5)
            clear hown5 hgr5 hat5 hlt5))
          go_roundw
          case rel => exact ⟨k + 1, _, by omega, by go_num, hid (by rw [Hr.out]; exact H5.out)⟩
          case measure => simp [intOf]; omega
    · obtain rfl : k = n := by omega
      have Hr := hid (show l.take k = l from List.take_of_length_le (by rw [HL.out]; omega))
      go_wp2_with fail
      refine bodyPost_end (v := .tuple #[]) (by simp [results, Tryz.results32]) rfl ⟨rfl, v, by rw [← Hr.out]; exact hS.out⟩
end Go.Proofs.YtfapgnbnfhpicaaGreatDoor

namespace Go.Proofs.YtfapgnbnfhpicaaGreatDoor
set_option maxRecDepth 20000
set_option linter.unusedVariables false
set_option linter.unusedSimpArgs false
open Go.ChangeShapes Go.WideShapes Go.ChangeAt Go.RowKit

theorem info4 : (Tryz.prog.info? 4).map (fun i => (i.zero, i.size, i.bytes)) = some (some (.bool false), 1, 1) := by kernel_rfl
theorem run_mkbools (n : Nat) (hn : n ≤ 100000) (w : World) :
    (Instr.makeSlice 78 (.int .i64 (n : Int)) (.int .i64 (n : Int))).run Tryz.prog w = .ok (.slice (some ⟨w.heap.size, 0, none⟩) n n) (w.alloc (.cells (Array.replicate n (Value.bool false)) 4)) := by
  obtain ⟨i, hi, hz0, hz1, hz2⟩ := info_parts info4
  have h := run_make (P := Tryz.prog) w 78 4 i (.bool false) Tryz.underlying78 hi hz0 .i64 .i64 n n (by omega) (by omega) (by rw [hz2]; omega) (by omega)
  rw [h, hz1]
  simp only [Int.toNat_natCast, Nat.mul_one]
  have e2 : madeCells (Value.bool false).cells n = Array.replicate n (Value.bool false) := by
    apply Array.toList_inj.1
    rw [show (Value.bool false).cells = #[Value.bool false] from rfl, toList_madeCells_one]
    simp
  rw [e2]
/-- A row came back, in new memory. -/
def RetRw (w : World) (l : List Int) (e : Ending) (w' : World) : Prop :=
  ∃ y : RH, e = .returned (.slice y.A y.n y.c) ∧ y.l = l ∧ y.n ≤ 100000 ∧ (∀ ex : List (Option Nat), (∀ k, some k ∈ ex → k < w.heap.size) → RHok w' ex y) ∧ Below w.heap.size w w'
theorem ris_at {N : Nat} {S : List (List Int)} (h : ∀ l ∈ S, RisP N l) {i : Nat} {l : List Int} (hi : S[i]? = some l) : ∀ a ∈ l, 0 ≤ a ∧ a < (N : Int) := (h l (List.mem_of_getElem? hi)).2
set_option maxHeartbeats 6400000 in
theorem reach_yes (x : GH) (f : RH) (w : World) (h : GHok w [] x) (hf : RHok w [] f) (hval : ValG x.n x.S.v x.P.v) (hfr : ∀ a ∈ f.l, 0 ≤ a ∧ a < (x.n : Int)) :
    Calls Tryz.prog 11 #[x.a, .slice f.A f.n f.c] w (RetRw w (rchL x.n x.S.v f.l)) := by
  have hb0 := (Below.refl w.heap.size w).alloc (Nat.le_refl _) (.cells #[.slice x.A x.n x.c, .slice x.S.A x.S.n x.S.c, .slice x.P.A x.P.n x.P.c] 28)
  have HB0 := hid hb0
  have HX0 := hid (h.below hb0)
  have HF0 := hid (hf.below hb0)
  have HG0 := hid (Fb.new w #[.slice x.A x.n x.c, .slice x.S.A x.S.n x.S.c, .slice x.P.A x.P.n x.P.c] 28)
  have HVa := hid (fun (v : World) (h : GHok v [] x) => valid_graph x [] v h)
  rw [validB_iff.2 hval] at HVa
  have HV := hid hval
  have HFr := hid hfr
  have Hfl := hid hf.len
  have hfn := hf.few
  have Hgl := hid (show x.S.l.length = x.n by have := hval.slen; rw [LH.vlen] at this; exact this)
  have Hsn := hid (show x.S.n = x.n by rw [← h.s.len]; exact Hgl.out)
  have hN := hval.few
  have hN1 := hval.some
  clear h hf hval hfr hb0
  unfold GH.a at *
  go_enter Tryz.func11, Tryz.ntmps11
  have c0 := HG0.out.thr.1
  have c1 := HG0.out.thr.2.1
  have c2 := HG0.out.thr.2.2
  have hl := HG0.out.lt
  go_wp2_with fail
  clear c0 c1 c2 hl
  generalize w.alloc (.cells #[.slice x.A x.n x.c, .slice x.S.A x.S.n x.S.c, .slice x.P.A x.P.n x.P.c] 28) = w0 at *
  refine (HVa.out _ HX0.out).mono ?_
  rintro e w1 ⟨rfl, hb1⟩
  have HB1 := hid (below_step HB0.out hb1)
  have HX1 := hid (HX0.out.below hb1)
  have HF1 := hid (HF0.out.below hb1)
  have HG1 := hid (HG0.out.below hb1 HG0.out.lt)
  clear hb1 HB0 HX0 HF0 HG0 HVa
  go_wp2_with fail
  go_loop [6, 16] (fun _ iv => ∃ k : Nat, k ≤ f.n ∧ iv = .int .i64 k) (fun _ iv => f.n - (intOf iv).toNat)
  case atStart => exact ⟨0, by omega, rfl⟩
  case round =>
    obtain ⟨k, hk, rfl⟩ := hrel
    by_cases hlt : k < f.n
    · obtain ⟨a, ha, ham⟩ := get_at Hfl.out hlt
      obtain ⟨ad, hA, had, hc⟩ := HF1.out.cell ha
      rw [hA]
      have har := HFr.out a ham
      have t1 : decide (a < 0) = false := by simp; omega
      have c0 := HG1.out.thr.1
      clear ha ham
      as_aux_lemma =>
        go_wp2_with fail
        go_round
        case rel => exact ⟨k + 1, by omega, by go_num⟩
        case measure => simp [intOf]; omega
    · obtain rfl : k = f.n := by omega
      as_aux_lemma =>
        have hmb := run_mkbools x.n (by omega)
        have c0 := HG1.out.thr.1
        have hgl := HG1.out.lt
        have HS0 := hid (show Rsv w1 (w1.heap.size + 1) (w1.heap.size + 1 + 1) w1.heap.size x.n (fnd x.n []) [] (.slice none 0 0) (((w1.alloc (.cells #[.slice none 0 0] 22)).alloc (.cells (Array.replicate x.n (Value.bool false)) 4)).alloc (.cells #[.slice (some ⟨w1.heap.size + 1, 0, none⟩) x.n x.n] 78)) from by
          have hb : Below w1.heap.size w1 (((w1.alloc (.cells #[.slice none 0 0] 22)).alloc (.cells (Array.replicate x.n (Value.bool false)) 4)).alloc (.cells #[.slice (some ⟨w1.heap.size + 1, 0, none⟩) x.n x.n] 78)) :=
            (((Below.refl _ _).alloc (Nat.le_refl _) _).alloc (by rw [World.size_alloc]; omega) _).alloc (by rw [World.size_alloc, World.size_alloc]; omega) _
          refine ⟨World.ownsRow_nil _ _ _ _, ?_, ?_, ((Fb.new w1 _ _).alloc _).alloc _, fnd_len _ _, hb, by omega, by omega⟩
          · rw [fnd_nil, show ((List.replicate x.n false).map Value.bool).toArray = Array.replicate x.n (Value.bool false) by simp]
            have := (Fb.new (w1.alloc (.cells #[.slice none 0 0] 22)) (Array.replicate x.n (Value.bool false)) 4).alloc (.cells #[.slice (some ⟨w1.heap.size + 1, 0, none⟩) x.n x.n] 78)
            rw [World.size_alloc] at this
            exact this
          · have := Fb.new ((w1.alloc (.cells #[.slice none 0 0] 22)).alloc (.cells (Array.replicate x.n (Value.bool false)) 4)) #[.slice (some ⟨w1.heap.size + 1, 0, none⟩) x.n x.n] 78
            rw [World.size_alloc, World.size_alloc] at this
            exact this)
        go_wp2_with fail
        clear hmb c0 hgl
        have HF0 := HS0.out.lo
        refine (visit_any f x.n (w1.heap.size + 1) (w1.heap.size + 1 + 1) w1.heap.size [] _ w1 _ HF1.out HFr.out List.nodup_nil (by simp) (by omega) HS0.out).mono ?_
        rintro e w5 ⟨rfl, v5, hst⟩
        have H5 := hid hst
        have HR5 := hid (RcG.start (S := x.S.v) HFr.out)
        clear hst HS0 HF0
        generalize w1.heap.size + 1 + 1 = fb at *
        generalize w1.heap.size + 1 = F at *
        generalize hrb : w1.heap.size = rb at *
        have Hrb := hid hrb
        clear hrb
        go_wp2_with fail
        go_loopw [10] (fun iv wr => ∃ (i : Nat) (R : List Int) (v : Value), i ≤ R.length ∧ iv = .int .i64 i ∧ Hid (Rsv w1 F fb rb x.n (fnd x.n R) R v wr) ∧ Hid (RcG x.n x.S.v f.l R i)) (fun iv _ => x.n - (intOf iv).toNat)
        case atStart => exact ⟨0, _, v5, by omega, rfl, H5, HR5⟩
        case round =>
          clear H5 HR5
          obtain ⟨i, R, v, hi, rfl, hS, hC⟩ := hrel
          have hfew := hC.out.few
          obtain ⟨vA, vc, rfl⟩ := own_any_slice hS.out.own
          have hb0 := hS.out.rbx.onec
          have hrl := hS.out.rbx.lt
          have HG2 := hid (HG1.out.below (by have := hS.out.bel; exact this) HG1.out.lt)
          by_cases hlt : i < R.length
          · obtain ⟨a, ha, ham⟩ := get_at (rfl : R.length = R.length) hlt
            have har := hC.out.rng a ham
            obtain ⟨j, rfl⟩ : ∃ j : Nat, a = (j : Int) := ⟨a.toNat, by omega⟩
            have hjN : j < x.n := by omega
            obtain ⟨ad, hA, -, hc⟩ := (EAt.own (ex := []) hS.out.own (by simp)).one (i := i) (u := .int .i64 (j : Int)) (by unfold ints; rw [List.getElem?_map, ha]; rfl)
            subst hA
            obtain ⟨y, hy, hym⟩ := get_at Hgl.out hjN
            obtain ⟨adS, hAS, hadS, hcS⟩ := (HX1.out.below hS.out.bel).s.cell hy
            have Hstep := hid (show RcG x.n x.S.v f.l (visI R y.l) (i + 1) by have := hC.out.step HV.out.ris ha; rw [show ((j : Int)).toNat = j from rfl, LH.rw hy] at this; exact this)
            have Hlen := hid (show i + 1 ≤ (visI R y.l).length by have := (visI_pre (R := R) (l := y.l)).length_le; omega)
            have HVi := hid (fun (v : Value) (wv : World) (h : Rsv w1 F fb rb x.n (fnd x.n R) R v wv) => visit_any y x.n F fb rb R v w1 wv (HX1.out.s.all y hym) (ris_at HV.out.ris (LH.at hy)) hC.out.nd hC.out.rng (by omega) h)
            have HS1 := hid (hS.out.below ((Below.refl wr.heap.size wr).drew))
            have c1 := HG2.out.thr.2.1
            rw [hAS, Hsn.out] at c1
            have hjn : (j : Int) < (x.n : Int) := by omega
            have hir : (i : Int) < (R.length : Int) := by omega
            have hj0 : (0 : Int) ≤ (j : Int) := by omega
            have hi0 : (0 : Int) ≤ (i : Int) := by omega
            clear ha ham har hy hym hAS hadS hS hC
            as_aux_lemma =>
              go_wp2_with fail
              refine wp_region_still_tail 9 (by kernel_rfl) (by kernel_rfl) ?_
              simp only [List.take_succ_cons, List.take_zero, List.drop_succ_cons, List.drop_zero]
              repeat still_step
              try refine wpStill_nil ?_
              change wpList _ _ _ _ _ wr.drew
              go_wp2_with fail
              refine (HVi.out _ _ HS1.out).mono ?_
              rintro e w7 ⟨rfl, v7, hst7⟩
              have H7 := hid hst7
              clear hst7
              go_wp2_with fail
              go_roundw
              case rel => exact ⟨i + 1, _, v7, Hlen.out, by go_num, H7, Hstep⟩
              case measure => simp [intOf]; omega
          · as_aux_lemma =>
              obtain rfl : i = R.length := by omega
              go_wp2_with fail
              refine (sort_own hS.out.own rfl (by omega)).mono ?_
              rintro e w8 ⟨rfl, hown8, hgr8⟩
              have hb8 := (hS.out.rbx.grown hgr8 (fb_ne_own hS.out.rbx hS.out.own (by decide))).onec
              have HO := hid hown8
              have HB8 := hid (below_step HB1.out (hS.out.bel.grown hgr8 hS.out.bel.size (fun k hk => (hS.out.own.lt k hk).1)))
              clear hown8 hgr8
              go_wp2_with fail
              go_ret
              exact ⟨⟨vA, R.length, vc, srtI R⟩, rfl, hC.out.done (Nat.le_refl _) (srtI_perm R) (srtI_sorted R), by show R.length ≤ _; omega, fun ex hex => ⟨EAt.own HO.out (fun g hg hm => by have h1 := (HO.out.lt g hg).1; have h2 := hex g hm; have h3 := HB1.out.size; omega), srtI_len R, by show R.length ≤ _; omega⟩, HB8.out⟩
end Go.Proofs.YtfapgnbnfhpicaaGreatDoor

namespace Go.Proofs.YtfapgnbnfhpicaaGreatDoor
set_option maxRecDepth 20000
set_option linter.unusedVariables false
set_option linter.unusedSimpArgs false
open Go.ChangeShapes Go.WideShapes Go.ChangeAt Go.RowKit

/-- A row came back. -/
def RetRow (w : World) (ex : List (Option Nat)) (l : List Int) (e : Ending) (w' : World) : Prop :=
  ∃ y : RH, e = .returned (.slice y.A y.n y.c) ∧ y.l = l ∧ RHok w' ex y ∧ y.n ≤ y.c ∧ Below w.heap.size w w'
theorem RetRow.own {w w' : World} {ex : List (Option Nat)} {l : List Int} {A : Option Addr} {n c : Nat} (hex : ∀ k, some k ∈ ex → k < w.heap.size) (ho : w'.ownsRow w.heap.size 3 1 (.slice A n c) n (ints l)) (hl : l.length = n) (hn : n ≤ 200000) (hb : Below w.heap.size w w') :
    RetRow w ex l (.returned (.slice A n c)) w' := by
  refine ⟨⟨A, n, c, l⟩, rfl, rfl, ⟨EAt.own ho (fun g hg hm => by have := hex g hm; have := (ho.lt g hg).1; omega), hl, by show n ≤ _; omega⟩, ?_, hb⟩
  rcases ho.2 with ⟨e, h0⟩ | ⟨g, cap, cur, e, _, _, h1, _⟩
  · show n ≤ c; omega
  · injection e with _ _ e3
    show n ≤ c; omega
theorem ins_take {l : List Int} {v a : Int} {k : Nat} (h : ∀ x ∈ l.take k, x < v) (ha : l[k]? = some a) (hlt : a < v) : ∀ x ∈ l.take (k + 1), x < v := by
  intro x hx
  rw [List.take_add_one, ha] at hx
  rcases List.mem_append.1 hx with hx | hx
  · exact h x hx
  · simp at hx; subst hx; exact hlt
theorem add_nil (a : Addr) : a.add 0 = a := by
  obtain ⟨b, o, p⟩ := a
  cases p <;> simp [Addr.add]
theorem int_new1 (w : World) (o : Obj) (x : Int) (t : Nat) : ∀ (j : Nat) (u : Value), [Value.int .i64 x][j]? = some u → ((w.alloc o).alloc (.cells #[.int .i64 x] t)).cell? ((⟨w.heap.size + 1, 0, none⟩ : Addr).add j) = some u := by
  intro j u h
  have := int_new (w.alloc o) x t j u h
  rw [World.size_alloc] at this
  exact this
theorem own_capn {w : World} {base ty k g n cap : Nat} {xs : List Value} (h : w.ownsRow base ty k (.slice (some ⟨g, 0, none⟩) n cap) n xs) : n ≤ cap := by
  rcases h.2 with ⟨e, h0⟩ | ⟨g2, cap2, cur, e, _, _, h1, _⟩
  · omega
  · injection e with _ _ e3; omega
theorem own_step {w W w5 : World} {v : Value} {ty k n : Nat} {xs : List Value} (hB : Below w.heap.size w W) (ho : W.ownsRow w.heap.size ty k v n xs) (hg : W.grownBy w5 v.ownBlock) : Below w.heap.size w w5 := hB.grown hg hB.size (fun k hk => (ho.lt k hk).1)
theorem ints_take (l : List Int) (k : Nat) : ints (l.take k) = (ints l).take k := by simp [ints, List.map_take]
set_option maxHeartbeats 6400000 in
theorem insert_any (x : RH) (v : Int) (ex : List (Option Nat)) (w : World) (h : RHok w ex x) (hcap : x.n ≤ x.c) (hn : x.n ≤ 100000) (hex : ∀ k, some k ∈ ex → k < w.heap.size) :
    Calls Tryz.prog 28 #[.slice x.A x.n x.c, .int .i64 v] w (RetRow w ex (insI x.l v)) := by
  obtain ⟨i1, hi, hz0, hz1, hz2⟩ := info_parts info3
  have Hi := hid hi; have Hz0 := hid hz0; have Hz1 := hid hz1; have Hz2 := hid hz2
  clear hi hz0 hz1 hz2
  have HX := hid h
  have HL := hid h.len
  have Hex := hid hex
  clear h hex
  obtain ⟨A, n, c, l⟩ := x
  simp only at *
  have hb1 := (Below.refl w.heap.size w).alloc (Nat.le_refl _) (.cells #[] 3)
  have HB1 := hid hb1
  have HO := hid (World.ownsRow_lit (base := w.heap.size) (e := 3) (size := 1) w #[] 0 (Nat.le_refl _) (by unfold maxLen; omega) rfl)
  clear hb1
  go_enter Tryz.func28, Tryz.ntmps28
  go_wp2_with fail
  go_loop [5] (fun iv => ∃ k : Nat, k ≤ n ∧ iv = .int .i64 k ∧ Hid (∀ z ∈ l.take k, z < v)) (fun iv => n - (intOf iv).toNat)
  case atStart => exact ⟨0, by omega, rfl, hid (by simp)⟩
  case round =>
    obtain ⟨k, hk, rfl, hP⟩ := hrel
    by_cases hlt : k < n
    · obtain ⟨a, ha, -⟩ := get_at HL.out hlt
      obtain ⟨ad, hA, had, hc⟩ := HX.out.cell ha
      simp only at hA
      subst hA
      have Ha := hid ha
      clear ha
      by_cases h1 : a < v
      · as_aux_lemma =>
          have Hr := hid (ins_take hP.out Ha.out h1)
          go_wp2_with fail
          go_round
          case rel => exact ⟨k + 1, by omega, by go_num, Hr⟩
          case measure => simp [intOf]; omega
      · by_cases h2 : a = v
        · as_aux_lemma =>
            subst h2
            have Hr := hid (insI_hit hP.out Ha.out)
            go_wp2_with fail
            go_ret
            exact ⟨⟨some ad, n, c, l⟩, rfl, Hr.out.symm, HX.out, hcap, Below.refl _ _⟩
        · have Hr := hid (insI_put hP.out Ha.out (by omega))
          have t1 : (a == v) = false := by simpa using h2
          have hkc : k < c := by omega
          have Hal := hid (fun (v : World) (hb : Below w.heap.size w v) (j : Nat) (u : Value) (hj : (ints l)[j]? = some u) => show v.cell? (ad.add j) = some u by
            rcases HX.out.lies with h | ⟨ad2, e, hs, hcc⟩
            · rw [h] at hj; simp at hj
            · obtain rfl := Option.some.inj e
              exact (hb.cell (p := ad.add j) (by rw [add_block]; exact hs.1)).trans (hcc j u hj))
          have Hlen := hid (show (l.take k ++ v :: l.drop k).length = n + 1 by rw [List.length_append, List.length_take, List.length_cons, List.length_drop, HL.out]; omega)
          have Hdl := hid (show (ints (l.drop k)).length = (n - k) * 1 by unfold ints; rw [List.length_map, List.length_drop, HL.out]; omega)
          have Hdc := hid (fun (u : World) (hb : Below w.heap.size w u) (j : Nat) (z : Value) (hj : (ints (l.drop k))[j]? = some z) => show u.cell? ((ad.add k).add j) = some z by
            rw [Go.Deep.add_add]
            refine Hal.out u hb (k + j) z ?_
            unfold ints at hj ⊢
            rw [List.getElem?_map, List.getElem?_drop] at hj
            rw [List.getElem?_map]; exact hj)
          by_cases hk0 : k = 0
          · subst hk0
            have hc0 : w.cell? ad = some (.int .i64 a) := by rw [add_nil] at hc; exact hc
            have Hr2 := hid Hr.out
            as_aux_lemma =>
              go_wp2_with (
                first
                | (
                 at_builtin
                 refine wpList_append_lies _ rfl _ _ 22 rfl w.heap.size 3 i1 _ 1 8 Tryz.underlying22 Hi.out Hz0.out Hz1.out Hz2.out rfl (by decide) _ 0 [] rfl (HO.out.alloc _) ⟨w.heap.size + 1, 0, none⟩ 1 1 [Value.int .i64 v] rfl rfl (int_new1 w (.cells #[] 3) v 3) (one_int1 _) (by omega) (by unfold maxLen; omega) (by omega) (by rw [World.size_alloc]; have := (HB1.out).size; omega) _ rfl ?_
                 intro g5 cap5 w5 hown5 hgr5 hat5 hlt5
                 try rw [Nat.zero_add] at hown5
                 try rw [List.nil_append] at hown5
                 have HB5 := hid (own_step ((HB1.out).alloc (HB1.out).size (.cells #[Value.int .i64 v] 3)) (HO.out.alloc _) hgr5)
                 have H5 := hid hown5
                 have hcp5 := own_capn hown5
                 clear hown5 hgr5 hat5 hlt5)
                | (
                 at_builtin
                 refine wpList_append_lies _ rfl _ _ 22 rfl w.heap.size 3 i1 _ 1 8 Tryz.underlying22 Hi.out Hz0.out Hz1.out Hz2.out rfl (by decide) _ 1 [Value.int .i64 v] rfl H5.out ad n c (ints l) rfl (by unfold ints; rw [List.length_map, HL.out]; omega) (Hal.out _ HB5.out) (one_ints _) (by omega) (by unfold maxLen; omega) (by omega) (HB5.out).size _ rfl ?_
                 intro g7 cap7 w7 hown7 hgr7 hat7 hlt7
                 try rw [Nat.zero_add] at hown7
                 try rw [List.nil_append] at hown7
                 have HB7 := hid (own_step (HB5.out) H5.out hgr7)
                 have H7 := hid hown7
                 clear hown7 hgr7 hat7 hlt7))
              go_ret
              exact RetRow.own Hex.out (by rw [Hr.out]; have := H7.out; simpa [ints] using this) (by rw [Hr.out]; have := Hlen.out; omega) (by omega) HB7.out
          ·
            have Htk := hid (show (ints (l.take k)).length = k * 1 by unfold ints; rw [List.length_map, List.length_take, HL.out]; omega)
            have Htc := hid (fun (u : World) (hb : Below w.heap.size w u) (j : Nat) (z : Value) (hj : (ints (l.take k))[j]? = some z) => show u.cell? (ad.add j) = some z by
              refine Hal.out u hb j z ?_
              rw [ints_take, List.getElem?_take] at hj
              split at hj
              · exact hj
              · cases hj)
            as_aux_lemma =>
              go_wp2_with (
                first
                | (
                 at_builtin
                 refine wpList_append_lies _ rfl _ _ 22 rfl w.heap.size 3 i1 _ 1 8 Tryz.underlying22 Hi.out Hz0.out Hz1.out Hz2.out rfl (by decide) _ 0 [] rfl HO.out ad k c (ints (l.take k)) rfl Htk.out (Htc.out _ HB1.out) (one_ints _) (by omega) (by unfold maxLen; omega) (by omega) (HB1.out).size _ rfl ?_
                 intro g3 cap3 w3 hown3 hgr3 hat3 hlt3
                 try rw [Nat.zero_add] at hown3
                 try rw [List.nil_append] at hown3
                 have HB3 := hid (own_step (HB1.out) HO.out hgr3)
                 have H3 := hid hown3
                 clear hown3 hgr3 hat3 hlt3
                 clear HO)
                | (
                 at_builtin
                 refine wpList_append_lies _ rfl _ _ 22 rfl w.heap.size 3 i1 _ 1 8 Tryz.underlying22 Hi.out Hz0.out Hz1.out Hz2.out rfl (by decide) _ k (ints (l.take k)) rfl (H3.out.alloc _) ⟨(w3).heap.size, 0, none⟩ 1 1 [Value.int .i64 v] rfl rfl (int_new (w3) v 3) (one_int1 _) (by omega) (by unfold maxLen; omega) (by omega) (by rw [World.size_alloc]; have := (HB3.out).size; omega) _ rfl ?_
                 intro g5 cap5 w5 hown5 hgr5 hat5 hlt5
                 try rw [Nat.zero_add] at hown5
                 try rw [List.nil_append] at hown5
                 have HB5 := hid (own_step ((HB3.out).alloc (HB3.out).size (.cells #[Value.int .i64 v] 3)) (H3.out.alloc _) hgr5)
                 have H5 := hid hown5
                 have hcp5 := own_capn hown5
                 clear hown5 hgr5 hat5 hlt5
                 clear H3)
                | (
                 at_builtin
                 refine wpList_append_lies _ rfl _ _ 22 rfl w.heap.size 3 i1 _ 1 8 Tryz.underlying22 Hi.out Hz0.out Hz1.out Hz2.out rfl (by decide) _ (k + 1) (ints (l.take k) ++ [Value.int .i64 v]) rfl H5.out (ad.add k) (n - k) (c - k) (ints (l.drop k)) rfl Hdl.out (Hdc.out _ HB5.out) (one_ints _) (by omega) (by unfold maxLen; omega) (by omega) (HB5.out).size _ rfl ?_
                 intro g7 cap7 w7 hown7 hgr7 hat7 hlt7
                 try rw [Nat.zero_add] at hown7
                 try rw [List.nil_append] at hown7
                 have HB7 := hid (own_step (HB5.out) H5.out hgr7)
                 have H7 := hid hown7
                 clear hown7 hgr7 hat7 hlt7))
              go_ret
              exact RetRow.own Hex.out (by rw [Hr.out]; have := H7.out; simpa [ints] using this) (by rw [Hr.out]; have := Hlen.out; omega) (by omega) HB7.out
    · obtain rfl : k = n := by omega
      have Hr := hid (insI_end (l := l) (n := v) (by have := hP.out; rw [List.take_of_length_le (by rw [HL.out]; omega)] at this; exact this))
      have Hlen := hid (show (l ++ [v]).length = k + 1 by rw [List.length_append, HL.out]; rfl)
      have Hex2 := Hex
      by_cases h0 : k = 0
      · subst h0
        have Hl0 := hid (show l = [] from List.length_eq_zero_iff.1 HL.out)
        rcases A with _ | ad
        all_goals
          by_cases hc0 : c = 0
          · as_aux_lemma =>
              subst hc0
              go_wp2_with (
                first
                | (
                 at_builtin
                 refine wpList_append_lies _ rfl _ _ 22 rfl w.heap.size 3 i1 _ 1 8 Tryz.underlying22 Hi.out Hz0.out Hz1.out Hz2.out rfl (by decide) _ 0 [] rfl (HO.out.alloc _) ⟨w.heap.size + 1, 0, none⟩ 1 1 [Value.int .i64 v] rfl rfl (int_new1 w (.cells #[] 3) v 3) (one_int1 _) (by omega) (by unfold maxLen; omega) (by omega) (by rw [World.size_alloc]; have := (HB1.out).size; omega) _ rfl ?_
                 intro g5 cap5 w5 hown5 hgr5 hat5 hlt5
                 try rw [Nat.zero_add] at hown5
                 try rw [List.nil_append] at hown5
                 have HB5 := hid (own_step ((HB1.out).alloc (HB1.out).size (.cells #[Value.int .i64 v] 3)) (HO.out.alloc _) hgr5)
                 have H5 := hid hown5
                 have hcp5 := own_capn hown5
                 clear hown5 hgr5 hat5 hlt5))
              go_ret
              exact RetRow.own Hex.out (by rw [Hr.out, Hl0.out]; have := H5.out; simpa [ints] using this) (by rw [Hr.out, Hl0.out]; rfl) (by omega) HB5.out
          · as_aux_lemma =>
              have hcp : 0 < c := by omega
              go_wp2_with (
                first
                | (
                 at_builtin
                 refine wpList_append_lies _ rfl _ _ 22 rfl w.heap.size 3 i1 _ 1 8 Tryz.underlying22 Hi.out Hz0.out Hz1.out Hz2.out rfl (by decide) _ 0 [] rfl (HO.out.alloc _) ⟨w.heap.size + 1, 0, none⟩ 1 1 [Value.int .i64 v] rfl rfl (int_new1 w (.cells #[] 3) v 3) (one_int1 _) (by omega) (by unfold maxLen; omega) (by omega) (by rw [World.size_alloc]; have := (HB1.out).size; omega) _ rfl ?_
                 intro g5 cap5 w5 hown5 hgr5 hat5 hlt5
                 try rw [Nat.zero_add] at hown5
                 try rw [List.nil_append] at hown5
                 have HB5 := hid (own_step ((HB1.out).alloc (HB1.out).size (.cells #[Value.int .i64 v] 3)) (HO.out.alloc _) hgr5)
                 have H5 := hid hown5
                 have hcp5 := own_capn hown5
                 clear hown5 hgr5 hat5 hlt5))
              go_ret
              exact RetRow.own Hex.out (by rw [Hr.out, Hl0.out]; have := H5.out; simpa [ints] using this) (by rw [Hr.out, Hl0.out]; rfl) (by omega) HB5.out
      · obtain ⟨ad, rfl, had, hc⟩ : ∃ ad, A = some ad ∧ Safe w ex ad.block ∧ ∀ j u, (ints l)[j]? = some u → w.cell? (ad.add j) = some u := by
          rcases HX.out.lies with h | h
          · have h := congrArg List.length h; simp [ints] at h; have := HL.out; rw [h] at this; simp at this; omega
          · exact h
        have Htk := hid (show (ints l).length = k * 1 by unfold ints; rw [List.length_map, HL.out]; omega)
        have Htc := hid (fun (u : World) (hb : Below w.heap.size w u) (j : Nat) (z : Value) (hj : (ints l)[j]? = some z) => show u.cell? (ad.add j) = some z from (hb.cell (p := ad.add j) (by rw [add_block]; exact had.1)).trans (hc j z hj))
        clear hc had
        by_cases hkc : k = c
        · as_aux_lemma =>
            subst hkc
            go_wp2_with (
              first
              | (
               at_builtin
               refine wpList_append_lies _ rfl _ _ 22 rfl w.heap.size 3 i1 _ 1 8 Tryz.underlying22 Hi.out Hz0.out Hz1.out Hz2.out rfl (by decide) _ 0 [] rfl HO.out ad k k (ints l) rfl Htk.out (Htc.out _ HB1.out) (one_ints _) (by omega) (by unfold maxLen; omega) (by omega) (HB1.out).size _ rfl ?_
               intro g3 cap3 w3 hown3 hgr3 hat3 hlt3
               try rw [Nat.zero_add] at hown3
               try rw [List.nil_append] at hown3
               have HB3 := hid (own_step (HB1.out) HO.out hgr3)
               have H3 := hid hown3
               clear hown3 hgr3 hat3 hlt3
               clear HO)
              | (
               at_builtin
               refine wpList_append_lies _ rfl _ _ 22 rfl w.heap.size 3 i1 _ 1 8 Tryz.underlying22 Hi.out Hz0.out Hz1.out Hz2.out rfl (by decide) _ k (ints l) rfl (H3.out.alloc _) ⟨(w3).heap.size, 0, none⟩ 1 1 [Value.int .i64 v] rfl rfl (int_new (w3) v 3) (one_int1 _) (by omega) (by unfold maxLen; omega) (by omega) (by rw [World.size_alloc]; have := (HB3.out).size; omega) _ rfl ?_
               intro g5 cap5 w5 hown5 hgr5 hat5 hlt5
               try rw [Nat.zero_add] at hown5
               try rw [List.nil_append] at hown5
               have HB5 := hid (own_step ((HB3.out).alloc (HB3.out).size (.cells #[Value.int .i64 v] 3)) (H3.out.alloc _) hgr5)
               have H5 := hid hown5
               have hcp5 := own_capn hown5
               clear hown5 hgr5 hat5 hlt5
               clear H3))
            go_ret
            exact RetRow.own Hex.out (by rw [Hr.out]; have := H5.out; simpa [ints] using this) (by rw [Hr.out]; have := Hlen.out; omega) (by omega) HB5.out
        · as_aux_lemma =>
            have hkc2 : k < c := by omega
            go_wp2_with (
              first
              | (
               at_builtin
               refine wpList_append_lies _ rfl _ _ 22 rfl w.heap.size 3 i1 _ 1 8 Tryz.underlying22 Hi.out Hz0.out Hz1.out Hz2.out rfl (by decide) _ 0 [] rfl HO.out ad k c (ints l) rfl Htk.out (Htc.out _ HB1.out) (one_ints _) (by omega) (by unfold maxLen; omega) (by omega) (HB1.out).size _ rfl ?_
               intro g3 cap3 w3 hown3 hgr3 hat3 hlt3
               try rw [Nat.zero_add] at hown3
               try rw [List.nil_append] at hown3
               have HB3 := hid (own_step (HB1.out) HO.out hgr3)
               have H3 := hid hown3
               clear hown3 hgr3 hat3 hlt3
               clear HO)
              | (
               at_builtin
               refine wpList_append_lies _ rfl _ _ 22 rfl w.heap.size 3 i1 _ 1 8 Tryz.underlying22 Hi.out Hz0.out Hz1.out Hz2.out rfl (by decide) _ k (ints l) rfl (H3.out.alloc _) ⟨(w3).heap.size, 0, none⟩ 1 1 [Value.int .i64 v] rfl rfl (int_new (w3) v 3) (one_int1 _) (by omega) (by unfold maxLen; omega) (by omega) (by rw [World.size_alloc]; have := (HB3.out).size; omega) _ rfl ?_
               intro g5 cap5 w5 hown5 hgr5 hat5 hlt5
               try rw [Nat.zero_add] at hown5
               try rw [List.nil_append] at hown5
               have HB5 := hid (own_step ((HB3.out).alloc (HB3.out).size (.cells #[Value.int .i64 v] 3)) (H3.out.alloc _) hgr5)
               have H5 := hid hown5
               have hcp5 := own_capn hown5
               clear hown5 hgr5 hat5 hlt5
               clear H3))
            go_ret
            exact RetRow.own Hex.out (by rw [Hr.out]; have := H5.out; simpa [ints] using this) (by rw [Hr.out]; have := Hlen.out; omega) (by omega) HB5.out
end Go.Proofs.YtfapgnbnfhpicaaGreatDoor

namespace Go.Proofs.YtfapgnbnfhpicaaGreatDoor
set_option linter.unusedVariables false

theorem rw0_set_self {S : List (List Int)} {a : Nat} {l : List Int} (h : a < S.length) : rw0 (S.set a l) a = l :=
  rw0_at (by rw [List.getElem?_set_self h])
theorem rw0_set_ne {S : List (List Int)} {a b : Nat} {l : List Int} (h : a ≠ b) : rw0 (S.set a l) b = rw0 S b := by
  unfold rw0; rw [List.getD_eq_getElem?_getD, List.getD_eq_getElem?_getD, List.getElem?_set_ne h]
theorem ris_set {N : Nat} {S : List (List Int)} {a : Nat} {l : List Int} (h : ∀ l ∈ S, RisP N l) (hl : RisP N l) : ∀ m ∈ S.set a l, RisP N m := by
  intro m hm
  rcases List.mem_or_eq_of_mem_set hm with h1 | rfl
  · exact h m h1
  · exact hl
theorem tot_few {N : Nat} {S : List (List Int)} (hl : S.length = N) (h : ∀ l ∈ S, RisP N l) (hN : N ≤ 30) : tot S ≤ 1024 := by
  have h1 := tot_le (S := S) (N := N) (fun l hm => ris_len (h l hm))
  rw [hl] at h1
  have h2 : N * N ≤ 30 * 30 := Nat.mul_le_mul hN hN
  omega
theorem ValG.none {N : Nat} (h1 : 1 ≤ N) (h2 : N ≤ 30) : ValG N (List.replicate N []) (List.replicate N []) := by
  have hr : ∀ l ∈ List.replicate N ([] : List Int), RisP N l := by
    intro l hl
    obtain ⟨-, rfl⟩ := List.mem_replicate.1 hl
    exact ⟨.nil, fun x hx => by cases hx⟩
  have hz : ∀ a, rw0 (List.replicate N ([] : List Int)) a = [] := by
    intro a
    unfold rw0
    rw [List.getD_eq_getElem?_getD, List.getElem?_replicate]
    split <;> rfl
  refine ValG.mk2 h1 (by omega) (by simp) (by simp) hr hr (tot_few (by simp) hr h2) fun a b _ _ => ?_
  rw [hz, hz]
  simp
theorem ValG.put {N : Nat} {S P : List (List Int)} (h : ValG N S P) (hN : N ≤ 30) {a b : Nat} (ha : a < N) (hb : b < N) :
    ValG N (S.set a (insI (rw0 S a) b)) (P.set b (insI (rw0 P b) a)) := by
  have hS : ∀ l ∈ S.set a (insI (rw0 S a) b), RisP N l := ris_set h.ris (insI_ris (rw0_ris h.ris a) (by omega) (by omega))
  have hP : ∀ l ∈ P.set b (insI (rw0 P b) a), RisP N l := ris_set h.pris (insI_ris (rw0_ris h.pris b) (by omega) (by omega))
  refine ValG.mk2 h.some h.few (by rw [List.length_set]; exact h.slen) (by rw [List.length_set]; exact h.plen) hS hP (tot_few (by rw [List.length_set]; exact h.slen) hS hN) fun x y hx hy => ?_
  have hi := h.iff hx hy
  have la : a < S.length := by rw [h.slen]; exact ha
  have lb : b < P.length := by rw [h.plen]; exact hb
  by_cases e1 : a = x
  · subst e1
    rw [rw0_set_self la, mem_insI]
    by_cases e2 : b = y
    · subst e2
      rw [rw0_set_self lb, mem_insI]
      simp
    · rw [rw0_set_ne e2, ← hi]
      constructor
      · rintro (h1 | h1)
        · omega
        · exact h1
      · exact .inr
  · rw [rw0_set_ne e1]
    by_cases e2 : b = y
    · subst e2
      rw [rw0_set_self lb, mem_insI, hi]
      constructor
      · exact .inr
      · rintro (h1 | h1)
        · omega
        · exact h1
    · rw [rw0_set_ne e2]
      exact hi
end Go.Proofs.YtfapgnbnfhpicaaGreatDoor

namespace Go.Proofs.YtfapgnbnfhpicaaGreatDoor
set_option maxRecDepth 20000
set_option linter.unusedVariables false
set_option linter.unusedSimpArgs false
open Go.ChangeShapes Go.WideShapes Go.ChangeAt Go.RowKit
def nd0 : Nd := ⟨0, 0, 0, 0⟩
theorem zero_cells (n : Nat) : (List.replicate n nd0).flatMap ndc = List.replicate (n * 4) (Value.int .i64 0) := by
  induction n with
  | zero => rfl
  | succ n ih =>
    rw [List.replicate_succ, List.flatMap_cons, ih, show (n + 1) * 4 = 4 + n * 4 by omega, ← List.replicate_append_replicate]
    rfl
theorem made_nodes (n : Nat) : madeCells (Value.agg #[.int .i64 0, .int .i64 0, .int .i64 0, .int .i64 0]).cells (n * 4) = Array.replicate (n * 4) (Value.int .i64 0) := by
  rw [show (Value.agg #[.int .i64 0, .int .i64 0, .int .i64 0, .int .i64 0]).cells = #[Value.int .i64 0, .int .i64 0, .int .i64 0, .int .i64 0] from rfl]
  unfold madeCells
  apply Array.ext
  · rw [Array.size_map, Array.size_range, Array.size_replicate]
  · intro j h1 h2
    rw [Array.getElem_replicate]
    rw [Array.getElem_map, Array.getElem_range]
    show (#[Value.int .i64 0, .int .i64 0, .int .i64 0, .int .i64 0] : Array Value)[j % 4]! = _
    have h4 : j % 4 < 4 := Nat.mod_lt _ (by decide)
    generalize j % 4 = i at h4
    match i, h4 with
    | 0, _ => rfl
    | 1, _ => rfl
    | 2, _ => rfl
    | 3, _ => rfl
theorem run_mknodes (n : Nat) (hn : n ≤ 100000) (w : World) :
    (Instr.makeSlice 25 (.int .i64 (n : Int)) (.int .i64 (n : Int))).run Tryz.prog w = .ok (.slice (some ⟨w.heap.size, 0, none⟩) n n) (w.alloc (.cells (Array.replicate (n * 4) (Value.int .i64 0)) 75)) := by
  obtain ⟨i, hi, hz0, hz1, hz2⟩ := info_parts info50
  have h := run_make (P := Tryz.prog) w 25 75 i (.agg #[.int .i64 0, .int .i64 0, .int .i64 0, .int .i64 0]) Tryz.underlying25 hi hz0 .i64 .i64 n n (by omega) (by omega) (by rw [hz2]; omega) (by omega)
  rw [h, hz1]
  simp only [Int.toNat_natCast]
  rw [made_nodes]
end Go.Proofs.YtfapgnbnfhpicaaGreatDoor

namespace Go.Proofs.YtfapgnbnfhpicaaGreatDoor
set_option maxRecDepth 20000
set_option linter.unusedVariables false
set_option linter.unusedSimpArgs false
open Go.ChangeShapes Go.WideShapes Go.ChangeAt Go.RowKit

def exG (X : List (Option Nat)) (T b c : Nat) : List (Option Nat) := some T :: some b :: some c :: X
/-- The box d of the three rows a, b, c; the lists that b and c hold. -/
structure Gg (w0 w : World) (X : List (Option Nat)) (T N d a b c : Nat) (xs ps : List RH) (v : World) : Prop where
  go : Going w0 T v
  gr : w.grownBy v (some T)
  box : Fb v d #[.slice (some ⟨a, 0, none⟩) N N, .slice (some ⟨b, 0, none⟩) N N, .slice (some ⟨c, 0, none⟩) N N] 28
  na : Fb v a (Array.replicate (N * 4) (.int .i64 0)) 75
  sb : Fb v b (xs.map RH.v).toArray 22
  pc : Fb v c (ps.map RH.v).toArray 22
  xl : xs.length = N
  pl : ps.length = N
  xr : ∀ y ∈ xs, RHok v (exG X T b c) y ∧ y.n ≤ y.c
  pr : ∀ y ∈ ps, RHok v (exG X T b c) y ∧ y.n ≤ y.c
  rs : Fb v w.heap.size #[.slice none 0 0, .slice none 0 0, .slice none 0 0] 28
  lo : w.heap.size < a ∧ w.heap.size < b ∧ w.heap.size < c ∧ w.heap.size < d
  ne : a ≠ b ∧ a ≠ c ∧ a ≠ d ∧ b ≠ c ∧ b ≠ d ∧ c ≠ d
  tl : T < w.heap.size
section
variable {w0 w v v' : World} {X : List (Option Nat)} {T N d a b c : Nat} {xs ps : List RH}
theorem Gg.step (h : Gg w0 w X T N d a b c xs ps v) (ht : Going w0 T v') (hg : v.grownBy v' (some T)) : Gg w0 w X T N d a b c xs ps v' := by
  have h1 := h.lo
  have h2 := h.tl
  refine ⟨ht, grown_two h.gr hg, h.box.grown hg (by intro e; injection e with e; omega), h.na.grown hg (by intro e; injection e with e; omega), h.sb.grown hg (by intro e; injection e with e; omega), h.pc.grown hg (by intro e; injection e with e; omega), h.xl, h.pl, fun y hy => ⟨(h.xr y hy).1.go (Go2.same hg (.inr (by simp [exG]))), (h.xr y hy).2⟩, fun y hy => ⟨(h.pr y hy).1.go (Go2.same hg (.inr (by simp [exG]))), (h.pr y hy).2⟩, h.rs.grown hg (by intro e; injection e with e; omega), h.lo, h.ne, h.tl⟩
theorem Gg.below (h : Gg w0 w X T N d a b c xs ps v) (hb : Below v.heap.size v v') : Gg w0 w X T N d a b c xs ps v' := h.step (h.go.below hb) (grown_of_below hb _)
theorem Gg.hex (h : Gg w0 w X T N d a b c xs ps v) (hX : ∀ k, some k ∈ X → k ≤ w.heap.size) : ∀ k, some k ∈ exG X T b c → k < v.heap.size := by
  intro k hk
  unfold exG at hk
  have h1 := h.go.1.lt
  have h2 := h.sb.lt
  have h3 := h.pc.lt
  have h4 := h.rs.lt
  simp only [List.mem_cons, Option.some.injEq] at hk
  rcases hk with rfl | rfl | rfl | hk
  · exact h1
  · exact h2
  · exact h3
  · have := hX k hk; omega
theorem Gg.setS (h : Gg w0 w X T N d a b c xs ps v) (i : Nat) {y : RH} (hy : RHok v (exG X T b c) y) (hc : y.n ≤ y.c) : Gg w0 w X T N d a b c (xs.set i y) ps (v.setCell ⟨b, i, none⟩ y.v) := by
  have h1 := h.lo
  have h2 := h.tl
  have h3 := h.ne
  have h4 := h.go.2.2
  have hset := setCell_grown v ⟨b, i, none⟩ y.v
  have hmem : some b ∈ exG X T b c := by simp [exG]
  refine ⟨⟨h.go.1.keep fun k hk => Below.heap_setCell v _ _ k (by intro e; simp only at e; omega), h.go.2.1.setCell (p := ⟨b, i, none⟩) (by simp only; omega) _, h.go.2.2⟩, grown_set_new h.gr (show w.heap.size ≤ b by omega) _, h.box.grown hset (by intro e; injection e with e; simp only at e; omega), h.na.grown hset (by intro e; injection e with e; simp only at e; omega), ?_, h.pc.grown hset (by intro e; injection e with e; simp only at e; omega), by rw [List.length_set]; exact h.xl, h.pl, fun z hz => ?_, fun z hz => ⟨(h.pr z hz).1.go (Go2.same hset (.inr hmem)), (h.pr z hz).2⟩, h.rs.grown hset (by intro e; injection e with e; simp only at e; omega), h.lo, h.ne, h.tl⟩
  · have := h.sb.set i y.v
    simpa [List.map_set] using this
  · rcases List.mem_or_eq_of_mem_set hz with h5 | rfl
    · exact ⟨(h.xr z h5).1.go (Go2.same hset (.inr hmem)), (h.xr z h5).2⟩
    · exact ⟨hy.go (Go2.same hset (.inr hmem)), hc⟩
theorem Gg.setP (h : Gg w0 w X T N d a b c xs ps v) (i : Nat) {y : RH} (hy : RHok v (exG X T b c) y) (hc : y.n ≤ y.c) : Gg w0 w X T N d a b c xs (ps.set i y) (v.setCell ⟨c, i, none⟩ y.v) := by
  have h1 := h.lo
  have h2 := h.tl
  have h3 := h.ne
  have h4 := h.go.2.2
  have hset := setCell_grown v ⟨c, i, none⟩ y.v
  have hmem : some c ∈ exG X T b c := by simp [exG]
  refine ⟨⟨h.go.1.keep fun k hk => Below.heap_setCell v _ _ k (by intro e; simp only at e; omega), h.go.2.1.setCell (p := ⟨c, i, none⟩) (by simp only; omega) _, h.go.2.2⟩, grown_set_new h.gr (show w.heap.size ≤ c by omega) _, h.box.grown hset (by intro e; injection e with e; simp only at e; omega), h.na.grown hset (by intro e; injection e with e; simp only at e; omega), h.sb.grown hset (by intro e; injection e with e; simp only at e; omega), ?_, h.xl, by rw [List.length_set]; exact h.pl, fun z hz => ⟨(h.xr z hz).1.go (Go2.same hset (.inr hmem)), (h.xr z hz).2⟩, fun z hz => ?_, h.rs.grown hset (by intro e; injection e with e; simp only at e; omega), h.lo, h.ne, h.tl⟩
  · have := h.pc.set i y.v
    simpa [List.map_set] using this
  · rcases List.mem_or_eq_of_mem_set hz with h5 | rfl
    · exact ⟨(h.pr z h5).1.go (Go2.same hset (.inr hmem)), (h.pr z h5).2⟩
    · exact ⟨hy.go (Go2.same hset (.inr hmem)), hc⟩
theorem Gg.keepS (h : Gg w0 w X T N d a b c xs ps v) (i : Nat) {y : RH} (hy : RHok v (exG X T b c) y) (u : Value) : RHok (v.setCell ⟨b, i, none⟩ u) (exG X T b c) y :=
  hy.go (Go2.same (setCell_grown v ⟨b, i, none⟩ u) (.inr (by simp [exG])))
theorem Gg.keepP (h : Gg w0 w X T N d a b c xs ps v) (i : Nat) {y : RH} (hy : RHok v (exG X T b c) y) (u : Value) : RHok (v.setCell ⟨c, i, none⟩ u) (exG X T b c) y :=
  hy.go (Go2.same (setCell_grown v ⟨c, i, none⟩ u) (.inr (by simp [exG])))
theorem Gg.cellS (h : Gg w0 w X T N d a b c xs ps v) {i : Nat} {y : RH} (hi : xs[i]? = some y) : v.cell? ⟨b, i, none⟩ = some (.slice y.A y.n y.c) ∧ v.frozen? ⟨b, i, none⟩ = false := by
  refine ⟨?_, h.sb.frozen i⟩
  rw [h.sb.cell]
  simp [hi, RH.v]
theorem Gg.cellP (h : Gg w0 w X T N d a b c xs ps v) {i : Nat} {y : RH} (hi : ps[i]? = some y) : v.cell? ⟨c, i, none⟩ = some (.slice y.A y.n y.c) ∧ v.frozen? ⟨c, i, none⟩ = false := by
  refine ⟨?_, h.pc.frozen i⟩
  rw [h.pc.cell]
  simp [hi, RH.v]
/-- A valid graph came back, made by the tape. -/
def RetTg (w0 w : World) (X : List (Option Nat)) (T m : Nat) (e : Ending) (w' : World) : Prop :=
  ∃ x : GH, e = .returned x.a ∧ GHok w' X x ∧ ValG x.n x.S.v x.P.v ∧ x.S.n = x.n ∧ x.P.n = x.n ∧ x.n ≤ m + 1 ∧ Going w0 T w' ∧ w.grownBy w' (some T)
theorem Gg.done (h : Gg w0 w X T N d a b c xs ps v) (hX : ∀ k, some k ∈ X → k ≤ w.heap.size) (hN : N ≤ 1000) :
    GHok v X ⟨some ⟨a, 0, none⟩, N, N, List.replicate N nd0, ⟨some ⟨b, 0, none⟩, N, N, xs⟩, ⟨some ⟨c, 0, none⟩, N, N, ps⟩⟩ := by
  have h1 := h.lo
  have hsub : ∀ k, some k ∈ X → some k ∈ exG X T b c := fun k hk => by simp [exG, hk]
  refine ⟨EAt.fb h.na (fun hm => by have := hX a hm; omega) (fun j u hu => ?_), by simp, by show N ≤ _; omega, ⟨EAt.fb h.sb (fun hm => by have := hX b hm; omega) (fun j u hu => by simpa using hu), h.xl, by show N ≤ _; omega, fun y hy => (h.xr y hy).1.go (Go2.less v hsub)⟩, ⟨EAt.fb h.pc (fun hm => by have := hX c hm; omega) (fun j u hu => by simpa using hu), h.pl, by show N ≤ _; omega, fun y hy => (h.pr y hy).1.go (Go2.less v hsub)⟩⟩
  rw [zero_cells] at hu
  rw [← Array.getElem?_toList, Array.toList_replicate]
  exact hu
theorem Gg.ret (h : Gg w0 w (some w.heap.size :: X) T N d a b c xs ps v) (hX : ∀ k, some k ∈ X → k < w.heap.size) (hN : N ≤ 1000) (u0 u1 u2 : Value) :
    GHok (((v.setCell ⟨w.heap.size, 0, none⟩ u0).setCell ⟨w.heap.size, 1, none⟩ u1).setCell ⟨w.heap.size, 2, none⟩ u2) X ⟨some ⟨a, 0, none⟩, N, N, List.replicate N nd0, ⟨some ⟨b, 0, none⟩, N, N, xs⟩, ⟨some ⟨c, 0, none⟩, N, N, ps⟩⟩ ∧
    Going w0 T (((v.setCell ⟨w.heap.size, 0, none⟩ u0).setCell ⟨w.heap.size, 1, none⟩ u1).setCell ⟨w.heap.size, 2, none⟩ u2) ∧ w.grownBy (((v.setCell ⟨w.heap.size, 0, none⟩ u0).setCell ⟨w.heap.size, 1, none⟩ u1).setCell ⟨w.heap.size, 2, none⟩ u2) (some T) := by
  have hX2 : ∀ k, some k ∈ some w.heap.size :: X → k ≤ w.heap.size := fun k hk => by
    rcases List.mem_cons.1 hk with e | e
    · injection e with e; omega
    · have := hX k e; omega
  have hg : v.grownBy (((v.setCell ⟨w.heap.size, 0, none⟩ u0).setCell ⟨w.heap.size, 1, none⟩ u1).setCell ⟨w.heap.size, 2, none⟩ u2) (some w.heap.size) :=
    grown_two (grown_two (setCell_grown v ⟨w.heap.size, 0, none⟩ u0) (setCell_grown _ ⟨w.heap.size, 1, none⟩ u1)) (setCell_grown _ ⟨w.heap.size, 2, none⟩ u2)
  have h1 := h.tl
  have h2 := h.go.2.2
  have h3 := h.go.1.lt
  refine ⟨((h.done hX2 hN).go (Go2.same hg (.inr (by simp)))).go (Go2.less _ fun k hk => by simp [hk]), ⟨h.go.1.keep fun k hk => hg.block k (by omega) (by intro e; injection e with e; omega), h.go.2.1.grown hg h.go.2.1.size (fun k hk => by injection hk with hk; omega), h.go.2.2⟩, ?_⟩
  exact ⟨hg.os.trans h.gr.os, hg.tape.trans h.gr.tape, hg.output.trans h.gr.output, Nat.le_trans h.gr.size hg.size, fun i hi hne => (hg.block i (Nat.lt_of_lt_of_le hi h.gr.size) (by intro e; injection e with e; omega)).trans (h.gr.block i hi hne)⟩
end
end Go.Proofs.YtfapgnbnfhpicaaGreatDoor

namespace Go.Proofs.YtfapgnbnfhpicaaGreatDoor
set_option maxRecDepth 20000
set_option linter.unusedVariables false
set_option linter.unusedSimpArgs false
open Go.ChangeShapes Go.WideShapes Go.ChangeAt Go.RowKit
theorem fq0 (w : World) (o p q r : Array Value) (t t1 t2 t3 : Nat) : Fb ((((w.alloc (.cells o t)).alloc (.cells p t1)).alloc (.cells q t2)).alloc (.cells r t3)).drew w.heap.size o t := (((Fb.new w o t).alloc _).alloc _).alloc _
theorem fq1 (w : World) (o p q r : Array Value) (t t1 t2 t3 : Nat) : Fb ((((w.alloc (.cells o t1)).alloc (.cells p t)).alloc (.cells q t2)).alloc (.cells r t3)).drew (w.heap.size + 1) p t := by
  have h := Fb.new (w.alloc (.cells o t1)) p t
  rw [World.size_alloc] at h
  exact (h.alloc (.cells q t2)).alloc (.cells r t3)
theorem fq2 (w : World) (o p q r : Array Value) (t t1 t2 t3 : Nat) : Fb ((((w.alloc (.cells o t1)).alloc (.cells p t2)).alloc (.cells q t)).alloc (.cells r t3)).drew (w.heap.size + 1 + 1) q t := by
  have h := Fb.new ((w.alloc (.cells o t1)).alloc (.cells p t2)) q t
  rw [World.size_alloc, World.size_alloc] at h
  exact h.alloc (.cells r t3)
theorem fq3 (w : World) (o p q r : Array Value) (t t1 t2 t3 : Nat) : Fb ((((w.alloc (.cells o t1)).alloc (.cells p t2)).alloc (.cells q t3)).alloc (.cells r t)).drew (w.heap.size + 1 + 1 + 1) r t := by
  have h := Fb.new (((w.alloc (.cells o t1)).alloc (.cells p t2)).alloc (.cells q t3)) r t
  rw [World.size_alloc, World.size_alloc, World.size_alloc] at h
  exact h
theorem bq (w : World) (o p q r : Obj) : Below w.heap.size w ((((w.alloc o).alloc p).alloc q).alloc r).drew :=
  ((((((Below.refl w.heap.size w).alloc (Nat.le_refl _) o).alloc (by simp only [World.size_alloc]; omega) p).alloc (by simp only [World.size_alloc]; omega) q).alloc (by simp only [World.size_alloc]; omega) r)).drew
/-- Three new rows and a box of them. -/
structure Gr4 (w : World) (N d a b c : Nat) (v : World) : Prop where
  box : Fb v d #[.slice (some ⟨a, 0, none⟩) N N, .slice (some ⟨b, 0, none⟩) N N, .slice (some ⟨c, 0, none⟩) N N] 28
  na : Fb v a (Array.replicate (N * 4) (.int .i64 0)) 75
  sb : Fb v b (Array.replicate N (.slice none 0 0)) 22
  pc : Fb v c (Array.replicate N (.slice none 0 0)) 22
  bel : Below w.heap.size w v
  lo : w.heap.size ≤ a ∧ w.heap.size ≤ b ∧ w.heap.size ≤ c ∧ w.heap.size ≤ d
  ne : a ≠ b ∧ a ≠ c ∧ a ≠ d ∧ b ≠ c ∧ b ≠ d ∧ c ≠ d
def rh0 : RH := ⟨none, 0, 0, []⟩
theorem Gr4.start {w0 w1 w v : World} {X : List (Option Nat)} {T N d a b c : Nat} (h : Gr4 w N d a b c v) (hgo : Going w0 T w) (hg : w1.grownBy w (some T)) (ht : T < w1.heap.size) (hrs : Fb w w1.heap.size #[.slice none 0 0, .slice none 0 0, .slice none 0 0] 28) :
    Gg w0 w1 X T N d a b c (List.replicate N rh0) (List.replicate N rh0) v := by
  have h1 := h.lo
  have h2 := hg.size
  have hr : ∀ y ∈ List.replicate N rh0, RHok v (exG X T b c) y ∧ y.n ≤ y.c := fun y hy => by
    obtain ⟨-, rfl⟩ := List.mem_replicate.1 hy
    exact ⟨⟨EAt.nil _ _ _, rfl, Nat.zero_le _⟩, Nat.le_refl _⟩
  have he : ((List.replicate N rh0).map RH.v).toArray = Array.replicate N (Value.slice none 0 0) := by simp [rh0, RH.v]
  exact ⟨hgo.below h.bel, grown_two hg (grown_of_below h.bel _), h.box, h.na, by rw [he]; exact h.sb, by rw [he]; exact h.pc, by simp, by simp, hr, hr, hrs.below h.bel hrs.lt, by have := hrs.lt; omega, h.ne, ht⟩
set_option maxHeartbeats 6400000 in
theorem tgraph_any (X : List (Option Nat)) (w0 : World) (T : Nat) (m : Nat) (w : World) (h : Going w0 T w) (hX : ∀ k, some k ∈ X → k < w.heap.size) (hm : m ≤ 20) :
    Calls Tryz.prog 8 #[.pointer (some ⟨T, 0, none⟩), .int .i64 m] w (RetTg w0 w X T m) := by
  have H1 := hid (h.alloc (.cells #[.slice none 0 0, .slice none 0 0, .slice none 0 0] 28))
  have hga := grown_of_below ((Below.refl w.heap.size w).alloc (Nat.le_refl _) (.cells #[.slice none 0 0, .slice none 0 0, .slice none 0 0] 28)) (some T)
  have HGa := hid hga
  have Hlt := hid h.1.lt
  have HBx := hid (Fb.new w #[.slice none 0 0, .slice none 0 0, .slice none 0 0] 28)
  have HX := hid (show ∀ k, some k ∈ some w.heap.size :: X → k ≤ w.heap.size from fun k hk => by
    rcases List.mem_cons.1 hk with e | e
    · injection e with e; omega
    · have := hX k e; omega)
  have HX2 := hid hX
  clear h hga hX
  go_enter Tryz.func8, Tryz.ntmps8
  go_wp2_with fail
  refine (next_any T m _ H1.out.1 (by omega)).mono ?_
  rintro e w3 ⟨r, rfl, hr0, hr1, ht, hg, -⟩
  have H3 := hid (H1.out.step ht hg)
  have HGr := hid (grown_two HGa.out hg)
  have HBx3 := hid (HBx.out.grown hg (by have := Hlt.out; intro e; injection e with e; omega))
  clear ht hg H1 HGa HBx
  obtain ⟨N, hN⟩ : ∃ N : Nat, (1 : Int) + r = (N : Int) := ⟨(1 + r).toNat, by omega⟩
  have hN1 : 1 ≤ N := by omega
  have hN2 : N ≤ 21 := by omega
  go_wp2_with fail
  have hmr := run_mkrows N (by omega)
  have hmn := run_mknodes N (by omega)
  go_cut [5] (fun x wc => ∃ d a b c : Nat, x = .pointer (some ⟨d, 0, none⟩) ∧ Hid (Gr4 w3 N d a b c wc))
  case first =>
    go_region_law (fail)
    all_goals
      go_wp2_with fail
      go_meet
      first
      | exact ⟨_, _, _, _, rfl, hid ⟨fq3 .., fq0 .., fq1 .., fq2 .., bq .., by omega, by omega⟩⟩
      | exact ⟨_, _, _, _, rfl, hid ⟨fq3 .., fq0 .., fq2 .., fq1 .., bq .., by omega, by omega⟩⟩
      | exact ⟨_, _, _, _, rfl, hid ⟨fq3 .., fq1 .., fq0 .., fq2 .., bq .., by omega, by omega⟩⟩
      | exact ⟨_, _, _, _, rfl, hid ⟨fq3 .., fq1 .., fq2 .., fq0 .., bq .., by omega, by omega⟩⟩
      | exact ⟨_, _, _, _, rfl, hid ⟨fq3 .., fq2 .., fq0 .., fq1 .., bq .., by omega, by omega⟩⟩
      | exact ⟨_, _, _, _, rfl, hid ⟨fq3 .., fq2 .., fq1 .., fq0 .., bq .., by omega, by omega⟩⟩
      | exact ⟨_, _, _, _, rfl, hid ⟨fq2 .., fq0 .., fq1 .., fq3 .., bq .., by omega, by omega⟩⟩
      | exact ⟨_, _, _, _, rfl, hid ⟨fq2 .., fq0 .., fq3 .., fq1 .., bq .., by omega, by omega⟩⟩
      | exact ⟨_, _, _, _, rfl, hid ⟨fq2 .., fq1 .., fq0 .., fq3 .., bq .., by omega, by omega⟩⟩
      | exact ⟨_, _, _, _, rfl, hid ⟨fq2 .., fq1 .., fq3 .., fq0 .., bq .., by omega, by omega⟩⟩
      | exact ⟨_, _, _, _, rfl, hid ⟨fq2 .., fq3 .., fq0 .., fq1 .., bq .., by omega, by omega⟩⟩
      | exact ⟨_, _, _, _, rfl, hid ⟨fq2 .., fq3 .., fq1 .., fq0 .., bq .., by omega, by omega⟩⟩
      | exact ⟨_, _, _, _, rfl, hid ⟨fq1 .., fq0 .., fq2 .., fq3 .., bq .., by omega, by omega⟩⟩
      | exact ⟨_, _, _, _, rfl, hid ⟨fq1 .., fq0 .., fq3 .., fq2 .., bq .., by omega, by omega⟩⟩
      | exact ⟨_, _, _, _, rfl, hid ⟨fq1 .., fq2 .., fq0 .., fq3 .., bq .., by omega, by omega⟩⟩
      | exact ⟨_, _, _, _, rfl, hid ⟨fq1 .., fq2 .., fq3 .., fq0 .., bq .., by omega, by omega⟩⟩
      | exact ⟨_, _, _, _, rfl, hid ⟨fq1 .., fq3 .., fq0 .., fq2 .., bq .., by omega, by omega⟩⟩
      | exact ⟨_, _, _, _, rfl, hid ⟨fq1 .., fq3 .., fq2 .., fq0 .., bq .., by omega, by omega⟩⟩
      | exact ⟨_, _, _, _, rfl, hid ⟨fq0 .., fq1 .., fq2 .., fq3 .., bq .., by omega, by omega⟩⟩
      | exact ⟨_, _, _, _, rfl, hid ⟨fq0 .., fq1 .., fq3 .., fq2 .., bq .., by omega, by omega⟩⟩
      | exact ⟨_, _, _, _, rfl, hid ⟨fq0 .., fq2 .., fq1 .., fq3 .., bq .., by omega, by omega⟩⟩
      | exact ⟨_, _, _, _, rfl, hid ⟨fq0 .., fq2 .., fq3 .., fq1 .., bq .., by omega, by omega⟩⟩
      | exact ⟨_, _, _, _, rfl, hid ⟨fq0 .., fq3 .., fq1 .., fq2 .., bq .., by omega, by omega⟩⟩
      | exact ⟨_, _, _, _, rfl, hid ⟨fq0 .., fq3 .., fq2 .., fq1 .., bq .., by omega, by omega⟩⟩
  case rest =>
    clear hmr hmn
    obtain ⟨d, a, b, c, rfl, HZ⟩ := hcut
    have HG := hid (HZ.out.start (X := some w.heap.size :: X) H3.out HGr.out Hlt.out HBx3.out)
    have HV := hid (show ValG N ((List.replicate N rh0).map RH.l) ((List.replicate N rh0).map RH.l) by have := ValG.none hN1 (show N ≤ 30 by omega); simpa [rh0] using this)
    clear HZ H3 HGr HBx3
    generalize List.replicate N rh0 = xs0 at HG HV
    go_wp2_with fail
    refine (next_any T (2 * (N : Int) + 1) _ HG.out.go.1 (by omega)).mono ?_
    rintro e w5 ⟨q, rfl, hq0, hq1, ht, hg, -⟩
    have HG5 := hid (HG.out.step (HG.out.go.step ht hg) hg)
    clear ht hg HG
    obtain ⟨K0, hK0⟩ : ∃ K0 : Nat, q = (K0 : Int) := ⟨q.toNat, by omega⟩
    subst hK0
    have HSc := hid (fun (xs ps : List RH) (v : World) (h : Gg w0 w (some w.heap.size :: X) T N d a b c xs ps v) => show v.cell? ⟨d, 1, none⟩ = some (.slice (some ⟨b, 0, none⟩) N N) ∧ v.cell? ⟨d, 2, none⟩ = some (.slice (some ⟨c, 0, none⟩) N N) from h.box.thr.2)
    go_wp2_with fail
    go_loopw [6, 7, 8] (fun iv _ _ wr => ∃ (k : Nat) (xs ps : List RH), k ≤ K0 ∧ iv = .int .i64 k ∧ Hid (Gg w0 w (some w.heap.size :: X) T N d a b c xs ps wr) ∧ Hid (ValG N (xs.map RH.l) (ps.map RH.l))) (fun iv _ _ _ => (intOf iv).toNat)
    case atStart => exact ⟨K0, xs0, xs0, by omega, rfl, HG5, HV⟩
    case round =>
      clear HG5 HV
      obtain ⟨k, xs, ps, hk, rfl, hGb, hV⟩ := hrel
      by_cases h0 : 0 < k
      · have HC := hid hGb.out
        clear hGb
        go_wp2_with fail
        refine (next_any T (N : Int) _ HC.out.go.1 (by omega)).mono ?_
        rintro e wa ⟨qa, rfl, ha0, ha1, ht, hg, -⟩
        have HC := hid (HC.out.step (HC.out.go.step ht hg) hg)
        clear ht hg
        go_wp2_with fail
        refine (next_any T (N : Int) _ HC.out.go.1 (by omega)).mono ?_
        rintro e wb ⟨qb, rfl, hb0, hb1, ht, hg, -⟩
        have HC := hid (HC.out.step (HC.out.go.step ht hg) hg)
        clear ht hg
        obtain ⟨a0, rfl⟩ : ∃ a0 : Nat, qa = (a0 : Int) := ⟨qa.toNat, by omega⟩
        obtain ⟨b0, rfl⟩ : ∃ b0 : Nat, qb = (b0 : Int) := ⟨qb.toNat, by omega⟩
        have haN : a0 < N := by omega
        have hbN : b0 < N := by omega
        obtain ⟨xa, hxa, hxm⟩ := get_at HC.out.xl haN
        obtain ⟨pb, hpb, hpm⟩ := get_at HC.out.pl hbN
        have hxl : (xs.map RH.l)[a0]? = some xa.l := by rw [List.getElem?_map, hxa]; rfl
        have hpl : (ps.map RH.l)[b0]? = some pb.l := by rw [List.getElem?_map, hpb]; rfl
        have hxn : xa.n ≤ N := by have h1 := (HC.out.xr xa hxm).1.len; have h2 := ris_len (hV.out.ris _ (List.mem_of_getElem? hxl)); omega
        have hpn : pb.n ≤ N := by have h1 := (HC.out.pr pb hpm).1.len; have h2 := ris_len (hV.out.pris _ (List.mem_of_getElem? hpl)); omega
        have HI1 := hid (fun (ps : List RH) (v : World) (h : Gg w0 w (some w.heap.size :: X) T N d a b c xs ps v) => insert_any xa (b0 : Int) (exG (some w.heap.size :: X) T b c) v (h.xr xa hxm).1 (h.xr xa hxm).2 (by omega) (h.hex HX.out))
        have HI2 := hid (fun (xs : List RH) (v : World) (h : Gg w0 w (some w.heap.size :: X) T N d a b c xs ps v) => insert_any pb (a0 : Int) (exG (some w.heap.size :: X) T b c) v (h.pr pb hpm).1 (h.pr pb hpm).2 (by omega) (h.hex HX.out))
        have HR1 := hid (fun (ps : List RH) (v : World) (h : Gg w0 w (some w.heap.size :: X) T N d a b c xs ps v) => h.cellS hxa)
        have HR2 := hid (fun (xs : List RH) (v : World) (h : Gg w0 w (some w.heap.size :: X) T N d a b c xs ps v) => h.cellP hpb)
        have HVl := hid (fun (y1 y2 : RH) (h1 : y1.l = insI xa.l b0) (h2 : y2.l = insI pb.l a0) => show ValG N ((xs.set a0 y1).map RH.l) ((ps.set b0 y2).map RH.l) by
          rw [List.map_set, List.map_set, h1, h2]
          have := hV.out.put (by omega) haN hbN
          rw [rw0_at hxl, rw0_at hpl] at this
          exact this)
        have HHy := hid (And.intro (And.intro ha0 ha1) (And.intro hb0 hb1))
        clear hxa hxm hpb hpm hxl hpl hxn hpn hV ha0 ha1 hb0 hb1
        obtain ⟨xA, xn, xc, xl⟩ := xa
        obtain ⟨pA, pn, pc, pl⟩ := pb
        simp only at *
        go_wp2_with fail
        refine wp_region_noPanic ?_
        have HC := hid (HC.out.below (Below.refl _ _).drew)
        refine wp_region_held_drew (S := (fun v => v.cell? ⟨d, 1, none⟩ = some (.slice (some ⟨b, 0, none⟩) N N) ∧ v.cell? ⟨d, 2, none⟩ = some (.slice (some ⟨c, 0, none⟩) N N))) (by kernel_rfl) (HSc.out _ _ _ HC.out) (fun hHeld => ?_)
        refine wpAnyH_take (i := 0) (oi := _) (v := ?_) rfl (by kernel_rfl) (by kernel_rfl) (by kernel_rfl) (fun _ _ _ h => h) (Or.inl ⟨by rfl, ?_⟩) (by assumption) ?_
        rotate_left
        · (intro w hSw; (try dsimp only at hSw); go_simp; try with_reducible rfl)
        try simp only [Act.put, List.setIfInBounds_toArray, List.set_cons_zero, List.set_cons_succ]
        refine wpAnyH_take (i := 1) (oi := _) (v := ?_) rfl (by kernel_rfl) (by kernel_rfl) (by kernel_rfl) (fun _ _ _ h => h) (Or.inl ⟨by rfl, ?_⟩) (by assumption) ?_
        rotate_left
        · (intro w hSw; (try dsimp only at hSw); go_simp; try with_reducible rfl)
        try simp only [Act.put, List.setIfInBounds_toArray, List.set_cons_zero, List.set_cons_succ]
        refine wpAnyH_take (i := 2) (oi := _) (v := ?_) rfl (by kernel_rfl) (by kernel_rfl) (by kernel_rfl) (fun _ _ _ h => h) (Or.inl ⟨by rfl, ?_⟩) (by assumption) ?_
        rotate_left
        · (intro w hSw; (try dsimp only at hSw); go_simp; try with_reducible rfl)
        try simp only [Act.put, List.setIfInBounds_toArray, List.set_cons_zero, List.set_cons_succ]
        refine wpAnyH_take (i := 3) (oi := _) (v := ?_) rfl (by kernel_rfl) (by kernel_rfl) (by kernel_rfl) (fun _ _ _ h => h) (Or.inl ⟨by rfl, ?_⟩) (by assumption) ?_
        rotate_left
        · (intro w hSw; (try dsimp only at hSw); go_simp; try with_reducible rfl)
        try simp only [Act.put, List.setIfInBounds_toArray, List.set_cons_zero, List.set_cons_succ]
        refine wpAnyH_take (i := 4) (oi := _) (v := ?_) rfl (by kernel_rfl) (by kernel_rfl) (by kernel_rfl) (fun _ _ _ h => h) (Or.inl ⟨by rfl, ?_⟩) (by assumption) ?_
        rotate_left
        · (intro w hSw; (try dsimp only at hSw); go_simp; try with_reducible rfl)
        try simp only [Act.put, List.setIfInBounds_toArray, List.set_cons_zero, List.set_cons_succ]
        refine wpAnyH_take (i := 5) (oi := _) (v := ?_) rfl (by kernel_rfl) (by kernel_rfl) (by kernel_rfl) (fun _ _ _ h => h) (Or.inl ⟨by rfl, ?_⟩) (by assumption) ?_
        rotate_left
        · (intro w hSw; (try dsimp only at hSw); go_simp; try with_reducible rfl)
        try simp only [Act.put, List.setIfInBounds_toArray, List.set_cons_zero, List.set_cons_succ]
        refine wpAnyH_take (i := 6) (oi := _) (v := ?_) rfl (by kernel_rfl) (by kernel_rfl) (by kernel_rfl) (fun _ _ _ h => h) (Or.inl ⟨by rfl, ?_⟩) (by assumption) ?_
        rotate_left
        · (intro w hSw; (try dsimp only at hSw); go_simp; try with_reducible rfl)
        try simp only [Act.put, List.setIfInBounds_toArray, List.set_cons_zero, List.set_cons_succ]
        refine wpAnyH_take (i := 7) (oi := _) (v := ?_) rfl (by kernel_rfl) (by kernel_rfl) (by kernel_rfl) (fun _ _ _ h => h) (Or.inl ⟨by rfl, ?_⟩) (by assumption) ?_
        rotate_left
        · (intro w hSw; (try dsimp only at hSw); go_simp; try with_reducible rfl)
        try simp only [Act.put, List.setIfInBounds_toArray, List.set_cons_zero, List.set_cons_succ]
        refine wpAnyH_take (i := 8) (oi := _) (v := ?_) rfl (by kernel_rfl) (by kernel_rfl) (by kernel_rfl) (fun _ _ _ h => h) (Or.inl ⟨by rfl, ?_⟩) (by assumption) ?_
        rotate_left
        · (intro w hSw; (try dsimp only at hSw); go_simp; try with_reducible rfl)
        try simp only [Act.put, List.setIfInBounds_toArray, List.set_cons_zero, List.set_cons_succ]
        refine wpAnyH_take (i := 9) (oi := _) (v := ?_) rfl (by kernel_rfl) (by kernel_rfl) (by kernel_rfl) (fun _ _ _ h => h) (Or.inl ⟨by rfl, ?_⟩) (by assumption) ?_
        rotate_left
        · (intro w hSw; (try dsimp only at hSw); go_simp; try with_reducible rfl)
        try simp only [Act.put, List.setIfInBounds_toArray, List.set_cons_zero, List.set_cons_succ]
        refine wpAnyH_take (i := 11) (oi := _) (v := ?_) rfl (by kernel_rfl) (by kernel_rfl) (by kernel_rfl) (fun _ _ _ h => h) (Or.inl ⟨by rfl, ?_⟩) (by assumption) ?_
        rotate_left
        · (intro w hSw; (try dsimp only at hSw); go_simp; try with_reducible rfl)
        try simp only [Act.put, List.setIfInBounds_toArray, List.set_cons_zero, List.set_cons_succ]
        refine wpAnyH_take (i := 13) (oi := _) (v := ?_) rfl (by kernel_rfl) (by kernel_rfl) (by kernel_rfl) (fun _ _ _ h => h) (Or.inl ⟨by rfl, ?_⟩) (by assumption) ?_
        rotate_left
        · (intro w hSw; (try dsimp only at hSw); go_simp; try with_reducible rfl)
        try simp only [Act.put, List.setIfInBounds_toArray, List.set_cons_zero, List.set_cons_succ]
        refine wpAnyH_take (i := 14) (oi := _) (v := ?_) rfl (by kernel_rfl) (by kernel_rfl) (by kernel_rfl) (fun _ _ _ h => h) (Or.inl ⟨by rfl, ?_⟩) (by assumption) ?_
        rotate_left
        · (intro w hSw; (try dsimp only at hSw); go_simp; try with_reducible rfl)
        try simp only [Act.put, List.setIfInBounds_toArray, List.set_cons_zero, List.set_cons_succ]
        refine wpAnyH_take (i := 15) (oi := _) (v := ?_) rfl (by kernel_rfl) (by kernel_rfl) (by kernel_rfl) (fun _ _ _ h => h) (Or.inl ⟨by rfl, ?_⟩) (by assumption) ?_
        rotate_left
        · (intro w hSw; (try dsimp only at hSw); go_simp; try with_reducible rfl)
        try simp only [Act.put, List.setIfInBounds_toArray, List.set_cons_zero, List.set_cons_succ]
        refine wpAnyH_take (i := 16) (oi := _) (v := ?_) rfl (by kernel_rfl) (by kernel_rfl) (by kernel_rfl) (fun _ _ _ h => h) (Or.inl ⟨by rfl, ?_⟩) (by assumption) ?_
        rotate_left
        · (intro w hSw; (try dsimp only at hSw); go_simp; try with_reducible rfl)
        try simp only [Act.put, List.setIfInBounds_toArray, List.set_cons_zero, List.set_cons_succ]
        refine wpAnyH_take (i := 18) (oi := _) (v := ?_) rfl (by kernel_rfl) (by kernel_rfl) (by kernel_rfl) (fun _ _ _ h => h) (Or.inl ⟨by rfl, ?_⟩) (by assumption) ?_
        rotate_left
        · (intro w hSw; (try dsimp only at hSw); go_simp; try with_reducible rfl)
        try simp only [Act.put, List.setIfInBounds_toArray, List.set_cons_zero, List.set_cons_succ]
        refine wpAnyH_ready (rs := [10, 17]) (by kernel_rfl) (by simp) ?_
        refine AllReadyH.cons (o := _) rfl (fun K hK => ?_) ?_
        ·
          have r1 := (HR1.out _ _ HC.out).1
          go_simp
          refine hK.out _ _ ?_ (fun hHeld => ?_)
          · ((try dsimp only); exact HSc.out _ _ _ HC.out)
          clear hK K
          try simp only [Act.put, List.setIfInBounds_toArray, List.set_cons_zero, List.set_cons_succ]
          refine wpAnyH_ready (rs := [12, 17]) (by kernel_rfl) (by simp) ?_
          refine AllReadyH.cons (o := _) rfl (fun K hK => ?_) ?_
          ·
            go_simp
            refine (HI1.out _ _ HC.out).mono ?_
            rintro e v1 ⟨y1, rfl, hyl1, hyo1, hyc1, hb1⟩
            have HC := hid (HC.out.below hb1)
            have HY1 := hid hyo1
            have HL1 := hid hyl1
            have HQ1 := hid hyc1
            clear hyl1 hyo1 hyc1 hb1
            go_wp2_with fail
            refine hK.out _ _ ?_ (fun hHeld => ?_)
            · ((try dsimp only); exact HSc.out _ _ _ HC.out)
            clear hK K
            try simp only [Act.put, List.setIfInBounds_toArray, List.set_cons_zero, List.set_cons_succ]
            refine wpAnyH_ready (rs := [17]) (by kernel_rfl) (by simp) ?_
            refine AllReadyH.cons (o := _) rfl (fun K hK => ?_) ?_
            ·
              have r2 := (HR2.out _ _ HC.out).1
              go_simp
              refine hK.out _ _ ?_ (fun hHeld => ?_)
              · ((try dsimp only); exact HSc.out _ _ _ HC.out)
              clear hK K
              try simp only [Act.put, List.setIfInBounds_toArray, List.set_cons_zero, List.set_cons_succ]
              refine wpAnyH_ready (rs := [19]) (by kernel_rfl) (by simp) ?_
              refine AllReadyH.cons (o := _) rfl (fun K hK => ?_) ?_
              ·
                go_simp
                refine (HI2.out _ _ HC.out).mono ?_
                rintro e v2 ⟨y2, rfl, hyl2, hyo2, hyc2, hb2⟩
                have HY1 := hid (HY1.out.below hb2)
                have HC := hid (HC.out.below hb2)
                have HY2 := hid hyo2
                have HL2 := hid hyl2
                have HQ2 := hid hyc2
                clear hyl2 hyo2 hyc2 hb2
                go_wp2_with fail
                refine hK.out _ _ ?_ (fun hHeld => ?_)
                · ((try dsimp only); exact HSc.out _ _ _ HC.out)
                clear hK K
                try simp only [Act.put, List.setIfInBounds_toArray, List.set_cons_zero, List.set_cons_succ]
                refine wpAnyH_take (i := 20) (oi := _) (v := ?_) rfl (by kernel_rfl) (by kernel_rfl) (by kernel_rfl) (fun _ _ _ h => h) (Or.inl ⟨by rfl, ?_⟩) (by assumption) ?_
                rotate_left
                · (intro w hSw; (try dsimp only at hSw); go_simp; try with_reducible rfl)
                try simp only [Act.put, List.setIfInBounds_toArray, List.set_cons_zero, List.set_cons_succ]
                refine wpAnyH_ready (rs := [21]) (by kernel_rfl) (by simp) ?_
                refine AllReadyH.cons (o := _) rfl (fun K hK => ?_) AllReadyH.nil
                have r1 := (HR1.out _ _ HC.out).1
                have f1 := (HR1.out _ _ HC.out).2
                have HY2 := hid (HC.out.keepS a0 HY2.out (.slice y1.A y1.n y1.c))
                have HC := hid (show Gg w0 w (some w.heap.size :: X) T N d a b c (xs.set a0 y1) ps (v2.setCell ⟨b, a0, none⟩ (.slice y1.A y1.n y1.c)) from HC.out.setS a0 HY1.out HQ1.out)
                go_simp
                refine hK.out _ _ ?_ (fun hHeld => ?_)
                · ((try dsimp only); exact HSc.out _ _ _ HC.out)
                clear hK K
                try simp only [Act.put, List.setIfInBounds_toArray, List.set_cons_zero, List.set_cons_succ]
                clear r1 f1
                generalize v2.setCell ⟨b, a0, none⟩ (.slice y1.A y1.n y1.c) = v3 at *
                refine wpAnyH_take (i := 22) (oi := _) (v := ?_) rfl (by kernel_rfl) (by kernel_rfl) (by kernel_rfl) (fun _ _ _ h => h) (Or.inl ⟨by rfl, ?_⟩) (by assumption) ?_
                rotate_left
                · (intro w hSw; (try dsimp only at hSw); go_simp; try with_reducible rfl)
                try simp only [Act.put, List.setIfInBounds_toArray, List.set_cons_zero, List.set_cons_succ]
                refine wpAnyH_ready (rs := [23]) (by kernel_rfl) (by simp) ?_
                refine AllReadyH.cons (o := _) rfl (fun K hK => ?_) AllReadyH.nil
                have r2 := (HR2.out _ _ HC.out).1
                have f2 := (HR2.out _ _ HC.out).2
                have HC := hid (show Gg w0 w (some w.heap.size :: X) T N d a b c (xs.set a0 y1) (ps.set b0 y2) (v3.setCell ⟨c, b0, none⟩ (.slice y2.A y2.n y2.c)) from HC.out.setP b0 HY2.out HQ2.out)
                go_simp
                refine hK.out _ _ ?_ (fun hHeld => ?_)
                · ((try dsimp only); exact HSc.out _ _ _ HC.out)
                clear hK K
                try simp only [Act.put, List.setIfInBounds_toArray, List.set_cons_zero, List.set_cons_succ]
                refine wpAnyH_done (by kernel_rfl) ?_ _
                refine NoPanic.normal ?_
                go_wp2_with fail
                go_roundw
                case rel => exact ⟨k - 1, xs.set a0 y1, ps.set b0 y2, by omega, by first | go_num | (congr 1; omega), HC, hid (HVl.out y1 y2 HL1.out HL2.out)⟩
                case measure => simp [intOf]; omega
              exact AllReadyH.nil
            exact AllReadyH.nil
          refine AllReadyH.cons (o := _) rfl (fun K hK => ?_) ?_
          ·
            have r2 := (HR2.out _ _ HC.out).1
            go_simp
            refine hK.out _ _ ?_ (fun hHeld => ?_)
            · ((try dsimp only); exact HSc.out _ _ _ HC.out)
            clear hK K
            try simp only [Act.put, List.setIfInBounds_toArray, List.set_cons_zero, List.set_cons_succ]
            refine wpAnyH_ready (rs := [12]) (by kernel_rfl) (by simp) ?_
            refine AllReadyH.cons (o := _) rfl (fun K hK => ?_) ?_
            ·
              go_simp
              refine (HI1.out _ _ HC.out).mono ?_
              rintro e v1 ⟨y1, rfl, hyl1, hyo1, hyc1, hb1⟩
              have HC := hid (HC.out.below hb1)
              have HY1 := hid hyo1
              have HL1 := hid hyl1
              have HQ1 := hid hyc1
              clear hyl1 hyo1 hyc1 hb1
              go_wp2_with fail
              refine hK.out _ _ ?_ (fun hHeld => ?_)
              · ((try dsimp only); exact HSc.out _ _ _ HC.out)
              clear hK K
              try simp only [Act.put, List.setIfInBounds_toArray, List.set_cons_zero, List.set_cons_succ]
              refine wpAnyH_ready (rs := [19]) (by kernel_rfl) (by simp) ?_
              refine AllReadyH.cons (o := _) rfl (fun K hK => ?_) ?_
              ·
                go_simp
                refine (HI2.out _ _ HC.out).mono ?_
                rintro e v2 ⟨y2, rfl, hyl2, hyo2, hyc2, hb2⟩
                have HY1 := hid (HY1.out.below hb2)
                have HC := hid (HC.out.below hb2)
                have HY2 := hid hyo2
                have HL2 := hid hyl2
                have HQ2 := hid hyc2
                clear hyl2 hyo2 hyc2 hb2
                go_wp2_with fail
                refine hK.out _ _ ?_ (fun hHeld => ?_)
                · ((try dsimp only); exact HSc.out _ _ _ HC.out)
                clear hK K
                try simp only [Act.put, List.setIfInBounds_toArray, List.set_cons_zero, List.set_cons_succ]
                refine wpAnyH_take (i := 20) (oi := _) (v := ?_) rfl (by kernel_rfl) (by kernel_rfl) (by kernel_rfl) (fun _ _ _ h => h) (Or.inl ⟨by rfl, ?_⟩) (by assumption) ?_
                rotate_left
                · (intro w hSw; (try dsimp only at hSw); go_simp; try with_reducible rfl)
                try simp only [Act.put, List.setIfInBounds_toArray, List.set_cons_zero, List.set_cons_succ]
                refine wpAnyH_ready (rs := [21]) (by kernel_rfl) (by simp) ?_
                refine AllReadyH.cons (o := _) rfl (fun K hK => ?_) AllReadyH.nil
                have r1 := (HR1.out _ _ HC.out).1
                have f1 := (HR1.out _ _ HC.out).2
                have HY2 := hid (HC.out.keepS a0 HY2.out (.slice y1.A y1.n y1.c))
                have HC := hid (show Gg w0 w (some w.heap.size :: X) T N d a b c (xs.set a0 y1) ps (v2.setCell ⟨b, a0, none⟩ (.slice y1.A y1.n y1.c)) from HC.out.setS a0 HY1.out HQ1.out)
                go_simp
                refine hK.out _ _ ?_ (fun hHeld => ?_)
                · ((try dsimp only); exact HSc.out _ _ _ HC.out)
                clear hK K
                try simp only [Act.put, List.setIfInBounds_toArray, List.set_cons_zero, List.set_cons_succ]
                clear r1 f1
                generalize v2.setCell ⟨b, a0, none⟩ (.slice y1.A y1.n y1.c) = v3 at *
                refine wpAnyH_take (i := 22) (oi := _) (v := ?_) rfl (by kernel_rfl) (by kernel_rfl) (by kernel_rfl) (fun _ _ _ h => h) (Or.inl ⟨by rfl, ?_⟩) (by assumption) ?_
                rotate_left
                · (intro w hSw; (try dsimp only at hSw); go_simp; try with_reducible rfl)
                try simp only [Act.put, List.setIfInBounds_toArray, List.set_cons_zero, List.set_cons_succ]
                refine wpAnyH_ready (rs := [23]) (by kernel_rfl) (by simp) ?_
                refine AllReadyH.cons (o := _) rfl (fun K hK => ?_) AllReadyH.nil
                have r2 := (HR2.out _ _ HC.out).1
                have f2 := (HR2.out _ _ HC.out).2
                have HC := hid (show Gg w0 w (some w.heap.size :: X) T N d a b c (xs.set a0 y1) (ps.set b0 y2) (v3.setCell ⟨c, b0, none⟩ (.slice y2.A y2.n y2.c)) from HC.out.setP b0 HY2.out HQ2.out)
                go_simp
                refine hK.out _ _ ?_ (fun hHeld => ?_)
                · ((try dsimp only); exact HSc.out _ _ _ HC.out)
                clear hK K
                try simp only [Act.put, List.setIfInBounds_toArray, List.set_cons_zero, List.set_cons_succ]
                refine wpAnyH_done (by kernel_rfl) ?_ _
                refine NoPanic.normal ?_
                go_wp2_with fail
                go_roundw
                case rel => exact ⟨k - 1, xs.set a0 y1, ps.set b0 y2, by omega, by first | go_num | (congr 1; omega), HC, hid (HVl.out y1 y2 HL1.out HL2.out)⟩
                case measure => simp [intOf]; omega
              exact AllReadyH.nil
            exact AllReadyH.nil
          exact AllReadyH.nil
        refine AllReadyH.cons (o := _) rfl (fun K hK => ?_) ?_
        ·
          have r2 := (HR2.out _ _ HC.out).1
          go_simp
          refine hK.out _ _ ?_ (fun hHeld => ?_)
          · ((try dsimp only); exact HSc.out _ _ _ HC.out)
          clear hK K
          try simp only [Act.put, List.setIfInBounds_toArray, List.set_cons_zero, List.set_cons_succ]
          refine wpAnyH_ready (rs := [10]) (by kernel_rfl) (by simp) ?_
          refine AllReadyH.cons (o := _) rfl (fun K hK => ?_) ?_
          ·
            have r1 := (HR1.out _ _ HC.out).1
            go_simp
            refine hK.out _ _ ?_ (fun hHeld => ?_)
            · ((try dsimp only); exact HSc.out _ _ _ HC.out)
            clear hK K
            try simp only [Act.put, List.setIfInBounds_toArray, List.set_cons_zero, List.set_cons_succ]
            refine wpAnyH_ready (rs := [12]) (by kernel_rfl) (by simp) ?_
            refine AllReadyH.cons (o := _) rfl (fun K hK => ?_) ?_
            ·
              go_simp
              refine (HI1.out _ _ HC.out).mono ?_
              rintro e v1 ⟨y1, rfl, hyl1, hyo1, hyc1, hb1⟩
              have HC := hid (HC.out.below hb1)
              have HY1 := hid hyo1
              have HL1 := hid hyl1
              have HQ1 := hid hyc1
              clear hyl1 hyo1 hyc1 hb1
              go_wp2_with fail
              refine hK.out _ _ ?_ (fun hHeld => ?_)
              · ((try dsimp only); exact HSc.out _ _ _ HC.out)
              clear hK K
              try simp only [Act.put, List.setIfInBounds_toArray, List.set_cons_zero, List.set_cons_succ]
              refine wpAnyH_ready (rs := [19]) (by kernel_rfl) (by simp) ?_
              refine AllReadyH.cons (o := _) rfl (fun K hK => ?_) ?_
              ·
                go_simp
                refine (HI2.out _ _ HC.out).mono ?_
                rintro e v2 ⟨y2, rfl, hyl2, hyo2, hyc2, hb2⟩
                have HY1 := hid (HY1.out.below hb2)
                have HC := hid (HC.out.below hb2)
                have HY2 := hid hyo2
                have HL2 := hid hyl2
                have HQ2 := hid hyc2
                clear hyl2 hyo2 hyc2 hb2
                go_wp2_with fail
                refine hK.out _ _ ?_ (fun hHeld => ?_)
                · ((try dsimp only); exact HSc.out _ _ _ HC.out)
                clear hK K
                try simp only [Act.put, List.setIfInBounds_toArray, List.set_cons_zero, List.set_cons_succ]
                refine wpAnyH_take (i := 20) (oi := _) (v := ?_) rfl (by kernel_rfl) (by kernel_rfl) (by kernel_rfl) (fun _ _ _ h => h) (Or.inl ⟨by rfl, ?_⟩) (by assumption) ?_
                rotate_left
                · (intro w hSw; (try dsimp only at hSw); go_simp; try with_reducible rfl)
                try simp only [Act.put, List.setIfInBounds_toArray, List.set_cons_zero, List.set_cons_succ]
                refine wpAnyH_ready (rs := [21]) (by kernel_rfl) (by simp) ?_
                refine AllReadyH.cons (o := _) rfl (fun K hK => ?_) AllReadyH.nil
                have r1 := (HR1.out _ _ HC.out).1
                have f1 := (HR1.out _ _ HC.out).2
                have HY2 := hid (HC.out.keepS a0 HY2.out (.slice y1.A y1.n y1.c))
                have HC := hid (show Gg w0 w (some w.heap.size :: X) T N d a b c (xs.set a0 y1) ps (v2.setCell ⟨b, a0, none⟩ (.slice y1.A y1.n y1.c)) from HC.out.setS a0 HY1.out HQ1.out)
                go_simp
                refine hK.out _ _ ?_ (fun hHeld => ?_)
                · ((try dsimp only); exact HSc.out _ _ _ HC.out)
                clear hK K
                try simp only [Act.put, List.setIfInBounds_toArray, List.set_cons_zero, List.set_cons_succ]
                clear r1 f1
                generalize v2.setCell ⟨b, a0, none⟩ (.slice y1.A y1.n y1.c) = v3 at *
                refine wpAnyH_take (i := 22) (oi := _) (v := ?_) rfl (by kernel_rfl) (by kernel_rfl) (by kernel_rfl) (fun _ _ _ h => h) (Or.inl ⟨by rfl, ?_⟩) (by assumption) ?_
                rotate_left
                · (intro w hSw; (try dsimp only at hSw); go_simp; try with_reducible rfl)
                try simp only [Act.put, List.setIfInBounds_toArray, List.set_cons_zero, List.set_cons_succ]
                refine wpAnyH_ready (rs := [23]) (by kernel_rfl) (by simp) ?_
                refine AllReadyH.cons (o := _) rfl (fun K hK => ?_) AllReadyH.nil
                have r2 := (HR2.out _ _ HC.out).1
                have f2 := (HR2.out _ _ HC.out).2
                have HC := hid (show Gg w0 w (some w.heap.size :: X) T N d a b c (xs.set a0 y1) (ps.set b0 y2) (v3.setCell ⟨c, b0, none⟩ (.slice y2.A y2.n y2.c)) from HC.out.setP b0 HY2.out HQ2.out)
                go_simp
                refine hK.out _ _ ?_ (fun hHeld => ?_)
                · ((try dsimp only); exact HSc.out _ _ _ HC.out)
                clear hK K
                try simp only [Act.put, List.setIfInBounds_toArray, List.set_cons_zero, List.set_cons_succ]
                refine wpAnyH_done (by kernel_rfl) ?_ _
                refine NoPanic.normal ?_
                go_wp2_with fail
                go_roundw
                case rel => exact ⟨k - 1, xs.set a0 y1, ps.set b0 y2, by omega, by first | go_num | (congr 1; omega), HC, hid (HVl.out y1 y2 HL1.out HL2.out)⟩
                case measure => simp [intOf]; omega
              exact AllReadyH.nil
            exact AllReadyH.nil
          exact AllReadyH.nil
        exact AllReadyH.nil

      · obtain rfl : k = 0 := by omega
        have HF := hid hGb.out
        obtain ⟨c0, c1, c2⟩ := HF.out.box.thr
        obtain ⟨e0, e1, e2⟩ := HF.out.rs.thr
        have z0 := HF.out.rs.frozen 0
        have z1 := HF.out.rs.frozen 1
        have z2 := HF.out.rs.frozen 2
        have hl := HF.out.rs.lt
        clear hGb
        have HR := hid (HF.out.ret HX2.out (by omega) (.slice (some ⟨a, 0, none⟩) N N) (.slice (some ⟨b, 0, none⟩) N N) (.slice (some ⟨c, 0, none⟩) N N))
        go_wp2_with fail
        refine bodyPost_ret (v := .agg #[.slice (some ⟨a, 0, none⟩) N N, .slice (some ⟨b, 0, none⟩) N N, .slice (some ⟨c, 0, none⟩) N N]) (by simp [results, Tryz.results8, go_sem, e0, e1, e2, z0, z1, z2, hl]) rfl ?_
        exact ⟨⟨some ⟨a, 0, none⟩, N, N, List.replicate N nd0, ⟨some ⟨b, 0, none⟩, N, N, xs⟩, ⟨some ⟨c, 0, none⟩, N, N, ps⟩⟩, rfl, HR.out.1, hV.out, rfl, rfl, by show N ≤ m + 1; omega, HR.out.2.1, HR.out.2.2⟩
end Go.Proofs.YtfapgnbnfhpicaaGreatDoor

namespace Go.Proofs.YtfapgnbnfhpicaaGreatDoor
set_option maxRecDepth 20000
set_option linter.unusedVariables false
set_option linter.unusedSimpArgs false
open Go.ChangeShapes Go.WideShapes Go.ChangeAt Go.RowKit

def hasI (l : List Int) (n : Int) : Bool := l.contains n
theorem hasI_hit {l : List Int} {k : Nat} {a : Int} (h : l[k]? = some a) : hasI l a = true := by
  unfold hasI; simp; exact List.mem_of_getElem? h
theorem hasI_none {l : List Int} {n : Int} {m : Nat} (hl : l.length = m) (h : ∀ j x, j < m → l[j]? = some x → x ≠ n) : hasI l n = false := by
  unfold hasI
  simp only [List.contains_eq_mem, decide_eq_false_iff_not]
  intro hm
  obtain ⟨j, hj⟩ := List.getElem?_of_mem hm
  exact h j n (by have := (List.getElem?_eq_some_iff.1 hj).1; omega) hj rfl
theorem hasI_step {l : List Int} {k : Nat} {a n : Int} (h : ∀ j x, j < k → l[j]? = some x → x ≠ n) (ha : l[k]? = some a) (e : a ≠ n) : ∀ j x, j < k + 1 → l[j]? = some x → x ≠ n := by
  intro j x hj hx
  by_cases e2 : j = k
  · subst e2; rw [ha] at hx; exact Option.some.inj hx ▸ e
  · exact h j x (by omega) hx
set_option maxHeartbeats 1600000 in
theorem has_any (x : RH) (v : Int) (ex : List (Option Nat)) (w : World) (h : RHok w ex x) :
    Calls Tryz.prog 13 #[.slice x.A x.n x.c, .int .i64 v] w fun e w' => e = .returned (.bool (hasI x.l v)) ∧ w = w' := by
  have hn := h.few
  have HX := hid h
  have HL := hid h.len
  clear h
  obtain ⟨A, n, c, l⟩ := x
  simp only at *
  go_enter Tryz.func13, Tryz.ntmps13
  go_wp2_with fail
  go_loop [5] (fun iv => ∃ (k : Nat), k ≤ n ∧ iv = .int .i64 k ∧ Hid (∀ j x, j < k → l[j]? = some x → x ≠ v)) (fun iv => n - (intOf iv).toNat)
  case atStart => exact ⟨0, by omega, rfl, hid (fun j x h => by omega)⟩
  case round =>
    obtain ⟨k, hk, rfl, hE⟩ := hrel
    by_cases hlt : k < n
    · obtain ⟨a, ha, -⟩ := get_at HL.out hlt
      obtain ⟨ad, hA, had, hc⟩ := HX.out.cell ha
      simp only at hA
      subst hA
      have Ha := hid ha
      clear ha
      by_cases h1 : a = v
      · subst h1
        have Hr := hid (hasI_hit Ha.out)
        clear hE
        go_wp2_with fail
        go_ret
        exact ⟨ret_b Hr.out, rfl⟩
      · have Hr := hid (hasI_step hE.out Ha.out h1)
        have t1 : (a == v) = false := by simpa using h1
        clear hE h1
        go_wp2_with fail
        go_round
        case rel => exact ⟨k + 1, by omega, by go_num, Hr⟩
        case measure => simp [intOf]; omega
    · obtain rfl : k = n := by omega
      have Hr := hid (hasI_none HL.out hE.out)
      clear hE
      go_wp2_with fail
      go_ret
      exact ⟨ret_b Hr.out, rfl⟩
set_option maxHeartbeats 3200000 in
/-- The reference's SameLists. -/
theorem sameLists_any (x y : LH) (ex ey : List (Option Nat)) (w : World) (hx : LHok w ex x) (hy : LHok w ey y) :
    Calls Tryz.prog 36 #[.slice x.A x.n x.c, .slice y.A y.n y.c] w (RetQ w (.bool (eqD x.v y.v))) := by
  have hn := hx.few
  have hm := hy.few
  have HX := hid hx
  have HY := hid hy
  have HL := hid hx.len
  have HM := hid hy.len
  have HvL := hid (LH.vlen x)
  have HvM := hid (LH.vlen y)
  have HaX := hid (fun (k : Nat) (z : RH) (hz : x.l[k]? = some z) => LH.at hz)
  have HaY := hid (fun (k : Nat) (z : RH) (hz : y.l[k]? = some z) => LH.at hz)
  clear hx hy
  generalize hv : x.v = v at *
  generalize hv2 : y.v = v2 at *
  clear hv hv2
  obtain ⟨A, n, c, l⟩ := x
  obtain ⟨B, m, c2, l2⟩ := y
  simp only at *
  by_cases hlen : n = m
  · subst hlen
    go_enter Tryz.func36, Tryz.ntmps36
    go_wp2_with fail
    go_loopw [5] (fun iv wr => ∃ (k q : Nat), k ≤ n ∧ iv = .int .i64 k ∧ wr = w.drewN q ∧ Hid (∀ j, j < k → v[j]? = v2[j]?)) (fun iv _ => n - (intOf iv).toNat)
    case atStart => exact ⟨0, 0, by omega, rfl, rfl, hid (fun j h => by omega)⟩
    case round =>
      obtain ⟨k, q, hk, rfl, rfl, hE⟩ := hrel
      by_cases hlt : k < n
      · obtain ⟨a, ha, ham⟩ := get_at HL.out hlt
        obtain ⟨b, hb, hbm⟩ := get_at HM.out hlt
        obtain ⟨ad, hA, had, hc⟩ := HX.out.cell ha
        obtain ⟨ad2, hB, had2, hc2⟩ := HY.out.cell hb
        simp only at hA hB
        subst hA
        subst hB
        have Ha := hid (HaX.out k a ha)
        have Hb := hid (HaY.out k b hb)
        have HC := hid (fun (u : World) (hu : ∃ r, u = w.drewN r) => refInts_any a b ex ey u (by obtain ⟨r, rfl⟩ := hu; exact (HX.out.all a ham).below (below_drewN (Below.refl _ _) r)) (by obtain ⟨r, rfl⟩ := hu; exact (HY.out.all b hbm).below (below_drewN (Below.refl _ _) r)))
        clear ha hb ham hbm
        obtain ⟨aA, an, ac, al⟩ := a
        obtain ⟨bA, bn, bc, bl⟩ := b
        simp only at *
        by_cases h1 : al = bl
        · subst h1
          have Hr := hid (eqD_step hE.out Ha.out Hb.out rfl)
          have e1 : eqD al al = true := by unfold eqD; simp
          rw [e1] at HC
          clear hE e1
          go_wp2_with fail
          go_region_law (
            (go_simp
             go_at_call 12
             refine (HC.out _ ⟨_, rfl⟩).mono ?_
             rintro e w' ⟨rfl, q2, rfl⟩))
          all_goals
            go_wp2_with fail
            go_roundw
            case rel => exact ⟨k + 1, _, by omega, by go_num, rfl, Hr⟩
            case measure => simp [intOf]; omega
        · have Hr := hid (eqD_no Ha.out Hb.out h1)
          have e1 : eqD al bl = false := by unfold eqD; simpa using h1
          rw [e1] at HC
          clear hE h1 e1
          go_wp2_with fail
          go_region_law (
            (go_simp
             go_at_call 12
             refine (HC.out _ ⟨_, rfl⟩).mono ?_
             rintro e w' ⟨rfl, q2, rfl⟩))
          all_goals
            go_wp2_with fail
            go_ret
            exact RetQ.mk Hr.out
      · obtain rfl : k = n := by omega
        have Hr := hid (eqD_yes (HvL.out.trans HL.out) (HvM.out.trans HM.out) hE.out)
        clear hE
        go_wp2_with fail
        go_ret
        exact RetQ.mk Hr.out
  · have Hr := hid (eqD_len (l := v) (m := v2) (by rw [HvL.out, HvM.out, HL.out, HM.out]; exact hlen))
    have t1 : ((n : Int) == (m : Int)) = false := by simp; omega
    have t2 : ((n : Int) != (m : Int)) = true := by simp; omega
    clear hlen
    go_enter Tryz.func36, Tryz.ntmps36
    go_wp2_with fail
    go_ret
    exact RetQ.mk0 Hr.out
end Go.Proofs.YtfapgnbnfhpicaaGreatDoor

namespace Go.Proofs.YtfapgnbnfhpicaaGreatDoor
set_option maxRecDepth 20000
set_option linter.unusedVariables false
set_option linter.unusedSimpArgs false
open Go.ChangeShapes Go.WideShapes Go.ChangeAt Go.RowKit

theorem eqD_self {α : Type} [DecidableEq α] (l : List α) : eqD l l = true := by unfold eqD; simp
set_option maxHeartbeats 3200000 in
theorem sameGraph_yes (x y : GH) (ex ey : List (Option Nat)) (w : World) (hx : GHok w ex x) (hy : GHok w ey y) (e1 : y.ns = x.ns) (e2 : y.S.v = x.S.v) (e3 : y.P.v = x.P.v) :
    Calls Tryz.prog 15 #[x.a, y.a] w fun e w' => e = .returned (.bool true) ∧ Below w.heap.size w w' := by
  have hb := ((Below.refl w.heap.size w).alloc (Nat.le_refl _) (.cells #[.slice x.A x.n x.c, .slice x.S.A x.S.n x.S.c, .slice x.P.A x.P.n x.P.c] 28)).alloc (by rw [World.size_alloc]; omega) (.cells #[.slice y.A y.n y.c, .slice y.S.A y.S.n y.S.c, .slice y.P.A y.P.n y.P.c] 28)
  have HB := hid hb
  have HX := hid (hx.below hb)
  have HY := hid (hy.below hb)
  have HF := hid ((Fb.new w #[.slice x.A x.n x.c, .slice x.S.A x.S.n x.S.c, .slice x.P.A x.P.n x.P.c] 28).alloc (.cells #[.slice y.A y.n y.c, .slice y.S.A y.S.n y.S.c, .slice y.P.A y.P.n y.P.c] 28))
  have HG := hid (show Fb ((w.alloc (.cells #[.slice x.A x.n x.c, .slice x.S.A x.S.n x.S.c, .slice x.P.A x.P.n x.P.c] 28)).alloc (.cells #[.slice y.A y.n y.c, .slice y.S.A y.S.n y.S.c, .slice y.P.A y.P.n y.P.c] 28)) (w.heap.size + 1) #[.slice y.A y.n y.c, .slice y.S.A y.S.n y.S.c, .slice y.P.A y.P.n y.P.c] 28 by
    have := Fb.new (w.alloc (.cells #[.slice x.A x.n x.c, .slice x.S.A x.S.n x.S.c, .slice x.P.A x.P.n x.P.c] 28)) #[.slice y.A y.n y.c, .slice y.S.A y.S.n y.S.c, .slice y.P.A y.P.n y.P.c] 28
    rwa [World.size_alloc] at this)
  have hn := hx.few
  have HL := hid hx.len
  have HM := hid (show x.ns.length = y.n by rw [← e1]; exact hy.len)
  clear hx hy
  unfold GH.a
  go_enter Tryz.func15, Tryz.ntmps15
  generalize h0 : (w.alloc (.cells #[.slice x.A x.n x.c, .slice x.S.A x.S.n x.S.c, .slice x.P.A x.P.n x.P.c] 28)).alloc (.cells #[.slice y.A y.n y.c, .slice y.S.A y.S.n y.S.c, .slice y.P.A y.P.n y.P.c] 28) = w0 at HB HX HY HF HG
  have HCS := hid (show Calls Tryz.prog 36 #[.slice x.S.A x.S.n x.S.c, .slice y.S.A y.S.n y.S.c] w0 (RetQ w0 (.bool true)) by
    have h := sameLists_any x.S y.S ex ey w0 HX.out.s HY.out.s
    rw [e2, eqD_self] at h; exact h)
  have HCP := hid (fun (r : Nat) => show Calls Tryz.prog 36 #[.slice x.P.A x.P.n x.P.c, .slice y.P.A y.P.n y.P.c] (w0.drewN r) (RetQ (w0.drewN r) (.bool true)) by
    have h := sameLists_any x.P y.P ex ey (w0.drewN r) (HX.out.p.below (below_drewN (Below.refl _ _) r)) (HY.out.p.below (below_drewN (Below.refl _ _) r))
    rw [e3, eqD_self] at h; exact h)
  have HNX := hid HX.out.lies
  have HNY := hid (show EAt w0 ey y.A (x.ns.flatMap ndc) by rw [← e1]; exact HY.out.lies)
  clear HX HY e1 e2 e3
  obtain ⟨A, n, c, ns, ⟨SA, sn, sc, sl⟩, ⟨PA, pn, pc, pl⟩⟩ := x
  obtain ⟨A2, n2, c2, ns2, ⟨SA2, sn2, sc2, sl2⟩, ⟨PA2, pn2, pc2, pl2⟩⟩ := y
  simp only at *
  obtain rfl : n = n2 := HL.out.symm.trans HM.out
  have H0 := hid h0
  clear h0
  go_wp2_with fail
  rw [H0.out]
  obtain ⟨b0, b1, b2⟩ := HF.out.thr
  obtain ⟨d0, d1, d2⟩ := HG.out.thr
  have hGl := HG.out.lt
  refine HCS.out.mono ?_
  rintro e w' ⟨rfl, q2, rfl⟩
  go_wp2_with fail
  refine (HCP.out _).mono ?_
  rintro e w' ⟨rfl, q3, rfl⟩
  go_wp2_with fail
  go_loopw [5] (fun iv wr => ∃ (k q : Nat), k ≤ n ∧ iv = .int .i64 k ∧ wr = w0.drewN q) (fun iv _ => n - (intOf iv).toNat)
  case atStart => exact ⟨0, _, by omega, rfl, rfl⟩
  case round =>
    obtain ⟨k, q, hk, rfl, rfl⟩ := hrel
    by_cases hlt : k < n
    · obtain ⟨y, hy, hym⟩ := get_at HL.out hlt
      obtain ⟨ad, hA, had, hc1, hc2, hc3, hc4⟩ := Nd.cells HNX.out hy
      obtain ⟨ad2, hA2, had2, hd1, hd2, hd3, hd4⟩ := Nd.cells HNY.out hy
      subst hA
      subst hA2
      obtain ⟨yk, yf, yb, ys⟩ := y
      simp only at hc1 hc2 hc3 hc4 hd1 hd2 hd3 hd4
      clear hy hym
      as_aux_lemma =>
        go_wp2_with fail
        go_quiet (fail)
        go_wp2_with fail
        go_roundw
        case rel => exact ⟨k + 1, _, by omega, by go_num, rfl⟩
        case measure => simp [intOf]; omega
    · as_aux_lemma =>
        obtain rfl : k = n := by omega
        go_wp2_with fail
        go_ret
        exact ⟨rfl, below_drewN HB.out _⟩
end Go.Proofs.YtfapgnbnfhpicaaGreatDoor

namespace Go.Proofs.YtfapgnbnfhpicaaGreatDoor
set_option maxRecDepth 20000
set_option linter.unusedVariables false
set_option linter.unusedSimpArgs false
open Go.ChangeShapes Go.WideShapes Go.ChangeAt Go.RowKit

theorem laidOutT : laidOutB Tryz.prog = true := by kernel_rfl
theorem rowT : (75 : TypeId) < Tryz.prog.types.size := of_decide_eq_true (by kernel_rfl)
theorem wideT : (match Tryz.prog.underlying 75 with | some (.array _ _) | some (.struct _) => true | _ => false) = true := by rw [Tryz.underlying75]
theorem keyed : Maps.Keyed Tryz.prog 75 := Maps.Keyed.of_law (deep_law_laid laidOutT (m := 3) (by omega) rowT (by kernel_rfl) wideT)
theorem keyT : Tryz.prog.keyType 75 = true := by kernel_rfl
theorem cellsT : Tryz.prog.cellsOf 75 = 4 := by kernel_rfl
theorem cellsI : Tryz.prog.cellsOf 3 = 1 := by kernel_rfl
/-- All four numbers are Go's. -/
def wfN (y : Nd) : Prop := ((-9223372036854775808 ≤ y.kd ∧ y.kd ≤ 9223372036854775807) ∧ (-9223372036854775808 ≤ y.fn ∧ y.fn ≤ 9223372036854775807)) ∧ ((-9223372036854775808 ≤ y.bk ∧ y.bk ≤ 9223372036854775807) ∧ (-9223372036854775808 ≤ y.st ∧ y.st ≤ 9223372036854775807))
theorem wf_lit {x : Int} (h : -9223372036854775808 ≤ x ∧ x ≤ 9223372036854775807) : (Lit.int .i64 x).wf = true := by
  have m0 : IntKind.i64.min = -9223372036854775808 := by decide
  have m1 : IntKind.i64.max = 9223372036854775807 := by decide
  simp [Lit.wf, m0, m1]; omega
theorem key_node (y : Nd) (h : wfN y) : ∃ kl, keyOf Tryz.prog 75 (agN y) = some kl := by
  obtain ⟨m, hm⟩ : ∃ m, Tryz.prog.types.size + 1 = m + 1 + 1 := by
    have h : 75 < Tryz.prog.types.size := rowT
    generalize Tryz.prog.types.size = s at h
    exact ⟨s - 1, by have h : 75 < s := h; omega⟩
  have hf : (agN y).formed Tryz.prog 75 = true := by unfold agN; simp [Value.formed, Tryz.underlying75, cellsT]
  obtain ⟨⟨h1, h2⟩, h3, h4⟩ := h
  have e1 := wf_lit h1; have e2 := wf_lit h2; have e3 := wf_lit h3; have e4 := wf_lit h4
  apply Option.isSome_iff_exists.1
  unfold keyOf
  rw [Tryz.underlying75]
  simp only [keyT, hf, Bool.and_self, if_true]
  rw [hm]
  unfold agN
  simp [Program.keyLits, Tryz.underlying75, Tryz.underlying3, cellsT, cellsI, Value.cells, e1, e2, e3, e4]
/-- The first place of a node in a list, or 0. -/
def numN (L : List Nd) (x : Nd) : Nat := (L.findIdx? fun y => decide (y = x)).getD 0
theorem numN_nil (x : Nd) : numN [] x = 0 := rfl
theorem numN_snoc {L : List Nd} {x : Nd} (h : x ∉ L) (y : Nd) : numN (L ++ [x]) y = if y = x then L.length else numN L y := by
  unfold numN
  rw [List.findIdx?_append]
  by_cases e : y = x
  · subst e
    rw [if_pos rfl]
    have : L.findIdx? (fun z => decide (z = y)) = none := by
      rw [List.findIdx?_eq_none_iff]
      intro z hz
      simp
      rintro rfl
      exact h hz
    rw [this]
    simp
  · rw [if_neg e]
    have : [x].findIdx? (fun z => decide (z = y)) = none := by
      rw [List.findIdx?_eq_none_iff]
      intro z hz
      simp at hz
      subst hz
      simp
      exact fun h => e h.symm
    rw [this]
    cases L.findIdx? (fun z => decide (z = y)) <;> simp
theorem numN_lt {L : List Nd} (h : 1 ≤ L.length) (x : Nd) : numN L x < L.length := by
  unfold numN
  cases he : L.findIdx? (fun y => decide (y = x)) with
  | none => simp; omega
  | some i =>
    have := List.findIdx?_eq_some_iff_findIdx_eq.1 he
    simp
    exact this.1
/-- Block b is a map that says the number of each node of L, and 0 of all others. -/
def NMp (w : World) (b : Nat) (L : List Nd) : Prop :=
  ∃ (D : DataW Unit) (n : Nat), w.ownsMap Tryz.prog 75 (plainElem Tryz.prog 3) b n D ∧ n ≤ L.length ∧ Maps.IsMap D ∧ ∀ (y : Nd) (kl : Lit), keyOf Tryz.prog 75 (agN y) = some kl → D.atKey kl (.lit (.int .i64 0)) = .lit (.int .i64 (numN L y : Nat))
theorem zeroI (w : World) : (zeroValue 3).run Tryz.prog w = .ok (.int .i64 0) w := by kernel_rfl
section
variable {w w' : World} {b : Nat} {L : List Nd}
theorem NMp.made (w : World) : NMp (w.alloc (.map #[] 0)) w.heap.size [] :=
  ⟨.map [], 0, World.ownsMap_made w _ _ _, Nat.le_refl _, Maps.isMap_empty, fun y kl _ => by rw [numN_nil]; simp [DataW.atKey]⟩
theorem NMp.lt (h : NMp w b L) : b < w.heap.size := by obtain ⟨D, n, h, _⟩ := h; exact h.lt
theorem NMp.kept {row : Option Nat} (h : NMp w b L) (hg : w.grownBy w' row) (hne : some b ≠ row) : NMp w' b L := by
  obtain ⟨D, n, h, r⟩ := h
  exact ⟨D, n, h.kept hg hne, r⟩
theorem NMp.below (h : NMp w b L) (hb : Below w.heap.size w w') : NMp w' b L := h.kept (grown_of_below hb none) (by simp)
theorem NMp.look (h : NMp w b L) (y : Nd) (hy : wfN y) : (Instr.lookup 121 (.map (some b)) (agN y) false).run Tryz.prog w = .ok (.int .i64 (numN L y : Nat)) w := by
  obtain ⟨D, n, h, hn, hi, hD⟩ := h
  obtain ⟨kl, hk⟩ := key_node y hy
  obtain ⟨c, hrun, hat, _⟩ := h.lookup_int keyed Tryz.underlying121 Tryz.underlying3 (zeroI w) hk
  rw [hD y kl hk] at hat
  injection hat with hat
  injection hat with _ hat
  rw [hrun, ← hat]
theorem NMp.isMap (h : NMp w b L) : ∃ es clock, w.heap[b]? = some (.map es clock) := by
  obtain ⟨D, n, h, _⟩ := h
  obtain ⟨es, clock, h1, _⟩ := h
  exact ⟨es, clock, h1⟩
theorem NMp.put {ops : Array Oper} {rest : List Oper} {o : Oper} {a : Act} {Q : Exit → Act → World → Prop} (hg : o.guard = none) (m x v : Operand) (hop : o.op = Op.mapUpdate 121 m x v)
    (hm : a.eval m = .map (some b)) (h : NMp w b L) (hn : L.length < 1000000) (y : Nd) (hy : wfN y) (hno : y ∉ L) (hx : a.eval x = agN y) (hv : a.eval v = .int .i64 (L.length : Nat))
    (hK : ∀ w', NMp w' b (L ++ [y]) → w.grownBy w' (some b) → wpList Tryz.prog ops Q rest (a.put o.dst undef) w') : wpList Tryz.prog ops Q (o :: rest) a w := by
  obtain ⟨D, n, hO, hl, hi, hD⟩ := h
  obtain ⟨kl, hk⟩ := key_node y hy
  refine wpList_mapUpdate_own w hg m x v 121 hop 75 3 keyed Tryz.underlying121 (plainElem Tryz.prog 3) b n D hm hO (by unfold maxLen; omega) (agN y) (.int .i64 (L.length : Nat)) kl hx hv hk (.lit (.int .i64 (L.length : Nat))) [] (plainElem_int Tryz.underlying3 (wf_lit (by omega))) fun w' hO' hg' => hK w' ⟨D.put kl (.lit (.int .i64 (L.length : Nat))), n + 1, hO', by simp; omega, hi.put _ _, fun y' kl' hk' => ?_⟩ hg'
  rw [numN_snoc hno]
  by_cases e : y' = y
  · subst e
    obtain rfl := Option.some.inj (hk.symm.trans hk')
    rw [if_pos rfl, Maps.atKey_put_same hi (keyed.key hk)]
  · rw [if_neg e, Maps.atKey_put_other (fun h => ?_), hD y' kl' hk']
    subst h
    have := keyed.inj hk hk'
    unfold agN at this
    simp at this
    apply e
    cases y; cases y'
    simp at this
    simp [this]
end
set_option maxHeartbeats 1600000 in
theorem numbers_any (A : Option Addr) (n c : Nat) (L : List Nd) (w : World) (h : EAt w [] A (L.flatMap ndc)) (hl : L.length = n) (hn : n ≤ 100000) (hd : L.Nodup) (hw : ∀ y ∈ L, wfN y) :
    Calls Tryz.prog 71 #[.slice A n c] w fun e w' => ∃ b : Nat, e = .returned (.map (some b)) ∧ NMp w' b L ∧ w.heap.size ≤ b ∧ Below w.heap.size w w' := by
  have HE := hid h
  have HL := hid hl
  have HD := hid hd
  have HW := hid hw
  clear h hd hw hl
  have hmm := @run_makeMap Tryz.prog
  go_enter Tryz.func71, Tryz.ntmps71
  go_wp2_with fail
  have HM := hid (NMp.made w)
  have HB := hid ((Below.refl w.heap.size w).alloc (Nat.le_refl _) (.map #[] 0))
  clear hmm
  generalize w.alloc (.map #[] 0) = w0 at HM HB ⊢
  have hG : ∃ G, w.heap.size = G := ⟨_, rfl⟩
  obtain ⟨G, hG⟩ := hG
  have HGe := hid hG
  rw [hG] at HM ⊢
  clear hG
  go_loopw [4, 5, 9] (fun _ _ iv wr => ∃ k : Nat, k ≤ n ∧ iv = .int .i64 k ∧ Hid (NMp wr G (L.take k)) ∧ Hid (Below w.heap.size w wr)) (fun _ _ iv _ => n - (intOf iv).toNat)
  case atStart => exact ⟨0, by omega, rfl, hid (by rw [List.take_zero]; exact HM.out), HB⟩
  case round =>
    clear HM HB
    obtain ⟨k, hk, rfl, hM, hB⟩ := hrel
    by_cases hlt : k < n
    · obtain ⟨y, hy, hym⟩ := get_at HL.out hlt
      obtain ⟨ad, hA, had, hc1, hc2, hc3, hc4⟩ := Nd.cells (HE.out.go (Go2.below hB.out)) hy
      subst hA
      have Hyw := hid (HW.out y hym)
      have Htk := hid (show L.take (k + 1) = L.take k ++ [y] by rw [List.take_add_one, hy]; rfl)
      have Hlen := hid (show (L.take k).length = k by rw [List.length_take, HL.out]; omega)
      have Hno := hid (show y ∉ L.take k by
        intro hm
        obtain ⟨i, hi, he⟩ := List.mem_iff_getElem.1 hm
        rw [List.getElem_take] at he
        obtain ⟨h1, h2⟩ := List.getElem?_eq_some_iff.1 hy
        have hi2 : i < k := by rw [List.length_take] at hi; omega
        have := (List.nodup_iff_pairwise_ne.1 HD.out)
        exact (List.pairwise_iff_getElem.1 this i k (by omega) h1 hi2) (he.trans h2.symm))
      have ha := (Below.refl wr.heap.size wr).alloc (Nat.le_refl _) (.cells #[.int .i64 y.kd, .int .i64 y.fn, .int .i64 y.bk, .int .i64 y.st] 75)
      have HF := hid (Fb.new wr #[.int .i64 y.kd, .int .i64 y.fn, .int .i64 y.bk, .int .i64 y.st] 75)
      have HM2 := hid (hM.out.below ha)
      have HB2 := hid (below_step hB.out ha)
      clear hy hym ha hM hB
      obtain ⟨yk, yf, yb, ys⟩ := y
      simp only at *
      obtain ⟨g0, g1, g2, g3⟩ := Fb.four HF.out
      clear HF
      have hGn : w.heap.size ≤ G := by have := HGe.out; omega
      go_wp2_with ((
        at_mapUpdate
        go_must (refine NMp.put rfl _ _ _ rfl rfl HM2.out (by rw [Hlen.out]; omega) ⟨yk, yf, yb, ys⟩ Hyw.out Hno.out rfl (by rw [Hlen.out]; rfl) ?_)
        intro w5 hm5 hg5
        have HM5 := hid (Htk.out.symm ▸ hm5)
        have HB5 := hid (HB2.out.grown hg5 HB2.out.size (fun k hk => by injection hk with hk; omega))
        clear hm5 hg5 g0 g1 g2 g3))
      go_roundw
      case rel => exact ⟨k + 1, by omega, by go_num, HM5, HB5⟩
      case measure => simp [intOf]; omega
    · obtain rfl : k = n := by omega
      have HM3 := hid (show NMp wr G L from by have := hM.out; rw [List.take_of_length_le (by rw [HL.out]; omega)] at this; exact this)
      clear hM
      have hGn : w.heap.size ≤ G := by have := HGe.out; omega
      go_wp2_with fail
      go_ret
      exact ⟨G, rfl, HM3.out, hGn, hB.out⟩
end Go.Proofs.YtfapgnbnfhpicaaGreatDoor

namespace Go.Proofs.YtfapgnbnfhpicaaGreatDoor
set_option maxRecDepth 20000
set_option linter.unusedVariables false
set_option linter.unusedSimpArgs false
open Go.ChangeShapes Go.WideShapes Go.ChangeAt Go.RowKit

/-- The targets of edges from a, in their order. -/
def outF (E : List (Nat × Nat)) (a : Nat) : List Int := (E.filter fun e => e.1 == a).map fun e => (e.2 : Int)
theorem outF_snoc (E : List (Nat × Nat)) (a c b : Nat) : upd (outF E) a (outF E a ++ [(c : Int)]) b = outF (E ++ [(a, c)]) b := by
  by_cases e : b = a
  · subst e
    rw [upd_at]
    unfold outF
    simp
  · rw [upd_ne _ _ e]
    unfold outF
    have : (a == b) = false := by simp; exact fun h => e h.symm
    simp [this]
theorem outF_len (E : List (Nat × Nat)) (a : Nat) : (outF E a).length ≤ E.length := by
  unfold outF
  rw [List.length_map]
  exact List.length_filter_le _ _
theorem outF_mem {E : List (Nat × Nat)} {a : Nat} {x : Int} : x ∈ outF E a ↔ ∃ c : Nat, (a, c) ∈ E ∧ x = c := by
  unfold outF
  rw [List.mem_map]
  constructor
  · rintro ⟨⟨a', c⟩, he, rfl⟩
    rw [List.mem_filter] at he
    obtain ⟨h1, h2⟩ := he
    simp at h2
    subst h2
    exact ⟨c, h1, rfl⟩
  · rintro ⟨c, h1, rfl⟩
    exact ⟨(a, c), List.mem_filter.2 ⟨h1, by simp⟩, rfl⟩
theorem Mx.of {w : World} {M N : Nat} {f : Nat → List Int} (h : Mx w M N f) {i : Nat} (hi : i < N) {v : Value} (hc : w.cell? ⟨M, i, none⟩ = some v) :
    w.ownsRow (M + 1) 3 1 v (f i).length (ints (f i)) ∧ (∀ w' : World, w.grownBy w' v.ownBlock → w'.cell? ⟨M, i, none⟩ = some v ∧ w'.frozen? ⟨M, i, none⟩ = false) ∧
    (∀ (w' : World) (u : Value) (l : List Int), w.grownBy w' v.ownBlock → w'.ownsRow (M + 1) 3 1 u l.length (ints l) → (∀ g, u.ownBlock = some g → v.ownBlock = some g ∨ w.heap.size ≤ g) → Mx (w'.setCell ⟨M, i, none⟩ u) M N (upd f i l)) := by
  obtain ⟨v2, h1, h2, h3, h4, h5, h6⟩ := h.at hi
  obtain rfl : v = v2 := Option.some.inj (hc.symm.trans h2)
  exact ⟨h1, h5, h6⟩
theorem Mx.fb {w : World} {M N : Nat} {f : Nat → List Int} (h : Mx w M N f) {B t : Nat} {cs : Array Value} (hb : Fb w B cs t) (ht : t ≠ 22) : B ≠ M := by
  obtain ⟨vs, h1, h2, _⟩ := h
  rintro rfl
  unfold Fb at hb h2
  rw [hb] at h2
  injection h2 with h2
  injection h2 with _ h2
  exact ht h2
/-- What stands in blocks of other types stays. -/
def KeepF (w w' : World) : Prop := w.heap.size ≤ w'.heap.size ∧ ∀ (k : Nat) (cs : Array Value) (t : Nat), t ≠ 3 → t ≠ 22 → Fb w k cs t → Fb w' k cs t
theorem KeepF.trans {a b c : World} (h : KeepF a b) (h2 : KeepF b c) : KeepF a c := ⟨Nat.le_trans h.1 h2.1, fun k cs t h3 h22 hf => h2.2 k cs t h3 h22 (h.2 k cs t h3 h22 hf)⟩
theorem KeepF.below {a b : World} (h : Below a.heap.size a b) : KeepF a b := ⟨h.size, fun k cs t _ _ hf => hf.below h hf.lt⟩
/-- The builder as it stands: its block B, the map MB, the lists of successors in M. -/
structure Bls (w0 : World) (x : PH) (B MB M N : Nat) (L : List Nd) (E : List (Nat × Nat)) (w : World) : Prop where
  box : Fb w B #[.slice x.A x.n x.c, .map (some MB), .slice (some ⟨M, 0, none⟩) N N] 124
  map : NMp w MB L
  mx : Mx w M N (outF E)
  bel : Below w0.heap.size w0 w
  mle : w0.heap.size ≤ M
theorem Bls.below {w0 w w' : World} {x : PH} {B MB M N : Nat} {L : List Nd} {E : List (Nat × Nat)} (h : Bls w0 x B MB M N L E w) (hb : Below w.heap.size w w') : Bls w0 x B MB M N L E w' :=
  ⟨h.box.below hb h.box.lt, h.map.below hb, h.mx.below hb, below_step h.bel hb, h.mle⟩
theorem map_ne_own {w : World} {MB base ty size n : Nat} {v : Value} {xs : List Value} {L : List Nd} (hm : NMp w MB L) (h : w.ownsRow base ty size v n xs) : some MB ≠ v.ownBlock := by
  obtain ⟨es, clock, hm⟩ := hm.isMap
  rcases h.2 with ⟨rfl, _⟩ | ⟨g', cap, cur, rfl, _, hg, _⟩
  · simp [Value.ownBlock]
  · intro e
    simp only [Value.ownBlock, Option.some.injEq] at e
    subst e
    rw [hm] at hg
    cases hg
theorem Bls.push {w0 X w9 : World} {x : PH} {B MB M N : Nat} {L : List Nd} {E : List (Nat × Nat)} (h : Bls w0 x B MB M N L E X) {a c g cap : Nat} {rv : Value} (ha : a < N) (hrv : X.cell? ⟨M, a, none⟩ = some rv)
    (hown : w9.ownsRow (M + 1) 3 1 (.slice (some ⟨g, 0, none⟩) ((outF E a).length + 1) cap) ((outF E a).length + 1) (ints (outF E a) ++ [.int .i64 (c : Int)])) (hg : X.grownBy w9 rv.ownBlock) (hat : rv.ownBlock = some g ∨ g = X.heap.size) :
    ((w9.cell? ⟨M, a, none⟩ = some rv ∧ w9.frozen? ⟨M, a, none⟩ = false) ∧ Fb w9 B #[.slice x.A x.n x.c, .map (some MB), .slice (some ⟨M, 0, none⟩) N N] 124) ∧
    Bls w0 x B MB M N L (E ++ [(a, c)]) (w9.setCell ⟨M, a, none⟩ (.slice (some ⟨g, 0, none⟩) ((outF E a).length + 1) cap)) ∧
    KeepF X (w9.setCell ⟨M, a, none⟩ (.slice (some ⟨g, 0, none⟩) ((outF E a).length + 1) cap)) := by
  obtain ⟨ho, hk, hp⟩ := h.mx.of ha hrv
  have hkeep : ∀ (k : Nat) (cs : Array Value) (t : Nat), t ≠ 3 → t ≠ 22 → Fb X k cs t → Fb (w9.setCell ⟨M, a, none⟩ (.slice (some ⟨g, 0, none⟩) ((outF E a).length + 1) cap)) k cs t := fun k cs t h3 h22 hf =>
    (hf.grown hg (fb_ne_own hf ho h3)).far (by simpa using h.mx.fb hf h22) _
  refine ⟨⟨hk _ hg, h.box.grown hg (fb_ne_own h.box ho (by decide))⟩, ⟨hkeep B _ 124 (by decide) (by decide) h.box, ?_, ?_, ?_, h.mle⟩, ⟨by simpa [World.setCell] using hg.size, hkeep⟩⟩
  · refine (h.map.kept hg (map_ne_own h.map ho)).kept (setCell_grown w9 ⟨M, a, none⟩ _) ?_
    intro e
    injection e with e
    simp only at e
    obtain ⟨es, clock, hm⟩ := h.map.isMap
    obtain ⟨vs, h1, h2, _⟩ := h.mx
    unfold Fb at h2
    rw [← e, hm] at h2
    cases h2
  · have := hp w9 (.slice (some ⟨g, 0, none⟩) ((outF E a).length + 1) cap) (outF E a ++ [(c : Int)]) hg (by rw [ints_snoc, List.length_append]; exact hown) (own_hat hat)
    exact this.congr fun b _ => outF_snoc E a c b
  · exact (h.bel.grown hg h.bel.size (fun k hk2 => by have := (ho.lt k hk2).1; have := h.mle; omega)).setCell (by simpa using h.mle) _
theorem tcells9 {w : World} {M g a t : Nat} {u : Value} {cs : Array Value} (h : Fb (w.setCell ⟨M, a, none⟩ u) g cs t) (hne : g ≠ M) : Fb w g cs t := (Below.heap_setCell w ⟨M, a, none⟩ u g (by simpa using hne)).symm.trans h
def ag4 (y : Nd) : Array Value := #[.int .i64 y.kd, .int .i64 y.fn, .int .i64 y.bk, .int .i64 y.st]
theorem look_drewN {w : World} {MB : Nat} {L : List Nd} (h : NMp w MB L) (y : Nd) (hy : wfN y) (q : Nat) : (Instr.lookup 121 (.map (some MB)) (.agg #[.int .i64 y.kd, .int .i64 y.fn, .int .i64 y.bk, .int .i64 y.st]) false).run Tryz.prog (w.drewN q) = .ok (.int .i64 (numN L y : Nat)) (w.drewN q) :=
  (h.below (below_drewN (Below.refl _ _) q)).look y hy
set_option maxHeartbeats 6400000 in
theorem connect_any (w0 : World) (x : PH) (B MB M N : Nat) (L : List Nd) (E : List (Nat × Nat)) (w : World) (h : Bls w0 x B MB M N L E w) (hN : 1 ≤ N) (hL : L.length = N) (hE : E.length ≤ 1000000) (f t : Nd) (hf : wfN f) (ht : wfN t) :
    Calls Tryz.prog 112 #[.pointer (some ⟨B, 0, none⟩), agN f, agN t] w fun e w' => e = .returned (.tuple #[]) ∧ Bls w0 x B MB M N L (E ++ [(numN L f, numN L t)]) w' ∧ KeepF w w' := by
  obtain ⟨i1, hi, hz0, hz1, hz2⟩ := info_parts info3
  have Hi := hid hi; have Hz0 := hid hz0; have Hz1 := hid hz1; have Hz2 := hid hz2
  clear hi hz0 hz1 hz2
  have hb0 : Below w.heap.size w ((w.alloc (.cells #[.int .i64 f.kd, .int .i64 f.fn, .int .i64 f.bk, .int .i64 f.st] 75)).alloc (.cells #[.int .i64 t.kd, .int .i64 t.fn, .int .i64 t.bk, .int .i64 t.st] 75)) :=
    ((Below.refl _ _).alloc (Nat.le_refl _) _).alloc (by simp) _
  have H1 := hid (h.below hb0)
  have HK0 := hid (KeepF.below hb0)
  have HF := hid (((Fb.new w #[.int .i64 f.kd, .int .i64 f.fn, .int .i64 f.bk, .int .i64 f.st] 75).alloc (.cells #[.int .i64 t.kd, .int .i64 t.fn, .int .i64 t.bk, .int .i64 t.st] 75)))
  have HT := hid (show Fb ((w.alloc (.cells #[.int .i64 f.kd, .int .i64 f.fn, .int .i64 f.bk, .int .i64 f.st] 75)).alloc (.cells #[.int .i64 t.kd, .int .i64 t.fn, .int .i64 t.bk, .int .i64 t.st] 75)) (w.heap.size + 1) #[.int .i64 t.kd, .int .i64 t.fn, .int .i64 t.bk, .int .i64 t.st] 75 by
    have := Fb.new (w.alloc (.cells #[.int .i64 f.kd, .int .i64 f.fn, .int .i64 f.bk, .int .i64 f.st] 75)) #[.int .i64 t.kd, .int .i64 t.fn, .int .i64 t.bk, .int .i64 t.st] 75
    rwa [World.size_alloc] at this)
  have Ha := hid (show numN L f < N by rw [← hL]; exact numN_lt (by omega) f)
  have Hc := hid (show numN L t < N by rw [← hL]; exact numN_lt (by omega) t)
  have Hlf := hid (fun (u : World) (hu : NMp u MB L) (q : Nat) => look_drewN hu f hf q)
  have Hlt := hid (fun (u : World) (hu : NMp u MB L) (q : Nat) => look_drewN hu t ht q)
  clear h hb0
  obtain ⟨fk, ff, fb, fs⟩ := f
  obtain ⟨tk, tf, tb, ts⟩ := t
  unfold agN
  simp only at *
  generalize numN L ⟨fk, ff, fb, fs⟩ = a at *
  generalize numN L ⟨tk, tf, tb, ts⟩ = c at *
  go_enter Tryz.func112, Tryz.ntmps112
  go_wp2_with fail
  have hG : ∃ G, w.heap.size = G := ⟨_, rfl⟩
  obtain ⟨G, hG⟩ := hG
  rw [hG] at HF HT ⊢
  clear hG
  generalize (w.alloc (.cells #[.int .i64 fk, .int .i64 ff, .int .i64 fb, .int .i64 fs] 75)).alloc (.cells #[.int .i64 tk, .int .i64 tf, .int .i64 tb, .int .i64 ts] 75) = W at *
  obtain ⟨f0, f1, f2, f3⟩ := Fb.four HF.out
  obtain ⟨t0, t1, t2, t3⟩ := Fb.four HT.out
  obtain ⟨b0, b1, b2⟩ := H1.out.box.thr
  have hlf := Hlf.out W H1.out.map
  go_quiet (fail)
  clear f0 f1 f2 f3 hlf t0 t1 t2 t3 b0 b1 b2
  have H2 := hid (H1.out.below (below_drewN (Below.refl _ _) nq))
  have HK1 := hid (HK0.out.trans (KeepF.below (below_drewN (Below.refl W.heap.size W) nq)))
  have HT2 := hid (HT.out.drewN nq)
  clear HT HF H1 HK0 Hlf
  generalize W.drewN nq = X at *
  have hTl := HT2.out.lt
  obtain ⟨t0, t1, t2, t3⟩ := Fb.four HT2.out
  have hBl := H2.out.box.lt
  obtain ⟨b0, b1, b2⟩ := H2.out.box.thr
  have hMl := H2.out.mx.lt
  have hMl2 : M + 1 ≤ X.heap.size := hMl
  obtain ⟨rv, hown, hcell, hfr, ⟨rA, rc, hrv⟩, -, -⟩ := H2.out.mx.at Ha.out
  have HO := hid hown
  have Hcell := hid hcell
  have hlt := Hlt.out X H2.out.map 1
  change _ = Result.ok _ X.drew at hlt
  change Sem.run _ _ X.drew = _ at hlt
  have hlen := outF_len E a
  have hal : ∀ q o, ((X.drewN q).alloc o).cell? ⟨M, a, none⟩ = some rv := fun q o => by
    rw [World.cell?_alloc_lt (X.drewN q) o ⟨M, a, none⟩ (by exact hMl)]; exact hcell
  have HA := hid hal
  have HTf := hid HT2.out
  clear hown hal HT2 Hlt
  subst hrv
  have han := Ha.out
  have HSd := hid (show ∀ v : World, Below X.heap.size X v → (v.cell? ⟨B, 1, none⟩ = some (.map (some MB)) ∧ v.cell? ⟨B, 2, none⟩ = some (.slice (some ⟨M, 0, none⟩) N N)) ∧ (v.cell? ⟨G + 1, 0, none⟩ = some (.int .i64 tk) ∧ v.cell? ⟨G + 1, 1, none⟩ = some (.int .i64 tf) ∧ v.cell? ⟨G + 1, 2, none⟩ = some (.int .i64 tb) ∧ v.cell? ⟨G + 1, 3, none⟩ = some (.int .i64 ts)) from fun v hv =>
    ⟨⟨(hv.cell (p := ⟨B, 1, none⟩) hBl).trans b1, (hv.cell (p := ⟨B, 2, none⟩) hBl).trans b2⟩, (hv.cell (p := ⟨G + 1, 0, none⟩) hTl).trans t0, (hv.cell (p := ⟨G + 1, 1, none⟩) hTl).trans t1, (hv.cell (p := ⟨G + 1, 2, none⟩) hTl).trans t2, (hv.cell (p := ⟨G + 1, 3, none⟩) hTl).trans t3⟩)
  have HBM := hid (H2.out.mx.fb H2.out.box (by decide))
  have HGM := hid (H2.out.mx.fb HTf.out (by decide))
  go_wp2_with fail
  refine wp_region_noPanic ?_
  refine wp_region_held_drew (S := (fun v => (v.cell? ⟨B, 1, none⟩ = some (.map (some MB)) ∧ v.cell? ⟨B, 2, none⟩ = some (.slice (some ⟨M, 0, none⟩) N N)) ∧ (v.cell? ⟨G + 1, 0, none⟩ = some (.int .i64 tk) ∧ v.cell? ⟨G + 1, 1, none⟩ = some (.int .i64 tf) ∧ v.cell? ⟨G + 1, 2, none⟩ = some (.int .i64 tb) ∧ v.cell? ⟨G + 1, 3, none⟩ = some (.int .i64 ts)))) (by kernel_rfl) (HSd.out _ (Below.refl _ _).drew) (fun hHeld => ?_)
  refine wpAnyH_take (i := 0) (oi := _) (v := ?_) rfl (by kernel_rfl) (by kernel_rfl) (by kernel_rfl) (fun _ _ _ h => h) (Or.inl ⟨by rfl, ?_⟩) (by assumption) ?_
  rotate_left
  · (intro w hSw; (try dsimp only at hSw); go_simp; try with_reducible rfl)
  try simp only [Act.put, List.setIfInBounds_toArray, List.set_cons_zero, List.set_cons_succ]
  refine wpAnyH_take (i := 1) (oi := _) (v := ?_) rfl (by kernel_rfl) (by kernel_rfl) (by kernel_rfl) (fun _ _ _ h => h) (Or.inl ⟨by rfl, ?_⟩) (by assumption) ?_
  rotate_left
  · (intro w hSw; (try dsimp only at hSw); go_simp; try with_reducible rfl)
  try simp only [Act.put, List.setIfInBounds_toArray, List.set_cons_zero, List.set_cons_succ]
  refine wpAnyH_take (i := 2) (oi := _) (v := ?_) rfl (by kernel_rfl) (by kernel_rfl) (by kernel_rfl) (fun _ _ _ h => h) (Or.inl ⟨by rfl, ?_⟩) (by assumption) ?_
  rotate_left
  · (intro w hSw; (try dsimp only at hSw); go_simp; try with_reducible rfl)
  try simp only [Act.put, List.setIfInBounds_toArray, List.set_cons_zero, List.set_cons_succ]
  refine wpAnyH_take (i := 3) (oi := _) (v := ?_) rfl (by kernel_rfl) (by kernel_rfl) (by kernel_rfl) (fun _ _ _ h => h) (Or.inl ⟨by rfl, ?_⟩) (by assumption) ?_
  rotate_left
  · (intro w hSw; (try dsimp only at hSw); go_simp; try with_reducible rfl)
  try simp only [Act.put, List.setIfInBounds_toArray, List.set_cons_zero, List.set_cons_succ]
  refine wpAnyH_take (i := 4) (oi := _) (v := ?_) rfl (by kernel_rfl) (by kernel_rfl) (by kernel_rfl) (fun _ _ _ h => h) (Or.inl ⟨by rfl, ?_⟩) (by assumption) ?_
  rotate_left
  · (intro w hSw; (try dsimp only at hSw); go_simp; try with_reducible rfl)
  try simp only [Act.put, List.setIfInBounds_toArray, List.set_cons_zero, List.set_cons_succ]
  refine wpAnyH_take (i := 5) (oi := _) (v := ?_) rfl (by kernel_rfl) (by kernel_rfl) (by kernel_rfl) (fun _ _ _ h => h) (Or.inl ⟨by rfl, ?_⟩) (by assumption) ?_
  rotate_left
  · (intro w hSw; (try dsimp only at hSw); go_simp; try with_reducible rfl)
  try simp only [Act.put, List.setIfInBounds_toArray, List.set_cons_zero, List.set_cons_succ]
  refine wpAnyH_take (i := 6) (oi := _) (v := ?_) rfl (by kernel_rfl) (by kernel_rfl) (by kernel_rfl) (fun _ _ _ h => h) (Or.inl ⟨by rfl, ?_⟩) (by assumption) ?_
  rotate_left
  · (intro w hSw; (try dsimp only at hSw); go_simp; try with_reducible rfl)
  try simp only [Act.put, List.setIfInBounds_toArray, List.set_cons_zero, List.set_cons_succ]
  refine wpAnyH_take (i := 7) (oi := _) (v := ?_) rfl (by kernel_rfl) (by kernel_rfl) (by kernel_rfl) (fun _ _ _ h => h) (Or.inl ⟨by rfl, ?_⟩) (by assumption) ?_
  rotate_left
  · (intro w hSw; (try dsimp only at hSw); go_simp; try with_reducible rfl)
  try simp only [Act.put, List.setIfInBounds_toArray, List.set_cons_zero, List.set_cons_succ]
  refine wpAnyH_take (i := 8) (oi := _) (v := ?_) rfl (by kernel_rfl) (by kernel_rfl) (by kernel_rfl) (fun _ _ _ h => h) (Or.inl ⟨by rfl, ?_⟩) (by assumption) ?_
  rotate_left
  · (intro w hSw; (try dsimp only at hSw); go_simp; try with_reducible rfl)
  try simp only [Act.put, List.setIfInBounds_toArray, List.set_cons_zero, List.set_cons_succ]
  refine wpAnyH_take (i := 9) (oi := _) (v := ?_) rfl (by kernel_rfl) (by kernel_rfl) (by kernel_rfl) (fun _ _ _ h => h) (Or.inl ⟨by rfl, ?_⟩) (by assumption) ?_
  rotate_left
  · (intro w hSw; (try dsimp only at hSw); go_simp; try with_reducible rfl)
  try simp only [Act.put, List.setIfInBounds_toArray, List.set_cons_zero, List.set_cons_succ]
  refine wpAnyH_take (i := 10) (oi := _) (v := ?_) rfl (by kernel_rfl) (by kernel_rfl) (by kernel_rfl) (fun _ _ _ h => h) (Or.inl ⟨by rfl, ?_⟩) (by assumption) ?_
  rotate_left
  · (intro w hSw; (try dsimp only at hSw); go_simp; try with_reducible rfl)
  try simp only [Act.put, List.setIfInBounds_toArray, List.set_cons_zero, List.set_cons_succ]
  refine wpAnyH_take (i := 12) (oi := _) (v := ?_) rfl (by kernel_rfl) (by kernel_rfl) (by kernel_rfl) (fun _ _ _ h => h) (Or.inl ⟨by rfl, ?_⟩) (by assumption) ?_
  rotate_left
  · (intro w hSw; (try dsimp only at hSw); go_simp; try with_reducible rfl)
  try simp only [Act.put, List.setIfInBounds_toArray, List.set_cons_zero, List.set_cons_succ]
  refine wpAnyH_take (i := 13) (oi := _) (v := ?_) rfl (by kernel_rfl) (by kernel_rfl) (by kernel_rfl) (fun _ _ _ h => h) (Or.inl ⟨by rfl, ?_⟩) (by assumption) ?_
  rotate_left
  · (intro w hSw; (try dsimp only at hSw); go_simp; try with_reducible rfl)
  try simp only [Act.put, List.setIfInBounds_toArray, List.set_cons_zero, List.set_cons_succ]
  refine wpAnyH_take (i := 14) (oi := _) (v := ?_) rfl (by kernel_rfl) (by kernel_rfl) (by kernel_rfl) (fun _ _ _ h => h) (Or.inl ⟨by rfl, ?_⟩) (by assumption) ?_
  rotate_left
  · (intro w hSw; (try dsimp only at hSw); go_simp; try with_reducible rfl)
  try simp only [Act.put, List.setIfInBounds_toArray, List.set_cons_zero, List.set_cons_succ]
  refine wpAnyH_take (i := 15) (oi := _) (v := ?_) rfl (by kernel_rfl) (by kernel_rfl) (by kernel_rfl) (fun _ _ _ h => h) (Or.inl ⟨by rfl, ?_⟩) (by assumption) ?_
  rotate_left
  · (intro w hSw; (try dsimp only at hSw); go_simp; try with_reducible rfl)
  try simp only [Act.put, List.setIfInBounds_toArray, List.set_cons_zero, List.set_cons_succ]
  refine wpAnyH_take (i := 16) (oi := _) (v := ?_) rfl (by kernel_rfl) (by kernel_rfl) (by kernel_rfl) (fun _ _ _ h => h) (Or.inl ⟨by rfl, ?_⟩) (by assumption) ?_
  rotate_left
  · (intro w hSw; (try dsimp only at hSw); go_simp; try with_reducible rfl)
  try simp only [Act.put, List.setIfInBounds_toArray, List.set_cons_zero, List.set_cons_succ]
  refine wpAnyH_ready (rs := [11, 17]) (by kernel_rfl) (by simp) ?_
  refine AllReadyH.cons (o := _) rfl (fun K hK => ?_) ?_
  ·
    go_simp
    refine hK.out _ _ ?_ (fun hHeld => ?_)
    · ((try dsimp only); (first | (with_reducible exact HSd.out _ (Below.refl _ _).drew) | (exact HSd.out _ ((Below.refl _ _).drew.alloc (by simp) _)) | assumption | (exact HS9.out) | (exact HS9s.out _)))
    clear hK K
    try simp only [Act.put, List.setIfInBounds_toArray, List.set_cons_zero, List.set_cons_succ]
    refine wpAnyH_ready (rs := [17]) (by kernel_rfl) (by simp) ?_
    refine AllReadyH.cons (o := _) rfl (fun K hK => ?_) ?_
    ·
      go_simp
      refine hK.out _ _ ?_ (fun hHeld => ?_)
      · ((try dsimp only); (first | (with_reducible exact HSd.out _ (Below.refl _ _).drew) | (exact HSd.out _ ((Below.refl _ _).drew.alloc (by simp) _)) | assumption | (exact HS9.out) | (exact HS9s.out _)))
      clear hK K
      try simp only [Act.put, List.setIfInBounds_toArray, List.set_cons_zero, List.set_cons_succ]
      refine wpAnyH_ready (rs := [18]) (by kernel_rfl) (by simp) ?_
      refine AllReadyH.cons (o := _) rfl (fun K hK => ?_) ?_
      ·
        go_simp
        refine hK.out _ _ ?_ (fun hHeld => ?_)
        · ((try dsimp only); (first | (with_reducible exact HSd.out _ (Below.refl _ _).drew) | (exact HSd.out _ ((Below.refl _ _).drew.alloc (by simp) _)) | assumption | (exact HS9.out) | (exact HS9s.out _)))
        clear hK K
        try simp only [Act.put, List.setIfInBounds_toArray, List.set_cons_zero, List.set_cons_succ]
        refine wpAnyH_ready (rs := [19]) (by kernel_rfl) (by simp) ?_
        refine AllReadyH.cons (o := _) rfl (fun K hK => ?_) ?_
        ·
          ((refine step_append_lies _ (by rfl) _ _ 22 (by rfl) (M + 1) 3 i1 _ 1 8 Tryz.underlying22 Hi.out Hz0.out Hz1.out Hz2.out (by rfl) (by decide) (.slice rA (outF E a).length rc) (outF E a).length (ints (outF E a)) (by rfl) (by exact own_below HO.out ((below_drewN (Below.refl _ _) 1).alloc (by simp) _))
                    ⟨_, 0, none⟩ 1 1 [Value.int .i64 (c : Int)] (by rfl) rfl (by exact int_new _ _ _) (one_int1 _) (by decide) (by unfold maxLen; omega) (by omega) (by simp; omega) _ rfl ?_))
          intro g9 cap9 w9 hown9 hgr9 hat9 hlt9
          obtain ⟨⟨⟨y0, y1⟩, hbx⟩, h9, hk9⟩ := Bls.push (H2.out.below ((below_drewN (Below.refl _ _) 1).alloc (by simp) _)) Ha.out (HA.out 1 _) hown9 hgr9 hat9
          have H9 := hid h9
          have HK9 := hid (HK1.out.trans ((KeepF.below ((below_drewN (Below.refl _ _) 1).alloc (by simp) _)).trans hk9))
          obtain ⟨u0, u1, u2⟩ := hbx.thr
          have hul := hbx.lt
          have HT9 := hk9.2 (G + 1) _ 75 (by decide) (by decide) (HTf.out.below ((below_drewN (Below.refl _ _) 1).alloc (by simp) _) HTf.out.lt)
          have HS9 := hid (And.intro (And.intro u1 u2) (Fb.four (tcells9 HT9 HGM.out)))
          have HS9s := hid (fun u => And.intro (And.intro ((cell_far (p := ⟨M, a, none⟩) (q := ⟨B, 1, none⟩) HBM.out u).trans u1) ((cell_far (p := ⟨M, a, none⟩) (q := ⟨B, 2, none⟩) HBM.out u).trans u2)) (Fb.four ((tcells9 HT9 HGM.out).far (p := ⟨M, a, none⟩) HGM.out u)))
          clear HT9 hown9 hgr9 hat9 hlt9 h9 hk9 hbx
          refine hK.out _ _ ?_ (fun hHeld => ?_)
          · ((try dsimp only); (first | (with_reducible exact HSd.out _ (Below.refl _ _).drew) | (exact HSd.out _ ((Below.refl _ _).drew.alloc (by simp) _)) | assumption | (exact HS9.out) | (exact HS9s.out _)))
          clear hK K
          try simp only [Act.put, List.setIfInBounds_toArray, List.set_cons_zero, List.set_cons_succ]
          refine wpAnyH_take (i := 20) (oi := _) (v := ?_) rfl (by kernel_rfl) (by kernel_rfl) (by kernel_rfl) (fun _ _ _ h => h) (Or.inl ⟨by rfl, ?_⟩) (by assumption) ?_
          rotate_left
          · (intro w hSw; (try dsimp only at hSw); go_simp; try with_reducible rfl)
          try simp only [Act.put, List.setIfInBounds_toArray, List.set_cons_zero, List.set_cons_succ]
          refine wpAnyH_ready (rs := [21]) (by kernel_rfl) (by simp) ?_
          refine AllReadyH.cons (o := _) rfl (fun K hK => ?_) ?_
          ·
            go_simp
            refine hK.out _ _ ?_ (fun hHeld => ?_)
            · ((try dsimp only); (first | (with_reducible exact HSd.out _ (Below.refl _ _).drew) | (exact HSd.out _ ((Below.refl _ _).drew.alloc (by simp) _)) | assumption | (exact HS9.out) | (exact HS9s.out _)))
            clear hK K
            try simp only [Act.put, List.setIfInBounds_toArray, List.set_cons_zero, List.set_cons_succ]
            refine wpAnyH_done (by kernel_rfl) ?_ _
            refine NoPanic.normal ?_
            go_wp2_with fail
            refine bodyPost_end (v := .tuple #[]) (by simp [results, Tryz.results112]) rfl ⟨rfl, H9.out, HK9.out⟩
          exact AllReadyH.nil
        exact AllReadyH.nil
      exact AllReadyH.nil
    exact AllReadyH.nil
  refine AllReadyH.cons (o := _) rfl (fun K hK => ?_) ?_
  ·
    go_simp
    refine hK.out _ _ ?_ (fun hHeld => ?_)
    · ((try dsimp only); (first | (with_reducible exact HSd.out _ (Below.refl _ _).drew) | (exact HSd.out _ ((Below.refl _ _).drew.alloc (by simp) _)) | assumption | (exact HS9.out) | (exact HS9s.out _)))
    clear hK K
    try simp only [Act.put, List.setIfInBounds_toArray, List.set_cons_zero, List.set_cons_succ]
    refine wpAnyH_ready (rs := [11, 18]) (by kernel_rfl) (by simp) ?_
    refine AllReadyH.cons (o := _) rfl (fun K hK => ?_) ?_
    ·
      go_simp
      refine hK.out _ _ ?_ (fun hHeld => ?_)
      · ((try dsimp only); (first | (with_reducible exact HSd.out _ (Below.refl _ _).drew) | (exact HSd.out _ ((Below.refl _ _).drew.alloc (by simp) _)) | assumption | (exact HS9.out) | (exact HS9s.out _)))
      clear hK K
      try simp only [Act.put, List.setIfInBounds_toArray, List.set_cons_zero, List.set_cons_succ]
      refine wpAnyH_ready (rs := [18]) (by kernel_rfl) (by simp) ?_
      refine AllReadyH.cons (o := _) rfl (fun K hK => ?_) ?_
      ·
        go_simp
        refine hK.out _ _ ?_ (fun hHeld => ?_)
        · ((try dsimp only); (first | (with_reducible exact HSd.out _ (Below.refl _ _).drew) | (exact HSd.out _ ((Below.refl _ _).drew.alloc (by simp) _)) | assumption | (exact HS9.out) | (exact HS9s.out _)))
        clear hK K
        try simp only [Act.put, List.setIfInBounds_toArray, List.set_cons_zero, List.set_cons_succ]
        refine wpAnyH_ready (rs := [19]) (by kernel_rfl) (by simp) ?_
        refine AllReadyH.cons (o := _) rfl (fun K hK => ?_) ?_
        ·
          ((refine step_append_lies _ (by rfl) _ _ 22 (by rfl) (M + 1) 3 i1 _ 1 8 Tryz.underlying22 Hi.out Hz0.out Hz1.out Hz2.out (by rfl) (by decide) (.slice rA (outF E a).length rc) (outF E a).length (ints (outF E a)) (by rfl) (by exact own_below HO.out ((below_drewN (Below.refl _ _) 1).alloc (by simp) _))
                    ⟨_, 0, none⟩ 1 1 [Value.int .i64 (c : Int)] (by rfl) rfl (by exact int_new _ _ _) (one_int1 _) (by decide) (by unfold maxLen; omega) (by omega) (by simp; omega) _ rfl ?_))
          intro g9 cap9 w9 hown9 hgr9 hat9 hlt9
          obtain ⟨⟨⟨y0, y1⟩, hbx⟩, h9, hk9⟩ := Bls.push (H2.out.below ((below_drewN (Below.refl _ _) 1).alloc (by simp) _)) Ha.out (HA.out 1 _) hown9 hgr9 hat9
          have H9 := hid h9
          have HK9 := hid (HK1.out.trans ((KeepF.below ((below_drewN (Below.refl _ _) 1).alloc (by simp) _)).trans hk9))
          obtain ⟨u0, u1, u2⟩ := hbx.thr
          have hul := hbx.lt
          have HT9 := hk9.2 (G + 1) _ 75 (by decide) (by decide) (HTf.out.below ((below_drewN (Below.refl _ _) 1).alloc (by simp) _) HTf.out.lt)
          have HS9 := hid (And.intro (And.intro u1 u2) (Fb.four (tcells9 HT9 HGM.out)))
          have HS9s := hid (fun u => And.intro (And.intro ((cell_far (p := ⟨M, a, none⟩) (q := ⟨B, 1, none⟩) HBM.out u).trans u1) ((cell_far (p := ⟨M, a, none⟩) (q := ⟨B, 2, none⟩) HBM.out u).trans u2)) (Fb.four ((tcells9 HT9 HGM.out).far (p := ⟨M, a, none⟩) HGM.out u)))
          clear HT9 hown9 hgr9 hat9 hlt9 h9 hk9 hbx
          refine hK.out _ _ ?_ (fun hHeld => ?_)
          · ((try dsimp only); (first | (with_reducible exact HSd.out _ (Below.refl _ _).drew) | (exact HSd.out _ ((Below.refl _ _).drew.alloc (by simp) _)) | assumption | (exact HS9.out) | (exact HS9s.out _)))
          clear hK K
          try simp only [Act.put, List.setIfInBounds_toArray, List.set_cons_zero, List.set_cons_succ]
          refine wpAnyH_take (i := 20) (oi := _) (v := ?_) rfl (by kernel_rfl) (by kernel_rfl) (by kernel_rfl) (fun _ _ _ h => h) (Or.inl ⟨by rfl, ?_⟩) (by assumption) ?_
          rotate_left
          · (intro w hSw; (try dsimp only at hSw); go_simp; try with_reducible rfl)
          try simp only [Act.put, List.setIfInBounds_toArray, List.set_cons_zero, List.set_cons_succ]
          refine wpAnyH_ready (rs := [21]) (by kernel_rfl) (by simp) ?_
          refine AllReadyH.cons (o := _) rfl (fun K hK => ?_) ?_
          ·
            go_simp
            refine hK.out _ _ ?_ (fun hHeld => ?_)
            · ((try dsimp only); (first | (with_reducible exact HSd.out _ (Below.refl _ _).drew) | (exact HSd.out _ ((Below.refl _ _).drew.alloc (by simp) _)) | assumption | (exact HS9.out) | (exact HS9s.out _)))
            clear hK K
            try simp only [Act.put, List.setIfInBounds_toArray, List.set_cons_zero, List.set_cons_succ]
            refine wpAnyH_done (by kernel_rfl) ?_ _
            refine NoPanic.normal ?_
            go_wp2_with fail
            refine bodyPost_end (v := .tuple #[]) (by simp [results, Tryz.results112]) rfl ⟨rfl, H9.out, HK9.out⟩
          exact AllReadyH.nil
        exact AllReadyH.nil
      exact AllReadyH.nil
    refine AllReadyH.cons (o := _) rfl (fun K hK => ?_) ?_
    ·
      go_simp
      refine hK.out _ _ ?_ (fun hHeld => ?_)
      · ((try dsimp only); (first | (with_reducible exact HSd.out _ (Below.refl _ _).drew) | (exact HSd.out _ ((Below.refl _ _).drew.alloc (by simp) _)) | assumption | (exact HS9.out) | (exact HS9s.out _)))
      clear hK K
      try simp only [Act.put, List.setIfInBounds_toArray, List.set_cons_zero, List.set_cons_succ]
      refine wpAnyH_ready (rs := [11]) (by kernel_rfl) (by simp) ?_
      refine AllReadyH.cons (o := _) rfl (fun K hK => ?_) ?_
      ·
        go_simp
        refine hK.out _ _ ?_ (fun hHeld => ?_)
        · ((try dsimp only); (first | (with_reducible exact HSd.out _ (Below.refl _ _).drew) | (exact HSd.out _ ((Below.refl _ _).drew.alloc (by simp) _)) | assumption | (exact HS9.out) | (exact HS9s.out _)))
        clear hK K
        try simp only [Act.put, List.setIfInBounds_toArray, List.set_cons_zero, List.set_cons_succ]
        refine wpAnyH_ready (rs := [19]) (by kernel_rfl) (by simp) ?_
        refine AllReadyH.cons (o := _) rfl (fun K hK => ?_) ?_
        ·
          ((refine step_append_lies _ (by rfl) _ _ 22 (by rfl) (M + 1) 3 i1 _ 1 8 Tryz.underlying22 Hi.out Hz0.out Hz1.out Hz2.out (by rfl) (by decide) (.slice rA (outF E a).length rc) (outF E a).length (ints (outF E a)) (by rfl) (by exact own_below HO.out ((below_drewN (Below.refl _ _) 1).alloc (by simp) _))
                    ⟨_, 0, none⟩ 1 1 [Value.int .i64 (c : Int)] (by rfl) rfl (by exact int_new _ _ _) (one_int1 _) (by decide) (by unfold maxLen; omega) (by omega) (by simp; omega) _ rfl ?_))
          intro g9 cap9 w9 hown9 hgr9 hat9 hlt9
          obtain ⟨⟨⟨y0, y1⟩, hbx⟩, h9, hk9⟩ := Bls.push (H2.out.below ((below_drewN (Below.refl _ _) 1).alloc (by simp) _)) Ha.out (HA.out 1 _) hown9 hgr9 hat9
          have H9 := hid h9
          have HK9 := hid (HK1.out.trans ((KeepF.below ((below_drewN (Below.refl _ _) 1).alloc (by simp) _)).trans hk9))
          obtain ⟨u0, u1, u2⟩ := hbx.thr
          have hul := hbx.lt
          have HT9 := hk9.2 (G + 1) _ 75 (by decide) (by decide) (HTf.out.below ((below_drewN (Below.refl _ _) 1).alloc (by simp) _) HTf.out.lt)
          have HS9 := hid (And.intro (And.intro u1 u2) (Fb.four (tcells9 HT9 HGM.out)))
          have HS9s := hid (fun u => And.intro (And.intro ((cell_far (p := ⟨M, a, none⟩) (q := ⟨B, 1, none⟩) HBM.out u).trans u1) ((cell_far (p := ⟨M, a, none⟩) (q := ⟨B, 2, none⟩) HBM.out u).trans u2)) (Fb.four ((tcells9 HT9 HGM.out).far (p := ⟨M, a, none⟩) HGM.out u)))
          clear HT9 hown9 hgr9 hat9 hlt9 h9 hk9 hbx
          refine hK.out _ _ ?_ (fun hHeld => ?_)
          · ((try dsimp only); (first | (with_reducible exact HSd.out _ (Below.refl _ _).drew) | (exact HSd.out _ ((Below.refl _ _).drew.alloc (by simp) _)) | assumption | (exact HS9.out) | (exact HS9s.out _)))
          clear hK K
          try simp only [Act.put, List.setIfInBounds_toArray, List.set_cons_zero, List.set_cons_succ]
          refine wpAnyH_take (i := 20) (oi := _) (v := ?_) rfl (by kernel_rfl) (by kernel_rfl) (by kernel_rfl) (fun _ _ _ h => h) (Or.inl ⟨by rfl, ?_⟩) (by assumption) ?_
          rotate_left
          · (intro w hSw; (try dsimp only at hSw); go_simp; try with_reducible rfl)
          try simp only [Act.put, List.setIfInBounds_toArray, List.set_cons_zero, List.set_cons_succ]
          refine wpAnyH_ready (rs := [21]) (by kernel_rfl) (by simp) ?_
          refine AllReadyH.cons (o := _) rfl (fun K hK => ?_) ?_
          ·
            go_simp
            refine hK.out _ _ ?_ (fun hHeld => ?_)
            · ((try dsimp only); (first | (with_reducible exact HSd.out _ (Below.refl _ _).drew) | (exact HSd.out _ ((Below.refl _ _).drew.alloc (by simp) _)) | assumption | (exact HS9.out) | (exact HS9s.out _)))
            clear hK K
            try simp only [Act.put, List.setIfInBounds_toArray, List.set_cons_zero, List.set_cons_succ]
            refine wpAnyH_done (by kernel_rfl) ?_ _
            refine NoPanic.normal ?_
            go_wp2_with fail
            refine bodyPost_end (v := .tuple #[]) (by simp [results, Tryz.results112]) rfl ⟨rfl, H9.out, HK9.out⟩
          exact AllReadyH.nil
        exact AllReadyH.nil
      exact AllReadyH.nil
    exact AllReadyH.nil
  exact AllReadyH.nil
end Go.Proofs.YtfapgnbnfhpicaaGreatDoor

namespace Go.Proofs.YtfapgnbnfhpicaaGreatDoor
set_option maxRecDepth 20000
set_option linter.unusedVariables false
set_option linter.unusedSimpArgs false
open Go.ChangeShapes Go.WideShapes Go.ChangeAt Go.RowKit

/-- The first place of a name, or -1. -/
def nmI (ns : List ByteArray) (s : ByteArray) : Int := match ns.findIdx? fun x => decide (x = s) with
  | some i => (i : Int)
  | none => -1
theorem nmI_hit {ns : List ByteArray} {s : ByteArray} {k : Nat} (h : ∀ (j : Nat) (x : ByteArray), j < k → ns[j]? = some x → x ≠ s) (hk : ns[k]? = some s) : nmI ns s = k := by
  unfold nmI
  have : ns.findIdx? (fun x => decide (x = s)) = some k := by
    rw [List.findIdx?_eq_some_iff_getElem]
    obtain ⟨h1, h2⟩ := List.getElem?_eq_some_iff.1 hk
    exact ⟨h1, by simp [h2], fun j hj => by simpa using h j _ hj (List.getElem?_eq_getElem (by omega))⟩
  rw [this]
theorem nmI_end {ns : List ByteArray} {s : ByteArray} {n : Nat} (hn : ns.length = n) (h : ∀ (j : Nat) (x : ByteArray), j < n → ns[j]? = some x → x ≠ s) : nmI ns s = -1 := by
  unfold nmI
  have : ns.findIdx? (fun x => decide (x = s)) = none := by
    rw [List.findIdx?_eq_none_iff]
    intro x hx
    obtain ⟨j, hj, rfl⟩ := List.mem_iff_getElem.1 hx
    simpa using h j _ (by omega) (List.getElem?_eq_getElem hj)
  rw [this]
theorem str_ne {a b : ByteArray} (h : a ≠ b) : (a.toList == b.toList) = false := by
  have : a.toList ≠ b.toList := fun e => h (by
    apply list_ext2
    rw [← toList_data, ← toList_data, e])
  simpa using this
set_option maxHeartbeats 1600000 in
theorem blockIs_any (s nm : ByteArray) (A : Option Addr) (n c p : Nat) (w : World) (hp : w.cell? ⟨p, 0, none⟩ = some (.string s)) (hpl : p < w.heap.size) :
    Calls Tryz.prog 168 #[.agg #[.string nm, .slice A n c], .pointer (some ⟨p, 0, none⟩)] w fun e w' => e = .returned (.bool (decide (nm = s))) ∧ Below w.heap.size w w' := by
  have HB := hid ((Below.refl w.heap.size w).alloc (Nat.le_refl _) (.cells #[.string nm, .slice A n c] 65))
  by_cases e : nm = s
  · subst e
    have Hr := hid (show decide (nm = nm) = true by simp)
    go_enter Tryz.func168, Tryz.ntmps168
    go_wp2_with fail
    go_ret
    exact ⟨ret_b Hr.out, HB.out⟩
  · have t1 := str_ne e
    have Hr := hid (show decide (nm = s) = false by simpa using e)
    clear e
    go_enter Tryz.func168, Tryz.ntmps168
    go_wp2_with fail
    go_ret
    exact ⟨ret_b Hr.out, HB.out⟩
set_option maxHeartbeats 1600000 in
theorem idxB_any (A : Option Addr) (n c : Nat) (l : List BH) (s : ByteArray) (p : Nat) (ex : List (Option Nat)) (w : World) (h : EAt w ex A (l.flatMap bhc)) (hl : l.length = n) (hn : n ≤ 1000) (hp : w.cell? ⟨p, 0, none⟩ = some (.string s)) (hpl : p < w.heap.size) :
    Calls Tryz.prog 167 #[.slice A n c, .func (Fn.func 168) #[] #[.pointer (some ⟨p, 0, none⟩)]] w fun e w' => e = .returned (.int .i64 (nmI (l.map BH.name) s)) ∧ Below w.heap.size w w' := by
  have HE := hid h
  have HL := hid hl
  have HP := hid (And.intro hp hpl)
  have HN := hid (show (l.map BH.name).length = n by rw [List.length_map, hl])
  have Hnm := hid (fun (k : Nat) (y : BH) (hy : l[k]? = some y) => show (l.map BH.name)[k]? = some y.name by rw [List.getElem?_map, hy]; rfl)
  clear h hp hpl hl
  generalize hns : l.map BH.name = ns at *
  clear hns
  go_enter Tryz.func167, Tryz.ntmps167
  go_wp2_with fail
  go_loopw [5, 8] (fun _ iv wr => ∃ k : Nat, k ≤ n ∧ iv = .int .i64 k ∧ Hid (∀ (j : Nat) (x : ByteArray), j < k → ns[j]? = some x → x ≠ s) ∧ Hid (Below w.heap.size w wr)) (fun _ iv _ => n - (intOf iv).toNat)
  case atStart => exact ⟨0, by omega, rfl, hid (fun j x h => by omega), hid (Below.refl _ _)⟩
  case round =>
    obtain ⟨k, hk, rfl, hE, hB⟩ := hrel
    by_cases hlt : k < n
    · obtain ⟨y, hy, hym⟩ := get_at HL.out hlt
      obtain ⟨ad, hA, had, hc1, hc2⟩ := BH.cells (HE.out.go (Go2.below hB.out)) hy
      subst hA
      have Hy := hid (Hnm.out k y hy)
      have HC := hid (blockIs_any s y.name y.A y.n y.c p wr ((hB.out.cell (p := ⟨p, 0, none⟩) HP.out.2).trans HP.out.1) (Nat.lt_of_lt_of_le HP.out.2 hB.out.size))
      clear hy hym
      obtain ⟨ynm, yA, yn, yc, yl⟩ := y
      simp only at *
      go_wp2_with fail
      refine HC.out.mono ?_
      rintro e w1 ⟨rfl, hb1⟩
      have HB1 := hid (below_step hB.out hb1)
      clear hb1 hB HC
      cases hd : decide (ynm = s) with
      | true =>
        as_aux_lemma =>
          have Hr := hid (nmI_hit hE.out (by rw [Hy.out]; exact congrArg some (of_decide_eq_true hd)))
          clear hd
          go_wp2_with fail
          go_ret
          exact ⟨ret_i Hr.out, HB1.out⟩
      | false =>
        as_aux_lemma =>
          have Hr := hid (show ∀ (j : Nat) (x : ByteArray), j < k + 1 → ns[j]? = some x → x ≠ s by
            intro j x hj hx
            by_cases e : j = k
            · subst e
              rw [Hy.out] at hx
              rw [← Option.some.inj hx]
              exact of_decide_eq_false hd
            · exact hE.out j x (by omega) hx)
          clear hd
          go_wp2_with fail
          go_roundw
          case rel => exact ⟨k + 1, by omega, by go_num, Hr, HB1⟩
          case measure => simp [intOf]; omega
    · obtain rfl : k = n := by omega
      have Hr := hid (nmI_end HN.out hE.out)
      go_wp2_with fail
      go_ret
      exact ⟨ret_i Hr.out, hB.out⟩
set_option maxHeartbeats 1600000 in
theorem blockIx_any (A : Option Addr) (n c : Nat) (l : List BH) (s : ByteArray) (ex : List (Option Nat)) (w : World) (h : EAt w ex A (l.flatMap bhc)) (hl : l.length = n) (hn : n ≤ 1000) :
    Calls Tryz.prog 148 #[.slice A n c, .string s] w fun e w' => e = .returned (.int .i64 (nmI (l.map BH.name) s)) ∧ Below w.heap.size w w' := by
  have hb := (Below.refl w.heap.size w).alloc (Nat.le_refl _) (.cells #[.string s] 9)
  have HB := hid hb
  have hf := Fb.new w #[.string s] 9
  have HC := hid (idxB_any A n c l s w.heap.size ex _ (h.go (Go2.below hb)) hl hn hf.onec hf.lt)
  clear h hb hf
  go_enter Tryz.func148, Tryz.ntmps148
  go_wp2_with fail
  refine HC.out.mono ?_
  rintro e w1 ⟨rfl, hb1⟩
  have HB1 := hid (below_step HB.out hb1)
  go_wp2_with fail
  go_ret
  exact ⟨rfl, HB1.out⟩
set_option maxHeartbeats 1600000 in
theorem funcIs_any (s nm : ByteArray) (A : Option Addr) (n c p : Nat) (w : World) (hp : w.cell? ⟨p, 0, none⟩ = some (.string s)) (hpl : p < w.heap.size) :
    Calls Tryz.prog 170 #[.agg #[.string nm, .slice A n c], .pointer (some ⟨p, 0, none⟩)] w fun e w' => e = .returned (.bool (decide (nm = s))) ∧ Below w.heap.size w w' := by
  have HB := hid ((Below.refl w.heap.size w).alloc (Nat.le_refl _) (.cells #[.string nm, .slice A n c] 62))
  by_cases e : nm = s
  · subst e
    have Hr := hid (show decide (nm = nm) = true by simp)
    go_enter Tryz.func170, Tryz.ntmps170
    go_wp2_with fail
    go_ret
    exact ⟨ret_b Hr.out, HB.out⟩
  · have t1 := str_ne e
    have Hr := hid (show decide (nm = s) = false by simpa using e)
    clear e
    go_enter Tryz.func170, Tryz.ntmps170
    go_wp2_with fail
    go_ret
    exact ⟨ret_b Hr.out, HB.out⟩
set_option maxHeartbeats 1600000 in
theorem idxF_any (A : Option Addr) (n c : Nat) (l : List FH) (s : ByteArray) (p : Nat) (ex : List (Option Nat)) (w : World) (h : EAt w ex A (l.flatMap fhc)) (hl : l.length = n) (hn : n ≤ 1000) (hp : w.cell? ⟨p, 0, none⟩ = some (.string s)) (hpl : p < w.heap.size) :
    Calls Tryz.prog 169 #[.slice A n c, .func (Fn.func 170) #[] #[.pointer (some ⟨p, 0, none⟩)]] w fun e w' => e = .returned (.int .i64 (nmI (l.map FH.name) s)) ∧ Below w.heap.size w w' := by
  have HE := hid h
  have HL := hid hl
  have HP := hid (And.intro hp hpl)
  have HN := hid (show (l.map FH.name).length = n by rw [List.length_map, hl])
  have Hnm := hid (fun (k : Nat) (y : FH) (hy : l[k]? = some y) => show (l.map FH.name)[k]? = some y.name by rw [List.getElem?_map, hy]; rfl)
  clear h hp hpl hl
  generalize hns : l.map FH.name = ns at *
  clear hns
  go_enter Tryz.func169, Tryz.ntmps169
  go_wp2_with fail
  go_loopw [5, 8] (fun _ iv wr => ∃ k : Nat, k ≤ n ∧ iv = .int .i64 k ∧ Hid (∀ (j : Nat) (x : ByteArray), j < k → ns[j]? = some x → x ≠ s) ∧ Hid (Below w.heap.size w wr)) (fun _ iv _ => n - (intOf iv).toNat)
  case atStart => exact ⟨0, by omega, rfl, hid (fun j x h => by omega), hid (Below.refl _ _)⟩
  case round =>
    obtain ⟨k, hk, rfl, hE, hB⟩ := hrel
    by_cases hlt : k < n
    · obtain ⟨y, hy, hym⟩ := get_at HL.out hlt
      obtain ⟨ad, hA, had, hc1, hc2⟩ := FH.cells (HE.out.go (Go2.below hB.out)) hy
      subst hA
      have Hy := hid (Hnm.out k y hy)
      have HC := hid (funcIs_any s y.name y.A y.n y.c p wr ((hB.out.cell (p := ⟨p, 0, none⟩) HP.out.2).trans HP.out.1) (Nat.lt_of_lt_of_le HP.out.2 hB.out.size))
      clear hy hym
      obtain ⟨ynm, yA, yn, yc, yl⟩ := y
      simp only at *
      go_wp2_with fail
      refine HC.out.mono ?_
      rintro e w1 ⟨rfl, hb1⟩
      have HB1 := hid (below_step hB.out hb1)
      clear hb1 hB HC
      cases hd : decide (ynm = s) with
      | true =>
        as_aux_lemma =>
          have Hr := hid (nmI_hit hE.out (by rw [Hy.out]; exact congrArg some (of_decide_eq_true hd)))
          clear hd
          go_wp2_with fail
          go_ret
          exact ⟨ret_i Hr.out, HB1.out⟩
      | false =>
        as_aux_lemma =>
          have Hr := hid (show ∀ (j : Nat) (x : ByteArray), j < k + 1 → ns[j]? = some x → x ≠ s by
            intro j x hj hx
            by_cases e : j = k
            · subst e
              rw [Hy.out] at hx
              rw [← Option.some.inj hx]
              exact of_decide_eq_false hd
            · exact hE.out j x (by omega) hx)
          clear hd
          go_wp2_with fail
          go_roundw
          case rel => exact ⟨k + 1, by omega, by go_num, Hr, HB1⟩
          case measure => simp [intOf]; omega
    · obtain rfl : k = n := by omega
      have Hr := hid (nmI_end HN.out hE.out)
      go_wp2_with fail
      go_ret
      exact ⟨ret_i Hr.out, hB.out⟩
set_option maxHeartbeats 1600000 in
theorem funcIx_any (A : Option Addr) (n c : Nat) (l : List FH) (s : ByteArray) (ex : List (Option Nat)) (w : World) (h : EAt w ex A (l.flatMap fhc)) (hl : l.length = n) (hn : n ≤ 1000) :
    Calls Tryz.prog 150 #[.slice A n c, .string s] w fun e w' => e = .returned (.int .i64 (nmI (l.map FH.name) s)) ∧ Below w.heap.size w w' := by
  have hb := (Below.refl w.heap.size w).alloc (Nat.le_refl _) (.cells #[.string s] 9)
  have HB := hid hb
  have hf := Fb.new w #[.string s] 9
  have HC := hid (idxF_any A n c l s w.heap.size ex _ (h.go (Go2.below hb)) hl hn hf.onec hf.lt)
  clear h hb hf
  go_enter Tryz.func150, Tryz.ntmps150
  go_wp2_with fail
  refine HC.out.mono ?_
  rintro e w1 ⟨rfl, hb1⟩
  have HB1 := hid (below_step HB.out hb1)
  go_wp2_with fail
  go_ret
  exact ⟨rfl, HB1.out⟩
end Go.Proofs.YtfapgnbnfhpicaaGreatDoor

namespace Go.Proofs.YtfapgnbnfhpicaaGreatDoor
set_option maxRecDepth 20000
set_option linter.unusedVariables false
set_option linter.unusedSimpArgs false
open Go.ChangeShapes Go.WideShapes Go.ChangeAt Go.RowKit

set_option maxHeartbeats 1600000 in
theorem stmtNode_any (a b c : Int) (w : World) : Calls Tryz.prog 113 #[.int .i64 a, .int .i64 b, .int .i64 c] w fun e w' => e = .returned (.agg #[.int .i64 3, .int .i64 a, .int .i64 b, .int .i64 c]) ∧ Below w.heap.size w w' := by
  go_enter Tryz.func113, Tryz.ntmps113
  go_wp2_with fail
  refine bodyPost_ret (v := .agg #[.int .i64 3, .int .i64 a, .int .i64 b, .int .i64 c]) (by simp [results, Tryz.results113, go_sem]) rfl ⟨rfl, ?_⟩
  exact (Below.refl _ _).alloc (Nat.le_refl _) _
set_option maxHeartbeats 1600000 in
theorem entryNode_any (a : Int) (w : World) : Calls Tryz.prog 151 #[.int .i64 a] w fun e w' => e = .returned (.agg #[.int .i64 1, .int .i64 a, .int .i64 (-1), .int .i64 (-1)]) ∧ Below w.heap.size w w' := by
  go_enter Tryz.func151, Tryz.ntmps151
  go_wp2_with fail
  refine bodyPost_ret (v := .agg #[.int .i64 1, .int .i64 a, .int .i64 (-1), .int .i64 (-1)]) (by simp [results, Tryz.results151, go_sem]) rfl ⟨rfl, ?_⟩
  exact (Below.refl _ _).alloc (Nat.le_refl _) _
set_option maxHeartbeats 1600000 in
theorem exitNode_any (a : Int) (w : World) : Calls Tryz.prog 149 #[.int .i64 a] w fun e w' => e = .returned (.agg #[.int .i64 2, .int .i64 a, .int .i64 (-1), .int .i64 (-1)]) ∧ Below w.heap.size w w' := by
  go_enter Tryz.func149, Tryz.ntmps149
  go_wp2_with fail
  refine bodyPost_ret (v := .agg #[.int .i64 2, .int .i64 a, .int .i64 (-1), .int .i64 (-1)]) (by simp [results, Tryz.results149, go_sem]) rfl ⟨rfl, ?_⟩
  exact (Below.refl _ _).alloc (Nat.le_refl _) _

/-- The edges that begin at a statement's node, and the one by which a call returns. -/
def stE (p : List Fnc) (bs : List Blk) (f b j : Nat) (t : Stm) : List (Nd × Nd) :=
  if t.op == 7 || t.op == 8 then t.ts.map fun s => (⟨3, f, b, j⟩, ⟨3, f, nmI (bs.map Blk.name) s, 0⟩)
  else if t.op == 9 then [(⟨3, f, b, j⟩, ⟨2, f, -1, -1⟩)]
  else if t.op == 3 then [(⟨3, f, b, j⟩, ⟨1, nmI (p.map Fnc.name) (t.ts.getD 0 ByteArray.empty), -1, -1⟩), (⟨2, nmI (p.map Fnc.name) (t.ts.getD 0 ByteArray.empty), -1, -1⟩, ⟨4, f, b, j⟩)]
  else [(⟨3, f, b, j⟩, ⟨3, f, b, (j : Int) + 1⟩)]
def numE (L : List Nd) (e : Nd × Nd) : Nat × Nat := (numN L e.1, numN L e.2)
theorem nmI_bd (ns : List ByteArray) (s : ByteArray) : -1 ≤ nmI ns s ∧ nmI ns s ≤ ns.length := by
  unfold nmI
  cases h : ns.findIdx? (fun x => decide (x = s)) with
  | none => simp
  | some i => have := (List.findIdx?_eq_some_iff_findIdx_eq.1 h).1; simp; omega
/-- The builder, and the box of a node beside it. -/
structure Ls1 (w0 : World) (x : PH) (B MB M N G : Nat) (L : List Nd) (nd : Nd) (E : List (Nat × Nat)) (w : World) : Prop where
  bls : Bls w0 x B MB M N L E w
  nb : Fb w G #[.int .i64 nd.kd, .int .i64 nd.fn, .int .i64 nd.bk, .int .i64 nd.st] 75
theorem Ls1.below {w0 w w' : World} {x : PH} {B MB M N G : Nat} {L : List Nd} {nd : Nd} {E : List (Nat × Nat)} (h : Ls1 w0 x B MB M N G L nd E w) (hb : Below w.heap.size w w') : Ls1 w0 x B MB M N G L nd E w' :=
  ⟨h.bls.below hb, h.nb.below hb h.nb.lt⟩
theorem Ls1.conn {w0 w : World} {x : PH} {B MB M N G : Nat} {L : List Nd} {nd : Nd} {E : List (Nat × Nat)} (h : Ls1 w0 x B MB M N G L nd E w) (hN : 1 ≤ N) (hL : L.length = N) (hE : E.length ≤ 1000000) (f t : Nd) (hf : wfN f) (ht : wfN t) :
    Calls Tryz.prog 112 #[.pointer (some ⟨B, 0, none⟩), .agg #[.int .i64 f.kd, .int .i64 f.fn, .int .i64 f.bk, .int .i64 f.st], .agg #[.int .i64 t.kd, .int .i64 t.fn, .int .i64 t.bk, .int .i64 t.st]] w
      fun e w' => e = .returned (.tuple #[]) ∧ Ls1 w0 x B MB M N G L nd (E ++ [numE L (f, t)]) w' ∧ KeepF w w' :=
  (connect_any w0 x B MB M N L E w h.bls hN hL hE f t hf ht).mono fun _ _ ⟨h1, h2, h3⟩ => ⟨h1, ⟨h2, h3.2 G _ 75 (by decide) (by decide) h.nb⟩, h3⟩
theorem wf_small {k f b s : Int} (h1 : -10 ≤ k ∧ k ≤ 1000000) (h2 : -10 ≤ f ∧ f ≤ 1000000) (h3 : -10 ≤ b ∧ b ≤ 1000000) (h4 : -10 ≤ s ∧ s ≤ 1000000) : wfN ⟨k, f, b, s⟩ := by
  unfold wfN; simp only; omega
/-- The same with the statement's box. -/
structure Ls2 (w0 : World) (x : PH) (B MB M N G H : Nat) (L : List Nd) (nd : Nd) (s : SH) (E : List (Nat × Nat)) (w : World) : Prop where
  ls : Ls1 w0 x B MB M N G L nd E w
  sb : Fb w H #[.int .i64 s.t.op, .string s.t.d, .slice s.A s.n s.c, .slice s.B s.m s.c2] 68
theorem Ls2.below {w0 w w' : World} {x : PH} {B MB M N G H : Nat} {L : List Nd} {nd : Nd} {s : SH} {E : List (Nat × Nat)} (h : Ls2 w0 x B MB M N G H L nd s E w) (hb : Below w.heap.size w w') : Ls2 w0 x B MB M N G H L nd s E w' :=
  ⟨h.ls.below hb, h.sb.below hb h.sb.lt⟩
theorem Ls2.conn {w0 w : World} {x : PH} {B MB M N G H : Nat} {L : List Nd} {nd : Nd} {s : SH} {E : List (Nat × Nat)} (h : Ls2 w0 x B MB M N G H L nd s E w) (hN : 1 ≤ N) (hL : L.length = N) (hE : E.length ≤ 1000000) (f t : Nd) (hf : wfN f) (ht : wfN t) :
    Calls Tryz.prog 112 #[.pointer (some ⟨B, 0, none⟩), .agg #[.int .i64 f.kd, .int .i64 f.fn, .int .i64 f.bk, .int .i64 f.st], .agg #[.int .i64 t.kd, .int .i64 t.fn, .int .i64 t.bk, .int .i64 t.st]] w
      fun e w' => e = .returned (.tuple #[]) ∧ Ls2 w0 x B MB M N G H L nd s (E ++ [numE L (f, t)]) w' ∧ KeepF w w' :=
  (h.ls.conn hN hL hE f t hf ht).mono fun _ _ ⟨h1, h2, h3⟩ => ⟨h1, ⟨h2, h3.2 H _ 68 (by decide) (by decide) h.sb⟩, h3⟩

theorem prog_stm2 {w : World} {ex : List (Option Nat)} {x : PH} (h : PHok w ex x) {f b j : Nat} {F : Fnc} {B : Blk} {t : Stm} (h1 : x.p[f]? = some F) (h2 : F.bs[b]? = some B) (h3 : B.ss[j]? = some t) :
    ∃ (y : FH) (z : BH) (s : SH), x.l[f]? = some y ∧ y ∈ x.l ∧ y.l[b]? = some z ∧ z ∈ y.l ∧ z.l[j]? = some s ∧ s ∈ z.l ∧ s.t = t ∧ y.f = F ∧ z.b = B := by
  unfold PH.p at h1
  rw [List.getElem?_map] at h1
  obtain ⟨y, hy, rfl⟩ := Option.map_eq_some_iff.1 h1
  change (y.l.map BH.b)[b]? = some B at h2
  rw [List.getElem?_map] at h2
  obtain ⟨z, hz, rfl⟩ := Option.map_eq_some_iff.1 h2
  change (z.l.map SH.t)[j]? = some t at h3
  rw [List.getElem?_map] at h3
  obtain ⟨s, hs, rfl⟩ := Option.map_eq_some_iff.1 h3
  exact ⟨y, z, s, hy, List.mem_of_getElem? hy, hz, List.mem_of_getElem? hz, hs, List.mem_of_getElem? hs, rfl, rfl, rfl⟩
theorem ts_snoc {L : List Nd} {E : List (Nat × Nat)} {g : ByteArray → Nd × Nd} {ts : List ByteArray} {k : Nat} {s : ByteArray} (h : ts[k]? = some s) : (E ++ ((ts.take k).map g).map (numE L)) ++ [numE L (g s)] = E ++ ((ts.take (k + 1)).map g).map (numE L) := by
  rw [List.take_add_one, h]; simp

def gE (bs : List Blk) (f b j : Nat) (s : ByteArray) : Nd × Nd := (⟨3, f, b, j⟩, ⟨3, f, nmI (bs.map Blk.name) s, 0⟩)

set_option maxHeartbeats 16000000 in
theorem leaveStmt_any (w0 : World) (x : PH) (ex : List (Option Nat)) (B MB M N : Nat) (L : List Nd) (E : List (Nat × Nat)) (w : World) (h : Bls w0 x B MB M N L E w) (hx : PHok w0 ex x) (hN : 1 ≤ N) (hL : L.length = N) (hE : E.length ≤ 900000)
    (f b j : Nat) (F : Fnc) (Bk : Blk) (t : Stm) (h1 : x.p[f]? = some F) (h2 : F.bs[b]? = some Bk) (h3 : Bk.ss[j]? = some t) (hts : (t.op == 3) = true → t.ts ≠ []) :
    Calls Tryz.prog 114 #[.pointer (some ⟨B, 0, none⟩), .agg #[.int .i64 3, .int .i64 f, .int .i64 b, .int .i64 j]] w
      fun e w' => e = .returned (.tuple #[]) ∧ Bls w0 x B MB M N L (E ++ (stE x.p F.bs f b j t).map (numE L)) w' ∧ KeepF w w' := by
  obtain ⟨y, z, s, hy, hym, hz, hzm, hs, hsm, rfl, rfl, rfl⟩ := prog_stm2 hx h1 h2 h3
  have hb0 := (Below.refl w.heap.size w).alloc (Nat.le_refl _) (.cells #[.int .i64 3, .int .i64 (f : Int), .int .i64 (b : Int), .int .i64 (j : Int)] 75)
  have hL1 : Ls1 w0 x B MB M N w.heap.size L ⟨3, f, b, j⟩ E (w.alloc (.cells #[.int .i64 3, .int .i64 (f : Int), .int .i64 (b : Int), .int .i64 (j : Int)] 75)) := ⟨h.below hb0, Fb.new _ _ _⟩
  have HK0 := hid (KeepF.below hb0)
  have HL1 := hid hL1
  have HPx := hid (fun (v : World) (hv : Below w0.heap.size w0 v) => hx.go (Go2.below hv))
  have hPr := hx.go (Go2.below hL1.bls.bel)
  have Hy := hid hy; have Hz := hid hz; have Hs := hid hs
  have Hym := hid hym; have Hzm := hid hzm; have Hsm := hid hsm
  obtain ⟨ad1, hA1, had1, hc1, hc2⟩ := FH.cells hPr.lies hy
  obtain ⟨ad2, hA2, had2, hd1, hd2⟩ := BH.cells (hPr.all y hym).lies hz
  obtain ⟨ad3, hA3, had3, he1, he2, he3, he4⟩ := SH.cells ((hPr.all y hym).all z hzm).lies hs
  have hxn := hPr.few
  have hyn := (hPr.all y hym).few
  have hzn := ((hPr.all y hym).all z hzm).few
  have hfn : f < x.n := by rw [← hPr.len]; exact (List.getElem?_eq_some_iff.1 hy).1
  have hbn : b < y.n := by rw [← (hPr.all y hym).len]; exact (List.getElem?_eq_some_iff.1 hz).1
  have hjn : j < z.n := by rw [← ((hPr.all y hym).all z hzm).len]; exact (List.getElem?_eq_some_iff.1 hs).1
  have Hbln := hid (hPr.all y hym).len
  have Hpln := hid hPr.len
  have hsm2 := (((hPr.all y hym).all z hzm).all s hsm).targets.few
  have Hsln := hid ((((hPr.all y hym).all z hzm).all s hsm).targets.len)
  have HTs := hid (fun (v : World) (hv : Below w0.heap.size w0 v) => ((((HPx.out v hv).all y Hym.out).all z Hzm.out).all s Hsm.out).targets.lies)
  have HBl := hid (fun (v : World) (hv : Below w0.heap.size w0 v) => ((HPx.out v hv).all y Hym.out).lies)
  have HPl := hid (fun (v : World) (hv : Below w0.heap.size w0 v) => (HPx.out v hv).lies)
  have Hbmap := hid (show y.l.map BH.name = y.f.bs.map Blk.name by show _ = (y.l.map BH.b).map Blk.name; rw [List.map_map]; rfl)
  have Hpmap := hid (show x.l.map FH.name = x.p.map Fnc.name by show _ = (x.l.map FH.f).map Fnc.name; rw [List.map_map]; rfl)
  have Hts := hid hts
  clear h hx hPr hL1 hb0 hy hz hs hym hzm hsm h1 h2 h3 hts
  have hG : ∃ G, w.heap.size = G := ⟨_, rfl⟩
  obtain ⟨G, hG⟩ := hG
  rw [hG] at HL1
  have HGe := hid hG
  clear hG
  generalize hpp : x.p = pp at *
  generalize hyf : y.f = yf at *
  clear hpp hyf
  obtain ⟨xA, xn, xc, xl⟩ := x
  obtain ⟨ynm, yA, yn, yc, yl⟩ := y
  obtain ⟨znm, zA, zn, zc, zl⟩ := z
  simp only at *
  subst hA1
  subst hA2
  subst hA3
  go_enter Tryz.func114, Tryz.ntmps114
  have had1' := had1; have had2' := had2; have had3' := had3
  rw [← add_block ad1 (f * 2)] at had1'
  rw [← add_block ad2 (b * 2)] at had2'
  rw [← add_block ad3 (j * 4)] at had3'
  go_wp2_with fail
  rw [HGe.out] at *
  generalize w.alloc (.cells #[.int .i64 3, .int .i64 (f : Int), .int .i64 (b : Int), .int .i64 (j : Int)] 75) = W at *
  obtain ⟨n0, n1, n2, n3⟩ := Fb.four HL1.out.nb
  obtain ⟨b0, b1, b2⟩ := HL1.out.bls.box.thr
  simp only at n0 n1 n2 n3
  go_quiet (fail)
  clear n0 n1 n2 n3 b0 b1 b2
  have hbw : Below W.heap.size W (W.drewN nq) := below_drewN (Below.refl _ _) nq
  have HL2 := hid (HL1.out.below hbw)
  have HK2 := hid (HK0.out.trans (KeepF.below hbw))
  have Hhc := hid (And.intro (And.intro hc1 hc2) (And.intro (And.intro hd1 hd2) (And.intro (And.intro he1 he2) (And.intro he3 he4))))
  clear hbw HL1 HK0 hc1 hc2 hd1 hd2 he1 he2 he3 he4
  have Hx2 := hid (show (((W.drewN nq).cell? (ad1.add (f * 2)) = some (.string ynm) ∧ (W.drewN nq).cell? ⟨(ad1.add (f * 2)).block, (ad1.add (f * 2)).off + 1, none⟩ = some (.slice (some ad2) yn yc)) ∧ ((W.drewN nq).cell? (ad2.add (b * 2)) = some (.string znm) ∧ (W.drewN nq).cell? ⟨(ad2.add (b * 2)).block, (ad2.add (b * 2)).off + 1, none⟩ = some (.slice (some ad3) zn zc)) ∧
    ((W.drewN nq).cell? (ad3.add (j * 4)) = some (.int .i64 s.t.op) ∧ (W.drewN nq).cell? ⟨(ad3.add (j * 4)).block, (ad3.add (j * 4)).off + 1, none⟩ = some (.string s.t.d)) ∧ ((W.drewN nq).cell? ⟨(ad3.add (j * 4)).block, (ad3.add (j * 4)).off + 2, none⟩ = some (.slice s.A s.n s.c) ∧ (W.drewN nq).cell? ⟨(ad3.add (j * 4)).block, (ad3.add (j * 4)).off + 3, none⟩ = some (.slice s.B s.m s.c2))) ∧
    (ad1.block < (W.drewN nq).heap.size ∧ ad2.block < (W.drewN nq).heap.size ∧ ad3.block < (W.drewN nq).heap.size) from ⟨Hhc.out, had1, had2, had3⟩)
  clear Hhc had1 had2 had3 had1' had2' had3'
  generalize W.drewN nq = X at *
  obtain ⟨⟨⟨hc1, hc2⟩, ⟨hd1, hd2⟩, ⟨he1, he2⟩, he3, he4⟩, had1, had2, had3⟩ := Hx2.out
  have had1' : (ad1.add (f * 2)).block < X.heap.size := by rw [add_block]; exact had1
  have had2' : (ad2.add (b * 2)).block < X.heap.size := by rw [add_block]; exact had2
  have had3' : (ad3.add (j * 4)).block < X.heap.size := by rw [add_block]; exact had3
  obtain ⟨n0, n1, n2, n3⟩ := Fb.four HL2.out.nb
  obtain ⟨b0, b1, b2⟩ := HL2.out.bls.box.thr
  have hnl := HL2.out.nb.lt
  simp only at n0 n1 n2 n3
  go_wp2_with fail
  go_cut [5] (fun a wc => ∃ g : Nat, a = .pointer (some ⟨g, 0, none⟩) ∧ Hid (Fb wc g #[.int .i64 s.t.op, .string s.t.d, .slice s.A s.n s.c, .slice s.B s.m s.c2] 68 ∧ Below X.heap.size X wc))
  case first =>
    have HZ1 := hid (And.intro (Fb.drewN (Fb.new X #[.int .i64 s.t.op, .string s.t.d, .slice s.A s.n s.c, .slice s.B s.m s.c2] 68) 1) (below_drewN ((Below.refl X.heap.size X).alloc (Nat.le_refl _) (.cells #[.int .i64 s.t.op, .string s.t.d, .slice s.A s.n s.c, .slice s.B s.m s.c2] 68)) 1))
    go_region
    go_wp2_with fail
    go_meet
    exact ⟨_, rfl, HZ1⟩
  case rest =>
    clear hc1 hc2 hd1 hd2 he1 he2 he3 he4 had1 had2 had3 had1' had2' had3' n0 n1 n2 n3 b0 b1 b2 hnl Hx2
    obtain ⟨Hb, rfl, HZ⟩ := hcut
    have HL3 := hid (show Ls2 w0 ⟨some ad1, xn, xc, xl⟩ B MB M N G Hb L ⟨3, f, b, j⟩ s E wc from ⟨HL2.out.below HZ.out.2, HZ.out.1⟩)
    have HK3 := hid (HK2.out.trans (KeepF.below HZ.out.2))
    clear HZ HL2 HK2
    have HKb := hid (fun (E : List (Nat × Nat)) (v u : World) (h : Ls2 w0 ⟨some ad1, xn, xc, xl⟩ B MB M N G Hb L ⟨3, f, b, j⟩ s E v) (hb : Below v.heap.size v u) => h.below hb)
    have HNb := hid (fun (E : List (Nat × Nat)) (v : World) (h : Ls2 w0 ⟨some ad1, xn, xc, xl⟩ B MB M N G Hb L ⟨3, f, b, j⟩ s E v) => h.ls.nb)
    have HSb := hid (fun (E : List (Nat × Nat)) (v : World) (h : Ls2 w0 ⟨some ad1, xn, xc, xl⟩ B MB M N G Hb L ⟨3, f, b, j⟩ s E v) => h.sb)
    have HBb := hid (fun (E : List (Nat × Nat)) (v : World) (h : Ls2 w0 ⟨some ad1, xn, xc, xl⟩ B MB M N G Hb L ⟨3, f, b, j⟩ s E v) => h.ls.bls.box)
    have HBl2 := hid (fun (E : List (Nat × Nat)) (v : World) (h : Ls2 w0 ⟨some ad1, xn, xc, xl⟩ B MB M N G Hb L ⟨3, f, b, j⟩ s E v) => HBl.out v h.ls.bls.bel)
    have HPl2 := hid (fun (E : List (Nat × Nat)) (v : World) (h : Ls2 w0 ⟨some ad1, xn, xc, xl⟩ B MB M N G Hb L ⟨3, f, b, j⟩ s E v) => HPl.out v h.ls.bls.bel)
    have HTs2 := hid (fun (E : List (Nat × Nat)) (v : World) (h : Ls2 w0 ⟨some ad1, xn, xc, xl⟩ B MB M N G Hb L ⟨3, f, b, j⟩ s E v) => HTs.out v h.ls.bls.bel)
    have HEn := hid (fun (E : List (Nat × Nat)) (v : World) (h : Ls2 w0 ⟨some ad1, xn, xc, xl⟩ B MB M N G Hb L ⟨3, f, b, j⟩ s E v) => h.ls.bls)
    have HCo := hid (fun (E : List (Nat × Nat)) (v : World) (h : Ls2 w0 ⟨some ad1, xn, xc, xl⟩ B MB M N G Hb L ⟨3, f, b, j⟩ s E v) (hE : E.length ≤ 1000000) (f t : Nd) (hf : wfN f) (ht : wfN t) => h.conn hN hL hE f t hf ht)
    simp only at HNb HSb HBb HTs2 HBl2 HPl2
    clear HBl HPl HTs HPx
    have hst : ∃ st, s.t = st := ⟨_, rfl⟩
    obtain ⟨st, hst⟩ := hst
    obtain ⟨sA, sn, sc, sB, sm, sd, st2⟩ := s
    simp only at *
    subst hst
    obtain ⟨op, dd, us, ts⟩ := st2
    simp only at *
    obtain ⟨s0, s1, s2, s3⟩ := Fb.four (HSb.out _ _ HL3.out)
    have Hwn := hid (wf_small (k := 3) (f := (f : Int)) (b := (b : Int)) (s := (j : Int)) (by omega) (by omega) (by omega) (by omega))
    have HB113 := hid (fun (E : List (Nat × Nat)) (v : World) (h : Ls2 w0 ⟨some ad1, xn, xc, xl⟩ B MB M N G Hb L ⟨3, f, b, j⟩ ⟨sA, sn, sc, sB, sm, sd, ⟨op, dd, us, ts⟩⟩ E v) (nm : ByteArray) => show Calls Tryz.prog 148 #[.slice (some ad2) yn yc, .string nm] v (fun e w' => e = .returned (.int .i64 (nmI (yf.bs.map Blk.name) nm)) ∧ Below v.heap.size v w') by rw [← Hbmap.out]; exact blockIx_any (some ad2) yn yc yl nm ex v (HBl2.out _ _ h) Hbln.out (by omega))
    have HB115 := hid (fun (E : List (Nat × Nat)) (v : World) (h : Ls2 w0 ⟨some ad1, xn, xc, xl⟩ B MB M N G Hb L ⟨3, f, b, j⟩ ⟨sA, sn, sc, sB, sm, sd, ⟨op, dd, us, ts⟩⟩ E v) (nm : ByteArray) => show Calls Tryz.prog 150 #[.slice (some ad1) xn xc, .string nm] v (fun e w' => e = .returned (.int .i64 (nmI (pp.map Fnc.name) nm)) ∧ Below v.heap.size v w') by rw [← Hpmap.out]; exact funcIx_any (some ad1) xn xc xl nm ex v (HPl2.out _ _ h) Hpln.out (by omega))
    have Hbd := hid (fun nm => show -10 ≤ nmI (yf.bs.map Blk.name) nm ∧ nmI (yf.bs.map Blk.name) nm ≤ 1000000 by have := nmI_bd (yf.bs.map Blk.name) nm; rw [← Hbmap.out] at this ⊢; rw [List.length_map, Hbln.out] at this; omega)
    have Hpd := hid (fun nm => show -10 ≤ nmI (pp.map Fnc.name) nm ∧ nmI (pp.map Fnc.name) nm ≤ 1000000 by have := nmI_bd (pp.map Fnc.name) nm; rw [← Hpmap.out] at this ⊢; rw [List.length_map, Hpln.out] at this; omega)
    clear HBl2 HPl2 Hbmap Hpmap Hbln Hpln
    cases h7 : (op == 7) with
    | true =>
      as_aux_lemma =>
        have Hst := hid (show stE pp yf.bs f b j ⟨op, dd, us, ts⟩ = ts.map (gE yf.bs f b j) by unfold stE; simp only; rw [h7]; rfl)
        go_wp2_with fail
        clear s0 s1 s2 s3
        go_loopw [7, 48] (fun _ iv wr => ∃ k : Nat, k ≤ sm ∧ iv = .int .i64 k ∧ Hid (Ls2 w0 ⟨some ad1, xn, xc, xl⟩ B MB M N G Hb L ⟨3, f, b, j⟩ ⟨sA, sn, sc, sB, sm, sd, ⟨op, dd, us, ts⟩⟩ (E ++ ((ts.take k).map (gE yf.bs f b j)).map (numE L)) wr) ∧ Hid (KeepF w wr)) (fun _ iv _ => sm - (intOf iv).toNat)
        case atStart => exact ⟨0, by omega, rfl, hid (by simpa using HL3.out), HK3⟩
        case round =>
          clear HL3 HK3
          obtain ⟨k, hkk, rfl, hL, hk⟩ := hrel
          by_cases hlt : k < sm
          · obtain ⟨nm, hnm, -⟩ := get_at Hsln.out hlt
            obtain ⟨ad4, hA4, had4, hc4⟩ := (HTs2.out _ _ hL.out).one (i := k) (u := .string nm) (by rw [List.getElem?_map, hnm]; rfl)
            subst hA4
            have had4l := had4.1
            have Hnm := hid hnm
            have Hwt := hid (wf_small (k := 3) (f := (f : Int)) (b := nmI (yf.bs.map Blk.name) nm) (s := 0) (by omega) (by omega) (Hbd.out nm) (by omega))
            have HEl := hid (show (E ++ ((ts.take k).map (gE yf.bs f b j)).map (numE L)).length ≤ 1000000 by rw [List.length_append, List.length_map, List.length_map, List.length_take]; omega)
            have Hsn := hid (ts_snoc (L := L) (E := E) (g := gE yf.bs f b j) hnm)
            clear hnm had4
            generalize E ++ ((ts.take k).map (gE yf.bs f b j)).map (numE L) = E1 at *
            go_wp2_with fail
            clear hc4 had4l
            have hcur := HKb.out _ _ _ hL.out (Below.refl _ _).drew
            have hkf := hk.out.trans (KeepF.below (Below.refl _ _).drew)
            obtain ⟨n0, n1, n2, n3⟩ := Fb.four (HNb.out _ _ hcur)
            obtain ⟨s0, s1, s2, s3⟩ := Fb.four (HSb.out _ _ hcur)
            obtain ⟨b0, b1, b2⟩ := (HBb.out _ _ hcur).thr
            have hGl := (HNb.out _ _ hcur).lt
            have hHl := (HSb.out _ _ hcur).lt
            have hBl := (HBb.out _ _ hcur).lt
            go_region_law (
              (go_simp
               first
              | (go_at_call 148
                 refine (HB113.out _ _ hcur nm).mono ?_
                 rintro e wn ⟨rfl, hbk⟩
                 have hcur := HKb.out _ _ _ hcur hbk
                 have hkf := hkf.trans (KeepF.below hbk)
                 obtain ⟨n0, n1, n2, n3⟩ := Fb.four (HNb.out _ _ hcur)
                 obtain ⟨s0, s1, s2, s3⟩ := Fb.four (HSb.out _ _ hcur)
                 obtain ⟨b0, b1, b2⟩ := (HBb.out _ _ hcur).thr
                 have hGl := (HNb.out _ _ hcur).lt
                 have hHl := (HSb.out _ _ hcur).lt
                 have hBl := (HBb.out _ _ hcur).lt
                 clear hbk)
              | (go_at_call 113
                 refine (stmtNode_any _ _ _ _).mono ?_
                 rintro e wn ⟨rfl, hbk⟩
                 have hcur := HKb.out _ _ _ hcur hbk
                 have hkf := hkf.trans (KeepF.below hbk)
                 obtain ⟨n0, n1, n2, n3⟩ := Fb.four (HNb.out _ _ hcur)
                 obtain ⟨s0, s1, s2, s3⟩ := Fb.four (HSb.out _ _ hcur)
                 obtain ⟨b0, b1, b2⟩ := (HBb.out _ _ hcur).thr
                 have hGl := (HNb.out _ _ hcur).lt
                 have hHl := (HSb.out _ _ hcur).lt
                 have hBl := (HBb.out _ _ hcur).lt
                 clear hbk)
              | (go_at_call 112
                 refine (HCo.out _ _ hcur HEl.out ⟨3, f, b, j⟩ ⟨3, f, nmI (yf.bs.map Blk.name) nm, 0⟩ Hwn.out Hwt.out).mono ?_
                 rintro e wn ⟨rfl, hcur, hk77⟩
                 have hkf := hkf.trans hk77
                 obtain ⟨n0, n1, n2, n3⟩ := Fb.four (HNb.out _ _ hcur)
                 obtain ⟨s0, s1, s2, s3⟩ := Fb.four (HSb.out _ _ hcur)
                 obtain ⟨b0, b1, b2⟩ := (HBb.out _ _ hcur).thr
                 have hGl := (HNb.out _ _ hcur).lt
                 have hHl := (HSb.out _ _ hcur).lt
                 have hBl := (HBb.out _ _ hcur).lt
                 clear hk77)))
            all_goals
              clear n0 n1 n2 n3 s0 s1 s2 s3 b0 b1 b2 hGl hHl hBl
              have hcur2 := hid (Hsn.out ▸ hcur)
              have hkf2 := hid hkf
              clear hcur hkf
              go_wp2_with fail
              go_roundw
              case rel => exact ⟨k + 1, by omega, by go_num, hcur2, hkf2⟩
              case measure => simp [intOf]; omega
          · obtain rfl : k = sm := by omega
            have HF := hid (show Bls w0 ⟨some ad1, xn, xc, xl⟩ B MB M N L (E ++ (stE pp yf.bs f b j ⟨op, dd, us, ts⟩).map (numE L)) wr from by
              have := HEn.out _ _ hL.out
              rw [List.take_of_length_le (by rw [Hsln.out]; omega)] at this
              rw [Hst.out]; exact this)
            clear hL
            go_wp2_with fail
            exact bodyPost_end (v := .tuple #[]) (by simp [results, Tryz.results114]) rfl ⟨rfl, HF.out, hk.out⟩
    | false =>
      cases h8 : (op == 8) with
      | true =>
        as_aux_lemma =>
          have Hst := hid (show stE pp yf.bs f b j ⟨op, dd, us, ts⟩ = ts.map (gE yf.bs f b j) by unfold stE; simp only; rw [h7, h8]; rfl)
          go_wp2_with fail
          clear s0 s1 s2 s3
          go_loopw [7, 48] (fun _ iv wr => ∃ k : Nat, k ≤ sm ∧ iv = .int .i64 k ∧ Hid (Ls2 w0 ⟨some ad1, xn, xc, xl⟩ B MB M N G Hb L ⟨3, f, b, j⟩ ⟨sA, sn, sc, sB, sm, sd, ⟨op, dd, us, ts⟩⟩ (E ++ ((ts.take k).map (gE yf.bs f b j)).map (numE L)) wr) ∧ Hid (KeepF w wr)) (fun _ iv _ => sm - (intOf iv).toNat)
          case atStart => exact ⟨0, by omega, rfl, hid (by simpa using HL3.out), HK3⟩
          case round =>
            clear HL3 HK3
            obtain ⟨k, hkk, rfl, hL, hk⟩ := hrel
            by_cases hlt : k < sm
            · obtain ⟨nm, hnm, -⟩ := get_at Hsln.out hlt
              obtain ⟨ad4, hA4, had4, hc4⟩ := (HTs2.out _ _ hL.out).one (i := k) (u := .string nm) (by rw [List.getElem?_map, hnm]; rfl)
              subst hA4
              have had4l := had4.1
              have Hnm := hid hnm
              have Hwt := hid (wf_small (k := 3) (f := (f : Int)) (b := nmI (yf.bs.map Blk.name) nm) (s := 0) (by omega) (by omega) (Hbd.out nm) (by omega))
              have HEl := hid (show (E ++ ((ts.take k).map (gE yf.bs f b j)).map (numE L)).length ≤ 1000000 by rw [List.length_append, List.length_map, List.length_map, List.length_take]; omega)
              have Hsn := hid (ts_snoc (L := L) (E := E) (g := gE yf.bs f b j) hnm)
              clear hnm had4
              generalize E ++ ((ts.take k).map (gE yf.bs f b j)).map (numE L) = E1 at *
              go_wp2_with fail
              clear hc4 had4l
              have hcur := HKb.out _ _ _ hL.out (Below.refl _ _).drew
              have hkf := hk.out.trans (KeepF.below (Below.refl _ _).drew)
              obtain ⟨n0, n1, n2, n3⟩ := Fb.four (HNb.out _ _ hcur)
              obtain ⟨s0, s1, s2, s3⟩ := Fb.four (HSb.out _ _ hcur)
              obtain ⟨b0, b1, b2⟩ := (HBb.out _ _ hcur).thr
              have hGl := (HNb.out _ _ hcur).lt
              have hHl := (HSb.out _ _ hcur).lt
              have hBl := (HBb.out _ _ hcur).lt
              go_region_law (
                (go_simp
                 first
                | (go_at_call 148
                   refine (HB113.out _ _ hcur nm).mono ?_
                   rintro e wn ⟨rfl, hbk⟩
                   have hcur := HKb.out _ _ _ hcur hbk
                   have hkf := hkf.trans (KeepF.below hbk)
                   obtain ⟨n0, n1, n2, n3⟩ := Fb.four (HNb.out _ _ hcur)
                   obtain ⟨s0, s1, s2, s3⟩ := Fb.four (HSb.out _ _ hcur)
                   obtain ⟨b0, b1, b2⟩ := (HBb.out _ _ hcur).thr
                   have hGl := (HNb.out _ _ hcur).lt
                   have hHl := (HSb.out _ _ hcur).lt
                   have hBl := (HBb.out _ _ hcur).lt
                   clear hbk)
                | (go_at_call 113
                   refine (stmtNode_any _ _ _ _).mono ?_
                   rintro e wn ⟨rfl, hbk⟩
                   have hcur := HKb.out _ _ _ hcur hbk
                   have hkf := hkf.trans (KeepF.below hbk)
                   obtain ⟨n0, n1, n2, n3⟩ := Fb.four (HNb.out _ _ hcur)
                   obtain ⟨s0, s1, s2, s3⟩ := Fb.four (HSb.out _ _ hcur)
                   obtain ⟨b0, b1, b2⟩ := (HBb.out _ _ hcur).thr
                   have hGl := (HNb.out _ _ hcur).lt
                   have hHl := (HSb.out _ _ hcur).lt
                   have hBl := (HBb.out _ _ hcur).lt
                   clear hbk)
                | (go_at_call 112
                   refine (HCo.out _ _ hcur HEl.out ⟨3, f, b, j⟩ ⟨3, f, nmI (yf.bs.map Blk.name) nm, 0⟩ Hwn.out Hwt.out).mono ?_
                   rintro e wn ⟨rfl, hcur, hk77⟩
                   have hkf := hkf.trans hk77
                   obtain ⟨n0, n1, n2, n3⟩ := Fb.four (HNb.out _ _ hcur)
                   obtain ⟨s0, s1, s2, s3⟩ := Fb.four (HSb.out _ _ hcur)
                   obtain ⟨b0, b1, b2⟩ := (HBb.out _ _ hcur).thr
                   have hGl := (HNb.out _ _ hcur).lt
                   have hHl := (HSb.out _ _ hcur).lt
                   have hBl := (HBb.out _ _ hcur).lt
                   clear hk77)))
              all_goals
                clear n0 n1 n2 n3 s0 s1 s2 s3 b0 b1 b2 hGl hHl hBl
                have hcur2 := hid (Hsn.out ▸ hcur)
                have hkf2 := hid hkf
                clear hcur hkf
                go_wp2_with fail
                go_roundw
                case rel => exact ⟨k + 1, by omega, by go_num, hcur2, hkf2⟩
                case measure => simp [intOf]; omega
            · obtain rfl : k = sm := by omega
              have HF := hid (show Bls w0 ⟨some ad1, xn, xc, xl⟩ B MB M N L (E ++ (stE pp yf.bs f b j ⟨op, dd, us, ts⟩).map (numE L)) wr from by
                have := HEn.out _ _ hL.out
                rw [List.take_of_length_le (by rw [Hsln.out]; omega)] at this
                rw [Hst.out]; exact this)
              clear hL
              go_wp2_with fail
              exact bodyPost_end (v := .tuple #[]) (by simp [results, Tryz.results114]) rfl ⟨rfl, HF.out, hk.out⟩
      | false =>
        cases h9 : (op == 9) with
        | true =>
          as_aux_lemma =>
            have Hst := hid (show stE pp yf.bs f b j ⟨op, dd, us, ts⟩ = [(⟨3, f, b, j⟩, ⟨2, f, -1, -1⟩)] by unfold stE; simp only; rw [h7, h8, h9]; rfl)
            have hL := HL3
            have hk := HK3
            have hjw : IntKind.i64.wrap ((j : Int) + 1) = (j : Int) + 1 := IntWalk.i64_in _ (by omega)
            go_wp2_with fail
            clear s0 s1 s2 s3 HL3 HK3
            have hcur := HKb.out _ _ _ hL.out (Below.refl _ _).drew
            have hkf := hk.out.trans (KeepF.below (Below.refl _ _).drew)
            obtain ⟨n0, n1, n2, n3⟩ := Fb.four (HNb.out _ _ hcur)
            obtain ⟨s0, s1, s2, s3⟩ := Fb.four (HSb.out _ _ hcur)
            obtain ⟨b0, b1, b2⟩ := (HBb.out _ _ hcur).thr
            have hGl := (HNb.out _ _ hcur).lt
            have hHl := (HSb.out _ _ hcur).lt
            have hBl := (HBb.out _ _ hcur).lt
            go_region_law (
              (go_simp
               first
                | (go_at_call 149
                   refine (exitNode_any _ _).mono ?_
                   rintro e wn ⟨rfl, hbk⟩
                   have hcur := HKb.out _ _ _ hcur hbk
                   have hkf := hkf.trans (KeepF.below hbk)
                   obtain ⟨n0, n1, n2, n3⟩ := Fb.four (HNb.out _ _ hcur)
                   obtain ⟨s0, s1, s2, s3⟩ := Fb.four (HSb.out _ _ hcur)
                   obtain ⟨b0, b1, b2⟩ := (HBb.out _ _ hcur).thr
                   have hGl := (HNb.out _ _ hcur).lt
                   have hHl := (HSb.out _ _ hcur).lt
                   have hBl := (HBb.out _ _ hcur).lt
                   clear hbk)
                | (go_at_call 112
                   refine (HCo.out _ _ hcur (by omega) ⟨3, f, b, j⟩ ⟨2, f, -1, -1⟩ Hwn.out (wf_small (by omega) (by omega) (by omega) (by omega))).mono ?_
                   rintro e wn ⟨rfl, hcur, hk77⟩
                   have hkf := hkf.trans hk77
                   obtain ⟨n0, n1, n2, n3⟩ := Fb.four (HNb.out _ _ hcur)
                   obtain ⟨s0, s1, s2, s3⟩ := Fb.four (HSb.out _ _ hcur)
                   obtain ⟨b0, b1, b2⟩ := (HBb.out _ _ hcur).thr
                   have hGl := (HNb.out _ _ hcur).lt
                   have hHl := (HSb.out _ _ hcur).lt
                   have hBl := (HBb.out _ _ hcur).lt
                   clear hk77)))
            all_goals
              have HF := hid (show Bls w0 ⟨some ad1, xn, xc, xl⟩ B MB M N L (E ++ (stE pp yf.bs f b j ⟨op, dd, us, ts⟩).map (numE L)) _ from by rw [Hst.out]; exact HEn.out _ _ hcur)
              clear n0 n1 n2 n3 s0 s1 s2 s3 b0 b1 b2 hGl hHl hBl
              go_wp2_with fail
              exact bodyPost_end (v := .tuple #[]) (by simp [results, Tryz.results114]) rfl ⟨rfl, HF.out, hkf⟩
        | false =>
          cases h3 : (op == 3) with
          | true =>
            as_aux_lemma =>
              have hne := Hts.out h3
              have hlen0 : 0 < sm := by rw [← Hsln.out]; exact List.length_pos_iff.2 hne
              obtain ⟨nm, hnm, -⟩ := get_at Hsln.out hlen0
              have Hst := hid (show stE pp yf.bs f b j ⟨op, dd, us, ts⟩ = [(⟨3, f, b, j⟩, ⟨1, nmI (pp.map Fnc.name) nm, -1, -1⟩), (⟨2, nmI (pp.map Fnc.name) nm, -1, -1⟩, ⟨4, f, b, j⟩)] by
                unfold stE; simp only; rw [h7, h8, h9, h3, show ts.getD 0 ByteArray.empty = nm by rw [List.getD_eq_getElem?_getD, hnm]; rfl]; rfl)
              obtain ⟨ad4, hA4, had4, hc4⟩ := (HTs2.out _ _ HL3.out).one (i := 0) (u := .string nm) (by rw [List.getElem?_map, hnm]; rfl)
              subst hA4
              rw [show ad4.add 0 = ad4 by unfold Addr.add; simp] at hc4
              have Hw1 := hid (wf_small (k := 1) (f := nmI (pp.map Fnc.name) nm) (b := -1) (s := -1) (by omega) (Hpd.out nm) (by omega) (by omega))
              have Hw2 := hid (wf_small (k := 2) (f := nmI (pp.map Fnc.name) nm) (b := -1) (s := -1) (by omega) (Hpd.out nm) (by omega) (by omega))
              have Hw4 := hid (wf_small (k := 4) (f := (f : Int)) (b := (b : Int)) (s := (j : Int)) (by omega) (by omega) (by omega) (by omega))
              have Hnc := hid (fun (v : World) (h : Ls2 w0 ⟨some ad1, xn, xc, xl⟩ B MB M N G Hb L ⟨3, f, b, j⟩ ⟨sA, sn, sc, some ad4, sm, sd, ⟨op, dd, us, ts⟩⟩ E v) => (show ad4.block < v.heap.size ∧ v.cell? ad4 = some (.string nm) by
                obtain ⟨ad5, hA5, had5, hc5⟩ := (HTs2.out _ _ h).one (i := 0) (u := .string nm) (by rw [List.getElem?_map, hnm]; rfl)
                obtain rfl := Option.some.inj hA5
                rw [show ad4.add 0 = ad4 by unfold Addr.add; simp] at hc5
                exact ⟨had5.1, hc5⟩))
              clear hnm hc4 had4 hne
              have hcIe : ∃ cI, nmI (pp.map Fnc.name) nm = cI := ⟨_, rfl⟩
              obtain ⟨cI, hcIe⟩ := hcIe
              have HB115n := hid (fun (v : World) (h : Ls2 w0 ⟨some ad1, xn, xc, xl⟩ B MB M N G Hb L ⟨3, f, b, j⟩ ⟨sA, sn, sc, some ad4, sm, sd, ⟨op, dd, us, ts⟩⟩ E v) => HB115.out E v h nm)
              rw [hcIe] at Hst Hw1 Hw2 HB115n
              clear hcIe
              have hL := HL3
              have hk := HK3
              clear HL3 HK3
              go_upto_region 15 with fail
              clear s0 s1 s2 s3
              go_cut [8] (fun v wd => v = .int .i64 cI ∧ Hid (Ls2 w0 ⟨some ad1, xn, xc, xl⟩ B MB M N G Hb L ⟨3, f, b, j⟩ ⟨sA, sn, sc, some ad4, sm, sd, ⟨op, dd, us, ts⟩⟩ E wd) ∧ Hid (KeepF w wd))
              case first =>
                have hcur := HKb.out _ _ _ hL.out (Below.refl _ _).drew
                have hkf := hk.out.trans (KeepF.below (Below.refl _ _).drew)
                obtain ⟨n0, n1, n2, n3⟩ := Fb.four (HNb.out _ _ hcur)
                obtain ⟨s0, s1, s2, s3⟩ := Fb.four (HSb.out _ _ hcur)
                obtain ⟨b0, b1, b2⟩ := (HBb.out _ _ hcur).thr
                have hGl := (HNb.out _ _ hcur).lt
                have hHl := (HSb.out _ _ hcur).lt
                have hBl := (HBb.out _ _ hcur).lt
                obtain ⟨hnl, hnc⟩ := Hnc.out _ hcur
                go_region_law (
                  (go_simp
                   first
                  | (go_at_call 150
                     refine (HB115n.out _ hcur).mono ?_
                     rintro e wn ⟨rfl, hbk⟩
                     have hcur := HKb.out _ _ _ hcur hbk
                     have hkf := hkf.trans (KeepF.below hbk)
                     obtain ⟨n0, n1, n2, n3⟩ := Fb.four (HNb.out _ _ hcur)
                     obtain ⟨s0, s1, s2, s3⟩ := Fb.four (HSb.out _ _ hcur)
                     obtain ⟨b0, b1, b2⟩ := (HBb.out _ _ hcur).thr
                     have hGl := (HNb.out _ _ hcur).lt
                     have hHl := (HSb.out _ _ hcur).lt
                     have hBl := (HBb.out _ _ hcur).lt
                     clear hbk)))
                all_goals
                  clear n0 n1 n2 n3 s0 s1 s2 s3 b0 b1 b2 hGl hHl hBl
                  go_wp2_with fail
                  go_meet
                  exact ⟨rfl, hid hcur, hid hkf⟩
              case rest =>
                clear hL hk
                obtain ⟨rfl, hL, hk⟩ := hcut
                go_upto_region 16 with fail
                go_cut [] (fun wd => Hid (Ls2 w0 ⟨some ad1, xn, xc, xl⟩ B MB M N G Hb L ⟨3, f, b, j⟩ ⟨sA, sn, sc, some ad4, sm, sd, ⟨op, dd, us, ts⟩⟩ (E ++ [numE L (⟨3, f, b, j⟩, ⟨1, cI, -1, -1⟩)]) wd) ∧ Hid (KeepF w wd))
                case first =>
                  have hcur := HKb.out _ _ _ hL.out (Below.refl _ _).drew
                  have hkf := hk.out.trans (KeepF.below (Below.refl _ _).drew)
                  obtain ⟨n0, n1, n2, n3⟩ := Fb.four (HNb.out _ _ hcur)
                  obtain ⟨s0, s1, s2, s3⟩ := Fb.four (HSb.out _ _ hcur)
                  obtain ⟨b0, b1, b2⟩ := (HBb.out _ _ hcur).thr
                  have hGl := (HNb.out _ _ hcur).lt
                  have hHl := (HSb.out _ _ hcur).lt
                  have hBl := (HBb.out _ _ hcur).lt
                  go_region_law (
                    (go_simp
                     first
                    | (go_at_call 151
                       refine (entryNode_any _ _).mono ?_
                       rintro e wn ⟨rfl, hbk⟩
                       have hcur := HKb.out _ _ _ hcur hbk
                       have hkf := hkf.trans (KeepF.below hbk)
                       obtain ⟨n0, n1, n2, n3⟩ := Fb.four (HNb.out _ _ hcur)
                       obtain ⟨s0, s1, s2, s3⟩ := Fb.four (HSb.out _ _ hcur)
                       obtain ⟨b0, b1, b2⟩ := (HBb.out _ _ hcur).thr
                       have hGl := (HNb.out _ _ hcur).lt
                       have hHl := (HSb.out _ _ hcur).lt
                       have hBl := (HBb.out _ _ hcur).lt
                       clear hbk)
                    | (go_at_call 112
                       refine (HCo.out _ _ hcur (by omega) ⟨3, f, b, j⟩ ⟨1, cI, -1, -1⟩ Hwn.out Hw1.out).mono ?_
                       rintro e wn ⟨rfl, hcur, hk77⟩
                       have hkf := hkf.trans hk77
                       obtain ⟨n0, n1, n2, n3⟩ := Fb.four (HNb.out _ _ hcur)
                       obtain ⟨s0, s1, s2, s3⟩ := Fb.four (HSb.out _ _ hcur)
                       obtain ⟨b0, b1, b2⟩ := (HBb.out _ _ hcur).thr
                       have hGl := (HNb.out _ _ hcur).lt
                       have hHl := (HSb.out _ _ hcur).lt
                       have hBl := (HBb.out _ _ hcur).lt
                       clear hk77)))
                  all_goals
                    clear n0 n1 n2 n3 s0 s1 s2 s3 b0 b1 b2 hGl hHl hBl
                    go_wp2_with fail
                    go_meet
                    exact ⟨hid hcur, hid hkf⟩
                case rest =>
                  clear hL hk
                  obtain ⟨hL, hk⟩ := hcut
                  have HEl := hid (show (E ++ [numE L (⟨3, f, b, j⟩, ⟨1, cI, -1, -1⟩)]).length ≤ 1000000 by simp; omega)
                  go_upto_region 17 with fail
                  have hcur := HKb.out _ _ _ hL.out (Below.refl _ _).drew
                  have hkf := hk.out.trans (KeepF.below (Below.refl _ _).drew)
                  obtain ⟨n0, n1, n2, n3⟩ := Fb.four (HNb.out _ _ hcur)
                  obtain ⟨s0, s1, s2, s3⟩ := Fb.four (HSb.out _ _ hcur)
                  obtain ⟨b0, b1, b2⟩ := (HBb.out _ _ hcur).thr
                  have hGl := (HNb.out _ _ hcur).lt
                  have hHl := (HSb.out _ _ hcur).lt
                  have hBl := (HBb.out _ _ hcur).lt
                  go_region_law (
                    (go_simp
                     first
                    | (go_at_call 149
                       refine (exitNode_any _ _).mono ?_
                       rintro e wn ⟨rfl, hbk⟩
                       have hcur := HKb.out _ _ _ hcur hbk
                       have hkf := hkf.trans (KeepF.below hbk)
                       obtain ⟨n0, n1, n2, n3⟩ := Fb.four (HNb.out _ _ hcur)
                       obtain ⟨s0, s1, s2, s3⟩ := Fb.four (HSb.out _ _ hcur)
                       obtain ⟨b0, b1, b2⟩ := (HBb.out _ _ hcur).thr
                       have hGl := (HNb.out _ _ hcur).lt
                       have hHl := (HSb.out _ _ hcur).lt
                       have hBl := (HBb.out _ _ hcur).lt
                       clear hbk)
                    | (go_at_call 112
                       refine (HCo.out _ _ hcur HEl.out ⟨2, cI, -1, -1⟩ ⟨4, f, b, j⟩ Hw2.out Hw4.out).mono ?_
                       rintro e wn ⟨rfl, hcur, hk77⟩
                       have hkf := hkf.trans hk77
                       obtain ⟨n0, n1, n2, n3⟩ := Fb.four (HNb.out _ _ hcur)
                       obtain ⟨s0, s1, s2, s3⟩ := Fb.four (HSb.out _ _ hcur)
                       obtain ⟨b0, b1, b2⟩ := (HBb.out _ _ hcur).thr
                       have hGl := (HNb.out _ _ hcur).lt
                       have hHl := (HSb.out _ _ hcur).lt
                       have hBl := (HBb.out _ _ hcur).lt
                       clear hk77)))
                  all_goals
                    have HF := hid (show Bls w0 ⟨some ad1, xn, xc, xl⟩ B MB M N L (E ++ (stE pp yf.bs f b j ⟨op, dd, us, ts⟩).map (numE L)) _ from by
                      rw [Hst.out]; have := HEn.out _ _ hcur; rw [List.append_assoc] at this; exact this)
                    clear n0 n1 n2 n3 s0 s1 s2 s3 b0 b1 b2 hGl hHl hBl
                    go_wp2_with fail
                    exact bodyPost_end (v := .tuple #[]) (by simp [results, Tryz.results114]) rfl ⟨rfl, HF.out, hkf⟩
          | false =>
            as_aux_lemma =>
              have Hst := hid (show stE pp yf.bs f b j ⟨op, dd, us, ts⟩ = [(⟨3, f, b, j⟩, ⟨3, f, b, (j : Int) + 1⟩)] by unfold stE; simp only; rw [h7, h8, h9, h3]; rfl)
              have hL := HL3
              have hk := HK3
              have hjw : IntKind.i64.wrap ((j : Int) + 1) = (j : Int) + 1 := IntWalk.i64_in _ (by omega)
              go_wp2_with fail
              clear s0 s1 s2 s3 HL3 HK3
              have hcur := HKb.out _ _ _ hL.out (Below.refl _ _).drew
              have hkf := hk.out.trans (KeepF.below (Below.refl _ _).drew)
              obtain ⟨n0, n1, n2, n3⟩ := Fb.four (HNb.out _ _ hcur)
              obtain ⟨s0, s1, s2, s3⟩ := Fb.four (HSb.out _ _ hcur)
              obtain ⟨b0, b1, b2⟩ := (HBb.out _ _ hcur).thr
              have hGl := (HNb.out _ _ hcur).lt
              have hHl := (HSb.out _ _ hcur).lt
              have hBl := (HBb.out _ _ hcur).lt
              go_region_law (
                (go_simp
                 first
                  | (go_at_call 113
                     refine (stmtNode_any _ _ _ _).mono ?_
                     rintro e wn ⟨rfl, hbk⟩
                     have hcur := HKb.out _ _ _ hcur hbk
                     have hkf := hkf.trans (KeepF.below hbk)
                     obtain ⟨n0, n1, n2, n3⟩ := Fb.four (HNb.out _ _ hcur)
                     obtain ⟨s0, s1, s2, s3⟩ := Fb.four (HSb.out _ _ hcur)
                     obtain ⟨b0, b1, b2⟩ := (HBb.out _ _ hcur).thr
                     have hGl := (HNb.out _ _ hcur).lt
                     have hHl := (HSb.out _ _ hcur).lt
                     have hBl := (HBb.out _ _ hcur).lt
                     clear hbk)
                  | (go_at_call 112
                     refine (HCo.out _ _ hcur (by omega) ⟨3, f, b, j⟩ ⟨3, f, b, (j : Int) + 1⟩ Hwn.out (wf_small (by omega) (by omega) (by omega) (by omega))).mono ?_
                     rintro e wn ⟨rfl, hcur, hk77⟩
                     have hkf := hkf.trans hk77
                     obtain ⟨n0, n1, n2, n3⟩ := Fb.four (HNb.out _ _ hcur)
                     obtain ⟨s0, s1, s2, s3⟩ := Fb.four (HSb.out _ _ hcur)
                     obtain ⟨b0, b1, b2⟩ := (HBb.out _ _ hcur).thr
                     have hGl := (HNb.out _ _ hcur).lt
                     have hHl := (HSb.out _ _ hcur).lt
                     have hBl := (HBb.out _ _ hcur).lt
                     clear hk77)))
              all_goals
                have HF := hid (show Bls w0 ⟨some ad1, xn, xc, xl⟩ B MB M N L (E ++ (stE pp yf.bs f b j ⟨op, dd, us, ts⟩).map (numE L)) _ from by rw [Hst.out]; exact HEn.out _ _ hcur)
                clear n0 n1 n2 n3 s0 s1 s2 s3 b0 b1 b2 hGl hHl hBl
                go_wp2_with fail
                exact bodyPost_end (v := .tuple #[]) (by simp [results, Tryz.results114]) rfl ⟨rfl, HF.out, hkf⟩

/-- The edges that leave adds. -/
def lvE (p : List Fnc) (n : Nd) : List (Nd × Nd) :=
  if n.kd == 1 then [(n, ⟨3, n.fn, 0, 0⟩)]
  else if n.kd == 3 then (match p[n.fn.toNat]? with | some F => (match F.bs[n.bk.toNat]? with | some b => (match b.ss[n.st.toNat]? with | some t => stE p F.bs n.fn.toNat n.bk.toNat n.st.toNat t | none => []) | none => []) | none => [])
  else if n.kd == 4 then [(n, ⟨3, n.fn, n.bk, n.st + 1⟩)]
  else []
end Go.Proofs.YtfapgnbnfhpicaaGreatDoor
