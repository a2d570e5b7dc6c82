/- Part 1 of the texts that YtcgichfanfijjaaGreatDoorGopAll leans on. -/
import Derived.Test.YtcgichfanfijjaaGreatDoorLst2
import Derived.Test.YtcgichfanfijjaaGreatDoorGpu
import Derived.Deep.QuietTactic
import Derived.BigQuiet
import Derived.Deep.DeepMust
import Derived.Deep.RegionHeld3
import Derived.Deep.DeepCutAuto
import Derived.Deep.RegionLaw
import Derived.Lib.LazyBuf
import Derived.Test.YtcgichfanfijjaaGreatDoorShl
import Derived.Test.YtcgichfanfijjaaGreatDoorFnd
import Derived.DeepKeys4
import Derived.Maps.Own
import Derived.Maps.Keyed
import Derived.Maps.OwnSet
import Derived.Deep.DrawnRows
import Derived.StillTailTactics
import Derived.Test.YtcgichfanfijjaaGreatDoorKw
import Derived.Test.YtcgichfanfijjaaGreatDoorLin
import Derived.BigRegion
import Derived.Test.YtcgichfanfijjaaGreatDoorRp3
import Derived.Laws.OwnMore
import Derived.Test.YtcgichfanfijjaaGreatDoorPg2
namespace Go.Proofs.YtcgichfanfijjaaGreatDoor
set_option maxRecDepth 20000
set_option linter.unusedVariables false
set_option linter.unusedSimpArgs false
open Go.ChangeShapes Go.WideShapes Go.ChangeAt Go.RowKit

/-- A list of numbers and where it lies. -/
structure RH where
  A : Option Addr
  n : Nat
  c : Nat
  l : List Int
def RH.v (x : RH) : Value := .slice x.A x.n x.c
structure RHok (w : World) (ex : List (Option Nat)) (x : RH) : Prop where
  lies : EAt w ex x.A (ints x.l)
  len : x.l.length = x.n
  few : x.n ≤ 9223372036854775807
theorem RHok.go {w w' : World} {ex ex' : List (Option Nat)} {x : RH} (h : RHok w ex x) (hg : Go2 w ex w' ex') : RHok w' ex' x := ⟨h.lies.go hg, h.len, h.few⟩
theorem RHok.below {w w' : World} {ex : List (Option Nat)} {x : RH} (h : RHok w ex x) (hb : Below w.heap.size w w') : RHok w' ex x := h.go (Go2.below hb)
theorem EAt.one {w : World} {ex : List (Option Nat)} {A : Option Addr} {xs : List Value} (h : EAt w ex A xs) {i : Nat} {u : Value} (hi : xs[i]? = some u) : ∃ ad : Addr, A = some ad ∧ Safe w ex ad.block ∧ w.cell? (ad.add i) = some u := by
  rcases h with rfl | ⟨ad, e, hs, hc⟩
  · simp at hi
  · exact ⟨ad, e, hs, hc i u hi⟩
theorem RHok.cell {w : World} {ex : List (Option Nat)} {x : RH} (h : RHok w ex x) {i : Nat} {a : Int} (hi : x.l[i]? = some a) : ∃ ad : Addr, x.A = some ad ∧ ad.block < w.heap.size ∧ w.cell? (ad.add i) = some (.int .i64 a) := by
  obtain ⟨ad, h1, h2, h3⟩ := h.lies.one (i := i) (u := .int .i64 a) (by unfold ints; rw [List.getElem?_map, hi]; rfl)
  exact ⟨ad, h1, h2.1, h3⟩
/-- A list of lists. -/
structure LH where
  A : Option Addr
  n : Nat
  c : Nat
  l : List RH
def LH.v (x : LH) : List (List Int) := x.l.map RH.l
structure LHok (w : World) (ex : List (Option Nat)) (x : LH) : Prop where
  lies : EAt w ex x.A (x.l.map RH.v)
  len : x.l.length = x.n
  few : x.n ≤ 9223372036854775807
  all : ∀ y ∈ x.l, RHok w ex y
theorem LHok.go {w w' : World} {ex ex' : List (Option Nat)} {x : LH} (h : LHok w ex x) (hg : Go2 w ex w' ex') : LHok w' ex' x := ⟨h.lies.go hg, h.len, h.few, fun y hy => (h.all y hy).go hg⟩
theorem LHok.below {w w' : World} {ex : List (Option Nat)} {x : LH} (h : LHok w ex x) (hb : Below w.heap.size w w') : LHok w' ex x := h.go (Go2.below hb)
theorem LHok.cell {w : World} {ex : List (Option Nat)} {x : LH} (h : LHok w ex x) {i : Nat} {y : RH} (hi : x.l[i]? = some y) : ∃ ad : Addr, x.A = some ad ∧ ad.block < w.heap.size ∧ w.cell? (ad.add i) = some (.slice y.A y.n y.c) := by
  obtain ⟨ad, h1, h2, h3⟩ := h.lies.one (i := i) (u := RH.v y) (by rw [List.getElem?_map, hi]; rfl)
  exact ⟨ad, h1, h2.1, h3⟩
theorem LH.vlen (x : LH) : x.v.length = x.l.length := by simp [LH.v]
theorem LH.at {x : LH} {i : Nat} {y : RH} (h : x.l[i]? = some y) : x.v[i]? = some y.l := by unfold LH.v; rw [List.getElem?_map, h]; rfl
theorem LH.rw {x : LH} {i : Nat} {y : RH} (h : x.l[i]? = some y) : rw0 x.v i = y.l := rw0_at (LH.at h)
/-- A graph. -/
structure GH where
  A : Option Addr
  n : Nat
  c : Nat
  ns : List Nd
  S : LH
  P : LH
def GH.a (x : GH) : Value := .agg #[.slice x.A x.n x.c, .slice x.S.A x.S.n x.S.c, .slice x.P.A x.P.n x.P.c]
structure GHok (w : World) (ex : List (Option Nat)) (x : GH) : Prop where
  lies : EAt w ex x.A (x.ns.flatMap ndc)
  len : x.ns.length = x.n
  few : x.n ≤ 9223372036854775807
  s : LHok w ex x.S
  p : LHok w ex x.P
theorem GHok.go {w w' : World} {ex ex' : List (Option Nat)} {x : GH} (h : GHok w ex x) (hg : Go2 w ex w' ex') : GHok w' ex' x := ⟨h.lies.go hg, h.len, h.few, h.s.go hg, h.p.go hg⟩
theorem GHok.below {w w' : World} {ex : List (Option Nat)} {x : GH} (h : GHok w ex x) (hb : Below w.heap.size w w') : GHok w' ex x := h.go (Go2.below hb)

theorem ascG_cons (N : Nat) (p a : Int) (l : List Int) : ascG N p (a :: l) = if a ≤ p then false else if (N : Int) ≤ a then false else ascG N a l := rfl
theorem drop_at {α : Type} {l : List α} {k : Nat} {a : α} (h : l[k]? = some a) : l.drop k = a :: l.drop (k + 1) := by
  obtain ⟨h1, h2⟩ := List.getElem?_eq_some_iff.1 h
  rw [List.drop_eq_getElem_cons h1, h2]
set_option maxHeartbeats 1600000 in
theorem asc_any (x : RH) (N : Nat) (ex : List (Option Nat)) (w : World) (h : RHok w ex x) (hN : N ≤ 9223372036854775807) :
    Calls Tryz.prog 50 #[.slice x.A x.n x.c, .int .i64 N] w fun e w' => e = .returned (.bool (risB N x.l)) ∧ w = w' := by
  have hn := h.few
  have HX := hid h
  have HL := hid h.len
  clear h
  obtain ⟨A, n, c, l⟩ := x
  simp only at *
  go_enter Tryz.func50, Tryz.ntmps50
  go_wp2_with fail
  go_loop [5, 7, 10] (fun pv _ iv => ∃ (k : Nat) (p : Int), k ≤ n ∧ iv = .int .i64 k ∧ pv = .int .i64 p ∧ Hid (risB N l = ascG N p (l.drop k))) (fun _ _ iv => n - (intOf iv).toNat)
  case atStart => exact ⟨0, -1, by omega, rfl, rfl, hid rfl⟩
  case round =>
    obtain ⟨k, p, hk, rfl, rfl, hE⟩ := hrel
    by_cases hlt : k < n
    · obtain ⟨a, ha, -⟩ := get_at HL.out hlt
      obtain ⟨ad, hA, had, hc⟩ := HX.out.cell ha
      simp only at hA
      subst hA
      have Hd := hid (drop_at ha)
      clear ha
      by_cases h1 : a ≤ p
      · have Hr := hid (show risB N l = false by rw [hE.out, Hd.out, ascG_cons, if_pos h1])
        go_wp2_with fail
        go_ret
        exact ⟨ret_b Hr.out, rfl⟩
      · by_cases h2 : (N : Int) ≤ a
        · have Hr := hid (show risB N l = false by rw [hE.out, Hd.out, ascG_cons, if_neg h1, if_pos h2])
          go_wp2_with fail
          go_ret
          exact ⟨ret_b Hr.out, rfl⟩
        · have Hr := hid (show risB N l = ascG N a (l.drop (k + 1)) by rw [hE.out, Hd.out, ascG_cons, if_neg h1, if_neg h2])
          go_wp2_with fail
          go_round
          case rel => exact ⟨k + 1, a, by omega, by go_num, rfl, Hr⟩
          case measure => simp [intOf]; omega
    · have Hr := hid (show risB N l = true by rw [hE.out, List.drop_of_length_le (by rw [HL.out]; omega)]; rfl)
      go_wp2_with fail
      go_ret
      exact ⟨ret_b Hr.out, rfl⟩
theorem tot_take {S : List (List Int)} {k : Nat} {l : List Int} (h : S[k]? = some l) : tot (S.take (k + 1)) = tot (S.take k) + l.length := by
  unfold tot; rw [List.take_add_one, h, List.map_append, List.sum_append]; simp
set_option maxHeartbeats 1600000 in
theorem count_any (x : LH) (N : Nat) (ex : List (Option Nat)) (w : World) (h : LHok w ex x) (hN : x.n ≤ 100000) (hr : ∀ y ∈ x.l, y.n ≤ 100000) :
    Calls Tryz.prog 51 #[.slice x.A x.n x.c] w fun e w' => e = .returned (.int .i64 (tot x.v : Nat)) ∧ w = w' := by
  have HX := hid h
  have HR := hid hr
  have HL := hid h.len
  have Hat := hid (fun (k : Nat) (y : RH) (hy : x.l[k]? = some y) => LH.at hy)
  have Hvl := hid (LH.vlen x)
  clear h hr
  generalize hv : LH.v x = v at *
  clear hv
  obtain ⟨A, n, c, l⟩ := x
  simp only at *
  go_enter Tryz.func51, Tryz.ntmps51
  go_wp2_with fail
  go_loop [3, 5, 8] (fun sv _ iv => ∃ (k t : Nat), k ≤ n ∧ iv = .int .i64 k ∧ sv = .int .i64 t ∧ t ≤ k * 100000 ∧ Hid (t = tot (v.take k))) (fun _ _ iv => n - (intOf iv).toNat)
  case atStart => exact ⟨0, 0, by omega, rfl, rfl, by omega, hid rfl⟩
  case round =>
    obtain ⟨k, t, hk, rfl, rfl, ht, hE⟩ := hrel
    by_cases hlt : k < n
    · obtain ⟨y, hy, hym⟩ := get_at HL.out hlt
      obtain ⟨ad, hA, had, hc⟩ := HX.out.cell hy
      simp only at hA
      subst hA
      have hyn := HR.out y hym
      have Ht := hid (show t + y.n = tot (v.take (k + 1)) by rw [tot_take (Hat.out k y hy), ← hE.out, (HX.out.all y hym).len])
      clear hy hym
      obtain ⟨yA, yn, yc, yl⟩ := y
      simp only at *
      go_wp2_with fail
      go_round
      case rel => exact ⟨k + 1, t + yn, by omega, by go_num, by go_num, by omega, Ht⟩
      case measure => simp [intOf]; omega
    · obtain rfl : k = n := by omega
      have Ht := hid (show t = tot v by rw [hE.out, List.take_of_length_le (by rw [Hvl.out, HL.out]; omega)])
      go_wp2_with fail
      go_ret
      exact ⟨ret_i (by rw [Ht.out]), rfl⟩
end Go.Proofs.YtcgichfanfijjaaGreatDoor

namespace Go.Proofs.YtcgichfanfijjaaGreatDoor
set_option maxRecDepth 20000
set_option linter.unusedVariables false
set_option linter.unusedSimpArgs false
open Go.ChangeShapes Go.WideShapes Go.ChangeAt Go.RowKit

section
variable {α : Type} [DecidableEq α]
def eqD (l m : List α) : Bool := decide (l = m)
theorem eqD_len {l m : List α} (h : l.length ≠ m.length) : eqD l m = false := by unfold eqD; rw [decide_eq_false_iff_not]; rintro rfl; exact h rfl
theorem eqD_no {l m : List α} {k : Nat} {a b : α} (ha : l[k]? = some a) (hb : m[k]? = some b) (h : a ≠ b) : eqD l m = false := by
  unfold eqD; rw [decide_eq_false_iff_not]; rintro rfl; rw [ha] at hb; exact h (Option.some.inj hb)
theorem eqD_yes {l m : List α} {n : Nat} (hl : l.length = n) (hm : m.length = n) (h : ∀ j, j < n → l[j]? = m[j]?) : eqD l m = true := by
  unfold eqD; rw [decide_eq_true_eq]
  apply List.ext_getElem?
  intro j
  by_cases hj : j < n
  · exact h j hj
  · rw [List.getElem?_eq_none (by omega), List.getElem?_eq_none (by omega)]
omit [DecidableEq α] in
theorem eqD_step {l m : List α} {k : Nat} {a b : α} (h : ∀ j, j < k → l[j]? = m[j]?) (ha : l[k]? = some a) (hb : m[k]? = some b) (e : a = b) : ∀ j, j < k + 1 → l[j]? = m[j]? := by
  intro j hj
  by_cases e2 : j = k
  · subst e2; rw [ha, hb, e]
  · exact h j (by omega)
end
/-- It returned this, and only draws were made. -/
def RetQ (w : World) (v : Value) (e : Ending) (w' : World) : Prop := e = .returned v ∧ ∃ q : Nat, w' = w.drewN q
theorem RetQ.mk {w : World} {b c : Bool} {q : Nat} (h : c = b) : RetQ w (.bool c) (.returned (.bool b)) (w.drewN q) := ⟨by rw [h], q, rfl⟩
theorem RetQ.mk2 {w : World} {b c : Bool} {q r : Nat} (h : c = b) : RetQ w (.bool c) (.returned (.bool b)) ((w.drewN q).drewN r) := ⟨by rw [h], q + r, World.drewN_drewN _ _ _⟩
theorem RetQ.mk0 {w : World} {b c : Bool} (h : c = b) : RetQ w (.bool c) (.returned (.bool b)) w := ⟨by rw [h], 0, rfl⟩
set_option maxHeartbeats 1600000 in
theorem equal_int (x y : RH) (ex ey : List (Option Nat)) (w : World) (hx : RHok w ex x) (hy : RHok w ey y) :
    Calls Tryz.prog 53 #[.slice x.A x.n x.c, .slice y.A y.n y.c] w (RetQ w (.bool (eqD x.l y.l))) := by
  have hn := hx.few
  have hm := hy.few
  have HX := hid hx
  have HY := hid hy
  have HL := hid hx.len
  have HM := hid hy.len
  clear hx hy
  obtain ⟨A, n, c, l⟩ := x
  obtain ⟨B, m, c2, l2⟩ := y
  simp only at *
  by_cases hlen : n = m
  · subst hlen
    go_enter Tryz.func53, Tryz.ntmps53
    go_wp2_with fail
    go_loopw [5, 13] (fun _ iv wr => ∃ (k q : Nat), k ≤ n ∧ iv = .int .i64 k ∧ wr = w.drewN q ∧ Hid (∀ j, j < k → l[j]? = l2[j]?)) (fun _ iv _ => n - (intOf iv).toNat)
    case atStart => exact ⟨0, 0, by omega, rfl, rfl, hid (fun j h => by omega)⟩
    case round =>
      obtain ⟨k, q, hk, rfl, rfl, hE⟩ := hrel
      by_cases hlt : k < n
      · obtain ⟨a, ha, -⟩ := get_at HL.out hlt
        obtain ⟨b, hb, -⟩ := get_at HM.out hlt
        obtain ⟨ad, hA, had, hc⟩ := HX.out.cell ha
        obtain ⟨ad2, hB, had2, hc2⟩ := HY.out.cell hb
        simp only at hA hB
        subst hA
        subst hB
        have Ha := hid ha
        have Hb := hid hb
        clear ha hb
        by_cases h1 : a = b
        · subst h1
          have Hr := hid (eqD_step hE.out Ha.out Hb.out rfl)
          clear hE
          go_wp2_with fail
          go_quiet (fail)
          go_wp2_with fail
          go_roundw
          case rel => exact ⟨k + 1, _, by omega, by go_num, rfl, Hr⟩
          case measure => simp [intOf]; omega
        · have Hr := hid (eqD_no Ha.out Hb.out h1)
          have t1 : (a == b) = false := by simpa using h1
          have t2 : (a != b) = true := by simpa using h1
          clear hE h1
          go_wp2_with fail
          go_quiet (fail)
          go_wp2_with fail
          go_ret
          exact RetQ.mk2 Hr.out
      · obtain rfl : k = n := by omega
        have Hr := hid (eqD_yes HL.out HM.out hE.out)
        clear hE
        go_wp2_with fail
        go_ret
        exact RetQ.mk Hr.out
  · have Hr := hid (eqD_len (l := l) (m := l2) (by rw [HL.out, HM.out]; exact hlen))
    have t1 : ((n : Int) == (m : Int)) = false := by simp; omega
    have t2 : ((n : Int) != (m : Int)) = true := by simp; omega
    clear hlen
    go_enter Tryz.func53, Tryz.ntmps53
    go_wp2_with fail
    go_ret
    exact RetQ.mk0 Hr.out
set_option maxHeartbeats 1600000 in
theorem refInts_any (x y : RH) (ex ey : List (Option Nat)) (w : World) (hx : RHok w ex x) (hy : RHok w ey y) :
    Calls Tryz.prog 25 #[.slice x.A x.n x.c, .slice y.A y.n y.c] w (RetQ w (.bool (eqD x.l y.l))) := by
  have hn := hx.few
  have hm := hy.few
  have HX := hid hx
  have HY := hid hy
  have HL := hid hx.len
  have HM := hid hy.len
  clear hx hy
  obtain ⟨A, n, c, l⟩ := x
  obtain ⟨B, m, c2, l2⟩ := y
  simp only at *
  by_cases hlen : n = m
  · subst hlen
    go_enter Tryz.func25, Tryz.ntmps25
    go_wp2_with fail
    go_loopw [5] (fun iv wr => ∃ (k q : Nat), k ≤ n ∧ iv = .int .i64 k ∧ wr = w.drewN q ∧ Hid (∀ j, j < k → l[j]? = l2[j]?)) (fun iv _ => n - (intOf iv).toNat)
    case atStart => exact ⟨0, 0, by omega, rfl, rfl, hid (fun j h => by omega)⟩
    case round =>
      obtain ⟨k, q, hk, rfl, rfl, hE⟩ := hrel
      by_cases hlt : k < n
      · obtain ⟨a, ha, -⟩ := get_at HL.out hlt
        obtain ⟨b, hb, -⟩ := get_at HM.out hlt
        obtain ⟨ad, hA, had, hc⟩ := HX.out.cell ha
        obtain ⟨ad2, hB, had2, hc2⟩ := HY.out.cell hb
        simp only at hA hB
        subst hA
        subst hB
        have Ha := hid ha
        have Hb := hid hb
        clear ha hb
        by_cases h1 : a = b
        · subst h1
          have Hr := hid (eqD_step hE.out Ha.out Hb.out rfl)
          clear hE
          go_wp2_with fail
          go_quiet (fail)
          go_wp2_with fail
          go_roundw
          case rel => exact ⟨k + 1, _, by omega, by go_num, rfl, Hr⟩
          case measure => simp [intOf]; omega
        · have Hr := hid (eqD_no Ha.out Hb.out h1)
          have t1 : (a == b) = false := by simpa using h1
          have t2 : (a != b) = true := by simpa using h1
          clear hE h1
          go_wp2_with fail
          go_quiet (fail)
          go_wp2_with fail
          go_ret
          exact RetQ.mk2 Hr.out
      · obtain rfl : k = n := by omega
        have Hr := hid (eqD_yes HL.out HM.out hE.out)
        clear hE
        go_wp2_with fail
        go_ret
        exact RetQ.mk Hr.out
  · have Hr := hid (eqD_len (l := l) (m := l2) (by rw [HL.out, HM.out]; exact hlen))
    have t1 : ((n : Int) == (m : Int)) = false := by simp; omega
    have t2 : ((n : Int) != (m : Int)) = true := by simp; omega
    clear hlen
    go_enter Tryz.func25, Tryz.ntmps25
    go_wp2_with fail
    go_ret
    exact RetQ.mk0 Hr.out
set_option maxHeartbeats 3200000 in
/-- EqualFunc over lists of lists, by Equal. -/
theorem equal_rows (x y : LH) (ex ey : List (Option Nat)) (w : World) (hx : LHok w ex x) (hy : LHok w ey y) :
    Calls Tryz.prog 52 #[.slice x.A x.n x.c, .slice y.A y.n y.c, .func (Fn.func 53) #[] #[]] w (RetQ w (.bool (eqD x.v y.v))) := by
  have hn := hx.few
  have hm := hy.few
  have HX := hid hx
  have HY := hid hy
  have HL := hid hx.len
  have HM := hid hy.len
  have HvL := hid (LH.vlen x)
  have HvM := hid (LH.vlen y)
  have HaX := hid (fun (k : Nat) (z : RH) (hz : x.l[k]? = some z) => LH.at hz)
  have HaY := hid (fun (k : Nat) (z : RH) (hz : y.l[k]? = some z) => LH.at hz)
  clear hx hy
  generalize hv : x.v = v at *
  generalize hv2 : y.v = v2 at *
  clear hv hv2
  obtain ⟨A, n, c, l⟩ := x
  obtain ⟨B, m, c2, l2⟩ := y
  simp only at *
  by_cases hlen : n = m
  · subst hlen
    go_enter Tryz.func52, Tryz.ntmps52
    go_wp2_with fail
    go_loopw [7, 8, 9, 17] (fun _ _ _ iv wr => ∃ (k q : Nat), k ≤ n ∧ iv = .int .i64 k ∧ wr = w.drewN q ∧ Hid (∀ j, j < k → v[j]? = v2[j]?)) (fun _ _ _ iv _ => n - (intOf iv).toNat)
    case atStart => exact ⟨0, 0, by omega, rfl, rfl, hid (fun j h => by omega)⟩
    case round =>
      obtain ⟨k, q, hk, rfl, rfl, hE⟩ := hrel
      by_cases hlt : k < n
      · obtain ⟨a, ha, ham⟩ := get_at HL.out hlt
        obtain ⟨b, hb, hbm⟩ := get_at HM.out hlt
        obtain ⟨ad, hA, had, hc⟩ := HX.out.cell ha
        obtain ⟨ad2, hB, had2, hc2⟩ := HY.out.cell hb
        simp only at hA hB
        subst hA
        subst hB
        have Ha := hid (HaX.out k a ha)
        have Hb := hid (HaY.out k b hb)
        have HC := hid (equal_int a b ex ey (w.drewN q) ((HX.out.all a ham).below (below_drewN (Below.refl _ _) q)) ((HY.out.all b hbm).below (below_drewN (Below.refl _ _) q)))
        clear ha hb ham hbm
        obtain ⟨aA, an, ac, al⟩ := a
        obtain ⟨bA, bn, bc, bl⟩ := b
        simp only at *
        by_cases h1 : al = bl
        · subst h1
          have Hr := hid (eqD_step hE.out Ha.out Hb.out rfl)
          have e1 : eqD al al = true := by unfold eqD; simp
          rw [e1] at HC
          clear hE e1
          go_wp2_with fail
          refine HC.out.mono ?_
          rintro e w' ⟨rfl, q2, rfl⟩
          go_wp2_with fail
          go_roundw
          case rel => exact ⟨k + 1, _, by omega, by go_num, rfl, Hr⟩
          case measure => simp [intOf]; omega
        · have Hr := hid (eqD_no Ha.out Hb.out h1)
          have e1 : eqD al bl = false := by unfold eqD; simpa using h1
          rw [e1] at HC
          clear hE h1 e1
          go_wp2_with fail
          refine HC.out.mono ?_
          rintro e w' ⟨rfl, q2, rfl⟩
          go_wp2_with fail
          go_ret
          exact RetQ.mk Hr.out
      · obtain rfl : k = n := by omega
        have Hr := hid (eqD_yes (HvL.out.trans HL.out) (HvM.out.trans HM.out) hE.out)
        clear hE
        go_wp2_with fail
        go_ret
        exact RetQ.mk Hr.out
  · have Hr := hid (eqD_len (l := v) (m := v2) (by rw [HvL.out, HvM.out, HL.out, HM.out]; exact hlen))
    have t1 : ((n : Int) == (m : Int)) = false := by simp; omega
    have t2 : ((n : Int) != (m : Int)) = true := by simp; omega
    clear hlen
    go_enter Tryz.func52, Tryz.ntmps52
    go_wp2_with fail
    go_ret
    exact RetQ.mk0 Hr.out
end Go.Proofs.YtcgichfanfijjaaGreatDoor

namespace Go.Proofs.YtcgichfanfijjaaGreatDoor
set_option maxRecDepth 20000
set_option linter.unusedVariables false
set_option linter.unusedSimpArgs false
open Go.ChangeShapes Go.WideShapes Go.ChangeAt Go.RowKit

theorem info3 : (Tryz.prog.info? 3).map (fun i => (i.zero, i.size, i.bytes)) = some (some (.int .i64 0), 1, 8) := by kernel_rfl
theorem info22 : (Tryz.prog.info? 22).map (fun i => (i.zero, i.size, i.bytes)) = some (some (.slice none 0 0), 1, 24) := by kernel_rfl
def upd (f : Nat → List Int) (i : Nat) (l : List Int) : Nat → List Int := fun j => if j = i then l else f j
theorem upd_at (f : Nat → List Int) (i : Nat) (l : List Int) : upd f i l i = l := by unfold upd; rw [if_pos rfl]
theorem upd_ne (f : Nat → List Int) {i j : Nat} (l : List Int) (h : j ≠ i) : upd f i l j = f j := by unfold upd; rw [if_neg h]
/-- Block M holds N slices, each of which owns its row, apart from the others. -/
def Mx (w : World) (M N : Nat) (f : Nat → List Int) : Prop :=
  ∃ vs : List Value, vs.length = N ∧ Fb w M vs.toArray 22 ∧ (∀ i v, vs[i]? = some v → w.ownsRow (M + 1) 3 1 v (f i).length (ints (f i))) ∧
    (∀ (i j : Nat) (u v : Value) (g : Nat), i ≠ j → vs[i]? = some u → vs[j]? = some v → u.ownBlock = some g → v.ownBlock ≠ some g)
section
variable {w w' : World} {M N : Nat} {f : Nat → List Int}
theorem Mx.lt (h : Mx w M N f) : M < w.heap.size := by obtain ⟨vs, h1, h2, h3, h4⟩ := h; exact h2.lt
theorem Mx.below (h : Mx w M N f) (hb : Below w.heap.size w w') : Mx w' M N f := by
  obtain ⟨vs, h1, h2, h3, h4⟩ := h
  exact ⟨vs, h1, h2.below hb h2.lt, fun i v hv => own_below (h3 i v hv) hb, h4⟩
theorem Mx.alloc (h : Mx w M N f) (o : Obj) : Mx (w.alloc o) M N f := h.below ((Below.refl _ _).alloc (Nat.le_refl _) o)
theorem Mx.congr {g : Nat → List Int} (h : Mx w M N f) (hg : ∀ i, i < N → f i = g i) : Mx w M N g := by
  obtain ⟨vs, h1, h2, h3, h4⟩ := h
  refine ⟨vs, h1, h2, fun i v hv => ?_, h4⟩
  have hi : i < N := by rw [← h1]; exact (List.getElem?_eq_some_iff.1 hv).1
  rw [← hg i hi]; exact h3 i v hv
/-- A world in which another block has been written. -/
theorem Mx.grown {row : Option Nat} (h : Mx w M N f) (hg : w.grownBy w' row) (hr : ∀ k, row = some k → k < M) : Mx w' M N f := by
  obtain ⟨vs, h1, h2, h3, h4⟩ := h
  refine ⟨vs, h1, h2.grown hg (fun e => by have := hr M e.symm; omega), fun i v hv => (h3 i v hv).kept hg ?_, h4⟩
  cases hb : v.ownBlock with
  | none => exact .inl rfl
  | some k => exact .inr (fun e => by have := hr k e.symm; have := ((h3 i v hv).lt k hb).1; omega)
theorem Mx.start (w : World) (N : Nat) : Mx (w.alloc (.cells (Array.replicate N (Value.slice none 0 0)) 22)) w.heap.size N (fun _ => []) := by
  refine ⟨List.replicate N (.slice none 0 0), by simp, by rw [List.toArray_replicate]; exact Fb.new _ _ _, fun i v hv => ?_, fun i j u v g _ hu hv hg => ?_⟩
  · obtain rfl := List.eq_of_mem_replicate (List.mem_of_getElem? hv)
    exact World.ownsRow_nil _ _ _ _
  · obtain rfl := List.eq_of_mem_replicate (List.mem_of_getElem? hu)
    simp [Value.ownBlock] at hg
/-- One slice. -/
theorem Mx.at (h : Mx w M N f) {i : Nat} (hi : i < N) : ∃ v, w.ownsRow (M + 1) 3 1 v (f i).length (ints (f i)) ∧ w.cell? ⟨M, i, none⟩ = some v ∧ w.frozen? ⟨M, i, none⟩ = false ∧ (∃ A c, v = .slice A (f i).length c) ∧
    (∀ w' : World, w.grownBy w' v.ownBlock → w'.cell? ⟨M, i, none⟩ = some v ∧ w'.frozen? ⟨M, i, none⟩ = false) ∧
    (∀ (w' : World) (u : Value) (l : List Int), w.grownBy w' v.ownBlock → w'.ownsRow (M + 1) 3 1 u l.length (ints l) → (∀ g, u.ownBlock = some g → v.ownBlock = some g ∨ w.heap.size ≤ g) →
      Mx (w'.setCell ⟨M, i, none⟩ u) M N (upd f i l)) := by
  obtain ⟨vs, h1, h2, h3, h4⟩ := h
  have hi' : i < vs.length := by omega
  have hv : vs[i]? = some vs[i] := List.getElem?_eq_getElem hi'
  have hown := h3 i _ hv
  have hc : ∀ {w' : World}, Fb w' M vs.toArray 22 → w'.cell? ⟨M, i, none⟩ = some vs[i] ∧ w'.frozen? ⟨M, i, none⟩ = false := fun h => ⟨by rw [h.cell]; simp, h.frozen i⟩
  have hM : ∀ {w' : World}, w.grownBy w' vs[i].ownBlock → Fb w' M vs.toArray 22 := fun hg => h2.grown hg (by
    intro e
    have := (hown.lt M e.symm).1
    omega)
  refine ⟨vs[i], hown, (hc h2).1, (hc h2).2, own_any_slice hown, fun w' hg => hc (hM hg), fun w' nv l hg ho hat => ?_⟩
  have hset := setCell_grown w' ⟨M, i, none⟩ nv
  have hfar : ∀ {v : Value} {n : Nat} {xs : List Value}, w'.ownsRow (M + 1) 3 1 v n xs → (w'.setCell ⟨M, i, none⟩ nv).ownsRow (M + 1) 3 1 v n xs := fun {v} {n} {xs} h => h.kept hset (by
    cases hb : v.ownBlock with
    | none => exact .inl rfl
    | some k => exact .inr (fun e => by injection e with e; have := (h.lt k hb).1; simp at e; omega))
  refine ⟨vs.set i nv, by simpa using h1, ?_, fun j v hj => ?_, fun a b u v g2 hab ha hb hg2 => ?_⟩
  · have := (hM hg).set i nv
    simpa using this
  · rw [List.getElem?_set] at hj
    by_cases e : i = j
    · subst e
      rw [if_pos rfl, if_pos hi'] at hj
      obtain rfl := Option.some.inj hj
      rw [upd_at]
      exact hfar ho
    · rw [if_neg e] at hj
      rw [upd_ne _ _ (Ne.symm e)]
      refine hfar ((h3 j v hj).kept hg ?_)
      cases hb : v.ownBlock with
      | none => exact .inl rfl
      | some k => exact .inr (fun e2 => h4 j i v vs[i] k (Ne.symm e) hj hv hb e2.symm)
  · have hnew : ∀ (j : Nat) (v : Value) (g : Nat), j ≠ i → vs[j]? = some v → nv.ownBlock = some g → v.ownBlock ≠ some g := by
      intro j v g hji hj hng he
      rcases hat g hng with h | h
      · exact h4 j i v vs[i] g hji hj hv he h
      · have := ((h3 j v hj).lt g he).2
        omega
    rw [List.getElem?_set] at ha hb
    by_cases e1 : i = a
    · subst e1
      rw [if_pos rfl, if_pos hi'] at ha
      rw [if_neg hab] at hb
      obtain rfl := Option.some.inj ha
      exact hnew b v g2 (Ne.symm hab) hb hg2
    · rw [if_neg e1] at ha
      by_cases e2 : i = b
      · subst e2
        rw [if_pos rfl, if_pos hi'] at hb
        obtain rfl := Option.some.inj hb
        intro e
        exact hnew a u g2 hab ha e hg2
      · rw [if_neg e2] at hb
        exact h4 a b u v g2 hab ha hb hg2
end
/-- The rows that a matrix holds, as a list of lists. -/
def rowsF (N : Nat) (f : Nat → List Int) : List (List Int) := (List.range N).map f
def rhOf (v : Value) (l : List Int) : RH := match v with
  | .slice A n c => ⟨A, n, c, l⟩
  | _ => ⟨none, 0, 0, l⟩
theorem Mx.lists {w : World} {M N : Nat} {f : Nat → List Int} (h : Mx w M N f) (hN : N ≤ 9223372036854775807) :
    ∃ y : LH, y.A = some ⟨M, 0, none⟩ ∧ y.n = N ∧ y.c = N ∧ y.v = rowsF N f ∧ ∀ ex : List (Option Nat), (∀ k, some k ∈ ex → k < M) → LHok w ex y := by
  obtain ⟨vs, h1, h2, h3, h4⟩ := h
  have hsl : ∀ i v, vs[i]? = some v → RH.v (rhOf v (f i)) = v ∧ (rhOf v (f i)).l = f i ∧ (rhOf v (f i)).n = (f i).length ∧ (f i).length ≤ 9223372036854775807 ∧ ∀ ex : List (Option Nat), (∀ k, some k ∈ ex → k < M) → EAt w ex (rhOf v (f i)).A (ints (f i)) := by
    intro i v hv
    have hown := h3 i v hv
    obtain ⟨A, c, rfl⟩ := own_any_slice hown
    refine ⟨rfl, rfl, rfl, ?_, fun ex hex => EAt.own hown fun g hg hm => ?_⟩
    · rcases hown.2 with ⟨e, h0⟩ | ⟨g, cap, cur, _, _, _, h5, h6, _⟩
      · rw [h0]; omega
      · unfold maxLen at h6; omega
    · have := hex g hm; have := (hown.lt g hg).1; omega
  let l := (List.range N).map fun i => rhOf (vs.getD i default) (f i)
  have hl : ∀ i, i < N → l[i]? = some (rhOf (vs.getD i default) (f i)) := fun i hi => by show ((List.range N).map _)[i]? = _; rw [List.getElem?_map, List.getElem?_range hi]; rfl
  have hget : ∀ i, i < N → vs[i]? = some (vs.getD i default) := fun i hi => by rw [List.getD_eq_getElem?_getD, List.getElem?_eq_getElem (by omega)]; rfl
  have hll : l.length = N := by simp [l]
  have hvs : l.map RH.v = vs := by
    apply List.ext_getElem?
    intro i
    by_cases hi : i < N
    · rw [List.getElem?_map, hl i hi, hget i hi]
      exact congrArg some (hsl i _ (hget i hi)).1
    · rw [List.getElem?_eq_none (by simp [l]; omega), List.getElem?_eq_none (by omega)]
  refine ⟨⟨some ⟨M, 0, none⟩, N, N, l⟩, rfl, rfl, rfl, ?_, fun ex hex => ⟨?_, hll, hN, fun y hy => ?_⟩⟩
  · show l.map RH.l = (List.range N).map f
    show ((List.range N).map _).map _ = _
    rw [List.map_map]
    refine List.map_congr_left fun i hi => ?_
    exact (hsl i _ (hget i (List.mem_range.1 hi))).2.1
  · show EAt w ex (some ⟨M, 0, none⟩) (l.map RH.v)
    rw [hvs]
    exact EAt.fb h2 (fun hm => by have := hex M hm; omega) (fun j u hu => by simpa using hu)
  · obtain ⟨i, hi, rfl⟩ := List.mem_map.1 hy
    have hi := List.mem_range.1 hi
    obtain ⟨e1, e2, e3, e4, e5⟩ := hsl i _ (hget i hi)
    exact ⟨by rw [e2]; exact e5 ex hex, by rw [e2, e3], by rw [e3]; exact e4⟩
/-- A list of lists came back, in new memory. -/
def RetLL (w : World) (v : List (List Int)) (e : Ending) (w' : World) : Prop :=
  ∃ y : LH, e = .returned (.slice y.A y.n y.c) ∧ y.v = v ∧ (∀ ex : List (Option Nat), (∀ k, some k ∈ ex → k < w.heap.size) → LHok w' ex y) ∧ Below w.heap.size w w'

theorem run_mkrows (n : Nat) (hn : n ≤ 100000) (w : World) :
    (Instr.makeSlice 34 (.int .i64 (n : Int)) (.int .i64 (n : Int))).run Tryz.prog w = .ok (.slice (some ⟨w.heap.size, 0, none⟩) n n) (w.alloc (.cells (Array.replicate n (Value.slice none 0 0)) 22)) := by
  obtain ⟨i, hi, hz0, hz1, hz2⟩ := info_parts info22
  have h := run_make (P := Tryz.prog) w 34 22 i (.slice none 0 0) Tryz.underlying34 hi hz0 .i64 .i64 n n (by omega) (by omega) (by rw [hz2]; omega) (by omega)
  rw [h, hz1]
  simp only [Int.toNat_natCast, Nat.mul_one]
  have e2 : madeCells (Value.slice none 0 0).cells n = Array.replicate n (Value.slice none 0 0) := by
    apply Array.toList_inj.1
    rw [show (Value.slice none 0 0).cells = #[Value.slice none 0 0] from rfl, toList_madeCells_one]
    simp
  rw [e2]
/-- What the loops of reversed have built. -/
def revF (S : List (List Int)) (k : Nat) (b : Nat) : List Int := rowP k fun a => decide ((b : Int) ∈ rw0 S a)
def revG (S : List (List Int)) (k : Nat) (l : List Int) (b : Nat) : List Int := revF S k b ++ (if (b : Int) ∈ l then [(k : Int)] else [])
theorem rowP_succ (k : Nat) (f : Nat → Bool) : rowP (k + 1) f = rowP k f ++ (if f k = true then [(k : Int)] else []) := by
  unfold rowP
  rw [List.range_succ, List.filter_append, List.map_append]
  congr 1
  by_cases h : f k = true <;> simp [h]
theorem revF_succ {S : List (List Int)} {k : Nat} {l : List Int} (h : S[k]? = some l) (b : Nat) : revF S (k + 1) b = revG S k l b := by
  unfold revF revG
  rw [rowP_succ, rw0_at h]
  unfold revF
  simp
theorem revG_nil (S : List (List Int)) (k : Nat) (b : Nat) : revG S k [] b = revF S k b := by unfold revG; simp
theorem revG_succ {S : List (List Int)} {k : Nat} {l : List Int} {j c : Nat} (hl : l.Pairwise (· < ·)) (hj : l[j]? = some (c : Int)) (b : Nat) : upd (revG S k (l.take j)) c (revG S k (l.take j) c ++ [(k : Int)]) b = revG S k (l.take (j + 1)) b := by
  have ht : l.take (j + 1) = l.take j ++ [(c : Int)] := by rw [List.take_add_one, hj]; rfl
  have hno : (c : Int) ∉ l.take j := by
    intro hm
    obtain ⟨i, hi, he⟩ := List.mem_iff_getElem.1 hm
    rw [List.getElem_take] at he
    obtain ⟨hj1, hj2⟩ := List.getElem?_eq_some_iff.1 hj
    have hij : i < j := by simp at hi; omega
    have := List.pairwise_iff_getElem.1 hl i j (by omega) hj1 hij
    omega
  by_cases e : b = c
  · subst e
    rw [upd_at, ht]
    unfold revG
    rw [if_neg hno, if_pos (by simp)]
    simp
  · rw [upd_ne _ _ e, ht]
    unfold revG
    have : ((b : Int) ∈ l.take j ++ [(c : Int)]) ↔ (b : Int) ∈ l.take j := by simp; omega
    simp only [this]
theorem revG_len (S : List (List Int)) (k : Nat) (l : List Int) (b : Nat) : (revG S k l b).length ≤ k + 1 := by
  unfold revG revF
  have := rowP_len k fun a => decide ((b : Int) ∈ rw0 S a)
  rw [List.length_append]
  split <;> simp <;> omega
theorem after_own {M : Nat} {w wr w5 : World} {o : Obj} {v : Value} (hB : Below M w wr) (hM : M ≤ wr.heap.size) (hg : (wr.alloc o).grownBy w5 v.ownBlock) (h : ∀ k, v.ownBlock = some k → M + 1 ≤ k) : Below M w w5 :=
  (hB.alloc hM o).grown hg (by rw [World.size_alloc]; omega) (fun k hk => by have := h k hk; omega)
theorem own_hat {w : World} {v : Value} {g n c : Nat} (h : v.ownBlock = some g ∨ g = w.heap.size) : ∀ k, (Value.slice (some ⟨g, 0, none⟩) n c).ownBlock = some k → v.ownBlock = some k ∨ w.heap.size ≤ k := by
  intro k hk
  simp only [Value.ownBlock, Option.some.injEq] at hk
  subst hk
  rcases h with h | h
  · exact .inl h
  · exact .inr (by omega)
theorem ints_snoc (l : List Int) (x : Int) : ints (l ++ [x]) = ints l ++ [Value.int .i64 x] := by simp [ints]
theorem one_int1 (x : Int) : ∀ u ∈ [Value.int .i64 x], u.oneCell' = true := by intro u hu; simp at hu; subst hu; rfl
theorem int_new (w : World) (x : Int) (t : Nat) : ∀ (j : Nat) (u : Value), [Value.int .i64 x][j]? = some u → (w.alloc (.cells #[.int .i64 x] t)).cell? ((⟨w.heap.size, 0, none⟩ : Addr).add j) = some u := by
  intro j u h
  have hb := Fb.new w #[.int .i64 x] t
  rw [add_of, hb.cell]
  simpa using h
set_option maxHeartbeats 3200000 in
theorem reversed_any (x : LH) (ex : List (Option Nat)) (w : World) (h : LHok w ex x) (hn : x.n ≤ 100000) (hris : ∀ l ∈ x.v, RisP x.n l) :
    Calls Tryz.prog 48 #[.slice x.A x.n x.c] w (RetLL w (revL x.n x.v)) := by
  obtain ⟨i1, hi, hz0, hz1, hz2⟩ := info_parts info3
  have Hi := hid hi; have Hz0 := hid hz0; have Hz1 := hid hz1; have Hz2 := hid hz2
  clear hi hz0 hz1 hz2
  have HX := hid h
  have HR := hid hris
  have HL := hid h.len
  have Hat := hid (fun (k : Nat) (z : RH) (hz : x.l[k]? = some z) => LH.at hz)
  clear h hris
  generalize hv : x.v = v at *
  clear hv
  obtain ⟨A, n, c, l⟩ := x
  simp only at *
  have hrow := run_mkrows n hn
  go_enter Tryz.func48, Tryz.ntmps48
  go_wp2_with fail
  have HM := hid (show Mx (w.alloc (.cells (Array.replicate n (Value.slice none 0 0)) 22)) w.heap.size n (revF v 0) from (Mx.start w n).congr (fun i _ => by unfold revF rowP; simp))
  have HB := hid ((Below.refl w.heap.size w).alloc (Nat.le_refl _) (.cells (Array.replicate n (Value.slice none 0 0)) 22))
  generalize w.alloc (.cells (Array.replicate n (Value.slice none 0 0)) 22) = w0 at HM HB ⊢
  clear hrow
  generalize hMd : w.heap.size = M at *
  go_loopw [4, 5, 7, 13, 20] (fun _ _ _ iv _ wr => ∃ k : Nat, k ≤ n ∧ iv = .int .i64 k ∧ Hid (Mx wr M n (revF v k)) ∧ Hid (Below M w wr)) (fun _ _ _ iv _ _ => n - (intOf iv).toNat)
  case atStart => exact ⟨0, by omega, rfl, HM, HB⟩
  case round =>
    clear HM HB
    obtain ⟨k, hk, rfl, hM, hB⟩ := hrel
    by_cases hlt : k < n
    · obtain ⟨y, hy, hym⟩ := get_at HL.out hlt
      have HPr := hid (HX.out.go (Go2.below (hMd ▸ hB.out)))
      obtain ⟨ad, hA, had, hc⟩ := HPr.out.cell hy
      simp only at hA
      subst hA
      have HY := hid (fun (u : World) (h : Below M w u) => (HX.out.go (Go2.below (hMd ▸ h))).all y hym)
      have Hyv := hid (Hat.out k y hy)
      have Hyr := hid (HR.out y.l (List.mem_of_getElem? (Hat.out k y hy)))
      have Hyl := hid ((HPr.out.all y hym).len)
      have hyn := (HPr.out.all y hym).few
      have hyn2 : y.n ≤ n := by have := ris_len Hyr.out; have := Hyl.out; omega
      clear hy hym HPr
      obtain ⟨yA, yn, yc, yl⟩ := y
      simp only at *
      go_wp2_with fail
      clear hc
      have HM2 := hid (show Mx wr M n (revG v k (yl.take 0)) from hM.out.congr (fun b _ => by rw [List.take_zero, revG_nil]))
      go_loopw [7, 20] (fun _ iv wr => ∃ j : Nat, j ≤ yn ∧ iv = .int .i64 j ∧ Hid (Mx wr M n (revG v k (yl.take j))) ∧ Hid (Below M w wr)) (fun _ iv _ => yn - (intOf iv).toNat)
      case atStart => exact ⟨0, by omega, rfl, HM2, hB⟩
      case round =>
        clear HM2 hM hB
        obtain ⟨j, hj, rfl, hM, hB⟩ := hrel
        by_cases hlt2 : j < yn
        · obtain ⟨a, ha, ham⟩ := get_at Hyl.out hlt2
          obtain ⟨ad2, hA2, had2, hc2⟩ := (HY.out _ hB.out).cell ha
          simp only at hA2
          subst hA2
          have har := Hyr.out.2 a ham
          obtain ⟨b, rfl⟩ := Int.eq_ofNat_of_zero_le har.1
          have hbn : b < n := by omega
          have Hst := hid (fun b2 : Nat => revG_succ (S := v) (k := k) Hyr.out.1 ha b2)
          have hlen := revG_len v k (yl.take j) b
          obtain ⟨rv, hown, hcell, hfr, ⟨rA, rc, hrv⟩, hkeep, hput⟩ := hM.out.at hbn
          have HMa := hid (hM.out.alloc (.cells #[.int .i64 (k : Int)] 3))
          obtain ⟨rv2, hown2, hcell2, hfr2, -, hkeep2, hput2⟩ := HMa.out.at hbn
          obtain rfl : rv = rv2 := by
            have := Below.cell (show Below wr.heap.size wr (wr.alloc (.cells #[.int .i64 (k : Int)] 3)) from (Below.refl _ _).alloc (Nat.le_refl _) _) (p := ⟨M, b, none⟩) hM.out.lt
            rw [hcell, hcell2] at this
            exact (Option.some.inj this).symm
          have HO := hid hown2
          have HP := hid hput2
          have HK := hid hkeep2
          have HN1 := hid (int_new wr (k : Int) 3)
          have hMl := hM.out.lt
          have HB1 := hid (below_step (W := wr) ((Below.refl wr.heap.size wr).alloc (Nat.le_refl _) (.cells #[.int .i64 (k : Int)] 3)) (Below.refl _ _))
          have Hbw := hid hB.out
          have Hrlt := hid (fun k2 (hk2 : rv.ownBlock = some k2) => (hown2.lt k2 hk2).1)
          have hszM : M + 1 ≤ wr.heap.size := hMl
          clear hown hfr hkeep hput hown2 hcell2 hfr2 hkeep2 hput2 ha ham hM hB HMa
          generalize revG v k (yl.take j) = F at *
          subst hrv
          go_wp2_with ((
            at_builtin
            go_must (refine wpList_append_lies _ rfl _ _ 22 rfl (M + 1) 3 i1 _ 1 8 Tryz.underlying22 Hi.out Hz0.out Hz1.out Hz2.out rfl (by decide) _ (F b).length (ints (F b)) rfl HO.out ⟨wr.heap.size, 0, none⟩ 1 1 [Value.int .i64 (k : Int)] rfl rfl HN1.out (one_int1 _) (by omega) (by unfold maxLen; omega) (by omega) (by simp; omega) _ rfl ?_)
            intro g5 cap5 w5 hown5 hgr5 hat5 hlt5
            obtain ⟨y0, y1⟩ := HK.out _ hgr5
            have H5 := hid (HP.out _ (.slice (some ⟨g5, 0, none⟩) ((F b).length + 1) cap5) (F b ++ [(k : Int)]) hgr5 (by rw [ints_snoc, List.length_append]; exact hown5) (own_hat hat5))
            have HB5 := hid (after_own Hbw.out (by omega) hgr5 Hrlt.out)
            clear hown5 hgr5 hat5 hlt5))
          go_roundw
          case rel => exact ⟨j + 1, by omega, by go_num, hid (H5.out.congr (fun b2 _ => Hst.out b2)), hid (HB5.out.setCell (by simp) _)⟩
          case measure => simp [intOf]; omega
        · obtain rfl : j = yn := by omega
          have HM3 := hid (show Mx wr M n (revF v (k + 1)) from hM.out.congr (fun b _ => by rw [List.take_of_length_le (by rw [Hyl.out]; omega), revF_succ Hyv.out]))
          clear hM
          go_wp2_with fail
          go_roundw
          case rel => exact ⟨k + 1, by omega, by go_num, HM3, hB⟩
          case measure => simp [intOf]; omega
    · obtain rfl : k = n := by omega
      obtain ⟨y, hy1, hy2, hy3, hy4, hy5⟩ := hM.out.lists (by omega)
      have HF := hid (show RetLL w (revL k v) (.returned (.slice (some ⟨M, 0, none⟩) k k)) wr from ⟨y, by rw [hy1, hy2, hy3], hy4, fun ex hex => hy5 ex (fun q hq => by have := hex q hq; omega), by rw [hMd]; exact hB.out⟩)
      clear hy1 hy2 hy3 hy4 hy5 hM hB
      go_wp2_with fail
      go_ret
      exact HF.out
end Go.Proofs.YtcgichfanfijjaaGreatDoor

namespace Go.Proofs.YtcgichfanfijjaaGreatDoor
set_option maxRecDepth 20000
set_option linter.unusedVariables false
set_option linter.unusedSimpArgs false
open Go.ChangeShapes Go.WideShapes Go.ChangeAt Go.RowKit

theorem Fb.thr {w : World} {g t : Nat} {a b c : Value} (h : Fb w g #[a, b, c] t) : w.cell? ⟨g, 0, none⟩ = some a ∧ w.cell? ⟨g, 1, none⟩ = some b ∧ w.cell? ⟨g, 2, none⟩ = some c := ⟨h.cell 0, h.cell 1, h.cell 2⟩
theorem RetQ.below {w w' : World} {v : Value} {e : Ending} (h : RetQ w v e w') : e = .returned v ∧ Below w.heap.size w w' := by
  obtain ⟨h1, q, rfl⟩ := h
  exact ⟨h1, below_drewN (Below.refl _ _) q⟩
/-- It returned this, and nothing old has changed. -/
def RetVb (w : World) (v : Value) (e : Ending) (w' : World) : Prop := e = .returned v ∧ Below w.heap.size w w'
theorem retVb_b {w w' : World} {b c : Bool} (h : c = b) (hb : Below w.heap.size w w') : RetVb w (.bool c) (.returned (.bool b)) w' := ⟨by rw [h], hb⟩
theorem retVb_i {w w' : World} {b c : Int} (h : c = b) (hb : Below w.heap.size w w') : RetVb w (.int .i64 c) (.returned (.int .i64 b)) w' := ⟨by rw [h], hb⟩
/-- A graph as argument: what stands while it is read. -/
structure GW (w : World) (G : Nat) (ex : List (Option Nat)) (x : GH) (v : World) : Prop where
  bel : Below w.heap.size w v
  box : Fb v G #[.slice x.A x.n x.c, .slice x.S.A x.S.n x.S.c, .slice x.P.A x.P.n x.P.c] 36
  g : GHok v ex x
theorem GW.below {w v v' : World} {G : Nat} {ex : List (Option Nat)} {x : GH} (h : GW w G ex x v) (hb : Below v.heap.size v v') : GW w G ex x v' :=
  ⟨below_step h.bel hb, h.box.below hb h.box.lt, h.g.below hb⟩
theorem GW.start {w : World} {ex : List (Option Nat)} {x : GH} (h : GHok w ex x) : GW w w.heap.size ex x (w.alloc (.cells #[.slice x.A x.n x.c, .slice x.S.A x.S.n x.S.c, .slice x.P.A x.P.n x.P.c] 36)) :=
  ⟨(Below.refl _ _).alloc (Nat.le_refl _) _, Fb.new _ _ _, h.below ((Below.refl _ _).alloc (Nat.le_refl _) _)⟩
theorem all_false {N : Nat} {S : List (List Int)} {k : Nat} {l : List Int} (h : S[k]? = some l) (hr : risB N l = false) : S.all (risB N) = false := by
  rw [List.all_eq_false]
  exact ⟨l, List.mem_of_getElem? h, by rw [hr]; simp⟩
theorem all_true {N n : Nat} {S : List (List Int)} (hn : S.length = n) (h : ∀ (j : Nat) (l : List Int), j < n → S[j]? = some l → risB N l = true) : S.all (risB N) = true := by
  rw [List.all_eq_true]
  intro l hl
  obtain ⟨j, hj, rfl⟩ := List.mem_iff_getElem.1 hl
  exact h j _ (by omega) (List.getElem?_eq_getElem hj)
theorem tot_le {S : List (List Int)} {N : Nat} (h : ∀ l ∈ S, l.length ≤ N) : tot S ≤ S.length * N := by
  induction S with
  | nil => simp [tot]
  | cons x S ih =>
    have h1 := h x (by simp)
    have h2 := ih (fun l hl => h l (by simp [hl]))
    unfold tot at *
    rw [List.map_cons, List.sum_cons, List.length_cons, Nat.add_mul]
    omega
set_option maxHeartbeats 6400000 in
theorem valid_graph (x : GH) (ex : List (Option Nat)) (w : World) (h : GHok w ex x) :
    Calls Tryz.prog 21 #[x.a] w (RetVb w (.bool (validB x.n x.S.v x.P.v))) := by
  have HG := hid (GW.start h)
  have hn0 := h.few
  have hs0 := h.s.few
  have hp0 := h.p.few
  have HL := hid h.s.len
  have HvS := hid ((LH.vlen x.S).trans h.s.len)
  have HvP := hid ((LH.vlen x.P).trans h.p.len)
  have Hat := hid (fun (k : Nat) (z : RH) (hz : x.S.l[k]? = some z) => LH.at hz)
  have HrS := hid (fun (v : World) (hv : GW w w.heap.size ex x v) (hr : ∀ l ∈ x.S.v, RisP x.S.n l) (hn : x.S.n ≤ 100000) => reversed_any x.S ex v hv.g.s hn hr)
  have HcS := hid (fun (v : World) (hv : GW w w.heap.size ex x v) (hr : ∀ l ∈ x.S.v, RisP x.S.n l) (hn : x.S.n ≤ 100000) => count_any x.S x.S.n ex v hv.g.s hn (fun y hy => by
    rw [← (hv.g.s.all y hy).len]
    have := ris_len (hr y.l (by obtain ⟨j, hj, rfl⟩ := List.mem_iff_getElem.1 hy; exact List.mem_of_getElem? (LH.at (List.getElem?_eq_getElem hj))))
    omega))
  have HeP := hid (fun (v : World) (hv : GW w w.heap.size ex x v) (y : LH) (hy : LHok v [] y) => equal_rows y x.P [] ex v hy hv.g.p)
  have hR : ∃ R, validB x.n x.S.v x.P.v = R := ⟨_, rfl⟩
  obtain ⟨R, hR⟩ := hR
  have Hv := hid (show R = (decide (1 ≤ x.n) && (decide (x.n ≤ 256) && (decide (x.S.v.length = x.n) && (decide (x.P.v.length = x.n) && (x.S.v.all (risB x.n) && (decide (tot x.S.v ≤ 1024) && decide (revL x.n x.S.v = x.P.v))))))) from hR.symm)
  rw [hR]
  unfold GH.a
  clear h hR
  have HK := hid (fun (v u : World) (h : GW w w.heap.size ex x v) (hb : Below v.heap.size v u) => h.below hb)
  generalize hsv : x.S.v = Sv at *
  generalize hpv : x.P.v = Pv at *
  clear hsv hpv
  obtain ⟨A, n, c, ns, ⟨SA, sn, sc, sl⟩, ⟨PA, pn, pc, pl⟩⟩ := x
  simp only at *
  go_enter Tryz.func21, Tryz.ntmps21
  have hG : ∃ G, w.heap.size = G := ⟨_, rfl⟩
  obtain ⟨G, hG⟩ := hG
  have HGe := hid hG
  rw [hG] at HG HrS HcS HeP HK
  clear hG
  by_cases h1 : 1 ≤ n
  · by_cases h2 : n ≤ 256
    · by_cases h3 : sn = n
      · by_cases h4 : pn = n
        · subst h3
          subst h4
          have Hv2 := hid (show R = (Sv.all (risB pn) && (decide (tot Sv ≤ 1024) && decide (revL pn Sv = Pv))) by rw [Hv.out, decide_eq_true h1, decide_eq_true h2, decide_eq_true HvS.out, decide_eq_true HvP.out]; rfl)
          clear Hv
          go_wp2_with fail
          rw [HGe.out]
          generalize w.alloc (.cells #[.slice A pn c, .slice SA pn sc, .slice PA pn pc] 36) = w0 at HG ⊢
          obtain ⟨c0, c1, c2⟩ := HG.out.box.thr
          have hGl := HG.out.box.lt
          go_loop [5, 32] (fun _ iv => ∃ k : Nat, k ≤ pn ∧ iv = .int .i64 k ∧ Hid (∀ (j : Nat) (l : List Int), j < k → Sv[j]? = some l → risB pn l = true)) (fun _ iv => pn - (intOf iv).toNat)
          case atStart => exact ⟨0, by omega, rfl, hid (fun j l h => by omega)⟩
          case round =>
            obtain ⟨k, hk, rfl, hE⟩ := hrel
            by_cases hlt : k < pn
            · obtain ⟨y, hy, hym⟩ := get_at HL.out hlt
              obtain ⟨ad, hA, had, hc⟩ := HG.out.g.s.cell hy
              simp only at hA
              subst hA
              have Hy := hid (Hat.out k y hy)
              have HC := hid (asc_any y pn ex w0 (HG.out.g.s.all y hym) (by omega))
              clear hy hym
              obtain ⟨yA, yn, yc, yl⟩ := y
              simp only at *
              cases hr : risB pn yl with
              | false =>
                as_aux_lemma =>
                  rw [hr] at HC
                  have Hr := hid (show R = false by rw [Hv2.out, all_false Hy.out hr]; rfl)
                  clear hr
                  go_wp2_with fail
                  refine HC.out.mono ?_
                  rintro e w1 ⟨rfl, rfl⟩
                  go_wp2_with fail
                  go_ret
                  exact retVb_b Hr.out HG.out.bel
              | true =>
                as_aux_lemma =>
                  rw [hr] at HC
                  have Hr := hid (show ∀ (j : Nat) (l : List Int), j < k + 1 → Sv[j]? = some l → risB pn l = true by
                    intro j l hj hl
                    by_cases e : j = k
                    · subst e
                      rw [Hy.out] at hl
                      rw [← Option.some.inj hl]
                      exact hr
                    · exact hE.out j l (by omega) hl)
                  clear hr hE
                  go_wp2_with fail
                  refine HC.out.mono ?_
                  rintro e w1 ⟨rfl, rfl⟩
                  go_wp2_with fail
                  go_round
                  case rel => exact ⟨k + 1, by omega, by go_num, Hr⟩
                  case measure => simp [intOf]; omega
            · obtain rfl : k = pn := by omega
              have Hall := hid (all_true HvS.out hE.out)
              have Hris := hid (show ∀ l ∈ Sv, RisP k l from fun l hl => risB_iff.1 (List.all_eq_true.1 Hall.out l hl))
              have Hv3 := hid (show R = (decide (tot Sv ≤ 1024) && decide (revL k Sv = Pv)) by rw [Hv2.out, Hall.out]; rfl)
              have htl : tot Sv ≤ k * 256 := by
                have := tot_le (S := Sv) (N := 256) (fun l hl => by have := ris_len (Hris.out l hl); omega)
                rw [HvS.out] at this; exact this
              have htl2 : tot Sv ≤ 65536 := by omega
              clear htl hE Hv2
              generalize tot Sv = t at *
              cases ht : decide (t ≤ 1024) with
              | false =>
                as_aux_lemma =>
                  have Hr := hid (show R = false by rw [Hv3.out, ht]; rfl)
                  have t1 : decide ((t : Int) ≤ 1024) = false := by simp at ht ⊢; omega
                  clear ht
                  go_wp2_with fail
                  go_quiet ((go_at_call 51; exact quiet_same (HcS.out _ (HK.out _ _ HG.out (below_drewN (Below.refl _ _) _)) Hris.out (by omega))))
                  go_wp2_with fail
                  go_ret
                  exact retVb_b Hr.out (below_drewN HG.out.bel _)
              | true =>
                as_aux_lemma =>
                  have Hr := hid (show R = eqD (revL k Sv) Pv by rw [Hv3.out, ht]; rfl)
                  have t1 : decide ((t : Int) ≤ 1024) = true := by simp at ht ⊢; omega
                  clear ht
                  have HKc := hid (fun (v : World) (h : GW w G ex ⟨A, k, c, ns, ⟨SA, k, sc, sl⟩, ⟨PA, k, pc, pl⟩⟩ v) => h.box.thr)
                  have HD := hid (fun (v : World) (h : GW w G ex ⟨A, k, c, ns, ⟨SA, k, sc, sl⟩, ⟨PA, k, pc, pl⟩⟩ v) => h.box.lt)
                  go_wp2_with fail
                  have hcur : GW w G ex ⟨A, k, c, ns, ⟨SA, k, sc, sl⟩, ⟨PA, k, pc, pl⟩⟩ w0.drew := HK.out _ _ HG.out (Below.refl _ _).drew
                  clear HG
                  go_region_law (
                    (go_simp
                     first
                     | (go_at_call 51
                        refine (HcS.out _ hcur Hris.out (by omega)).mono ?_
                        rintro e wn ⟨rfl, rfl⟩)
                     | (go_at_call 48
                        refine (HrS.out _ hcur Hris.out (by omega)).mono ?_
                        rintro e wn ⟨y, rfl, hyv, hyok, hbk⟩
                        have hcur := HK.out _ _ hcur hbk
                        obtain ⟨c0, c1, c2⟩ := HKc.out _ hcur
                        have hGl := HD.out _ hcur
                        have hyok := hyok [] (by simp)
                        have Hyv := hid hyv
                        have Hyok := hid hyok
                        clear hbk hyv hyok)
                     | (go_at_call 52
                        refine (HeP.out _ hcur _ Hyok.out).mono ?_
                        rw [Hyv.out]
                        rintro e wn ⟨rfl, q, rfl⟩)))
                  all_goals
                    go_wp2_with fail
                    go_ret
                    exact retVb_b Hr.out (below_drewN hcur.bel _)
        · as_aux_lemma =>
            have Hr := hid (show R = false by rw [Hv.out, decide_eq_false (p := Pv.length = n) (by rw [HvP.out]; exact h4)]; simp)
            have t1 : ((pn : Int) == (n : Int)) = false := by simp; omega
            have t2 : ((pn : Int) != (n : Int)) = true := by simp; omega
            subst h3
            clear h4
            go_wp2_with fail
            go_ret
            exact retVb_b Hr.out HG.out.bel
      · as_aux_lemma =>
          have Hr := hid (show R = false by rw [Hv.out, decide_eq_false (p := Sv.length = n) (by rw [HvS.out]; exact h3)]; simp)
          have t1 : ((sn : Int) == (n : Int)) = false := by simp; omega
          have t2 : ((sn : Int) != (n : Int)) = true := by simp; omega
          clear h3
          go_wp2_with fail
          go_ret
          exact retVb_b Hr.out HG.out.bel
    · as_aux_lemma =>
        have Hr := hid (show R = false by rw [Hv.out, decide_eq_false h2]; simp)
        go_wp2_with fail
        go_ret
        exact retVb_b Hr.out HG.out.bel
  · as_aux_lemma =>
      have Hr := hid (show R = false by rw [Hv.out, decide_eq_false h1]; simp)
      go_wp2_with fail
      go_ret
      exact retVb_b Hr.out HG.out.bel
end Go.Proofs.YtcgichfanfijjaaGreatDoor

namespace Go.Proofs.YtcgichfanfijjaaGreatDoor
set_option maxRecDepth 20000
set_option linter.unusedVariables false
set_option linter.unusedSimpArgs false
open Go.ChangeShapes Go.WideShapes Go.ChangeAt Go.RowKit

theorem info50 : (Tryz.prog.info? 50).map (fun i => (i.zero, i.size, i.bytes)) = some (some (.agg #[.int .i64 0, .int .i64 0, .int .i64 0, .int .i64 0]), 4, 32) := by kernel_rfl
/-- A copy came back, a row of its own. -/
def RetOw (w : World) (ty : TypeId) (k n : Nat) (xs : List Value) (e : Ending) (w' : World) : Prop :=
  ∃ (A : Option Addr) (c : Nat), e = .returned (.slice A n c) ∧ w'.ownsRow w.heap.size ty k (.slice A n c) n xs ∧ Below w.heap.size w w'
theorem one_ints (l : List Int) : ∀ u ∈ ints l, u.oneCell' = true := by
  intro u hu
  unfold ints at hu
  obtain ⟨x, _, rfl⟩ := List.mem_map.1 hu
  rfl
set_option maxHeartbeats 1600000 in
theorem clone_int (A : Option Addr) (n c : Nat) (l : List Int) (ex : List (Option Nat)) (w : World) (hA : EAt w ex A (ints l)) (hl : l.length = n) (hf : n ≤ 1000000) : Calls Tryz.prog 84 #[.slice A n c] w (RetOw w 3 1 n (ints l)) := by
  obtain ⟨i0, hi, hz0, hz1, hz2⟩ := info_parts info3
  have Hi := hid hi; have Hz0 := hid hz0; have Hz1 := hid hz1; have Hz2 := hid hz2
  clear hi hz0 hz1 hz2
  have HL := hid hl
  have HA := hid hA
  clear hA
  by_cases h0 : n = 0
  · subst h0
    have Hl := hid (show l = [] from List.length_eq_zero_iff.1 HL.out)
    clear hl
    rcases A with _ | a0
    · have hnil : ∀ w : World, (binOp .eql 22 (.slice none 0 c) (.slice none 0 0)).run Tryz.prog w = .ok (.bool true) w := fun w => Lib.run_eql_slice_nil w 22 3 none 0 c 0 0 Tryz.underlying22
      go_enter Tryz.func84, Tryz.ntmps84
      go_wp2_with fail
      go_ret
      rw [Hl.out]
      exact ⟨none, 0, rfl, World.ownsRow_nil _ _ _ _, Below.refl _ _⟩
    · have HB := hid ((Below.refl w.heap.size w).alloc (Nat.le_refl _) (.cells #[] 3))
      have HO := hid (World.ownsRow_lit (base := w.heap.size) (e := 3) (size := 1) w #[] 0 (Nat.le_refl _) (by unfold maxLen; omega) rfl)
      have hnil : ∀ w : World, (binOp .eql 22 (.slice (some a0) 0 c) (.slice none 0 0)).run Tryz.prog w = .ok (.bool false) w := fun w => Lib.run_eql_slice_nil w 22 3 (some a0) 0 c 0 0 Tryz.underlying22
      go_enter Tryz.func84, Tryz.ntmps84
      go_wp2_with fail
      go_ret
      rw [Hl.out]
      exact ⟨_, _, rfl, HO.out, HB.out⟩
  · obtain ⟨ad, rfl, had, hc⟩ : ∃ ad, A = some ad ∧ Safe w ex ad.block ∧ ∀ j u, (ints l)[j]? = some u → w.cell? (ad.add j) = some u := by
      rcases HA.out with h | h
      · have := congrArg List.length h; simp [ints] at this; subst this; simp at hl; omega
      · exact h
    have hb2 := (Below.refl w.heap.size w).alloc (Nat.le_refl _) (.cells #[] 3)
    have HB2 := hid hb2
    have Hc := hid (fun j u (h : (ints l)[j]? = some u) => (show (w.alloc (.cells #[] 3)).cell? (ad.add j) = some u from (World.cell?_of_block (by rw [add_block]; exact hb2.block _ had.1)).trans (hc j u h)))
    have HO := hid (World.ownsRow_lit (base := w.heap.size) (e := 3) (size := 1) w #[] 0 (Nat.le_refl _) (by unfold maxLen; omega) rfl)
    have Hul := hid (show (ints l).length = n * 1 by unfold ints; rw [List.length_map, HL.out]; omega)
    have hpos : 0 < n := by omega
    clear hc hl hb2 h0
    have hnil : ∀ w : World, (binOp .eql 22 (.slice (some ad) n c) (.slice none 0 0)).run Tryz.prog w = .ok (.bool false) w := fun w => Lib.run_eql_slice_nil w 22 3 (some ad) n c 0 0 Tryz.underlying22
    go_enter Tryz.func84, Tryz.ntmps84
    go_wp2_with ((
      at_builtin
      go_must (refine wpList_append_lies _ rfl _ _ 22 rfl w.heap.size 3 i0 _ 1 8 Tryz.underlying22 Hi.out Hz0.out Hz1.out Hz2.out rfl (by decide) _ 0 [] rfl HO.out ad n c (ints l) rfl Hul.out Hc.out (one_ints l) hpos (by unfold maxLen; omega) (by omega) (by rw [World.size_alloc]; omega) _ rfl ?_)
      intro g5 cap5 w5 hown5 hgr5 hat5 hlt5))
    have HB5 := hid (HB2.out.grown hgr5 HB2.out.size (fun k hk => (HO.out.lt k hk).1))
    have Hown := hid hown5
    clear hown5 hgr5 hat5 hlt5
    go_wp2_with fail
    go_ret
    exact ⟨some ⟨g5, 0, none⟩, cap5, by simp, by have := Hown.out; rw [List.nil_append, Nat.zero_add] at this; exact this, HB5.out⟩
set_option maxHeartbeats 1600000 in
theorem clone_nodes (A : Option Addr) (n c : Nat) (l : List Nd) (ex : List (Option Nat)) (w : World) (hA : EAt w ex A (l.flatMap ndc)) (hl : l.length = n) (hf : n ≤ 1000000) : Calls Tryz.prog 54 #[.slice A n c] w (RetOw w 50 4 n (l.flatMap ndc)) := by
  obtain ⟨i0, hi, hz0, hz1, hz2⟩ := info_parts info50
  have Hi := hid hi; have Hz0 := hid hz0; have Hz1 := hid hz1; have Hz2 := hid hz2
  clear hi hz0 hz1 hz2
  have HL := hid hl
  have HA := hid hA
  clear hA
  by_cases h0 : n = 0
  · subst h0
    have Hl := hid (show l = [] from List.length_eq_zero_iff.1 HL.out)
    clear hl
    rcases A with _ | a0
    · have hnil : ∀ w : World, (binOp .eql 33 (.slice none 0 c) (.slice none 0 0)).run Tryz.prog w = .ok (.bool true) w := fun w => Lib.run_eql_slice_nil w 33 50 none 0 c 0 0 Tryz.underlying33
      go_enter Tryz.func54, Tryz.ntmps54
      go_wp2_with fail
      go_ret
      rw [Hl.out]
      exact ⟨none, 0, rfl, World.ownsRow_nil _ _ _ _, Below.refl _ _⟩
    · have HB := hid ((Below.refl w.heap.size w).alloc (Nat.le_refl _) (.cells #[] 50))
      have HO := hid (World.ownsRow_lit (base := w.heap.size) (e := 50) (size := 4) w #[] 0 (Nat.le_refl _) (by unfold maxLen; omega) rfl)
      have hnil : ∀ w : World, (binOp .eql 33 (.slice (some a0) 0 c) (.slice none 0 0)).run Tryz.prog w = .ok (.bool false) w := fun w => Lib.run_eql_slice_nil w 33 50 (some a0) 0 c 0 0 Tryz.underlying33
      go_enter Tryz.func54, Tryz.ntmps54
      go_wp2_with fail
      go_ret
      rw [Hl.out]
      exact ⟨_, _, rfl, HO.out, HB.out⟩
  · obtain ⟨ad, rfl, had, hc⟩ : ∃ ad, A = some ad ∧ Safe w ex ad.block ∧ ∀ j u, (l.flatMap ndc)[j]? = some u → w.cell? (ad.add j) = some u := by
      rcases HA.out with h | h
      · have := congrArg List.length h; rw [flat_len ndc_len] at this; simp only [List.length_nil] at this; omega
      · exact h
    have hb2 := (Below.refl w.heap.size w).alloc (Nat.le_refl _) (.cells #[] 50)
    have HB2 := hid hb2
    have Hc := hid (fun j u (h : (l.flatMap ndc)[j]? = some u) => (show (w.alloc (.cells #[] 50)).cell? (ad.add j) = some u from (World.cell?_of_block (by rw [add_block]; exact hb2.block _ had.1)).trans (hc j u h)))
    have HO := hid (World.ownsRow_lit (base := w.heap.size) (e := 50) (size := 4) w #[] 0 (Nat.le_refl _) (by unfold maxLen; omega) rfl)
    have Hul := hid (show (l.flatMap ndc).length = n * 4 by rw [flat_len ndc_len, HL.out])
    have Hone := hid (show ∀ u ∈ l.flatMap ndc, u.oneCell' = true from fun u hu => by obtain ⟨x, _, hx⟩ := List.mem_flatMap.1 hu; exact one_ndc x u hx)
    have hpos : 0 < n := by omega
    clear hc hl hb2 h0
    have hnil : ∀ w : World, (binOp .eql 33 (.slice (some ad) n c) (.slice none 0 0)).run Tryz.prog w = .ok (.bool false) w := fun w => Lib.run_eql_slice_nil w 33 50 (some ad) n c 0 0 Tryz.underlying33
    go_enter Tryz.func54, Tryz.ntmps54
    go_wp2_with ((
      at_builtin
      go_must (refine wpList_append_lies _ rfl _ _ 33 rfl w.heap.size 50 i0 _ 4 32 Tryz.underlying33 Hi.out Hz0.out Hz1.out Hz2.out rfl (by decide) _ 0 [] rfl HO.out ad n c (l.flatMap ndc) rfl Hul.out Hc.out Hone.out hpos (by unfold maxLen; omega) (by omega) (by rw [World.size_alloc]; omega) _ rfl ?_)
      intro g5 cap5 w5 hown5 hgr5 hat5 hlt5))
    have HB5 := hid (HB2.out.grown hgr5 HB2.out.size (fun k hk => (HO.out.lt k hk).1))
    have Hown := hid hown5
    clear hown5 hgr5 hat5 hlt5
    go_wp2_with fail
    go_ret
    exact ⟨some ⟨g5, 0, none⟩, cap5, by simp, by have := Hown.out; rw [List.nil_append, Nat.zero_add] at this; exact this, HB5.out⟩
theorem own_mono1 {w : World} {b b2 : Nat} {ty : TypeId} {k : Nat} {v : Value} {n : Nat} {xs : List Value} (h : w.ownsRow b ty k v n xs) (hb : b2 ≤ b) : w.ownsRow b2 ty k v n xs := by
  obtain ⟨h1, h2⟩ := h
  refine ⟨h1, ?_⟩
  rcases h2 with h | ⟨g, cap, cur, e, hg, r⟩
  · exact .inl h
  · exact .inr ⟨g, cap, cur, e, by omega, r⟩
/-- What copied has copied. -/
def cpF (v : List (List Int)) (k : Nat) (b : Nat) : List Int := if b < k then rw0 v b else []
theorem cpF_zero (v : List (List Int)) (b : Nat) : cpF v 0 b = [] := by unfold cpF; rw [if_neg (by omega)]
theorem cpF_step {v : List (List Int)} {k : Nat} {l : List Int} (h : v[k]? = some l) (b : Nat) : upd (cpF v k) k l b = cpF v (k + 1) b := by
  by_cases e : b = k
  · subst e
    rw [upd_at]
    unfold cpF
    rw [if_pos (by omega), rw0_at h]
  · rw [upd_ne _ _ e]
    unfold cpF
    by_cases e2 : b < k
    · rw [if_pos e2, if_pos (by omega)]
    · rw [if_neg e2, if_neg (by omega)]
theorem cpF_all {v : List (List Int)} {n : Nat} (h : v.length = n) : rowsF n (cpF v n) = v := by
  conv => rhs; rw [list_range h]
  unfold rowsF
  refine List.map_congr_left fun b hb => ?_
  unfold cpF
  rw [if_pos (List.mem_range.1 hb)]
set_option maxHeartbeats 3200000 in
theorem copied_any (x : LH) (ex : List (Option Nat)) (w : World) (h : LHok w ex x) (hn : x.n ≤ 100000) (hr : ∀ y ∈ x.l, y.n ≤ 1000000) :
    Calls Tryz.prog 55 #[.slice x.A x.n x.c] w (RetLL w x.v) := by
  have HX := hid h
  have HR := hid hr
  have HL := hid h.len
  have HV := hid ((LH.vlen x).trans h.len)
  have Hat := hid (fun (k : Nat) (z : RH) (hz : x.l[k]? = some z) => LH.at hz)
  clear h hr
  generalize hv : x.v = v at *
  clear hv
  obtain ⟨A, n, c, l⟩ := x
  simp only at *
  have hrow := run_mkrows n hn
  go_enter Tryz.func55, Tryz.ntmps55
  go_wp2_with fail
  have HM := hid (show Mx (w.alloc (.cells (Array.replicate n (Value.slice none 0 0)) 22)) w.heap.size n (cpF v 0) from (Mx.start w n).congr (fun i _ => (cpF_zero v i).symm))
  have HB := hid ((Below.refl w.heap.size w).alloc (Nat.le_refl _) (.cells (Array.replicate n (Value.slice none 0 0)) 22))
  generalize w.alloc (.cells (Array.replicate n (Value.slice none 0 0)) 22) = w0 at HM HB ⊢
  clear hrow
  generalize hMd : w.heap.size = M at *
  go_loopw [4, 5, 11] (fun _ _ iv wr => ∃ k : Nat, k ≤ n ∧ iv = .int .i64 k ∧ Hid (Mx wr M n (cpF v k)) ∧ Hid (Below M w wr)) (fun _ _ iv _ => n - (intOf iv).toNat)
  case atStart => exact ⟨0, by omega, rfl, HM, HB⟩
  case round =>
    clear HM HB
    obtain ⟨k, hk, rfl, hM, hB⟩ := hrel
    by_cases hlt : k < n
    · obtain ⟨y, hy, hym⟩ := get_at HL.out hlt
      have HPr := hid (HX.out.go (Go2.below (hMd ▸ hB.out)))
      obtain ⟨ad, hA, had, hc⟩ := HPr.out.cell hy
      simp only at hA
      subst hA
      have HY := hid (HPr.out.all y hym)
      have hyn := HR.out y hym
      have Hst := hid (fun b : Nat => cpF_step (Hat.out k y hy) b)
      have HC := hid (clone_int y.A y.n y.c y.l ex wr HY.out.lies HY.out.len hyn)
      have Hyl := hid HY.out.len
      obtain ⟨rv, hown, hcell, hfr, -, hkeep, hput⟩ := hM.out.at hlt
      have HK := hid hkeep
      have HP := hid hput
      have hszM : M + 1 ≤ wr.heap.size := hM.out.lt
      clear hy hym HPr hown hcell hfr hkeep hput hM HY
      obtain ⟨yA, yn, yc, yl⟩ := y
      simp only at *
      go_wp2_with fail
      refine HC.out.mono ?_
      rintro e wc ⟨B, bc, rfl, ho, hb⟩
      obtain ⟨y0, y1⟩ := HK.out _ (grown_of_below hb _)
      have HF := hid (HP.out wc (.slice B yn bc) yl (grown_of_below hb _) (by rw [Hyl.out]; exact own_mono1 ho hszM) (fun g hg => .inr (ho.lt g hg).1))
      have HB2 := hid ((hB.out.trans (hb.mono (by omega))).setCell (p := ⟨M, k, none⟩) (Nat.le_refl _) (.slice B yn bc))
      clear ho hb HC HK HP hB
      go_wp2_with fail
      go_roundw
      case rel => exact ⟨k + 1, by omega, by go_num, hid (HF.out.congr (fun b _ => Hst.out b)), HB2⟩
      case measure => simp [intOf]; omega
    · obtain rfl : k = n := by omega
      obtain ⟨y, hy1, hy2, hy3, hy4, hy5⟩ := hM.out.lists (by omega)
      have HF := hid (show RetLL w v (.returned (.slice (some ⟨M, 0, none⟩) k k)) wr from ⟨y, by rw [hy1, hy2, hy3], by rw [hy4, cpF_all HV.out], fun ex hex => hy5 ex (fun q hq => by have := hex q hq; omega), by rw [hMd]; exact hB.out⟩)
      clear hy1 hy2 hy3 hy4 hy5 hM hB
      go_wp2_with fail
      go_ret
      exact HF.out
/-- The number of edges. -/
def edgN (N : Nat) (S P : List (List Int)) : Nat := if validB N S P then tot S else 0
theorem rows_small {x : LH} {w : World} {ex : List (Option Nat)} (h : LHok w ex x) {N : Nat} (hr : ∀ l ∈ x.v, RisP N l) : ∀ y ∈ x.l, y.n ≤ N := by
  intro y hy
  rw [← (h.all y hy).len]
  exact ris_len (hr y.l (by obtain ⟨j, hj, rfl⟩ := List.mem_iff_getElem.1 hy; exact List.mem_of_getElem? (LH.at (List.getElem?_eq_getElem hj))))
set_option maxHeartbeats 1600000 in
theorem edges_any (x : GH) (ex : List (Option Nat)) (w : World) (h : GHok w ex x) :
    Calls Tryz.prog 22 #[x.a] w (RetVb w (.int .i64 (edgN x.n x.S.v x.P.v : Nat))) := by
  have HG := hid (GW.start h)
  have HK := hid (fun (v u : World) (h : GW w w.heap.size ex x v) (hb : Below v.heap.size v u) => h.below hb)
  have HV := hid (fun (v : World) (h : GW w w.heap.size ex x v) => valid_graph x ex v h.g)
  have HC := hid (fun (v : World) (hv : GW w w.heap.size ex x v) (h2 : ValG x.n x.S.v x.P.v) => count_any x.S x.S.n ex v hv.g.s (by have := h2.slen; have := h2.few; have := LH.vlen x.S; have := h.s.len; omega) (fun y hy => by have := rows_small h.s h2.ris y hy; have := h2.few; omega))
  have Hb := hid (fun (v : World) (h : GW w w.heap.size ex x v) => h.box.thr)
  have Hbl := hid (fun (v : World) (h : GW w w.heap.size ex x v) => h.box.lt)
  have Hbb := hid (fun (v : World) (h : GW w w.heap.size ex x v) => h.bel)
  unfold GH.a at *
  clear h
  generalize hsv : x.S.v = Sv at *
  generalize hpv : x.P.v = Pv at *
  clear hsv hpv
  obtain ⟨A, n, c, ns, ⟨SA, sn, sc, sl⟩, ⟨PA, pn, pc, pl⟩⟩ := x
  simp only at *
  cases hv : validB n Sv Pv with
  | false =>
    have Hr := hid (show ((edgN n Sv Pv : Nat) : Int) = 0 by unfold edgN; rw [hv]; rfl)
    rw [hv] at HV
    go_enter Tryz.func22, Tryz.ntmps22
    obtain ⟨c0, c1, c2⟩ := Hb.out _ HG.out
    have hGl := Hbl.out _ HG.out
    go_wp2_with fail
    refine (HV.out _ HG.out).mono ?_
    rintro e w1 ⟨rfl, hb1⟩
    have HF := hid (Hbb.out _ (HK.out _ _ HG.out hb1))
    clear HG c0 c1 c2 hGl
    go_wp2_with fail
    go_ret
    exact retVb_i Hr.out HF.out
  | true =>
    have Hr := hid (show ((edgN n Sv Pv : Nat) : Int) = (tot Sv : Nat) by unfold edgN; rw [hv]; rfl)
    have Hval := hid (validB_iff.1 hv)
    rw [hv] at HV
    go_enter Tryz.func22, Tryz.ntmps22
    obtain ⟨c0, c1, c2⟩ := Hb.out _ HG.out
    have hGl := Hbl.out _ HG.out
    go_wp2_with fail
    refine (HV.out _ HG.out).mono ?_
    rintro e w1 ⟨rfl, hb1⟩
    have HG1 := hid (HK.out _ _ HG.out hb1)
    clear HG c0 c1 c2 hGl
    obtain ⟨c0, c1, c2⟩ := Hb.out _ HG1.out
    have hGl := Hbl.out _ HG1.out
    go_wp2_with fail
    refine (HC.out _ HG1.out Hval.out).mono ?_
    rintro e w2 ⟨rfl, rfl⟩
    go_wp2_with fail
    go_ret
    exact retVb_i Hr.out (Hbb.out _ HG1.out)
end Go.Proofs.YtcgichfanfijjaaGreatDoor

namespace Go.Proofs.YtcgichfanfijjaaGreatDoor
set_option maxRecDepth 20000
set_option linter.unusedVariables false
set_option linter.unusedSimpArgs false
open Go.ChangeShapes Go.WideShapes Go.ChangeAt Go.RowKit

/-- A graph and an error came back. -/
def RetGr (w : World) (ns : List Nd) (S P : List (List Int)) (er : Int) (e : Ending) (w' : World) : Prop :=
  ∃ y : GH, e = .returned (.tuple #[y.a, .int .i64 er]) ∧ y.ns = ns ∧ y.S.v = S ∧ y.P.v = P ∧ (∀ ex : List (Option Nat), (∀ k, some k ∈ ex → k < w.heap.size) → GHok w' ex y) ∧ Below w.heap.size w w'
def lh0 : LH := ⟨none, 0, 0, []⟩
def gh0 : GH := ⟨none, 0, 0, [], lh0, lh0⟩
theorem lh0_ok (w : World) (ex : List (Option Nat)) : LHok w ex lh0 := ⟨EAt.nil _ _ _, rfl, by show 0 ≤ _; omega, fun y hy => by simp [lh0] at hy⟩
theorem gh0_ok (w : World) (ex : List (Option Nat)) : GHok w ex gh0 := ⟨EAt.nil _ _ _, rfl, by show 0 ≤ _; omega, lh0_ok w ex, lh0_ok w ex⟩
theorem RetGr.none {w w' : World} (er : Int) (hb : Below w.heap.size w w') : RetGr w [] [] [] er (.returned (.tuple #[.agg #[.slice none 0 0, .slice none 0 0, .slice none 0 0], .int .i64 er])) w' :=
  ⟨gh0, rfl, rfl, rfl, rfl, fun ex _ => gh0_ok w' ex, hb⟩
theorem Fb.thrz {w : World} {g t : Nat} {a b c : Value} (h : Fb w g #[a, b, c] t) : w.frozen? ⟨g, 0, none⟩ = false ∧ w.frozen? ⟨g, 1, none⟩ = false ∧ w.frozen? ⟨g, 2, none⟩ = false := ⟨h.frozen 0, h.frozen 1, h.frozen 2⟩
/-- The result's cell beside the argument's. -/
structure GR (w : World) (G : Nat) (ex : List (Option Nat)) (x : GH) (v : World) : Prop where
  gw : GW w G ex x v
  res : Fb v (G + 1) #[.slice none 0 0, .slice none 0 0, .slice none 0 0] 36
  gle : G = w.heap.size
theorem GR.below {w v v' : World} {G : Nat} {ex : List (Option Nat)} {x : GH} (h : GR w G ex x v) (hb : Below v.heap.size v v') : GR w G ex x v' :=
  ⟨h.gw.below hb, h.res.below hb h.res.lt, h.gle⟩
theorem GR.start {w : World} {ex : List (Option Nat)} {x : GH} (h : GHok w ex x) : GR w w.heap.size ex x ((w.alloc (.cells #[.slice x.A x.n x.c, .slice x.S.A x.S.n x.S.c, .slice x.P.A x.P.n x.P.c] 36)).alloc (.cells #[.slice none 0 0, .slice none 0 0, .slice none 0 0] 36)) :=
  ⟨(GW.start h).below ((Below.refl _ _).alloc (Nat.le_refl _) _), by have := Fb.new (w.alloc (.cells #[.slice x.A x.n x.c, .slice x.S.A x.S.n x.S.c, .slice x.P.A x.P.n x.P.c] 36)) #[.slice none 0 0, .slice none 0 0, .slice none 0 0] 36; rwa [World.size_alloc] at this, rfl⟩
/-- What the result's cell holds last. -/
theorem GR.done {w v : World} {G : Nat} {ex : List (Option Nat)} {x : GH} (h : GR w G ex x v) (a b c : Value) {y : GH} (hy : ∀ ex : List (Option Nat), (∀ k, some k ∈ ex → k < w.heap.size + 2) → GHok v ex y) :
    (∀ ex : List (Option Nat), (∀ k, some k ∈ ex → k < w.heap.size) → GHok (((v.setCell ⟨G + 1, 0, none⟩ a).setCell ⟨G + 1, 1, none⟩ b).setCell ⟨G + 1, 2, none⟩ c) ex y) ∧ Below w.heap.size w (((v.setCell ⟨G + 1, 0, none⟩ a).setCell ⟨G + 1, 1, none⟩ b).setCell ⟨G + 1, 2, none⟩ c) := by
  have hg := h.gle
  refine ⟨fun ex hex => ?_, ((h.gw.bel.setCell (by simp; omega) _).setCell (by simp; omega) _).setCell (by simp; omega) _⟩
  have h1 := hy (some (G + 1) :: ex) (fun k hk => by
    rcases List.mem_cons.1 hk with e | e
    · injection e with e; omega
    · have := hex k e; omega)
  have hs : ∀ (u : World) (o : Nat) (z : Value), Go2 u (some (G + 1) :: ex) (u.setCell ⟨G + 1, o, none⟩ z) (some (G + 1) :: ex) := fun u o z => Go2.same (row := some (G + 1)) (setCell_grown u ⟨G + 1, o, none⟩ z) (.inr (by simp))
  exact (((h1.go (hs _ 0 a)).go (hs _ 1 b)).go (hs _ 2 c)).go (Go2.less _ (fun k hk => by simp [hk]))
theorem LHok.far {w : World} {ex : List (Option Nat)} {y : LH} {N : Nat} (h : ∀ ex : List (Option Nat), (∀ k, some k ∈ ex → k < N) → LHok w ex y) {M : Nat} (hM : M ≤ N) : ∀ ex : List (Option Nat), (∀ k, some k ∈ ex → k < M) → LHok w ex y :=
  fun ex hex => h ex (fun k hk => Nat.lt_of_lt_of_le (hex k hk) hM)
set_option maxHeartbeats 6400000 in
theorem reverse_yes (x : GH) (ex : List (Option Nat)) (w : World) (h : GHok w ex x) (hval : ValG x.n x.S.v x.P.v) :
    Calls Tryz.prog 23 #[x.a] w (RetGr w x.ns x.P.v x.S.v 0) := by
  have HG := hid (GR.start h)
  have HK := hid (fun (v u : World) (h : GR w w.heap.size ex x v) (hb : Below v.heap.size v u) => h.below hb)
  have HV := hid (fun (v : World) (h : GR w w.heap.size ex x v) => valid_graph x ex v h.gw.g)
  rw [validB_iff.2 hval] at HV
  have hsz : x.n ≤ 256 := hval.few
  have HCS := hid (fun (v : World) (hv : GR w w.heap.size ex x v) => copied_any x.S ex v hv.gw.g.s (by have := hval.slen; have := LH.vlen x.S; have := hv.gw.g.s.len; omega) (fun y hy => by have := rows_small hv.gw.g.s hval.ris y hy; omega))
  have HCP := hid (fun (v : World) (hv : GR w w.heap.size ex x v) => copied_any x.P ex v hv.gw.g.p (by have := hval.plen; have := LH.vlen x.P; have := hv.gw.g.p.len; omega) (fun y hy => by have := rows_small hv.gw.g.p hval.pris y hy; omega))
  have HCN := hid (fun (v : World) (hv : GR w w.heap.size ex x v) => clone_nodes x.A x.n x.c x.ns ex v hv.gw.g.lies hv.gw.g.len (by omega))
  have Hnl := hid h.len
  have Hb := hid (fun (v : World) (h : GR w w.heap.size ex x v) => h.gw.box.thr)
  have Hbl := hid (fun (v : World) (h : GR w w.heap.size ex x v) => h.gw.box.lt)
  have Hr := hid (fun (v : World) (h : GR w w.heap.size ex x v) => h.res.thr)
  have Hrz := hid (fun (v : World) (h : GR w w.heap.size ex x v) => h.res.thrz)
  have Hrl := hid (fun (v : World) (h : GR w w.heap.size ex x v) => h.res.lt)
  have Hsz := hid (fun (v : World) (h : GR w w.heap.size ex x v) => show w.heap.size + 2 ≤ v.heap.size from h.res.lt)
  unfold GH.a at *
  clear h hval
  have hS : ∃ Sv, x.S.v = Sv := ⟨_, rfl⟩
  obtain ⟨Sv, hS⟩ := hS
  have hP : ∃ Pv, x.P.v = Pv := ⟨_, rfl⟩
  obtain ⟨Pv, hP⟩ := hP
  rw [hS] at HCS ⊢
  rw [hP] at HCP ⊢
  clear hS hP
  have hG : ∃ G, w.heap.size = G := ⟨_, rfl⟩
  obtain ⟨G, hG⟩ := hG
  have HGe := hid hG
  rw [hG] at HG HK HV HCS HCP HCN Hb Hbl Hr Hrz Hrl Hsz
  clear hG
  have HD := hid (fun (v : World) (a b c : Value) (h : GR w G ex x v) (y : GH) hy => h.done a b c (y := y) hy)
  obtain ⟨A, n, c, ns, ⟨SA, sn, sc, sl⟩, ⟨PA, pn, pc, pl⟩⟩ := x
  simp only at *
  go_enter Tryz.func23, Tryz.ntmps23
  obtain ⟨c0, c1, c2⟩ := Hb.out _ HG.out
  have hGl := Hbl.out _ HG.out
  rw [← HGe.out] at c0 c1 c2 hGl
  go_wp2_with fail
  refine (HV.out _ HG.out).mono ?_
  rintro e w1 ⟨rfl, hb1⟩
  have HG1 := hid (HK.out _ _ HG.out hb1)
  clear HG c0 c1 c2 hGl hb1
  rw [HGe.out]
  go_wp2_with fail
  have hcur := HK.out _ _ HG1.out (Below.refl _ _).drew
  obtain ⟨c0, c1, c2⟩ := Hb.out _ hcur
  have hGl := Hbl.out _ hcur
  obtain ⟨r0, r1, r2⟩ := Hr.out _ hcur
  obtain ⟨z0, z1, z2⟩ := Hrz.out _ hcur
  have hRl := Hrl.out _ hcur
  clear HG1
  go_region_law (
    (go_simp
     first
     | (go_at_call 54
        refine (HCN.out _ hcur).mono ?_
        rintro e wn ⟨B1, k1, rfl, ho1, hbk⟩
        have H1 := hid (own_mono1 ho1 (Hsz.out _ hcur))
        have hcur := HK.out _ _ hcur hbk
        obtain ⟨c0, c1, c2⟩ := Hb.out _ hcur
        have hGl := Hbl.out _ hcur
        obtain ⟨r0, r1, r2⟩ := Hr.out _ hcur
        obtain ⟨z0, z1, z2⟩ := Hrz.out _ hcur
        have hRl := Hrl.out _ hcur
        clear ho1 hbk)
     | (go_at_call_of 55 PA
        refine (HCP.out _ hcur).mono ?_
        rintro e wn ⟨y2, rfl, hv2, hok2, hbk⟩
        have H2v := hid hv2
        have hs2 := Hsz.out _ hcur
        have H2 : Hid (∀ ex : List (Option Nat), (∀ k, some k ∈ ex → k < G + 2) → LHok wn ex y2) := hid (fun ex hex => hok2 ex (fun k hk => Nat.lt_of_lt_of_le (hex k hk) hs2))
        clear hs2
        have H1 := hid (own_below H1.out hbk)
        have hcur := HK.out _ _ hcur hbk
        obtain ⟨c0, c1, c2⟩ := Hb.out _ hcur
        have hGl := Hbl.out _ hcur
        obtain ⟨r0, r1, r2⟩ := Hr.out _ hcur
        obtain ⟨z0, z1, z2⟩ := Hrz.out _ hcur
        have hRl := Hrl.out _ hcur
        clear hv2 hok2 hbk)
     | (go_at_call_of 55 SA
        refine (HCS.out _ hcur).mono ?_
        rintro e wn ⟨y3, rfl, hv3, hok3, hbk⟩
        have H3v := hid hv3
        have hs2 := Hsz.out _ hcur
        have H3 : Hid (∀ ex : List (Option Nat), (∀ k, some k ∈ ex → k < G + 2) → LHok wn ex y3) := hid (fun ex hex => hok3 ex (fun k hk => Nat.lt_of_lt_of_le (hex k hk) hs2))
        clear hs2
        have H1 := hid (own_below H1.out hbk)
        have H2 : Hid (∀ ex : List (Option Nat), (∀ k, some k ∈ ex → k < G + 2) → LHok wn ex y2) := hid (fun ex hex => (H2.out ex hex).below hbk)
        have hcur := HK.out _ _ hcur hbk
        obtain ⟨c0, c1, c2⟩ := Hb.out _ hcur
        have hGl := Hbl.out _ hcur
        obtain ⟨r0, r1, r2⟩ := Hr.out _ hcur
        obtain ⟨z0, z1, z2⟩ := Hrz.out _ hcur
        have hRl := Hrl.out _ hcur
        clear hv3 hok3 hbk)))
  all_goals
    have HF := hid (HD.out _ (.slice B1 n k1) (.slice y2.A y2.n y2.c) (.slice y3.A y3.n y3.c) hcur ⟨B1, n, k1, ns, y2, y3⟩ (fun ex hex => ⟨EAt.own H1.out (fun g hg hm => by have := hex g hm; have := (H1.out.lt g hg).1; have := HGe.out; omega), Hnl.out, by show n ≤ _; omega, H2.out ex (by rw [← HGe.out]; exact hex), H3.out ex (by rw [← HGe.out]; exact hex)⟩))
    go_wp2_with fail
    refine bodyPost_ret (v := .tuple #[.agg #[.slice B1 n k1, .slice y2.A y2.n y2.c, .slice y3.A y3.n y3.c], .int .i64 0]) (by simp [results, Tryz.results23, go_sem, r0, r1, r2, z0, z1, z2, hRl]) rfl ?_
    exact ⟨⟨B1, n, k1, ns, y2, y3⟩, rfl, rfl, H2v.out, H3v.out, HF.out.1, HF.out.2⟩
set_option maxHeartbeats 1600000 in
theorem reverse_no (x : GH) (ex : List (Option Nat)) (w : World) (h : GHok w ex x) (hval : validB x.n x.S.v x.P.v = false) :
    Calls Tryz.prog 23 #[x.a] w (RetGr w [] [] [] 1) := by
  have HG := hid (GR.start h)
  have HK := hid (fun (v u : World) (h : GR w w.heap.size ex x v) (hb : Below v.heap.size v u) => h.below hb)
  have HV := hid (fun (v : World) (h : GR w w.heap.size ex x v) => valid_graph x ex v h.gw.g)
  rw [hval] at HV
  have Hb := hid (fun (v : World) (h : GR w w.heap.size ex x v) => h.gw.box.thr)
  have Hbl := hid (fun (v : World) (h : GR w w.heap.size ex x v) => h.gw.box.lt)
  have Hr := hid (fun (v : World) (h : GR w w.heap.size ex x v) => h.res.thr)
  have Hrz := hid (fun (v : World) (h : GR w w.heap.size ex x v) => h.res.thrz)
  have Hrl := hid (fun (v : World) (h : GR w w.heap.size ex x v) => h.res.lt)
  have HD := hid (fun (v : World) (a b c : Value) (h : GR w w.heap.size ex x v) => (h.done a b c (y := gh0) (fun ex _ => gh0_ok _ ex)).2)
  unfold GH.a at *
  clear h hval
  obtain ⟨A, n, c, ns, ⟨SA, sn, sc, sl⟩, ⟨PA, pn, pc, pl⟩⟩ := x
  simp only at *
  go_enter Tryz.func23, Tryz.ntmps23
  obtain ⟨c0, c1, c2⟩ := Hb.out _ HG.out
  have hGl := Hbl.out _ HG.out
  go_wp2_with fail
  refine (HV.out _ HG.out).mono ?_
  rintro e w1 ⟨rfl, hb1⟩
  have HG1 := hid (HK.out _ _ HG.out hb1)
  clear HG c0 c1 c2 hGl hb1
  obtain ⟨r0, r1, r2⟩ := Hr.out _ HG1.out
  obtain ⟨z0, z1, z2⟩ := Hrz.out _ HG1.out
  have hRl := Hrl.out _ HG1.out
  have HF := hid (HD.out _ (.slice none 0 0) (.slice none 0 0) (.slice none 0 0) HG1.out)
  clear HG1
  go_wp2_with fail
  refine bodyPost_ret (v := .tuple #[.agg #[.slice none 0 0, .slice none 0 0, .slice none 0 0], .int .i64 1]) (by simp [results, Tryz.results23, go_sem, r0, r1, r2, z0, z1, z2, hRl]) rfl ?_
  exact RetGr.none 1 HF.out
end Go.Proofs.YtcgichfanfijjaaGreatDoor

namespace Go.Proofs.YtcgichfanfijjaaGreatDoor
set_option maxRecDepth 20000
set_option linter.unusedVariables false
set_option linter.unusedSimpArgs false
open Go.ChangeShapes Go.WideShapes Go.ChangeAt Go.RowKit

/-- The numbers in order. -/
def srtI (l : List Int) : List Int := l.mergeSort fun x y => decide (x ≤ y)
theorem srtI_perm (l : List Int) : (srtI l).Perm l := List.mergeSort_perm _ _
theorem srtI_nil : srtI [] = [] := by unfold srtI; simp
theorem srtI_len (l : List Int) : (srtI l).length = l.length := (srtI_perm l).length_eq
theorem srtI_mem {l : List Int} {x : Int} : x ∈ srtI l ↔ x ∈ l := (srtI_perm l).mem_iff
theorem srtI_sorted (l : List Int) : (srtI l).Pairwise (· ≤ ·) := by
  have h := List.pairwise_mergeSort (le := fun x y : Int => decide (x ≤ y)) (fun a b c h1 h2 => by simp at *; omega) (fun a b => by simp; omega) l
  exact h.imp (fun h => by simpa using h)
theorem arr_get {l : List Int} {j : Nat} (h : j < l.length) : l.toArray[j]! = l[j] := by rw [getElem!_pos l.toArray j (by simpa using h)]; simp
theorem compact_mem {l : List Int} {x : Int} : x ∈ Lib.compact l ↔ x ∈ l := by
  unfold Lib.compact Lib.compactUpTo
  constructor
  · intro h
    obtain ⟨j, hj, rfl⟩ := List.mem_map.1 h
    have hj2 := List.mem_range.1 (List.mem_filter.1 hj).1
    rw [arr_get hj2]
    exact List.getElem_mem hj2
  · intro h
    obtain ⟨j, hj, he⟩ := List.mem_iff_getElem.1 h
    have key : ∀ k, ∀ hk : k < l.length, l[k] = x → ∃ i, i ≤ k ∧ ∃ hi : i < l.length, l[i] = x ∧ Lib.keeps l.toArray i = true := by
      intro k
      induction k with
      | zero => intro hk e; exact ⟨0, Nat.le_refl _, hk, e, by simp [Lib.keeps]⟩
      | succ k ih =>
        intro hk e
        by_cases e2 : l[k] = x
        · obtain ⟨i, h1, h2⟩ := ih (by omega) e2
          exact ⟨i, by omega, h2⟩
        · refine ⟨k + 1, Nat.le_refl _, hk, e, ?_⟩
          unfold Lib.keeps
          rw [decide_eq_true_eq]
          right
          rw [arr_get hk, show k + 1 - 1 = k from rfl, arr_get (by omega), e]
          exact fun h => e2 h.symm
    obtain ⟨i, _, hi, e, hk⟩ := key j hj he
    exact List.mem_map.2 ⟨i, List.mem_filter.2 ⟨List.mem_range.2 hi, hk⟩, by rw [arr_get hi, e]⟩
theorem compact_asc {l : List Int} (h : l.Pairwise (· ≤ ·)) : (Lib.compact l).Pairwise (· < ·) := by
  unfold Lib.compact Lib.compactUpTo
  rw [List.pairwise_map]
  have h1 : ((List.range l.length).filter (Lib.keeps l.toArray)).Pairwise (· < ·) := (List.pairwise_lt_range (n := l.length)).filter _
  refine (List.Pairwise.and_mem.1 h1).imp ?_
  rintro i j ⟨hi, hj, hij⟩
  have hi2 := List.mem_range.1 (List.mem_filter.1 hi).1
  have hj2 := List.mem_range.1 (List.mem_filter.1 hj).1
  have hk := (List.mem_filter.1 hj).2
  unfold Lib.keeps at hk
  rw [decide_eq_true_eq] at hk
  rcases hk with hk | hk
  · omega
  · rw [arr_get hj2, arr_get (show j - 1 < l.length by omega)] at hk
    rw [arr_get hi2, arr_get hj2]
    have ha : l[j - 1] ≤ l[j] := List.pairwise_iff_getElem.1 h (j - 1) j (by omega) hj2 (by omega)
    have hb : l[i] ≤ l[j - 1] := by
      by_cases e : i = j - 1
      · subst e; omega
      · exact List.pairwise_iff_getElem.1 h i (j - 1) hi2 (by omega) (by omega)
    omega
theorem compact_len (l : List Int) : (Lib.compact l).length ≤ l.length := by
  unfold Lib.compact Lib.compactUpTo
  rw [List.length_map]
  exact Nat.le_trans (List.length_filter_le _ _) (by simp)
/-- Sorted and compacted: the row of the numbers that occur. -/
theorem compact_row {N : Nat} {l : List Int} (h : ∀ x ∈ l, 0 ≤ x ∧ x < (N : Int)) : Lib.compact (srtI l) = rowP N fun b => decide ((b : Int) ∈ l) := by
  refine ris_row ⟨compact_asc (srtI_sorted l), fun x hx => h x (srtI_mem.1 (compact_mem.1 hx))⟩ fun k _ => ?_
  rw [compact_mem, srtI_mem, decide_eq_true_eq]
/-- The cells of a row that was written anew. -/
theorem put_own {w : World} {base g cap : Nat} {l ds : List Int} {n n2 : Nat} (h : w.ownsRow base 3 1 (.slice (some ⟨g, 0, none⟩) n cap) n (ints l)) (hn : n2 ≤ n) (hd : ds.length = n) (q : Nat) (os : Array Obj) :
    (Go.Sort.grow (Go.Sort.putRow (Value.int .i64) (Go.Sort.ahead w q) g 0 ds.toArray) os).ownsRow base 3 1 (.slice (some ⟨g, 0, none⟩) n2 cap) n2 (ints (ds.take n2)) ∧
    w.grownBy (Go.Sort.grow (Go.Sort.putRow (Value.int .i64) (Go.Sort.ahead w q) g 0 ds.toArray) os) (some g) := by
  rcases h.2 with ⟨e, _⟩ | ⟨g1, cap1, cur, e, hb, hg, hc1, hc2, hc3, _⟩
  · cases e
  · injection e with e1 _ e3
    injection e1 with e1
    injection e1 with e1
    subst e1
    subst e3
    have hlt : g < w.heap.size := (Array.getElem?_eq_some_iff.1 hg).1
    have hheap : (Go.Sort.grow (Go.Sort.putRow (Value.int .i64) (Go.Sort.ahead w q) g 0 ds.toArray) os).heap[g]? = some (.cells (Go.Sort.putCells (Value.int .i64) 0 ds.toArray cur) 3 (0, 0)) := by
      unfold Go.Sort.putRow
      rw [Go.Sort.heap_grow_old _ _ (by simp [Go.Sort.mapBlock, Go.Sort.ahead]; exact hlt)]
      simp only [Go.Sort.mapBlock, Go.Sort.ahead, Array.getElem?_modify, if_true, hg, Option.map_some, Go.Sort.onCells]
    refine ⟨⟨by unfold ints; rw [List.length_map, List.length_take]; omega, .inr ⟨g, cap, _, rfl, hb, hheap, by omega, hc2, by simp [Go.Sort.putCells]; omega, ?_⟩⟩, ?_⟩
    · apply List.ext_getElem?
      intro j
      by_cases hj : j < n2
      · rw [List.getElem?_take, if_pos (by omega), Array.getElem?_toList]
        unfold Go.Sort.putCells ints
        rw [Array.getElem?_mapIdx, Array.getElem?_eq_getElem (by omega), List.getElem?_map, List.getElem?_take, if_pos hj, List.getElem?_eq_getElem (by omega)]
        simp only [Option.map_some, Option.some.injEq]
        rw [if_pos ⟨Nat.zero_le _, by simp; omega⟩, Nat.sub_zero, arr_get (by omega)]
      · rw [List.getElem?_take, if_neg (by omega), List.getElem?_eq_none (by unfold ints; simp; omega)]
    · refine ⟨rfl, rfl, rfl, ?_, fun k hk hne => ?_⟩
      · simp [Go.Sort.grow, Go.Sort.putRow, Go.Sort.mapBlock, Go.Sort.ahead]
      · unfold Go.Sort.putRow
        rw [Go.Sort.heap_grow_old _ _ (by simp [Go.Sort.mapBlock, Go.Sort.ahead]; exact hk)]
        simp only [Go.Sort.mapBlock, Go.Sort.ahead, Array.getElem?_modify]
        rw [if_neg (by intro e; exact hne (by rw [e]))]
theorem holds_own {w : World} {base g cap n : Nat} {l : List Int} (h : w.ownsRow base 3 1 (.slice (some ⟨g, 0, none⟩) n cap) n (ints l)) (hl : l.length = n) : Go.Sort.Holds (Value.int .i64) w g 0 l.toArray ∧ g < w.heap.size ∧ n ≤ cap := by
  rcases h.2 with ⟨e, _⟩ | ⟨g1, cap1, cur, e, hb, hg, hc1, hc2, hc3, hx⟩
  · cases e
  · injection e with e1 _ e3
    injection e1 with e1
    injection e1 with e1
    subst e1
    subst e3
    refine ⟨fun j hj => ?_, (Array.getElem?_eq_some_iff.1 hg).1, hc1⟩
    have hj : j < l.length := by simpa using hj
    rw [Nat.zero_add, arr_get hj]
    refine ⟨?_, by simp [World.frozen?, hg]⟩
    have h1 : (cur.toList.take (n * 1))[j]? = some (.int .i64 l[j]) := by rw [hx]; unfold ints; rw [List.getElem?_map, List.getElem?_eq_getElem hj]; rfl
    rw [List.getElem?_take, if_pos (by omega)] at h1
    simp only [World.cell?, hg]
    simpa using h1
theorem grow_zero (w : World) : Go.Sort.grow w #[] = w := Go.Sort.grow_empty w
theorem sort_own {w : World} {base n c : Nat} {A : Option Addr} {l : List Int} (h : w.ownsRow base 3 1 (.slice A n c) n (ints l)) (hl : l.length = n) (hn : n ≤ 10000000) :
    Calls Tryz.prog 46 #[.slice A n c] w fun e w' => e = .returned (.tuple #[]) ∧ w'.ownsRow base 3 1 (.slice A n c) n (ints (srtI l)) ∧ w.grownBy w' (Value.slice A n c).ownBlock := by
  subst hl
  rcases h.2 with ⟨e, h0⟩ | ⟨g, cap, cur, e, hb, hg, hc1, hc2, hc3, _⟩
  · injection e with e1 e2 e3
    subst e1
    subst e3
    have hl0 : l = [] := List.length_eq_zero_iff.1 h0
    subst hl0
    refine (Tryz.slices_Sort_int_none none 0 w).mono ?_
    rintro e w' ⟨rfl, rfl⟩
    rw [srtI_nil]
    exact ⟨rfl, World.ownsRow_nil _ _ _ _, World.grownBy.refl _ _⟩
  · injection e with e1 _ e3
    subst e1
    subst e3
    obtain ⟨h1, h2, h3⟩ := holds_own h rfl
    refine (Tryz.slices_Sort_int g 0 c l w h1 h2 (by omega)).mono ?_
    rintro e w' ⟨rfl, q, os, rfl⟩
    obtain ⟨ho, hgr⟩ := put_own h (Nat.le_refl _) (srtI_len l) q os
    rw [List.take_of_length_le (by rw [srtI_len]; omega)] at ho
    exact ⟨rfl, ho, hgr⟩
theorem compact_own {w : World} {base n c : Nat} {A : Option Addr} {l : List Int} (h : w.ownsRow base 3 1 (.slice A n c) n (ints l)) (hl : l.length = n) (hn : n ≤ 10000000) :
    Calls Tryz.prog 47 #[.slice A n c] w fun e w' => e = .returned (.slice A (Lib.compact l).length c) ∧ w'.ownsRow base 3 1 (.slice A (Lib.compact l).length c) (Lib.compact l).length (ints (Lib.compact l)) ∧ w.grownBy w' (Value.slice A n c).ownBlock := by
  subst hl
  rcases h.2 with ⟨e, h0⟩ | ⟨g, cap, cur, e, hb, hg, hc1, hc2, hc3, _⟩
  · injection e with e1 e2 e3
    subst e1
    subst e3
    have hl0 : l = [] := List.length_eq_zero_iff.1 h0
    subst hl0
    refine (Tryz.slices_Compact_int_empty none 0 w).mono ?_
    rintro e w' ⟨rfl, rfl⟩
    exact ⟨rfl, World.ownsRow_nil _ _ _ _, World.grownBy.refl _ _⟩
  · injection e with e1 _ e3
    subst e1
    subst e3
    obtain ⟨h1, h2, h3⟩ := holds_own h rfl
    refine (Tryz.slices_Compact_int g 0 c l w h1 (by omega) h3).mono ?_
    rintro e w' ⟨rfl, q, rfl⟩
    have hcl := compact_len l
    obtain ⟨ho, hgr⟩ := put_own h hcl (ds := Lib.compact l ++ List.replicate (l.length - (Lib.compact l).length) 0) (by rw [List.length_append, List.length_replicate]; omega) q #[]
    rw [grow_zero] at ho hgr
    rw [List.take_left'  rfl] at ho
    exact ⟨rfl, ho, hgr⟩
end Go.Proofs.YtcgichfanfijjaaGreatDoor

namespace Go.Proofs.YtcgichfanfijjaaGreatDoor
set_option maxRecDepth 20000
set_option linter.unusedVariables false
set_option linter.unusedSimpArgs false
open Go.ChangeShapes Go.WideShapes Go.ChangeAt Go.RowKit

theorem laidOutT : laidOutB Tryz.prog = true := by kernel_rfl
theorem rowT : (50 : TypeId) < Tryz.prog.types.size := of_decide_eq_true (by kernel_rfl)
theorem wideT : (match Tryz.prog.underlying 50 with | some (.array _ _) | some (.struct _) => true | _ => false) = true := by rw [Tryz.underlying50]
theorem keyed : Maps.Keyed Tryz.prog 50 := Maps.Keyed.of_law (deep_law_laid laidOutT (m := 3) (by omega) rowT (by kernel_rfl) wideT)
theorem keyT : Tryz.prog.keyType 50 = true := by kernel_rfl
theorem cellsT : Tryz.prog.cellsOf 50 = 4 := by kernel_rfl
theorem cellsI : Tryz.prog.cellsOf 3 = 1 := by kernel_rfl
/-- All four numbers are Go's. -/
def wfN (y : Nd) : Prop := ((-9223372036854775808 ≤ y.kd ∧ y.kd ≤ 9223372036854775807) ∧ (-9223372036854775808 ≤ y.fn ∧ y.fn ≤ 9223372036854775807)) ∧ ((-9223372036854775808 ≤ y.bk ∧ y.bk ≤ 9223372036854775807) ∧ (-9223372036854775808 ≤ y.st ∧ y.st ≤ 9223372036854775807))
theorem wf_lit {x : Int} (h : -9223372036854775808 ≤ x ∧ x ≤ 9223372036854775807) : (Lit.int .i64 x).wf = true := by
  have m0 : IntKind.i64.min = -9223372036854775808 := by decide
  have m1 : IntKind.i64.max = 9223372036854775807 := by decide
  simp [Lit.wf, m0, m1]; omega
theorem key_node (y : Nd) (h : wfN y) : ∃ kl, keyOf Tryz.prog 50 (agN y) = some kl := by
  obtain ⟨m, hm⟩ : ∃ m, Tryz.prog.types.size + 1 = m + 1 + 1 := by
    have h : 50 < Tryz.prog.types.size := rowT
    generalize Tryz.prog.types.size = s at h
    exact ⟨s - 1, by have h : 50 < s := h; omega⟩
  have hf : (agN y).formed Tryz.prog 50 = true := by unfold agN; simp [Value.formed, Tryz.underlying50, cellsT]
  obtain ⟨⟨h1, h2⟩, h3, h4⟩ := h
  have e1 := wf_lit h1; have e2 := wf_lit h2; have e3 := wf_lit h3; have e4 := wf_lit h4
  apply Option.isSome_iff_exists.1
  unfold keyOf
  rw [Tryz.underlying50]
  simp only [keyT, hf, Bool.and_self, if_true]
  rw [hm]
  unfold agN
  simp [Program.keyLits, Tryz.underlying50, Tryz.underlying3, cellsT, cellsI, Value.cells, e1, e2, e3, e4]
/-- The first place of a node in a list, or 0. -/
def numN (L : List Nd) (x : Nd) : Nat := (L.findIdx? fun y => decide (y = x)).getD 0
theorem numN_nil (x : Nd) : numN [] x = 0 := rfl
theorem numN_snoc {L : List Nd} {x : Nd} (h : x ∉ L) (y : Nd) : numN (L ++ [x]) y = if y = x then L.length else numN L y := by
  unfold numN
  rw [List.findIdx?_append]
  by_cases e : y = x
  · subst e
    rw [if_pos rfl]
    have : L.findIdx? (fun z => decide (z = y)) = none := by
      rw [List.findIdx?_eq_none_iff]
      intro z hz
      simp
      rintro rfl
      exact h hz
    rw [this]
    simp
  · rw [if_neg e]
    have : [x].findIdx? (fun z => decide (z = y)) = none := by
      rw [List.findIdx?_eq_none_iff]
      intro z hz
      simp at hz
      subst hz
      simp
      exact fun h => e h.symm
    rw [this]
    cases L.findIdx? (fun z => decide (z = y)) <;> simp
theorem numN_lt {L : List Nd} (h : 1 ≤ L.length) (x : Nd) : numN L x < L.length := by
  unfold numN
  cases he : L.findIdx? (fun y => decide (y = x)) with
  | none => simp; omega
  | some i =>
    have := List.findIdx?_eq_some_iff_findIdx_eq.1 he
    simp
    exact this.1
/-- Block b is a map that says the number of each node of L, and 0 of all others. -/
def NMp (w : World) (b : Nat) (L : List Nd) : Prop :=
  ∃ (D : DataW Unit) (n : Nat), w.ownsMap Tryz.prog 50 (plainElem Tryz.prog 3) b n D ∧ n ≤ L.length ∧ Maps.IsMap D ∧ ∀ (y : Nd) (kl : Lit), keyOf Tryz.prog 50 (agN y) = some kl → D.atKey kl (.lit (.int .i64 0)) = .lit (.int .i64 (numN L y : Nat))
theorem zeroI (w : World) : (zeroValue 3).run Tryz.prog w = .ok (.int .i64 0) w := by kernel_rfl
section
variable {w w' : World} {b : Nat} {L : List Nd}
theorem NMp.made (w : World) : NMp (w.alloc (.map #[] 0)) w.heap.size [] :=
  ⟨.map [], 0, World.ownsMap_made w _ _ _, Nat.le_refl _, Maps.isMap_empty, fun y kl _ => by rw [numN_nil]; simp [DataW.atKey]⟩
theorem NMp.lt (h : NMp w b L) : b < w.heap.size := by obtain ⟨D, n, h, _⟩ := h; exact h.lt
theorem NMp.kept {row : Option Nat} (h : NMp w b L) (hg : w.grownBy w' row) (hne : some b ≠ row) : NMp w' b L := by
  obtain ⟨D, n, h, r⟩ := h
  exact ⟨D, n, h.kept hg hne, r⟩
theorem NMp.below (h : NMp w b L) (hb : Below w.heap.size w w') : NMp w' b L := h.kept (grown_of_below hb none) (by simp)
theorem NMp.look (h : NMp w b L) (y : Nd) (hy : wfN y) : (Instr.lookup 83 (.map (some b)) (agN y) false).run Tryz.prog w = .ok (.int .i64 (numN L y : Nat)) w := by
  obtain ⟨D, n, h, hn, hi, hD⟩ := h
  obtain ⟨kl, hk⟩ := key_node y hy
  obtain ⟨c, hrun, hat, _⟩ := h.lookup_int keyed Tryz.underlying83 Tryz.underlying3 (zeroI w) hk
  rw [hD y kl hk] at hat
  injection hat with hat
  injection hat with _ hat
  rw [hrun, ← hat]
theorem NMp.isMap (h : NMp w b L) : ∃ es clock, w.heap[b]? = some (.map es clock) := by
  obtain ⟨D, n, h, _⟩ := h
  obtain ⟨es, clock, h1, _⟩ := h
  exact ⟨es, clock, h1⟩
theorem NMp.put {ops : Array Oper} {rest : List Oper} {o : Oper} {a : Act} {Q : Exit → Act → World → Prop} (hg : o.guard = none) (m x v : Operand) (hop : o.op = Op.mapUpdate 83 m x v)
    (hm : a.eval m = .map (some b)) (h : NMp w b L) (hn : L.length < 1000000) (y : Nd) (hy : wfN y) (hno : y ∉ L) (hx : a.eval x = agN y) (hv : a.eval v = .int .i64 (L.length : Nat))
    (hK : ∀ w', NMp w' b (L ++ [y]) → w.grownBy w' (some b) → wpList Tryz.prog ops Q rest (a.put o.dst undef) w') : wpList Tryz.prog ops Q (o :: rest) a w := by
  obtain ⟨D, n, hO, hl, hi, hD⟩ := h
  obtain ⟨kl, hk⟩ := key_node y hy
  refine wpList_mapUpdate_own w hg m x v 83 hop 50 3 keyed Tryz.underlying83 (plainElem Tryz.prog 3) b n D hm hO (by unfold maxLen; omega) (agN y) (.int .i64 (L.length : Nat)) kl hx hv hk (.lit (.int .i64 (L.length : Nat))) [] (plainElem_int Tryz.underlying3 (wf_lit (by omega))) fun w' hO' hg' => hK w' ⟨D.put kl (.lit (.int .i64 (L.length : Nat))), n + 1, hO', by simp; omega, hi.put _ _, fun y' kl' hk' => ?_⟩ hg'
  rw [numN_snoc hno]
  by_cases e : y' = y
  · subst e
    obtain rfl := Option.some.inj (hk.symm.trans hk')
    rw [if_pos rfl, Maps.atKey_put_same hi (keyed.key hk)]
  · rw [if_neg e, Maps.atKey_put_other (fun h => ?_), hD y' kl' hk']
    subst h
    have := keyed.inj hk hk'
    unfold agN at this
    simp at this
    apply e
    cases y; cases y'
    simp at this
    simp [this]
end
set_option maxHeartbeats 1600000 in
theorem numbers_any (A : Option Addr) (n c : Nat) (L : List Nd) (w : World) (h : EAt w [] A (L.flatMap ndc)) (hl : L.length = n) (hn : n ≤ 100000) (hd : L.Nodup) (hw : ∀ y ∈ L, wfN y) :
    Calls Tryz.prog 44 #[.slice A n c] w fun e w' => ∃ b : Nat, e = .returned (.map (some b)) ∧ NMp w' b L ∧ w.heap.size ≤ b ∧ Below w.heap.size w w' := by
  have HE := hid h
  have HL := hid hl
  have HD := hid hd
  have HW := hid hw
  clear h hd hw hl
  have hmm := @run_makeMap Tryz.prog
  go_enter Tryz.func44, Tryz.ntmps44
  go_wp2_with fail
  have HM := hid (NMp.made w)
  have HB := hid ((Below.refl w.heap.size w).alloc (Nat.le_refl _) (.map #[] 0))
  clear hmm
  generalize w.alloc (.map #[] 0) = w0 at HM HB ⊢
  have hG : ∃ G, w.heap.size = G := ⟨_, rfl⟩
  obtain ⟨G, hG⟩ := hG
  have HGe := hid hG
  rw [hG] at HM ⊢
  clear hG
  go_loopw [4, 5, 9] (fun _ _ iv wr => ∃ k : Nat, k ≤ n ∧ iv = .int .i64 k ∧ Hid (NMp wr G (L.take k)) ∧ Hid (Below w.heap.size w wr)) (fun _ _ iv _ => n - (intOf iv).toNat)
  case atStart => exact ⟨0, by omega, rfl, hid (by rw [List.take_zero]; exact HM.out), HB⟩
  case round =>
    clear HM HB
    obtain ⟨k, hk, rfl, hM, hB⟩ := hrel
    by_cases hlt : k < n
    · obtain ⟨y, hy, hym⟩ := get_at HL.out hlt
      obtain ⟨ad, hA, had, hc1, hc2, hc3, hc4⟩ := Nd.cells (HE.out.go (Go2.below hB.out)) hy
      subst hA
      have Hyw := hid (HW.out y hym)
      have Htk := hid (show L.take (k + 1) = L.take k ++ [y] by rw [List.take_add_one, hy]; rfl)
      have Hlen := hid (show (L.take k).length = k by rw [List.length_take, HL.out]; omega)
      have Hno := hid (show y ∉ L.take k by
        intro hm
        obtain ⟨i, hi, he⟩ := List.mem_iff_getElem.1 hm
        rw [List.getElem_take] at he
        obtain ⟨h1, h2⟩ := List.getElem?_eq_some_iff.1 hy
        have hi2 : i < k := by rw [List.length_take] at hi; omega
        have := (List.nodup_iff_pairwise_ne.1 HD.out)
        exact (List.pairwise_iff_getElem.1 this i k (by omega) h1 hi2) (he.trans h2.symm))
      have ha := (Below.refl wr.heap.size wr).alloc (Nat.le_refl _) (.cells #[.int .i64 y.kd, .int .i64 y.fn, .int .i64 y.bk, .int .i64 y.st] 50)
      have HF := hid (Fb.new wr #[.int .i64 y.kd, .int .i64 y.fn, .int .i64 y.bk, .int .i64 y.st] 50)
      have HM2 := hid (hM.out.below ha)
      have HB2 := hid (below_step hB.out ha)
      clear hy hym ha hM hB
      obtain ⟨yk, yf, yb, ys⟩ := y
      simp only at *
      obtain ⟨g0, g1, g2, g3⟩ := Fb.four HF.out
      clear HF
      have hGn : w.heap.size ≤ G := by have := HGe.out; omega
      go_wp2_with ((
        at_mapUpdate
        go_must (refine NMp.put rfl _ _ _ rfl rfl HM2.out (by rw [Hlen.out]; omega) ⟨yk, yf, yb, ys⟩ Hyw.out Hno.out rfl (by rw [Hlen.out]; rfl) ?_)
        intro w5 hm5 hg5
        have HM5 := hid (Htk.out.symm ▸ hm5)
        have HB5 := hid (HB2.out.grown hg5 HB2.out.size (fun k hk => by injection hk with hk; omega))
        clear hm5 hg5 g0 g1 g2 g3))
      go_roundw
      case rel => exact ⟨k + 1, by omega, by go_num, HM5, HB5⟩
      case measure => simp [intOf]; omega
    · obtain rfl : k = n := by omega
      have HM3 := hid (show NMp wr G L from by have := hM.out; rw [List.take_of_length_le (by rw [HL.out]; omega)] at this; exact this)
      clear hM
      have hGn : w.heap.size ≤ G := by have := HGe.out; omega
      go_wp2_with fail
      go_ret
      exact ⟨G, rfl, HM3.out, hGn, hB.out⟩
end Go.Proofs.YtcgichfanfijjaaGreatDoor

namespace Go.Proofs.YtcgichfanfijjaaGreatDoor
set_option maxRecDepth 20000
set_option linter.unusedVariables false
set_option linter.unusedSimpArgs false
open Go.ChangeShapes Go.WideShapes Go.ChangeAt Go.RowKit

/-- The targets of edges from a, in their order. -/
def outF (E : List (Nat × Nat)) (a : Nat) : List Int := (E.filter fun e => e.1 == a).map fun e => (e.2 : Int)
theorem outF_snoc (E : List (Nat × Nat)) (a c b : Nat) : upd (outF E) a (outF E a ++ [(c : Int)]) b = outF (E ++ [(a, c)]) b := by
  by_cases e : b = a
  · subst e
    rw [upd_at]
    unfold outF
    simp
  · rw [upd_ne _ _ e]
    unfold outF
    have : (a == b) = false := by simp; exact fun h => e h.symm
    simp [this]
theorem outF_len (E : List (Nat × Nat)) (a : Nat) : (outF E a).length ≤ E.length := by
  unfold outF
  rw [List.length_map]
  exact List.length_filter_le _ _
theorem outF_mem {E : List (Nat × Nat)} {a : Nat} {x : Int} : x ∈ outF E a ↔ ∃ c : Nat, (a, c) ∈ E ∧ x = c := by
  unfold outF
  rw [List.mem_map]
  constructor
  · rintro ⟨⟨a', c⟩, he, rfl⟩
    rw [List.mem_filter] at he
    obtain ⟨h1, h2⟩ := he
    simp at h2
    subst h2
    exact ⟨c, h1, rfl⟩
  · rintro ⟨c, h1, rfl⟩
    exact ⟨(a, c), List.mem_filter.2 ⟨h1, by simp⟩, rfl⟩
theorem Mx.of {w : World} {M N : Nat} {f : Nat → List Int} (h : Mx w M N f) {i : Nat} (hi : i < N) {v : Value} (hc : w.cell? ⟨M, i, none⟩ = some v) :
    w.ownsRow (M + 1) 3 1 v (f i).length (ints (f i)) ∧ (∀ w' : World, w.grownBy w' v.ownBlock → w'.cell? ⟨M, i, none⟩ = some v ∧ w'.frozen? ⟨M, i, none⟩ = false) ∧
    (∀ (w' : World) (u : Value) (l : List Int), w.grownBy w' v.ownBlock → w'.ownsRow (M + 1) 3 1 u l.length (ints l) → (∀ g, u.ownBlock = some g → v.ownBlock = some g ∨ w.heap.size ≤ g) → Mx (w'.setCell ⟨M, i, none⟩ u) M N (upd f i l)) := by
  obtain ⟨v2, h1, h2, h3, h4, h5, h6⟩ := h.at hi
  obtain rfl : v = v2 := Option.some.inj (hc.symm.trans h2)
  exact ⟨h1, h5, h6⟩
theorem Mx.fb {w : World} {M N : Nat} {f : Nat → List Int} (h : Mx w M N f) {B t : Nat} {cs : Array Value} (hb : Fb w B cs t) (ht : t ≠ 22) : B ≠ M := by
  obtain ⟨vs, h1, h2, _⟩ := h
  rintro rfl
  unfold Fb at hb h2
  rw [hb] at h2
  injection h2 with h2
  injection h2 with _ h2
  exact ht h2
/-- What stands in blocks of other types stays. -/
def KeepF (w w' : World) : Prop := w.heap.size ≤ w'.heap.size ∧ ∀ (k : Nat) (cs : Array Value) (t : Nat), t ≠ 3 → t ≠ 22 → Fb w k cs t → Fb w' k cs t
theorem KeepF.trans {a b c : World} (h : KeepF a b) (h2 : KeepF b c) : KeepF a c := ⟨Nat.le_trans h.1 h2.1, fun k cs t h3 h22 hf => h2.2 k cs t h3 h22 (h.2 k cs t h3 h22 hf)⟩
theorem KeepF.below {a b : World} (h : Below a.heap.size a b) : KeepF a b := ⟨h.size, fun k cs t _ _ hf => hf.below h hf.lt⟩
/-- The builder as it stands: its block B, the map MB, the lists of successors in M. -/
structure Bls (w0 : World) (x : PH) (B MB M N : Nat) (L : List Nd) (E : List (Nat × Nat)) (w : World) : Prop where
  box : Fb w B #[.slice x.A x.n x.c, .map (some MB), .slice (some ⟨M, 0, none⟩) N N] 86
  map : NMp w MB L
  mx : Mx w M N (outF E)
  bel : Below w0.heap.size w0 w
  mle : w0.heap.size ≤ M
theorem Bls.below {w0 w w' : World} {x : PH} {B MB M N : Nat} {L : List Nd} {E : List (Nat × Nat)} (h : Bls w0 x B MB M N L E w) (hb : Below w.heap.size w w') : Bls w0 x B MB M N L E w' :=
  ⟨h.box.below hb h.box.lt, h.map.below hb, h.mx.below hb, below_step h.bel hb, h.mle⟩
theorem map_ne_own {w : World} {MB base ty size n : Nat} {v : Value} {xs : List Value} {L : List Nd} (hm : NMp w MB L) (h : w.ownsRow base ty size v n xs) : some MB ≠ v.ownBlock := by
  obtain ⟨es, clock, hm⟩ := hm.isMap
  rcases h.2 with ⟨rfl, _⟩ | ⟨g', cap, cur, rfl, _, hg, _⟩
  · simp [Value.ownBlock]
  · intro e
    simp only [Value.ownBlock, Option.some.injEq] at e
    subst e
    rw [hm] at hg
    cases hg
theorem Bls.push {w0 X w9 : World} {x : PH} {B MB M N : Nat} {L : List Nd} {E : List (Nat × Nat)} (h : Bls w0 x B MB M N L E X) {a c g cap : Nat} {rv : Value} (ha : a < N) (hrv : X.cell? ⟨M, a, none⟩ = some rv)
    (hown : w9.ownsRow (M + 1) 3 1 (.slice (some ⟨g, 0, none⟩) ((outF E a).length + 1) cap) ((outF E a).length + 1) (ints (outF E a) ++ [.int .i64 (c : Int)])) (hg : X.grownBy w9 rv.ownBlock) (hat : rv.ownBlock = some g ∨ g = X.heap.size) :
    ((w9.cell? ⟨M, a, none⟩ = some rv ∧ w9.frozen? ⟨M, a, none⟩ = false) ∧ Fb w9 B #[.slice x.A x.n x.c, .map (some MB), .slice (some ⟨M, 0, none⟩) N N] 86) ∧
    Bls w0 x B MB M N L (E ++ [(a, c)]) (w9.setCell ⟨M, a, none⟩ (.slice (some ⟨g, 0, none⟩) ((outF E a).length + 1) cap)) ∧
    KeepF X (w9.setCell ⟨M, a, none⟩ (.slice (some ⟨g, 0, none⟩) ((outF E a).length + 1) cap)) := by
  obtain ⟨ho, hk, hp⟩ := h.mx.of ha hrv
  have hkeep : ∀ (k : Nat) (cs : Array Value) (t : Nat), t ≠ 3 → t ≠ 22 → Fb X k cs t → Fb (w9.setCell ⟨M, a, none⟩ (.slice (some ⟨g, 0, none⟩) ((outF E a).length + 1) cap)) k cs t := fun k cs t h3 h22 hf =>
    (hf.grown hg (fb_ne_own hf ho h3)).far (by simpa using h.mx.fb hf h22) _
  refine ⟨⟨hk _ hg, h.box.grown hg (fb_ne_own h.box ho (by decide))⟩, ⟨hkeep B _ 86 (by decide) (by decide) h.box, ?_, ?_, ?_, h.mle⟩, ⟨by simpa [World.setCell] using hg.size, hkeep⟩⟩
  · refine (h.map.kept hg (map_ne_own h.map ho)).kept (setCell_grown w9 ⟨M, a, none⟩ _) ?_
    intro e
    injection e with e
    simp only at e
    obtain ⟨es, clock, hm⟩ := h.map.isMap
    obtain ⟨vs, h1, h2, _⟩ := h.mx
    unfold Fb at h2
    rw [← e, hm] at h2
    cases h2
  · have := hp w9 (.slice (some ⟨g, 0, none⟩) ((outF E a).length + 1) cap) (outF E a ++ [(c : Int)]) hg (by rw [ints_snoc, List.length_append]; exact hown) (own_hat hat)
    exact this.congr fun b _ => outF_snoc E a c b
  · exact (h.bel.grown hg h.bel.size (fun k hk2 => by have := (ho.lt k hk2).1; have := h.mle; omega)).setCell (by simpa using h.mle) _
theorem tcells9 {w : World} {M g a t : Nat} {u : Value} {cs : Array Value} (h : Fb (w.setCell ⟨M, a, none⟩ u) g cs t) (hne : g ≠ M) : Fb w g cs t := (Below.heap_setCell w ⟨M, a, none⟩ u g (by simpa using hne)).symm.trans h
def ag4 (y : Nd) : Array Value := #[.int .i64 y.kd, .int .i64 y.fn, .int .i64 y.bk, .int .i64 y.st]
theorem look_drewN {w : World} {MB : Nat} {L : List Nd} (h : NMp w MB L) (y : Nd) (hy : wfN y) (q : Nat) : (Instr.lookup 83 (.map (some MB)) (.agg #[.int .i64 y.kd, .int .i64 y.fn, .int .i64 y.bk, .int .i64 y.st]) false).run Tryz.prog (w.drewN q) = .ok (.int .i64 (numN L y : Nat)) (w.drewN q) :=
  (h.below (below_drewN (Below.refl _ _) q)).look y hy
set_option maxHeartbeats 6400000 in
theorem connect_any (w0 : World) (x : PH) (B MB M N : Nat) (L : List Nd) (E : List (Nat × Nat)) (w : World) (h : Bls w0 x B MB M N L E w) (hN : 1 ≤ N) (hL : L.length = N) (hE : E.length ≤ 1000000) (f t : Nd) (hf : wfN f) (ht : wfN t) :
    Calls Tryz.prog 77 #[.pointer (some ⟨B, 0, none⟩), agN f, agN t] w fun e w' => e = .returned (.tuple #[]) ∧ Bls w0 x B MB M N L (E ++ [(numN L f, numN L t)]) w' ∧ KeepF w w' := by
  obtain ⟨i1, hi, hz0, hz1, hz2⟩ := info_parts info3
  have Hi := hid hi; have Hz0 := hid hz0; have Hz1 := hid hz1; have Hz2 := hid hz2
  clear hi hz0 hz1 hz2
  have hb0 : Below w.heap.size w ((w.alloc (.cells #[.int .i64 f.kd, .int .i64 f.fn, .int .i64 f.bk, .int .i64 f.st] 50)).alloc (.cells #[.int .i64 t.kd, .int .i64 t.fn, .int .i64 t.bk, .int .i64 t.st] 50)) :=
    ((Below.refl _ _).alloc (Nat.le_refl _) _).alloc (by simp) _
  have H1 := hid (h.below hb0)
  have HK0 := hid (KeepF.below hb0)
  have HF := hid (((Fb.new w #[.int .i64 f.kd, .int .i64 f.fn, .int .i64 f.bk, .int .i64 f.st] 50).alloc (.cells #[.int .i64 t.kd, .int .i64 t.fn, .int .i64 t.bk, .int .i64 t.st] 50)))
  have HT := hid (show Fb ((w.alloc (.cells #[.int .i64 f.kd, .int .i64 f.fn, .int .i64 f.bk, .int .i64 f.st] 50)).alloc (.cells #[.int .i64 t.kd, .int .i64 t.fn, .int .i64 t.bk, .int .i64 t.st] 50)) (w.heap.size + 1) #[.int .i64 t.kd, .int .i64 t.fn, .int .i64 t.bk, .int .i64 t.st] 50 by
    have := Fb.new (w.alloc (.cells #[.int .i64 f.kd, .int .i64 f.fn, .int .i64 f.bk, .int .i64 f.st] 50)) #[.int .i64 t.kd, .int .i64 t.fn, .int .i64 t.bk, .int .i64 t.st] 50
    rwa [World.size_alloc] at this)
  have Ha := hid (show numN L f < N by rw [← hL]; exact numN_lt (by omega) f)
  have Hc := hid (show numN L t < N by rw [← hL]; exact numN_lt (by omega) t)
  have Hlf := hid (fun (u : World) (hu : NMp u MB L) (q : Nat) => look_drewN hu f hf q)
  have Hlt := hid (fun (u : World) (hu : NMp u MB L) (q : Nat) => look_drewN hu t ht q)
  clear h hb0
  obtain ⟨fk, ff, fb, fs⟩ := f
  obtain ⟨tk, tf, tb, ts⟩ := t
  unfold agN
  simp only at *
  generalize numN L ⟨fk, ff, fb, fs⟩ = a at *
  generalize numN L ⟨tk, tf, tb, ts⟩ = c at *
  go_enter Tryz.func77, Tryz.ntmps77
  go_wp2_with fail
  have hG : ∃ G, w.heap.size = G := ⟨_, rfl⟩
  obtain ⟨G, hG⟩ := hG
  rw [hG] at HF HT ⊢
  clear hG
  generalize (w.alloc (.cells #[.int .i64 fk, .int .i64 ff, .int .i64 fb, .int .i64 fs] 50)).alloc (.cells #[.int .i64 tk, .int .i64 tf, .int .i64 tb, .int .i64 ts] 50) = W at *
  obtain ⟨f0, f1, f2, f3⟩ := Fb.four HF.out
  obtain ⟨t0, t1, t2, t3⟩ := Fb.four HT.out
  obtain ⟨b0, b1, b2⟩ := H1.out.box.thr
  have hlf := Hlf.out W H1.out.map
  go_quiet (fail)
  clear f0 f1 f2 f3 hlf t0 t1 t2 t3 b0 b1 b2
  have H2 := hid (H1.out.below (below_drewN (Below.refl _ _) nq))
  have HK1 := hid (HK0.out.trans (KeepF.below (below_drewN (Below.refl W.heap.size W) nq)))
  have HT2 := hid (HT.out.drewN nq)
  clear HT HF H1 HK0 Hlf
  generalize W.drewN nq = X at *
  have hTl := HT2.out.lt
  obtain ⟨t0, t1, t2, t3⟩ := Fb.four HT2.out
  have hBl := H2.out.box.lt
  obtain ⟨b0, b1, b2⟩ := H2.out.box.thr
  have hMl := H2.out.mx.lt
  have hMl2 : M + 1 ≤ X.heap.size := hMl
  obtain ⟨rv, hown, hcell, hfr, ⟨rA, rc, hrv⟩, -, -⟩ := H2.out.mx.at Ha.out
  have HO := hid hown
  have Hcell := hid hcell
  have hlt := Hlt.out X H2.out.map 1
  change _ = Result.ok _ X.drew at hlt
  change Sem.run _ _ X.drew = _ at hlt
  have hlen := outF_len E a
  have hal : ∀ q o, ((X.drewN q).alloc o).cell? ⟨M, a, none⟩ = some rv := fun q o => by
    rw [World.cell?_alloc_lt (X.drewN q) o ⟨M, a, none⟩ (by exact hMl)]; exact hcell
  have HA := hid hal
  have HTf := hid HT2.out
  clear hown hal HT2 Hlt
  subst hrv
  have han := Ha.out
  have HSd := hid (show ∀ v : World, Below X.heap.size X v → (v.cell? ⟨B, 1, none⟩ = some (.map (some MB)) ∧ v.cell? ⟨B, 2, none⟩ = some (.slice (some ⟨M, 0, none⟩) N N)) ∧ (v.cell? ⟨G + 1, 0, none⟩ = some (.int .i64 tk) ∧ v.cell? ⟨G + 1, 1, none⟩ = some (.int .i64 tf) ∧ v.cell? ⟨G + 1, 2, none⟩ = some (.int .i64 tb) ∧ v.cell? ⟨G + 1, 3, none⟩ = some (.int .i64 ts)) from fun v hv =>
    ⟨⟨(hv.cell (p := ⟨B, 1, none⟩) hBl).trans b1, (hv.cell (p := ⟨B, 2, none⟩) hBl).trans b2⟩, (hv.cell (p := ⟨G + 1, 0, none⟩) hTl).trans t0, (hv.cell (p := ⟨G + 1, 1, none⟩) hTl).trans t1, (hv.cell (p := ⟨G + 1, 2, none⟩) hTl).trans t2, (hv.cell (p := ⟨G + 1, 3, none⟩) hTl).trans t3⟩)
  have HBM := hid (H2.out.mx.fb H2.out.box (by decide))
  have HGM := hid (H2.out.mx.fb HTf.out (by decide))
  go_wp2_with fail
  refine wp_region_noPanic ?_
  refine wp_region_held_drew (S := (fun v => (v.cell? ⟨B, 1, none⟩ = some (.map (some MB)) ∧ v.cell? ⟨B, 2, none⟩ = some (.slice (some ⟨M, 0, none⟩) N N)) ∧ (v.cell? ⟨G + 1, 0, none⟩ = some (.int .i64 tk) ∧ v.cell? ⟨G + 1, 1, none⟩ = some (.int .i64 tf) ∧ v.cell? ⟨G + 1, 2, none⟩ = some (.int .i64 tb) ∧ v.cell? ⟨G + 1, 3, none⟩ = some (.int .i64 ts)))) (by kernel_rfl) (HSd.out _ (Below.refl _ _).drew) (fun hHeld => ?_)
  refine wpAnyH_take (i := 0) (oi := _) (v := ?_) rfl (by kernel_rfl) (by kernel_rfl) (by kernel_rfl) (fun _ _ _ h => h) (Or.inl ⟨by rfl, ?_⟩) (by assumption) ?_
  rotate_left
  · (intro w hSw; (try dsimp only at hSw); go_simp; try with_reducible rfl)
  try simp only [Act.put, List.setIfInBounds_toArray, List.set_cons_zero, List.set_cons_succ]
  refine wpAnyH_take (i := 1) (oi := _) (v := ?_) rfl (by kernel_rfl) (by kernel_rfl) (by kernel_rfl) (fun _ _ _ h => h) (Or.inl ⟨by rfl, ?_⟩) (by assumption) ?_
  rotate_left
  · (intro w hSw; (try dsimp only at hSw); go_simp; try with_reducible rfl)
  try simp only [Act.put, List.setIfInBounds_toArray, List.set_cons_zero, List.set_cons_succ]
  refine wpAnyH_take (i := 2) (oi := _) (v := ?_) rfl (by kernel_rfl) (by kernel_rfl) (by kernel_rfl) (fun _ _ _ h => h) (Or.inl ⟨by rfl, ?_⟩) (by assumption) ?_
  rotate_left
  · (intro w hSw; (try dsimp only at hSw); go_simp; try with_reducible rfl)
  try simp only [Act.put, List.setIfInBounds_toArray, List.set_cons_zero, List.set_cons_succ]
  refine wpAnyH_take (i := 3) (oi := _) (v := ?_) rfl (by kernel_rfl) (by kernel_rfl) (by kernel_rfl) (fun _ _ _ h => h) (Or.inl ⟨by rfl, ?_⟩) (by assumption) ?_
  rotate_left
  · (intro w hSw; (try dsimp only at hSw); go_simp; try with_reducible rfl)
  try simp only [Act.put, List.setIfInBounds_toArray, List.set_cons_zero, List.set_cons_succ]
  refine wpAnyH_take (i := 4) (oi := _) (v := ?_) rfl (by kernel_rfl) (by kernel_rfl) (by kernel_rfl) (fun _ _ _ h => h) (Or.inl ⟨by rfl, ?_⟩) (by assumption) ?_
  rotate_left
  · (intro w hSw; (try dsimp only at hSw); go_simp; try with_reducible rfl)
  try simp only [Act.put, List.setIfInBounds_toArray, List.set_cons_zero, List.set_cons_succ]
  refine wpAnyH_take (i := 5) (oi := _) (v := ?_) rfl (by kernel_rfl) (by kernel_rfl) (by kernel_rfl) (fun _ _ _ h => h) (Or.inl ⟨by rfl, ?_⟩) (by assumption) ?_
  rotate_left
  · (intro w hSw; (try dsimp only at hSw); go_simp; try with_reducible rfl)
  try simp only [Act.put, List.setIfInBounds_toArray, List.set_cons_zero, List.set_cons_succ]
  refine wpAnyH_take (i := 6) (oi := _) (v := ?_) rfl (by kernel_rfl) (by kernel_rfl) (by kernel_rfl) (fun _ _ _ h => h) (Or.inl ⟨by rfl, ?_⟩) (by assumption) ?_
  rotate_left
  · (intro w hSw; (try dsimp only at hSw); go_simp; try with_reducible rfl)
  try simp only [Act.put, List.setIfInBounds_toArray, List.set_cons_zero, List.set_cons_succ]
  refine wpAnyH_take (i := 7) (oi := _) (v := ?_) rfl (by kernel_rfl) (by kernel_rfl) (by kernel_rfl) (fun _ _ _ h => h) (Or.inl ⟨by rfl, ?_⟩) (by assumption) ?_
  rotate_left
  · (intro w hSw; (try dsimp only at hSw); go_simp; try with_reducible rfl)
  try simp only [Act.put, List.setIfInBounds_toArray, List.set_cons_zero, List.set_cons_succ]
  refine wpAnyH_take (i := 8) (oi := _) (v := ?_) rfl (by kernel_rfl) (by kernel_rfl) (by kernel_rfl) (fun _ _ _ h => h) (Or.inl ⟨by rfl, ?_⟩) (by assumption) ?_
  rotate_left
  · (intro w hSw; (try dsimp only at hSw); go_simp; try with_reducible rfl)
  try simp only [Act.put, List.setIfInBounds_toArray, List.set_cons_zero, List.set_cons_succ]
  refine wpAnyH_take (i := 9) (oi := _) (v := ?_) rfl (by kernel_rfl) (by kernel_rfl) (by kernel_rfl) (fun _ _ _ h => h) (Or.inl ⟨by rfl, ?_⟩) (by assumption) ?_
  rotate_left
  · (intro w hSw; (try dsimp only at hSw); go_simp; try with_reducible rfl)
  try simp only [Act.put, List.setIfInBounds_toArray, List.set_cons_zero, List.set_cons_succ]
  refine wpAnyH_take (i := 10) (oi := _) (v := ?_) rfl (by kernel_rfl) (by kernel_rfl) (by kernel_rfl) (fun _ _ _ h => h) (Or.inl ⟨by rfl, ?_⟩) (by assumption) ?_
  rotate_left
  · (intro w hSw; (try dsimp only at hSw); go_simp; try with_reducible rfl)
  try simp only [Act.put, List.setIfInBounds_toArray, List.set_cons_zero, List.set_cons_succ]
  refine wpAnyH_take (i := 12) (oi := _) (v := ?_) rfl (by kernel_rfl) (by kernel_rfl) (by kernel_rfl) (fun _ _ _ h => h) (Or.inl ⟨by rfl, ?_⟩) (by assumption) ?_
  rotate_left
  · (intro w hSw; (try dsimp only at hSw); go_simp; try with_reducible rfl)
  try simp only [Act.put, List.setIfInBounds_toArray, List.set_cons_zero, List.set_cons_succ]
  refine wpAnyH_take (i := 13) (oi := _) (v := ?_) rfl (by kernel_rfl) (by kernel_rfl) (by kernel_rfl) (fun _ _ _ h => h) (Or.inl ⟨by rfl, ?_⟩) (by assumption) ?_
  rotate_left
  · (intro w hSw; (try dsimp only at hSw); go_simp; try with_reducible rfl)
  try simp only [Act.put, List.setIfInBounds_toArray, List.set_cons_zero, List.set_cons_succ]
  refine wpAnyH_take (i := 14) (oi := _) (v := ?_) rfl (by kernel_rfl) (by kernel_rfl) (by kernel_rfl) (fun _ _ _ h => h) (Or.inl ⟨by rfl, ?_⟩) (by assumption) ?_
  rotate_left
  · (intro w hSw; (try dsimp only at hSw); go_simp; try with_reducible rfl)
  try simp only [Act.put, List.setIfInBounds_toArray, List.set_cons_zero, List.set_cons_succ]
  refine wpAnyH_take (i := 15) (oi := _) (v := ?_) rfl (by kernel_rfl) (by kernel_rfl) (by kernel_rfl) (fun _ _ _ h => h) (Or.inl ⟨by rfl, ?_⟩) (by assumption) ?_
  rotate_left
  · (intro w hSw; (try dsimp only at hSw); go_simp; try with_reducible rfl)
  try simp only [Act.put, List.setIfInBounds_toArray, List.set_cons_zero, List.set_cons_succ]
  refine wpAnyH_take (i := 16) (oi := _) (v := ?_) rfl (by kernel_rfl) (by kernel_rfl) (by kernel_rfl) (fun _ _ _ h => h) (Or.inl ⟨by rfl, ?_⟩) (by assumption) ?_
  rotate_left
  · (intro w hSw; (try dsimp only at hSw); go_simp; try with_reducible rfl)
  try simp only [Act.put, List.setIfInBounds_toArray, List.set_cons_zero, List.set_cons_succ]
  refine wpAnyH_ready (rs := [11, 17]) (by kernel_rfl) (by simp) ?_
  refine AllReadyH.cons (o := _) rfl (fun K hK => ?_) ?_
  ·
    go_simp
    refine hK.out _ _ ?_ (fun hHeld => ?_)
    · ((try dsimp only); (first | (with_reducible exact HSd.out _ (Below.refl _ _).drew) | (exact HSd.out _ ((Below.refl _ _).drew.alloc (by simp) _)) | assumption | (exact HS9.out) | (exact HS9s.out _)))
    clear hK K
    try simp only [Act.put, List.setIfInBounds_toArray, List.set_cons_zero, List.set_cons_succ]
    refine wpAnyH_ready (rs := [17]) (by kernel_rfl) (by simp) ?_
    refine AllReadyH.cons (o := _) rfl (fun K hK => ?_) ?_
    ·
      go_simp
      refine hK.out _ _ ?_ (fun hHeld => ?_)
      · ((try dsimp only); (first | (with_reducible exact HSd.out _ (Below.refl _ _).drew) | (exact HSd.out _ ((Below.refl _ _).drew.alloc (by simp) _)) | assumption | (exact HS9.out) | (exact HS9s.out _)))
      clear hK K
      try simp only [Act.put, List.setIfInBounds_toArray, List.set_cons_zero, List.set_cons_succ]
      refine wpAnyH_ready (rs := [18]) (by kernel_rfl) (by simp) ?_
      refine AllReadyH.cons (o := _) rfl (fun K hK => ?_) ?_
      ·
        go_simp
        refine hK.out _ _ ?_ (fun hHeld => ?_)
        · ((try dsimp only); (first | (with_reducible exact HSd.out _ (Below.refl _ _).drew) | (exact HSd.out _ ((Below.refl _ _).drew.alloc (by simp) _)) | assumption | (exact HS9.out) | (exact HS9s.out _)))
        clear hK K
        try simp only [Act.put, List.setIfInBounds_toArray, List.set_cons_zero, List.set_cons_succ]
        refine wpAnyH_ready (rs := [19]) (by kernel_rfl) (by simp) ?_
        refine AllReadyH.cons (o := _) rfl (fun K hK => ?_) ?_
        ·
          ((refine step_append_lies _ (by rfl) _ _ 22 (by rfl) (M + 1) 3 i1 _ 1 8 Tryz.underlying22 Hi.out Hz0.out Hz1.out Hz2.out (by rfl) (by decide) (.slice rA (outF E a).length rc) (outF E a).length (ints (outF E a)) (by rfl) (by exact own_below HO.out ((below_drewN (Below.refl _ _) 1).alloc (by simp) _))
                    ⟨_, 0, none⟩ 1 1 [Value.int .i64 (c : Int)] (by rfl) rfl (by exact int_new _ _ _) (one_int1 _) (by decide) (by unfold maxLen; omega) (by omega) (by simp; omega) _ rfl ?_))
          intro g9 cap9 w9 hown9 hgr9 hat9 hlt9
          obtain ⟨⟨⟨y0, y1⟩, hbx⟩, h9, hk9⟩ := Bls.push (H2.out.below ((below_drewN (Below.refl _ _) 1).alloc (by simp) _)) Ha.out (HA.out 1 _) hown9 hgr9 hat9
          have H9 := hid h9
          have HK9 := hid (HK1.out.trans ((KeepF.below ((below_drewN (Below.refl _ _) 1).alloc (by simp) _)).trans hk9))
          obtain ⟨u0, u1, u2⟩ := hbx.thr
          have hul := hbx.lt
          have HT9 := hk9.2 (G + 1) _ 50 (by decide) (by decide) (HTf.out.below ((below_drewN (Below.refl _ _) 1).alloc (by simp) _) HTf.out.lt)
          have HS9 := hid (And.intro (And.intro u1 u2) (Fb.four (tcells9 HT9 HGM.out)))
          have HS9s := hid (fun u => And.intro (And.intro ((cell_far (p := ⟨M, a, none⟩) (q := ⟨B, 1, none⟩) HBM.out u).trans u1) ((cell_far (p := ⟨M, a, none⟩) (q := ⟨B, 2, none⟩) HBM.out u).trans u2)) (Fb.four ((tcells9 HT9 HGM.out).far (p := ⟨M, a, none⟩) HGM.out u)))
          clear HT9 hown9 hgr9 hat9 hlt9 h9 hk9 hbx
          refine hK.out _ _ ?_ (fun hHeld => ?_)
          · ((try dsimp only); (first | (with_reducible exact HSd.out _ (Below.refl _ _).drew) | (exact HSd.out _ ((Below.refl _ _).drew.alloc (by simp) _)) | assumption | (exact HS9.out) | (exact HS9s.out _)))
          clear hK K
          try simp only [Act.put, List.setIfInBounds_toArray, List.set_cons_zero, List.set_cons_succ]
          refine wpAnyH_take (i := 20) (oi := _) (v := ?_) rfl (by kernel_rfl) (by kernel_rfl) (by kernel_rfl) (fun _ _ _ h => h) (Or.inl ⟨by rfl, ?_⟩) (by assumption) ?_
          rotate_left
          · (intro w hSw; (try dsimp only at hSw); go_simp; try with_reducible rfl)
          try simp only [Act.put, List.setIfInBounds_toArray, List.set_cons_zero, List.set_cons_succ]
          refine wpAnyH_ready (rs := [21]) (by kernel_rfl) (by simp) ?_
          refine AllReadyH.cons (o := _) rfl (fun K hK => ?_) ?_
          ·
            go_simp
            refine hK.out _ _ ?_ (fun hHeld => ?_)
            · ((try dsimp only); (first | (with_reducible exact HSd.out _ (Below.refl _ _).drew) | (exact HSd.out _ ((Below.refl _ _).drew.alloc (by simp) _)) | assumption | (exact HS9.out) | (exact HS9s.out _)))
            clear hK K
            try simp only [Act.put, List.setIfInBounds_toArray, List.set_cons_zero, List.set_cons_succ]
            refine wpAnyH_done (by kernel_rfl) ?_ _
            refine NoPanic.normal ?_
            go_wp2_with fail
            refine bodyPost_end (v := .tuple #[]) (by simp [results, Tryz.results77]) rfl ⟨rfl, H9.out, HK9.out⟩
          exact AllReadyH.nil
        exact AllReadyH.nil
      exact AllReadyH.nil
    exact AllReadyH.nil
  refine AllReadyH.cons (o := _) rfl (fun K hK => ?_) ?_
  ·
    go_simp
    refine hK.out _ _ ?_ (fun hHeld => ?_)
    · ((try dsimp only); (first | (with_reducible exact HSd.out _ (Below.refl _ _).drew) | (exact HSd.out _ ((Below.refl _ _).drew.alloc (by simp) _)) | assumption | (exact HS9.out) | (exact HS9s.out _)))
    clear hK K
    try simp only [Act.put, List.setIfInBounds_toArray, List.set_cons_zero, List.set_cons_succ]
    refine wpAnyH_ready (rs := [11, 18]) (by kernel_rfl) (by simp) ?_
    refine AllReadyH.cons (o := _) rfl (fun K hK => ?_) ?_
    ·
      go_simp
      refine hK.out _ _ ?_ (fun hHeld => ?_)
      · ((try dsimp only); (first | (with_reducible exact HSd.out _ (Below.refl _ _).drew) | (exact HSd.out _ ((Below.refl _ _).drew.alloc (by simp) _)) | assumption | (exact HS9.out) | (exact HS9s.out _)))
      clear hK K
      try simp only [Act.put, List.setIfInBounds_toArray, List.set_cons_zero, List.set_cons_succ]
      refine wpAnyH_ready (rs := [18]) (by kernel_rfl) (by simp) ?_
      refine AllReadyH.cons (o := _) rfl (fun K hK => ?_) ?_
      ·
        go_simp
        refine hK.out _ _ ?_ (fun hHeld => ?_)
        · ((try dsimp only); (first | (with_reducible exact HSd.out _ (Below.refl _ _).drew) | (exact HSd.out _ ((Below.refl _ _).drew.alloc (by simp) _)) | assumption | (exact HS9.out) | (exact HS9s.out _)))
        clear hK K
        try simp only [Act.put, List.setIfInBounds_toArray, List.set_cons_zero, List.set_cons_succ]
        refine wpAnyH_ready (rs := [19]) (by kernel_rfl) (by simp) ?_
        refine AllReadyH.cons (o := _) rfl (fun K hK => ?_) ?_
        ·
          ((refine step_append_lies _ (by rfl) _ _ 22 (by rfl) (M + 1) 3 i1 _ 1 8 Tryz.underlying22 Hi.out Hz0.out Hz1.out Hz2.out (by rfl) (by decide) (.slice rA (outF E a).length rc) (outF E a).length (ints (outF E a)) (by rfl) (by exact own_below HO.out ((below_drewN (Below.refl _ _) 1).alloc (by simp) _))
                    ⟨_, 0, none⟩ 1 1 [Value.int .i64 (c : Int)] (by rfl) rfl (by exact int_new _ _ _) (one_int1 _) (by decide) (by unfold maxLen; omega) (by omega) (by simp; omega) _ rfl ?_))
          intro g9 cap9 w9 hown9 hgr9 hat9 hlt9
          obtain ⟨⟨⟨y0, y1⟩, hbx⟩, h9, hk9⟩ := Bls.push (H2.out.below ((below_drewN (Below.refl _ _) 1).alloc (by simp) _)) Ha.out (HA.out 1 _) hown9 hgr9 hat9
          have H9 := hid h9
          have HK9 := hid (HK1.out.trans ((KeepF.below ((below_drewN (Below.refl _ _) 1).alloc (by simp) _)).trans hk9))
          obtain ⟨u0, u1, u2⟩ := hbx.thr
          have hul := hbx.lt
          have HT9 := hk9.2 (G + 1) _ 50 (by decide) (by decide) (HTf.out.below ((below_drewN (Below.refl _ _) 1).alloc (by simp) _) HTf.out.lt)
          have HS9 := hid (And.intro (And.intro u1 u2) (Fb.four (tcells9 HT9 HGM.out)))
          have HS9s := hid (fun u => And.intro (And.intro ((cell_far (p := ⟨M, a, none⟩) (q := ⟨B, 1, none⟩) HBM.out u).trans u1) ((cell_far (p := ⟨M, a, none⟩) (q := ⟨B, 2, none⟩) HBM.out u).trans u2)) (Fb.four ((tcells9 HT9 HGM.out).far (p := ⟨M, a, none⟩) HGM.out u)))
          clear HT9 hown9 hgr9 hat9 hlt9 h9 hk9 hbx
          refine hK.out _ _ ?_ (fun hHeld => ?_)
          · ((try dsimp only); (first | (with_reducible exact HSd.out _ (Below.refl _ _).drew) | (exact HSd.out _ ((Below.refl _ _).drew.alloc (by simp) _)) | assumption | (exact HS9.out) | (exact HS9s.out _)))
          clear hK K
          try simp only [Act.put, List.setIfInBounds_toArray, List.set_cons_zero, List.set_cons_succ]
          refine wpAnyH_take (i := 20) (oi := _) (v := ?_) rfl (by kernel_rfl) (by kernel_rfl) (by kernel_rfl) (fun _ _ _ h => h) (Or.inl ⟨by rfl, ?_⟩) (by assumption) ?_
          rotate_left
          · (intro w hSw; (try dsimp only at hSw); go_simp; try with_reducible rfl)
          try simp only [Act.put, List.setIfInBounds_toArray, List.set_cons_zero, List.set_cons_succ]
          refine wpAnyH_ready (rs := [21]) (by kernel_rfl) (by simp) ?_
          refine AllReadyH.cons (o := _) rfl (fun K hK => ?_) ?_
          ·
            go_simp
            refine hK.out _ _ ?_ (fun hHeld => ?_)
            · ((try dsimp only); (first | (with_reducible exact HSd.out _ (Below.refl _ _).drew) | (exact HSd.out _ ((Below.refl _ _).drew.alloc (by simp) _)) | assumption | (exact HS9.out) | (exact HS9s.out _)))
            clear hK K
            try simp only [Act.put, List.setIfInBounds_toArray, List.set_cons_zero, List.set_cons_succ]
            refine wpAnyH_done (by kernel_rfl) ?_ _
            refine NoPanic.normal ?_
            go_wp2_with fail
            refine bodyPost_end (v := .tuple #[]) (by simp [results, Tryz.results77]) rfl ⟨rfl, H9.out, HK9.out⟩
          exact AllReadyH.nil
        exact AllReadyH.nil
      exact AllReadyH.nil
    refine AllReadyH.cons (o := _) rfl (fun K hK => ?_) ?_
    ·
      go_simp
      refine hK.out _ _ ?_ (fun hHeld => ?_)
      · ((try dsimp only); (first | (with_reducible exact HSd.out _ (Below.refl _ _).drew) | (exact HSd.out _ ((Below.refl _ _).drew.alloc (by simp) _)) | assumption | (exact HS9.out) | (exact HS9s.out _)))
      clear hK K
      try simp only [Act.put, List.setIfInBounds_toArray, List.set_cons_zero, List.set_cons_succ]
      refine wpAnyH_ready (rs := [11]) (by kernel_rfl) (by simp) ?_
      refine AllReadyH.cons (o := _) rfl (fun K hK => ?_) ?_
      ·
        go_simp
        refine hK.out _ _ ?_ (fun hHeld => ?_)
        · ((try dsimp only); (first | (with_reducible exact HSd.out _ (Below.refl _ _).drew) | (exact HSd.out _ ((Below.refl _ _).drew.alloc (by simp) _)) | assumption | (exact HS9.out) | (exact HS9s.out _)))
        clear hK K
        try simp only [Act.put, List.setIfInBounds_toArray, List.set_cons_zero, List.set_cons_succ]
        refine wpAnyH_ready (rs := [19]) (by kernel_rfl) (by simp) ?_
        refine AllReadyH.cons (o := _) rfl (fun K hK => ?_) ?_
        ·
          ((refine step_append_lies _ (by rfl) _ _ 22 (by rfl) (M + 1) 3 i1 _ 1 8 Tryz.underlying22 Hi.out Hz0.out Hz1.out Hz2.out (by rfl) (by decide) (.slice rA (outF E a).length rc) (outF E a).length (ints (outF E a)) (by rfl) (by exact own_below HO.out ((below_drewN (Below.refl _ _) 1).alloc (by simp) _))
                    ⟨_, 0, none⟩ 1 1 [Value.int .i64 (c : Int)] (by rfl) rfl (by exact int_new _ _ _) (one_int1 _) (by decide) (by unfold maxLen; omega) (by omega) (by simp; omega) _ rfl ?_))
          intro g9 cap9 w9 hown9 hgr9 hat9 hlt9
          obtain ⟨⟨⟨y0, y1⟩, hbx⟩, h9, hk9⟩ := Bls.push (H2.out.below ((below_drewN (Below.refl _ _) 1).alloc (by simp) _)) Ha.out (HA.out 1 _) hown9 hgr9 hat9
          have H9 := hid h9
          have HK9 := hid (HK1.out.trans ((KeepF.below ((below_drewN (Below.refl _ _) 1).alloc (by simp) _)).trans hk9))
          obtain ⟨u0, u1, u2⟩ := hbx.thr
          have hul := hbx.lt
          have HT9 := hk9.2 (G + 1) _ 50 (by decide) (by decide) (HTf.out.below ((below_drewN (Below.refl _ _) 1).alloc (by simp) _) HTf.out.lt)
          have HS9 := hid (And.intro (And.intro u1 u2) (Fb.four (tcells9 HT9 HGM.out)))
          have HS9s := hid (fun u => And.intro (And.intro ((cell_far (p := ⟨M, a, none⟩) (q := ⟨B, 1, none⟩) HBM.out u).trans u1) ((cell_far (p := ⟨M, a, none⟩) (q := ⟨B, 2, none⟩) HBM.out u).trans u2)) (Fb.four ((tcells9 HT9 HGM.out).far (p := ⟨M, a, none⟩) HGM.out u)))
          clear HT9 hown9 hgr9 hat9 hlt9 h9 hk9 hbx
          refine hK.out _ _ ?_ (fun hHeld => ?_)
          · ((try dsimp only); (first | (with_reducible exact HSd.out _ (Below.refl _ _).drew) | (exact HSd.out _ ((Below.refl _ _).drew.alloc (by simp) _)) | assumption | (exact HS9.out) | (exact HS9s.out _)))
          clear hK K
          try simp only [Act.put, List.setIfInBounds_toArray, List.set_cons_zero, List.set_cons_succ]
          refine wpAnyH_take (i := 20) (oi := _) (v := ?_) rfl (by kernel_rfl) (by kernel_rfl) (by kernel_rfl) (fun _ _ _ h => h) (Or.inl ⟨by rfl, ?_⟩) (by assumption) ?_
          rotate_left
          · (intro w hSw; (try dsimp only at hSw); go_simp; try with_reducible rfl)
          try simp only [Act.put, List.setIfInBounds_toArray, List.set_cons_zero, List.set_cons_succ]
          refine wpAnyH_ready (rs := [21]) (by kernel_rfl) (by simp) ?_
          refine AllReadyH.cons (o := _) rfl (fun K hK => ?_) ?_
          ·
            go_simp
            refine hK.out _ _ ?_ (fun hHeld => ?_)
            · ((try dsimp only); (first | (with_reducible exact HSd.out _ (Below.refl _ _).drew) | (exact HSd.out _ ((Below.refl _ _).drew.alloc (by simp) _)) | assumption | (exact HS9.out) | (exact HS9s.out _)))
            clear hK K
            try simp only [Act.put, List.setIfInBounds_toArray, List.set_cons_zero, List.set_cons_succ]
            refine wpAnyH_done (by kernel_rfl) ?_ _
            refine NoPanic.normal ?_
            go_wp2_with fail
            refine bodyPost_end (v := .tuple #[]) (by simp [results, Tryz.results77]) rfl ⟨rfl, H9.out, HK9.out⟩
          exact AllReadyH.nil
        exact AllReadyH.nil
      exact AllReadyH.nil
    exact AllReadyH.nil
  exact AllReadyH.nil
end Go.Proofs.YtcgichfanfijjaaGreatDoor

namespace Go.Proofs.YtcgichfanfijjaaGreatDoor
set_option maxRecDepth 20000
set_option linter.unusedVariables false
set_option linter.unusedSimpArgs false
open Go.ChangeShapes Go.WideShapes Go.ChangeAt Go.RowKit

/-- The first place of a name, or -1. -/
def nmI (ns : List ByteArray) (s : ByteArray) : Int := match ns.findIdx? fun x => decide (x = s) with
  | some i => (i : Int)
  | none => -1
theorem nmI_hit {ns : List ByteArray} {s : ByteArray} {k : Nat} (h : ∀ (j : Nat) (x : ByteArray), j < k → ns[j]? = some x → x ≠ s) (hk : ns[k]? = some s) : nmI ns s = k := by
  unfold nmI
  have : ns.findIdx? (fun x => decide (x = s)) = some k := by
    rw [List.findIdx?_eq_some_iff_getElem]
    obtain ⟨h1, h2⟩ := List.getElem?_eq_some_iff.1 hk
    exact ⟨h1, by simp [h2], fun j hj => by simpa using h j _ hj (List.getElem?_eq_getElem (by omega))⟩
  rw [this]
theorem nmI_end {ns : List ByteArray} {s : ByteArray} {n : Nat} (hn : ns.length = n) (h : ∀ (j : Nat) (x : ByteArray), j < n → ns[j]? = some x → x ≠ s) : nmI ns s = -1 := by
  unfold nmI
  have : ns.findIdx? (fun x => decide (x = s)) = none := by
    rw [List.findIdx?_eq_none_iff]
    intro x hx
    obtain ⟨j, hj, rfl⟩ := List.mem_iff_getElem.1 hx
    simpa using h j _ (by omega) (List.getElem?_eq_getElem hj)
  rw [this]
theorem str_ne {a b : ByteArray} (h : a ≠ b) : (a.toList == b.toList) = false := by
  have : a.toList ≠ b.toList := fun e => h (by
    apply list_ext2
    rw [← toList_data, ← toList_data, e])
  simpa using this
set_option maxHeartbeats 1600000 in
theorem blockIs_any (s nm : ByteArray) (A : Option Addr) (n c p : Nat) (w : World) (hp : w.cell? ⟨p, 0, none⟩ = some (.string s)) (hpl : p < w.heap.size) :
    Calls Tryz.prog 147 #[.agg #[.string nm, .slice A n c], .pointer (some ⟨p, 0, none⟩)] w fun e w' => e = .returned (.bool (decide (nm = s))) ∧ Below w.heap.size w w' := by
  have HB := hid ((Below.refl w.heap.size w).alloc (Nat.le_refl _) (.cells #[.string nm, .slice A n c] 68))
  by_cases e : nm = s
  · subst e
    have Hr := hid (show decide (nm = nm) = true by simp)
    go_enter Tryz.func147, Tryz.ntmps147
    go_wp2_with fail
    go_ret
    exact ⟨ret_b Hr.out, HB.out⟩
  · have t1 := str_ne e
    have Hr := hid (show decide (nm = s) = false by simpa using e)
    clear e
    go_enter Tryz.func147, Tryz.ntmps147
    go_wp2_with fail
    go_ret
    exact ⟨ret_b Hr.out, HB.out⟩
set_option maxHeartbeats 1600000 in
theorem idxB_any (A : Option Addr) (n c : Nat) (l : List BH) (s : ByteArray) (p : Nat) (ex : List (Option Nat)) (w : World) (h : EAt w ex A (l.flatMap bhc)) (hl : l.length = n) (hn : n ≤ 1000) (hp : w.cell? ⟨p, 0, none⟩ = some (.string s)) (hpl : p < w.heap.size) :
    Calls Tryz.prog 146 #[.slice A n c, .func (Fn.func 147) #[] #[.pointer (some ⟨p, 0, none⟩)]] w fun e w' => e = .returned (.int .i64 (nmI (l.map BH.name) s)) ∧ Below w.heap.size w w' := by
  have HE := hid h
  have HL := hid hl
  have HP := hid (And.intro hp hpl)
  have HN := hid (show (l.map BH.name).length = n by rw [List.length_map, hl])
  have Hnm := hid (fun (k : Nat) (y : BH) (hy : l[k]? = some y) => show (l.map BH.name)[k]? = some y.name by rw [List.getElem?_map, hy]; rfl)
  clear h hp hpl hl
  generalize hns : l.map BH.name = ns at *
  clear hns
  go_enter Tryz.func146, Tryz.ntmps146
  go_wp2_with fail
  go_loopw [5, 8] (fun _ iv wr => ∃ k : Nat, k ≤ n ∧ iv = .int .i64 k ∧ Hid (∀ (j : Nat) (x : ByteArray), j < k → ns[j]? = some x → x ≠ s) ∧ Hid (Below w.heap.size w wr)) (fun _ iv _ => n - (intOf iv).toNat)
  case atStart => exact ⟨0, by omega, rfl, hid (fun j x h => by omega), hid (Below.refl _ _)⟩
  case round =>
    obtain ⟨k, hk, rfl, hE, hB⟩ := hrel
    by_cases hlt : k < n
    · obtain ⟨y, hy, hym⟩ := get_at HL.out hlt
      obtain ⟨ad, hA, had, hc1, hc2⟩ := BH.cells (HE.out.go (Go2.below hB.out)) hy
      subst hA
      have Hy := hid (Hnm.out k y hy)
      have HC := hid (blockIs_any s y.name y.A y.n y.c p wr ((hB.out.cell (p := ⟨p, 0, none⟩) HP.out.2).trans HP.out.1) (Nat.lt_of_lt_of_le HP.out.2 hB.out.size))
      clear hy hym
      obtain ⟨ynm, yA, yn, yc, yl⟩ := y
      simp only at *
      go_wp2_with fail
      refine HC.out.mono ?_
      rintro e w1 ⟨rfl, hb1⟩
      have HB1 := hid (below_step hB.out hb1)
      clear hb1 hB HC
      cases hd : decide (ynm = s) with
      | true =>
        as_aux_lemma =>
          have Hr := hid (nmI_hit hE.out (by rw [Hy.out]; exact congrArg some (of_decide_eq_true hd)))
          clear hd
          go_wp2_with fail
          go_ret
          exact ⟨ret_i Hr.out, HB1.out⟩
      | false =>
        as_aux_lemma =>
          have Hr := hid (show ∀ (j : Nat) (x : ByteArray), j < k + 1 → ns[j]? = some x → x ≠ s by
            intro j x hj hx
            by_cases e : j = k
            · subst e
              rw [Hy.out] at hx
              rw [← Option.some.inj hx]
              exact of_decide_eq_false hd
            · exact hE.out j x (by omega) hx)
          clear hd
          go_wp2_with fail
          go_roundw
          case rel => exact ⟨k + 1, by omega, by go_num, Hr, HB1⟩
          case measure => simp [intOf]; omega
    · obtain rfl : k = n := by omega
      have Hr := hid (nmI_end HN.out hE.out)
      go_wp2_with fail
      go_ret
      exact ⟨ret_i Hr.out, hB.out⟩
set_option maxHeartbeats 1600000 in
theorem blockIx_any (A : Option Addr) (n c : Nat) (l : List BH) (s : ByteArray) (ex : List (Option Nat)) (w : World) (h : EAt w ex A (l.flatMap bhc)) (hl : l.length = n) (hn : n ≤ 1000) :
    Calls Tryz.prog 113 #[.slice A n c, .string s] w fun e w' => e = .returned (.int .i64 (nmI (l.map BH.name) s)) ∧ Below w.heap.size w w' := by
  have hb := (Below.refl w.heap.size w).alloc (Nat.le_refl _) (.cells #[.string s] 9)
  have HB := hid hb
  have hf := Fb.new w #[.string s] 9
  have HC := hid (idxB_any A n c l s w.heap.size ex _ (h.go (Go2.below hb)) hl hn hf.onec hf.lt)
  clear h hb hf
  go_enter Tryz.func113, Tryz.ntmps113
  go_wp2_with fail
  refine HC.out.mono ?_
  rintro e w1 ⟨rfl, hb1⟩
  have HB1 := hid (below_step HB.out hb1)
  go_wp2_with fail
  go_ret
  exact ⟨rfl, HB1.out⟩
set_option maxHeartbeats 1600000 in
theorem funcIs_any (s nm : ByteArray) (A : Option Addr) (n c p : Nat) (w : World) (hp : w.cell? ⟨p, 0, none⟩ = some (.string s)) (hpl : p < w.heap.size) :
    Calls Tryz.prog 149 #[.agg #[.string nm, .slice A n c], .pointer (some ⟨p, 0, none⟩)] w fun e w' => e = .returned (.bool (decide (nm = s))) ∧ Below w.heap.size w w' := by
  have HB := hid ((Below.refl w.heap.size w).alloc (Nat.le_refl _) (.cells #[.string nm, .slice A n c] 65))
  by_cases e : nm = s
  · subst e
    have Hr := hid (show decide (nm = nm) = true by simp)
    go_enter Tryz.func149, Tryz.ntmps149
    go_wp2_with fail
    go_ret
    exact ⟨ret_b Hr.out, HB.out⟩
  · have t1 := str_ne e
    have Hr := hid (show decide (nm = s) = false by simpa using e)
    clear e
    go_enter Tryz.func149, Tryz.ntmps149
    go_wp2_with fail
    go_ret
    exact ⟨ret_b Hr.out, HB.out⟩
set_option maxHeartbeats 1600000 in
theorem idxF_any (A : Option Addr) (n c : Nat) (l : List FH) (s : ByteArray) (p : Nat) (ex : List (Option Nat)) (w : World) (h : EAt w ex A (l.flatMap fhc)) (hl : l.length = n) (hn : n ≤ 1000) (hp : w.cell? ⟨p, 0, none⟩ = some (.string s)) (hpl : p < w.heap.size) :
    Calls Tryz.prog 148 #[.slice A n c, .func (Fn.func 149) #[] #[.pointer (some ⟨p, 0, none⟩)]] w fun e w' => e = .returned (.int .i64 (nmI (l.map FH.name) s)) ∧ Below w.heap.size w w' := by
  have HE := hid h
  have HL := hid hl
  have HP := hid (And.intro hp hpl)
  have HN := hid (show (l.map FH.name).length = n by rw [List.length_map, hl])
  have Hnm := hid (fun (k : Nat) (y : FH) (hy : l[k]? = some y) => show (l.map FH.name)[k]? = some y.name by rw [List.getElem?_map, hy]; rfl)
  clear h hp hpl hl
  generalize hns : l.map FH.name = ns at *
  clear hns
  go_enter Tryz.func148, Tryz.ntmps148
  go_wp2_with fail
  go_loopw [5, 8] (fun _ iv wr => ∃ k : Nat, k ≤ n ∧ iv = .int .i64 k ∧ Hid (∀ (j : Nat) (x : ByteArray), j < k → ns[j]? = some x → x ≠ s) ∧ Hid (Below w.heap.size w wr)) (fun _ iv _ => n - (intOf iv).toNat)
  case atStart => exact ⟨0, by omega, rfl, hid (fun j x h => by omega), hid (Below.refl _ _)⟩
  case round =>
    obtain ⟨k, hk, rfl, hE, hB⟩ := hrel
    by_cases hlt : k < n
    · obtain ⟨y, hy, hym⟩ := get_at HL.out hlt
      obtain ⟨ad, hA, had, hc1, hc2⟩ := FH.cells (HE.out.go (Go2.below hB.out)) hy
      subst hA
      have Hy := hid (Hnm.out k y hy)
      have HC := hid (funcIs_any s y.name y.A y.n y.c p wr ((hB.out.cell (p := ⟨p, 0, none⟩) HP.out.2).trans HP.out.1) (Nat.lt_of_lt_of_le HP.out.2 hB.out.size))
      clear hy hym
      obtain ⟨ynm, yA, yn, yc, yl⟩ := y
      simp only at *
      go_wp2_with fail
      refine HC.out.mono ?_
      rintro e w1 ⟨rfl, hb1⟩
      have HB1 := hid (below_step hB.out hb1)
      clear hb1 hB HC
      cases hd : decide (ynm = s) with
      | true =>
        as_aux_lemma =>
          have Hr := hid (nmI_hit hE.out (by rw [Hy.out]; exact congrArg some (of_decide_eq_true hd)))
          clear hd
          go_wp2_with fail
          go_ret
          exact ⟨ret_i Hr.out, HB1.out⟩
      | false =>
        as_aux_lemma =>
          have Hr := hid (show ∀ (j : Nat) (x : ByteArray), j < k + 1 → ns[j]? = some x → x ≠ s by
            intro j x hj hx
            by_cases e : j = k
            · subst e
              rw [Hy.out] at hx
              rw [← Option.some.inj hx]
              exact of_decide_eq_false hd
            · exact hE.out j x (by omega) hx)
          clear hd
          go_wp2_with fail
          go_roundw
          case rel => exact ⟨k + 1, by omega, by go_num, Hr, HB1⟩
          case measure => simp [intOf]; omega
    · obtain rfl : k = n := by omega
      have Hr := hid (nmI_end HN.out hE.out)
      go_wp2_with fail
      go_ret
      exact ⟨ret_i Hr.out, hB.out⟩
set_option maxHeartbeats 1600000 in
theorem funcIx_any (A : Option Addr) (n c : Nat) (l : List FH) (s : ByteArray) (ex : List (Option Nat)) (w : World) (h : EAt w ex A (l.flatMap fhc)) (hl : l.length = n) (hn : n ≤ 1000) :
    Calls Tryz.prog 115 #[.slice A n c, .string s] w fun e w' => e = .returned (.int .i64 (nmI (l.map FH.name) s)) ∧ Below w.heap.size w w' := by
  have hb := (Below.refl w.heap.size w).alloc (Nat.le_refl _) (.cells #[.string s] 9)
  have HB := hid hb
  have hf := Fb.new w #[.string s] 9
  have HC := hid (idxF_any A n c l s w.heap.size ex _ (h.go (Go2.below hb)) hl hn hf.onec hf.lt)
  clear h hb hf
  go_enter Tryz.func115, Tryz.ntmps115
  go_wp2_with fail
  refine HC.out.mono ?_
  rintro e w1 ⟨rfl, hb1⟩
  have HB1 := hid (below_step HB.out hb1)
  go_wp2_with fail
  go_ret
  exact ⟨rfl, HB1.out⟩
end Go.Proofs.YtcgichfanfijjaaGreatDoor

namespace Go.Proofs.YtcgichfanfijjaaGreatDoor
set_option maxRecDepth 20000
set_option linter.unusedVariables false
set_option linter.unusedSimpArgs false
open Go.ChangeShapes Go.WideShapes Go.ChangeAt Go.RowKit

set_option maxHeartbeats 1600000 in
theorem stmtNode_any (a b c : Int) (w : World) : Calls Tryz.prog 78 #[.int .i64 a, .int .i64 b, .int .i64 c] w fun e w' => e = .returned (.agg #[.int .i64 3, .int .i64 a, .int .i64 b, .int .i64 c]) ∧ Below w.heap.size w w' := by
  go_enter Tryz.func78, Tryz.ntmps78
  go_wp2_with fail
  refine bodyPost_ret (v := .agg #[.int .i64 3, .int .i64 a, .int .i64 b, .int .i64 c]) (by simp [results, Tryz.results78, go_sem]) rfl ⟨rfl, ?_⟩
  exact (Below.refl _ _).alloc (Nat.le_refl _) _
set_option maxHeartbeats 1600000 in
theorem entryNode_any (a : Int) (w : World) : Calls Tryz.prog 116 #[.int .i64 a] w fun e w' => e = .returned (.agg #[.int .i64 1, .int .i64 a, .int .i64 (-1), .int .i64 (-1)]) ∧ Below w.heap.size w w' := by
  go_enter Tryz.func116, Tryz.ntmps116
  go_wp2_with fail
  refine bodyPost_ret (v := .agg #[.int .i64 1, .int .i64 a, .int .i64 (-1), .int .i64 (-1)]) (by simp [results, Tryz.results116, go_sem]) rfl ⟨rfl, ?_⟩
  exact (Below.refl _ _).alloc (Nat.le_refl _) _
set_option maxHeartbeats 1600000 in
theorem exitNode_any (a : Int) (w : World) : Calls Tryz.prog 114 #[.int .i64 a] w fun e w' => e = .returned (.agg #[.int .i64 2, .int .i64 a, .int .i64 (-1), .int .i64 (-1)]) ∧ Below w.heap.size w w' := by
  go_enter Tryz.func114, Tryz.ntmps114
  go_wp2_with fail
  refine bodyPost_ret (v := .agg #[.int .i64 2, .int .i64 a, .int .i64 (-1), .int .i64 (-1)]) (by simp [results, Tryz.results114, go_sem]) rfl ⟨rfl, ?_⟩
  exact (Below.refl _ _).alloc (Nat.le_refl _) _

/-- The edges that begin at a statement's node, and the one by which a call returns. -/
def stE (p : List Fnc) (bs : List Blk) (f b j : Nat) (t : Stm) : List (Nd × Nd) :=
  if t.op == 7 || t.op == 8 then t.ts.map fun s => (⟨3, f, b, j⟩, ⟨3, f, nmI (bs.map Blk.name) s, 0⟩)
  else if t.op == 9 then [(⟨3, f, b, j⟩, ⟨2, f, -1, -1⟩)]
  else if t.op == 3 then [(⟨3, f, b, j⟩, ⟨1, nmI (p.map Fnc.name) (t.ts.getD 0 ByteArray.empty), -1, -1⟩), (⟨2, nmI (p.map Fnc.name) (t.ts.getD 0 ByteArray.empty), -1, -1⟩, ⟨4, f, b, j⟩)]
  else [(⟨3, f, b, j⟩, ⟨3, f, b, (j : Int) + 1⟩)]
def numE (L : List Nd) (e : Nd × Nd) : Nat × Nat := (numN L e.1, numN L e.2)
theorem nmI_bd (ns : List ByteArray) (s : ByteArray) : -1 ≤ nmI ns s ∧ nmI ns s ≤ ns.length := by
  unfold nmI
  cases h : ns.findIdx? (fun x => decide (x = s)) with
  | none => simp
  | some i => have := (List.findIdx?_eq_some_iff_findIdx_eq.1 h).1; simp; omega
/-- The builder, and the box of a node beside it. -/
structure Ls1 (w0 : World) (x : PH) (B MB M N G : Nat) (L : List Nd) (nd : Nd) (E : List (Nat × Nat)) (w : World) : Prop where
  bls : Bls w0 x B MB M N L E w
  nb : Fb w G #[.int .i64 nd.kd, .int .i64 nd.fn, .int .i64 nd.bk, .int .i64 nd.st] 50
theorem Ls1.below {w0 w w' : World} {x : PH} {B MB M N G : Nat} {L : List Nd} {nd : Nd} {E : List (Nat × Nat)} (h : Ls1 w0 x B MB M N G L nd E w) (hb : Below w.heap.size w w') : Ls1 w0 x B MB M N G L nd E w' :=
  ⟨h.bls.below hb, h.nb.below hb h.nb.lt⟩
theorem Ls1.conn {w0 w : World} {x : PH} {B MB M N G : Nat} {L : List Nd} {nd : Nd} {E : List (Nat × Nat)} (h : Ls1 w0 x B MB M N G L nd E w) (hN : 1 ≤ N) (hL : L.length = N) (hE : E.length ≤ 1000000) (f t : Nd) (hf : wfN f) (ht : wfN t) :
    Calls Tryz.prog 77 #[.pointer (some ⟨B, 0, none⟩), .agg #[.int .i64 f.kd, .int .i64 f.fn, .int .i64 f.bk, .int .i64 f.st], .agg #[.int .i64 t.kd, .int .i64 t.fn, .int .i64 t.bk, .int .i64 t.st]] w
      fun e w' => e = .returned (.tuple #[]) ∧ Ls1 w0 x B MB M N G L nd (E ++ [numE L (f, t)]) w' ∧ KeepF w w' :=
  (connect_any w0 x B MB M N L E w h.bls hN hL hE f t hf ht).mono fun _ _ ⟨h1, h2, h3⟩ => ⟨h1, ⟨h2, h3.2 G _ 50 (by decide) (by decide) h.nb⟩, h3⟩
theorem wf_small {k f b s : Int} (h1 : -10 ≤ k ∧ k ≤ 1000000) (h2 : -10 ≤ f ∧ f ≤ 1000000) (h3 : -10 ≤ b ∧ b ≤ 1000000) (h4 : -10 ≤ s ∧ s ≤ 1000000) : wfN ⟨k, f, b, s⟩ := by
  unfold wfN; simp only; omega
/-- The same with the statement's box. -/
structure Ls2 (w0 : World) (x : PH) (B MB M N G H : Nat) (L : List Nd) (nd : Nd) (s : SH) (E : List (Nat × Nat)) (w : World) : Prop where
  ls : Ls1 w0 x B MB M N G L nd E w
  sb : Fb w H #[.int .i64 s.t.op, .string s.t.d, .slice s.A s.n s.c, .slice s.B s.m s.c2] 70
theorem Ls2.below {w0 w w' : World} {x : PH} {B MB M N G H : Nat} {L : List Nd} {nd : Nd} {s : SH} {E : List (Nat × Nat)} (h : Ls2 w0 x B MB M N G H L nd s E w) (hb : Below w.heap.size w w') : Ls2 w0 x B MB M N G H L nd s E w' :=
  ⟨h.ls.below hb, h.sb.below hb h.sb.lt⟩
theorem Ls2.conn {w0 w : World} {x : PH} {B MB M N G H : Nat} {L : List Nd} {nd : Nd} {s : SH} {E : List (Nat × Nat)} (h : Ls2 w0 x B MB M N G H L nd s E w) (hN : 1 ≤ N) (hL : L.length = N) (hE : E.length ≤ 1000000) (f t : Nd) (hf : wfN f) (ht : wfN t) :
    Calls Tryz.prog 77 #[.pointer (some ⟨B, 0, none⟩), .agg #[.int .i64 f.kd, .int .i64 f.fn, .int .i64 f.bk, .int .i64 f.st], .agg #[.int .i64 t.kd, .int .i64 t.fn, .int .i64 t.bk, .int .i64 t.st]] w
      fun e w' => e = .returned (.tuple #[]) ∧ Ls2 w0 x B MB M N G H L nd s (E ++ [numE L (f, t)]) w' ∧ KeepF w w' :=
  (h.ls.conn hN hL hE f t hf ht).mono fun _ _ ⟨h1, h2, h3⟩ => ⟨h1, ⟨h2, h3.2 H _ 70 (by decide) (by decide) h.sb⟩, h3⟩

theorem prog_stm2 {w : World} {ex : List (Option Nat)} {x : PH} (h : PHok w ex x) {f b j : Nat} {F : Fnc} {B : Blk} {t : Stm} (h1 : x.p[f]? = some F) (h2 : F.bs[b]? = some B) (h3 : B.ss[j]? = some t) :
    ∃ (y : FH) (z : BH) (s : SH), x.l[f]? = some y ∧ y ∈ x.l ∧ y.l[b]? = some z ∧ z ∈ y.l ∧ z.l[j]? = some s ∧ s ∈ z.l ∧ s.t = t ∧ y.f = F ∧ z.b = B := by
  unfold PH.p at h1
  rw [List.getElem?_map] at h1
  obtain ⟨y, hy, rfl⟩ := Option.map_eq_some_iff.1 h1
  change (y.l.map BH.b)[b]? = some B at h2
  rw [List.getElem?_map] at h2
  obtain ⟨z, hz, rfl⟩ := Option.map_eq_some_iff.1 h2
  change (z.l.map SH.t)[j]? = some t at h3
  rw [List.getElem?_map] at h3
  obtain ⟨s, hs, rfl⟩ := Option.map_eq_some_iff.1 h3
  exact ⟨y, z, s, hy, List.mem_of_getElem? hy, hz, List.mem_of_getElem? hz, hs, List.mem_of_getElem? hs, rfl, rfl, rfl⟩
theorem ts_snoc {L : List Nd} {E : List (Nat × Nat)} {g : ByteArray → Nd × Nd} {ts : List ByteArray} {k : Nat} {s : ByteArray} (h : ts[k]? = some s) : (E ++ ((ts.take k).map g).map (numE L)) ++ [numE L (g s)] = E ++ ((ts.take (k + 1)).map g).map (numE L) := by
  rw [List.take_add_one, h]; simp

def gE (bs : List Blk) (f b j : Nat) (s : ByteArray) : Nd × Nd := (⟨3, f, b, j⟩, ⟨3, f, nmI (bs.map Blk.name) s, 0⟩)

set_option maxHeartbeats 16000000 in
theorem leaveStmt_any (w0 : World) (x : PH) (ex : List (Option Nat)) (B MB M N : Nat) (L : List Nd) (E : List (Nat × Nat)) (w : World) (h : Bls w0 x B MB M N L E w) (hx : PHok w0 ex x) (hN : 1 ≤ N) (hL : L.length = N) (hE : E.length ≤ 900000)
    (f b j : Nat) (F : Fnc) (Bk : Blk) (t : Stm) (h1 : x.p[f]? = some F) (h2 : F.bs[b]? = some Bk) (h3 : Bk.ss[j]? = some t) (hts : (t.op == 3) = true → t.ts ≠ []) :
    Calls Tryz.prog 79 #[.pointer (some ⟨B, 0, none⟩), .agg #[.int .i64 3, .int .i64 f, .int .i64 b, .int .i64 j]] w
      fun e w' => e = .returned (.tuple #[]) ∧ Bls w0 x B MB M N L (E ++ (stE x.p F.bs f b j t).map (numE L)) w' ∧ KeepF w w' := by
  obtain ⟨y, z, s, hy, hym, hz, hzm, hs, hsm, rfl, rfl, rfl⟩ := prog_stm2 hx h1 h2 h3
  have hb0 := (Below.refl w.heap.size w).alloc (Nat.le_refl _) (.cells #[.int .i64 3, .int .i64 (f : Int), .int .i64 (b : Int), .int .i64 (j : Int)] 50)
  have hL1 : Ls1 w0 x B MB M N w.heap.size L ⟨3, f, b, j⟩ E (w.alloc (.cells #[.int .i64 3, .int .i64 (f : Int), .int .i64 (b : Int), .int .i64 (j : Int)] 50)) := ⟨h.below hb0, Fb.new _ _ _⟩
  have HK0 := hid (KeepF.below hb0)
  have HL1 := hid hL1
  have HPx := hid (fun (v : World) (hv : Below w0.heap.size w0 v) => hx.go (Go2.below hv))
  have hPr := hx.go (Go2.below hL1.bls.bel)
  have Hy := hid hy; have Hz := hid hz; have Hs := hid hs
  have Hym := hid hym; have Hzm := hid hzm; have Hsm := hid hsm
  obtain ⟨ad1, hA1, had1, hc1, hc2⟩ := FH.cells hPr.lies hy
  obtain ⟨ad2, hA2, had2, hd1, hd2⟩ := BH.cells (hPr.all y hym).lies hz
  obtain ⟨ad3, hA3, had3, he1, he2, he3, he4⟩ := SH.cells ((hPr.all y hym).all z hzm).lies hs
  have hxn := hPr.few
  have hyn := (hPr.all y hym).few
  have hzn := ((hPr.all y hym).all z hzm).few
  have hfn : f < x.n := by rw [← hPr.len]; exact (List.getElem?_eq_some_iff.1 hy).1
  have hbn : b < y.n := by rw [← (hPr.all y hym).len]; exact (List.getElem?_eq_some_iff.1 hz).1
  have hjn : j < z.n := by rw [← ((hPr.all y hym).all z hzm).len]; exact (List.getElem?_eq_some_iff.1 hs).1
  have Hbln := hid (hPr.all y hym).len
  have Hpln := hid hPr.len
  have hsm2 := (((hPr.all y hym).all z hzm).all s hsm).targets.few
  have Hsln := hid ((((hPr.all y hym).all z hzm).all s hsm).targets.len)
  have HTs := hid (fun (v : World) (hv : Below w0.heap.size w0 v) => ((((HPx.out v hv).all y Hym.out).all z Hzm.out).all s Hsm.out).targets.lies)
  have HBl := hid (fun (v : World) (hv : Below w0.heap.size w0 v) => ((HPx.out v hv).all y Hym.out).lies)
  have HPl := hid (fun (v : World) (hv : Below w0.heap.size w0 v) => (HPx.out v hv).lies)
  have Hbmap := hid (show y.l.map BH.name = y.f.bs.map Blk.name by show _ = (y.l.map BH.b).map Blk.name; rw [List.map_map]; rfl)
  have Hpmap := hid (show x.l.map FH.name = x.p.map Fnc.name by show _ = (x.l.map FH.f).map Fnc.name; rw [List.map_map]; rfl)
  have Hts := hid hts
  clear h hx hPr hL1 hb0 hy hz hs hym hzm hsm h1 h2 h3 hts
  have hG : ∃ G, w.heap.size = G := ⟨_, rfl⟩
  obtain ⟨G, hG⟩ := hG
  rw [hG] at HL1
  have HGe := hid hG
  clear hG
  generalize hpp : x.p = pp at *
  generalize hyf : y.f = yf at *
  clear hpp hyf
  obtain ⟨xA, xn, xc, xl⟩ := x
  obtain ⟨ynm, yA, yn, yc, yl⟩ := y
  obtain ⟨znm, zA, zn, zc, zl⟩ := z
  simp only at *
  subst hA1
  subst hA2
  subst hA3
  go_enter Tryz.func79, Tryz.ntmps79
  have had1' := had1; have had2' := had2; have had3' := had3
  rw [← add_block ad1 (f * 2)] at had1'
  rw [← add_block ad2 (b * 2)] at had2'
  rw [← add_block ad3 (j * 4)] at had3'
  go_wp2_with fail
  rw [HGe.out] at *
  generalize w.alloc (.cells #[.int .i64 3, .int .i64 (f : Int), .int .i64 (b : Int), .int .i64 (j : Int)] 50) = W at *
  obtain ⟨n0, n1, n2, n3⟩ := Fb.four HL1.out.nb
  obtain ⟨b0, b1, b2⟩ := HL1.out.bls.box.thr
  simp only at n0 n1 n2 n3
  go_quiet (fail)
  clear n0 n1 n2 n3 b0 b1 b2
  have hbw : Below W.heap.size W (W.drewN nq) := below_drewN (Below.refl _ _) nq
  have HL2 := hid (HL1.out.below hbw)
  have HK2 := hid (HK0.out.trans (KeepF.below hbw))
  have Hhc := hid (And.intro (And.intro hc1 hc2) (And.intro (And.intro hd1 hd2) (And.intro (And.intro he1 he2) (And.intro he3 he4))))
  clear hbw HL1 HK0 hc1 hc2 hd1 hd2 he1 he2 he3 he4
  have Hx2 := hid (show (((W.drewN nq).cell? (ad1.add (f * 2)) = some (.string ynm) ∧ (W.drewN nq).cell? ⟨(ad1.add (f * 2)).block, (ad1.add (f * 2)).off + 1, none⟩ = some (.slice (some ad2) yn yc)) ∧ ((W.drewN nq).cell? (ad2.add (b * 2)) = some (.string znm) ∧ (W.drewN nq).cell? ⟨(ad2.add (b * 2)).block, (ad2.add (b * 2)).off + 1, none⟩ = some (.slice (some ad3) zn zc)) ∧
    ((W.drewN nq).cell? (ad3.add (j * 4)) = some (.int .i64 s.t.op) ∧ (W.drewN nq).cell? ⟨(ad3.add (j * 4)).block, (ad3.add (j * 4)).off + 1, none⟩ = some (.string s.t.d)) ∧ ((W.drewN nq).cell? ⟨(ad3.add (j * 4)).block, (ad3.add (j * 4)).off + 2, none⟩ = some (.slice s.A s.n s.c) ∧ (W.drewN nq).cell? ⟨(ad3.add (j * 4)).block, (ad3.add (j * 4)).off + 3, none⟩ = some (.slice s.B s.m s.c2))) ∧
    (ad1.block < (W.drewN nq).heap.size ∧ ad2.block < (W.drewN nq).heap.size ∧ ad3.block < (W.drewN nq).heap.size) from ⟨Hhc.out, had1, had2, had3⟩)
  clear Hhc had1 had2 had3 had1' had2' had3'
  generalize W.drewN nq = X at *
  obtain ⟨⟨⟨hc1, hc2⟩, ⟨hd1, hd2⟩, ⟨he1, he2⟩, he3, he4⟩, had1, had2, had3⟩ := Hx2.out
  have had1' : (ad1.add (f * 2)).block < X.heap.size := by rw [add_block]; exact had1
  have had2' : (ad2.add (b * 2)).block < X.heap.size := by rw [add_block]; exact had2
  have had3' : (ad3.add (j * 4)).block < X.heap.size := by rw [add_block]; exact had3
  obtain ⟨n0, n1, n2, n3⟩ := Fb.four HL2.out.nb
  obtain ⟨b0, b1, b2⟩ := HL2.out.bls.box.thr
  have hnl := HL2.out.nb.lt
  simp only at n0 n1 n2 n3
  go_wp2_with fail
  go_cut [5] (fun a wc => ∃ g : Nat, a = .pointer (some ⟨g, 0, none⟩) ∧ Hid (Fb wc g #[.int .i64 s.t.op, .string s.t.d, .slice s.A s.n s.c, .slice s.B s.m s.c2] 70 ∧ Below X.heap.size X wc))
  case first =>
    have HZ1 := hid (And.intro (Fb.drewN (Fb.new X #[.int .i64 s.t.op, .string s.t.d, .slice s.A s.n s.c, .slice s.B s.m s.c2] 70) 1) (below_drewN ((Below.refl X.heap.size X).alloc (Nat.le_refl _) (.cells #[.int .i64 s.t.op, .string s.t.d, .slice s.A s.n s.c, .slice s.B s.m s.c2] 70)) 1))
    go_region
    go_wp2_with fail
    go_meet
    exact ⟨_, rfl, HZ1⟩
  case rest =>
    clear hc1 hc2 hd1 hd2 he1 he2 he3 he4 had1 had2 had3 had1' had2' had3' n0 n1 n2 n3 b0 b1 b2 hnl Hx2
    obtain ⟨Hb, rfl, HZ⟩ := hcut
    have HL3 := hid (show Ls2 w0 ⟨some ad1, xn, xc, xl⟩ B MB M N G Hb L ⟨3, f, b, j⟩ s E wc from ⟨HL2.out.below HZ.out.2, HZ.out.1⟩)
    have HK3 := hid (HK2.out.trans (KeepF.below HZ.out.2))
    clear HZ HL2 HK2
    have HKb := hid (fun (E : List (Nat × Nat)) (v u : World) (h : Ls2 w0 ⟨some ad1, xn, xc, xl⟩ B MB M N G Hb L ⟨3, f, b, j⟩ s E v) (hb : Below v.heap.size v u) => h.below hb)
    have HNb := hid (fun (E : List (Nat × Nat)) (v : World) (h : Ls2 w0 ⟨some ad1, xn, xc, xl⟩ B MB M N G Hb L ⟨3, f, b, j⟩ s E v) => h.ls.nb)
    have HSb := hid (fun (E : List (Nat × Nat)) (v : World) (h : Ls2 w0 ⟨some ad1, xn, xc, xl⟩ B MB M N G Hb L ⟨3, f, b, j⟩ s E v) => h.sb)
    have HBb := hid (fun (E : List (Nat × Nat)) (v : World) (h : Ls2 w0 ⟨some ad1, xn, xc, xl⟩ B MB M N G Hb L ⟨3, f, b, j⟩ s E v) => h.ls.bls.box)
    have HBl2 := hid (fun (E : List (Nat × Nat)) (v : World) (h : Ls2 w0 ⟨some ad1, xn, xc, xl⟩ B MB M N G Hb L ⟨3, f, b, j⟩ s E v) => HBl.out v h.ls.bls.bel)
    have HPl2 := hid (fun (E : List (Nat × Nat)) (v : World) (h : Ls2 w0 ⟨some ad1, xn, xc, xl⟩ B MB M N G Hb L ⟨3, f, b, j⟩ s E v) => HPl.out v h.ls.bls.bel)
    have HTs2 := hid (fun (E : List (Nat × Nat)) (v : World) (h : Ls2 w0 ⟨some ad1, xn, xc, xl⟩ B MB M N G Hb L ⟨3, f, b, j⟩ s E v) => HTs.out v h.ls.bls.bel)
    have HEn := hid (fun (E : List (Nat × Nat)) (v : World) (h : Ls2 w0 ⟨some ad1, xn, xc, xl⟩ B MB M N G Hb L ⟨3, f, b, j⟩ s E v) => h.ls.bls)
    have HCo := hid (fun (E : List (Nat × Nat)) (v : World) (h : Ls2 w0 ⟨some ad1, xn, xc, xl⟩ B MB M N G Hb L ⟨3, f, b, j⟩ s E v) (hE : E.length ≤ 1000000) (f t : Nd) (hf : wfN f) (ht : wfN t) => h.conn hN hL hE f t hf ht)
    simp only at HNb HSb HBb HTs2 HBl2 HPl2
    clear HBl HPl HTs HPx
    have hst : ∃ st, s.t = st := ⟨_, rfl⟩
    obtain ⟨st, hst⟩ := hst
    obtain ⟨sA, sn, sc, sB, sm, sd, st2⟩ := s
    simp only at *
    subst hst
    obtain ⟨op, dd, us, ts⟩ := st2
    simp only at *
    obtain ⟨s0, s1, s2, s3⟩ := Fb.four (HSb.out _ _ HL3.out)
    have Hwn := hid (wf_small (k := 3) (f := (f : Int)) (b := (b : Int)) (s := (j : Int)) (by omega) (by omega) (by omega) (by omega))
    have HB113 := hid (fun (E : List (Nat × Nat)) (v : World) (h : Ls2 w0 ⟨some ad1, xn, xc, xl⟩ B MB M N G Hb L ⟨3, f, b, j⟩ ⟨sA, sn, sc, sB, sm, sd, ⟨op, dd, us, ts⟩⟩ E v) (nm : ByteArray) => show Calls Tryz.prog 113 #[.slice (some ad2) yn yc, .string nm] v (fun e w' => e = .returned (.int .i64 (nmI (yf.bs.map Blk.name) nm)) ∧ Below v.heap.size v w') by rw [← Hbmap.out]; exact blockIx_any (some ad2) yn yc yl nm ex v (HBl2.out _ _ h) Hbln.out (by omega))
    have HB115 := hid (fun (E : List (Nat × Nat)) (v : World) (h : Ls2 w0 ⟨some ad1, xn, xc, xl⟩ B MB M N G Hb L ⟨3, f, b, j⟩ ⟨sA, sn, sc, sB, sm, sd, ⟨op, dd, us, ts⟩⟩ E v) (nm : ByteArray) => show Calls Tryz.prog 115 #[.slice (some ad1) xn xc, .string nm] v (fun e w' => e = .returned (.int .i64 (nmI (pp.map Fnc.name) nm)) ∧ Below v.heap.size v w') by rw [← Hpmap.out]; exact funcIx_any (some ad1) xn xc xl nm ex v (HPl2.out _ _ h) Hpln.out (by omega))
    have Hbd := hid (fun nm => show -10 ≤ nmI (yf.bs.map Blk.name) nm ∧ nmI (yf.bs.map Blk.name) nm ≤ 1000000 by have := nmI_bd (yf.bs.map Blk.name) nm; rw [← Hbmap.out] at this ⊢; rw [List.length_map, Hbln.out] at this; omega)
    have Hpd := hid (fun nm => show -10 ≤ nmI (pp.map Fnc.name) nm ∧ nmI (pp.map Fnc.name) nm ≤ 1000000 by have := nmI_bd (pp.map Fnc.name) nm; rw [← Hpmap.out] at this ⊢; rw [List.length_map, Hpln.out] at this; omega)
    clear HBl2 HPl2 Hbmap Hpmap Hbln Hpln
    cases h7 : (op == 7) with
    | true =>
      as_aux_lemma =>
        have Hst := hid (show stE pp yf.bs f b j ⟨op, dd, us, ts⟩ = ts.map (gE yf.bs f b j) by unfold stE; simp only; rw [h7]; rfl)
        go_wp2_with fail
        clear s0 s1 s2 s3
        go_loopw [7, 48] (fun _ iv wr => ∃ k : Nat, k ≤ sm ∧ iv = .int .i64 k ∧ Hid (Ls2 w0 ⟨some ad1, xn, xc, xl⟩ B MB M N G Hb L ⟨3, f, b, j⟩ ⟨sA, sn, sc, sB, sm, sd, ⟨op, dd, us, ts⟩⟩ (E ++ ((ts.take k).map (gE yf.bs f b j)).map (numE L)) wr) ∧ Hid (KeepF w wr)) (fun _ iv _ => sm - (intOf iv).toNat)
        case atStart => exact ⟨0, by omega, rfl, hid (by simpa using HL3.out), HK3⟩
        case round =>
          clear HL3 HK3
          obtain ⟨k, hkk, rfl, hL, hk⟩ := hrel
          by_cases hlt : k < sm
          · obtain ⟨nm, hnm, -⟩ := get_at Hsln.out hlt
            obtain ⟨ad4, hA4, had4, hc4⟩ := (HTs2.out _ _ hL.out).one (i := k) (u := .string nm) (by rw [List.getElem?_map, hnm]; rfl)
            subst hA4
            have had4l := had4.1
            have Hnm := hid hnm
            have Hwt := hid (wf_small (k := 3) (f := (f : Int)) (b := nmI (yf.bs.map Blk.name) nm) (s := 0) (by omega) (by omega) (Hbd.out nm) (by omega))
            have HEl := hid (show (E ++ ((ts.take k).map (gE yf.bs f b j)).map (numE L)).length ≤ 1000000 by rw [List.length_append, List.length_map, List.length_map, List.length_take]; omega)
            have Hsn := hid (ts_snoc (L := L) (E := E) (g := gE yf.bs f b j) hnm)
            clear hnm had4
            generalize E ++ ((ts.take k).map (gE yf.bs f b j)).map (numE L) = E1 at *
            go_wp2_with fail
            clear hc4 had4l
            have hcur := HKb.out _ _ _ hL.out (Below.refl _ _).drew
            have hkf := hk.out.trans (KeepF.below (Below.refl _ _).drew)
            obtain ⟨n0, n1, n2, n3⟩ := Fb.four (HNb.out _ _ hcur)
            obtain ⟨s0, s1, s2, s3⟩ := Fb.four (HSb.out _ _ hcur)
            obtain ⟨b0, b1, b2⟩ := (HBb.out _ _ hcur).thr
            have hGl := (HNb.out _ _ hcur).lt
            have hHl := (HSb.out _ _ hcur).lt
            have hBl := (HBb.out _ _ hcur).lt
            go_region_law (
              (go_simp
               first
              | (go_at_call 113
                 refine (HB113.out _ _ hcur nm).mono ?_
                 rintro e wn ⟨rfl, hbk⟩
                 have hcur := HKb.out _ _ _ hcur hbk
                 have hkf := hkf.trans (KeepF.below hbk)
                 obtain ⟨n0, n1, n2, n3⟩ := Fb.four (HNb.out _ _ hcur)
                 obtain ⟨s0, s1, s2, s3⟩ := Fb.four (HSb.out _ _ hcur)
                 obtain ⟨b0, b1, b2⟩ := (HBb.out _ _ hcur).thr
                 have hGl := (HNb.out _ _ hcur).lt
                 have hHl := (HSb.out _ _ hcur).lt
                 have hBl := (HBb.out _ _ hcur).lt
                 clear hbk)
              | (go_at_call 78
                 refine (stmtNode_any _ _ _ _).mono ?_
                 rintro e wn ⟨rfl, hbk⟩
                 have hcur := HKb.out _ _ _ hcur hbk
                 have hkf := hkf.trans (KeepF.below hbk)
                 obtain ⟨n0, n1, n2, n3⟩ := Fb.four (HNb.out _ _ hcur)
                 obtain ⟨s0, s1, s2, s3⟩ := Fb.four (HSb.out _ _ hcur)
                 obtain ⟨b0, b1, b2⟩ := (HBb.out _ _ hcur).thr
                 have hGl := (HNb.out _ _ hcur).lt
                 have hHl := (HSb.out _ _ hcur).lt
                 have hBl := (HBb.out _ _ hcur).lt
                 clear hbk)
              | (go_at_call 77
                 refine (HCo.out _ _ hcur HEl.out ⟨3, f, b, j⟩ ⟨3, f, nmI (yf.bs.map Blk.name) nm, 0⟩ Hwn.out Hwt.out).mono ?_
                 rintro e wn ⟨rfl, hcur, hk77⟩
                 have hkf := hkf.trans hk77
                 obtain ⟨n0, n1, n2, n3⟩ := Fb.four (HNb.out _ _ hcur)
                 obtain ⟨s0, s1, s2, s3⟩ := Fb.four (HSb.out _ _ hcur)
                 obtain ⟨b0, b1, b2⟩ := (HBb.out _ _ hcur).thr
                 have hGl := (HNb.out _ _ hcur).lt
                 have hHl := (HSb.out _ _ hcur).lt
                 have hBl := (HBb.out _ _ hcur).lt
                 clear hk77)))
            all_goals
              clear n0 n1 n2 n3 s0 s1 s2 s3 b0 b1 b2 hGl hHl hBl
              have hcur2 := hid (Hsn.out ▸ hcur)
              have hkf2 := hid hkf
              clear hcur hkf
              go_wp2_with fail
              go_roundw
              case rel => exact ⟨k + 1, by omega, by go_num, hcur2, hkf2⟩
              case measure => simp [intOf]; omega
          · obtain rfl : k = sm := by omega
            have HF := hid (show Bls w0 ⟨some ad1, xn, xc, xl⟩ B MB M N L (E ++ (stE pp yf.bs f b j ⟨op, dd, us, ts⟩).map (numE L)) wr from by
              have := HEn.out _ _ hL.out
              rw [List.take_of_length_le (by rw [Hsln.out]; omega)] at this
              rw [Hst.out]; exact this)
            clear hL
            go_wp2_with fail
            exact bodyPost_end (v := .tuple #[]) (by simp [results, Tryz.results79]) rfl ⟨rfl, HF.out, hk.out⟩
    | false =>
      cases h8 : (op == 8) with
      | true =>
        as_aux_lemma =>
          have Hst := hid (show stE pp yf.bs f b j ⟨op, dd, us, ts⟩ = ts.map (gE yf.bs f b j) by unfold stE; simp only; rw [h7, h8]; rfl)
          go_wp2_with fail
          clear s0 s1 s2 s3
          go_loopw [7, 48] (fun _ iv wr => ∃ k : Nat, k ≤ sm ∧ iv = .int .i64 k ∧ Hid (Ls2 w0 ⟨some ad1, xn, xc, xl⟩ B MB M N G Hb L ⟨3, f, b, j⟩ ⟨sA, sn, sc, sB, sm, sd, ⟨op, dd, us, ts⟩⟩ (E ++ ((ts.take k).map (gE yf.bs f b j)).map (numE L)) wr) ∧ Hid (KeepF w wr)) (fun _ iv _ => sm - (intOf iv).toNat)
          case atStart => exact ⟨0, by omega, rfl, hid (by simpa using HL3.out), HK3⟩
          case round =>
            clear HL3 HK3
            obtain ⟨k, hkk, rfl, hL, hk⟩ := hrel
            by_cases hlt : k < sm
            · obtain ⟨nm, hnm, -⟩ := get_at Hsln.out hlt
              obtain ⟨ad4, hA4, had4, hc4⟩ := (HTs2.out _ _ hL.out).one (i := k) (u := .string nm) (by rw [List.getElem?_map, hnm]; rfl)
              subst hA4
              have had4l := had4.1
              have Hnm := hid hnm
              have Hwt := hid (wf_small (k := 3) (f := (f : Int)) (b := nmI (yf.bs.map Blk.name) nm) (s := 0) (by omega) (by omega) (Hbd.out nm) (by omega))
              have HEl := hid (show (E ++ ((ts.take k).map (gE yf.bs f b j)).map (numE L)).length ≤ 1000000 by rw [List.length_append, List.length_map, List.length_map, List.length_take]; omega)
              have Hsn := hid (ts_snoc (L := L) (E := E) (g := gE yf.bs f b j) hnm)
              clear hnm had4
              generalize E ++ ((ts.take k).map (gE yf.bs f b j)).map (numE L) = E1 at *
              go_wp2_with fail
              clear hc4 had4l
              have hcur := HKb.out _ _ _ hL.out (Below.refl _ _).drew
              have hkf := hk.out.trans (KeepF.below (Below.refl _ _).drew)
              obtain ⟨n0, n1, n2, n3⟩ := Fb.four (HNb.out _ _ hcur)
              obtain ⟨s0, s1, s2, s3⟩ := Fb.four (HSb.out _ _ hcur)
              obtain ⟨b0, b1, b2⟩ := (HBb.out _ _ hcur).thr
              have hGl := (HNb.out _ _ hcur).lt
              have hHl := (HSb.out _ _ hcur).lt
              have hBl := (HBb.out _ _ hcur).lt
              go_region_law (
                (go_simp
                 first
                | (go_at_call 113
                   refine (HB113.out _ _ hcur nm).mono ?_
                   rintro e wn ⟨rfl, hbk⟩
                   have hcur := HKb.out _ _ _ hcur hbk
                   have hkf := hkf.trans (KeepF.below hbk)
                   obtain ⟨n0, n1, n2, n3⟩ := Fb.four (HNb.out _ _ hcur)
                   obtain ⟨s0, s1, s2, s3⟩ := Fb.four (HSb.out _ _ hcur)
                   obtain ⟨b0, b1, b2⟩ := (HBb.out _ _ hcur).thr
                   have hGl := (HNb.out _ _ hcur).lt
                   have hHl := (HSb.out _ _ hcur).lt
                   have hBl := (HBb.out _ _ hcur).lt
                   clear hbk)
                | (go_at_call 78
                   refine (stmtNode_any _ _ _ _).mono ?_
                   rintro e wn ⟨rfl, hbk⟩
                   have hcur := HKb.out _ _ _ hcur hbk
                   have hkf := hkf.trans (KeepF.below hbk)
                   obtain ⟨n0, n1, n2, n3⟩ := Fb.four (HNb.out _ _ hcur)
                   obtain ⟨s0, s1, s2, s3⟩ := Fb.four (HSb.out _ _ hcur)
                   obtain ⟨b0, b1, b2⟩ := (HBb.out _ _ hcur).thr
                   have hGl := (HNb.out _ _ hcur).lt
                   have hHl := (HSb.out _ _ hcur).lt
                   have hBl := (HBb.out _ _ hcur).lt
                   clear hbk)
                | (go_at_call 77
                   refine (HCo.out _ _ hcur HEl.out ⟨3, f, b, j⟩ ⟨3, f, nmI (yf.bs.map Blk.name) nm, 0⟩ Hwn.out Hwt.out).mono ?_
                   rintro e wn ⟨rfl, hcur, hk77⟩
                   have hkf := hkf.trans hk77
                   obtain ⟨n0, n1, n2, n3⟩ := Fb.four (HNb.out _ _ hcur)
                   obtain ⟨s0, s1, s2, s3⟩ := Fb.four (HSb.out _ _ hcur)
                   obtain ⟨b0, b1, b2⟩ := (HBb.out _ _ hcur).thr
                   have hGl := (HNb.out _ _ hcur).lt
                   have hHl := (HSb.out _ _ hcur).lt
                   have hBl := (HBb.out _ _ hcur).lt
                   clear hk77)))
              all_goals
                clear n0 n1 n2 n3 s0 s1 s2 s3 b0 b1 b2 hGl hHl hBl
                have hcur2 := hid (Hsn.out ▸ hcur)
                have hkf2 := hid hkf
                clear hcur hkf
                go_wp2_with fail
                go_roundw
                case rel => exact ⟨k + 1, by omega, by go_num, hcur2, hkf2⟩
                case measure => simp [intOf]; omega
            · obtain rfl : k = sm := by omega
              have HF := hid (show Bls w0 ⟨some ad1, xn, xc, xl⟩ B MB M N L (E ++ (stE pp yf.bs f b j ⟨op, dd, us, ts⟩).map (numE L)) wr from by
                have := HEn.out _ _ hL.out
                rw [List.take_of_length_le (by rw [Hsln.out]; omega)] at this
                rw [Hst.out]; exact this)
              clear hL
              go_wp2_with fail
              exact bodyPost_end (v := .tuple #[]) (by simp [results, Tryz.results79]) rfl ⟨rfl, HF.out, hk.out⟩
      | false =>
        cases h9 : (op == 9) with
        | true =>
          as_aux_lemma =>
            have Hst := hid (show stE pp yf.bs f b j ⟨op, dd, us, ts⟩ = [(⟨3, f, b, j⟩, ⟨2, f, -1, -1⟩)] by unfold stE; simp only; rw [h7, h8, h9]; rfl)
            have hL := HL3
            have hk := HK3
            have hjw : IntKind.i64.wrap ((j : Int) + 1) = (j : Int) + 1 := IntWalk.i64_in _ (by omega)
            go_wp2_with fail
            clear s0 s1 s2 s3 HL3 HK3
            have hcur := HKb.out _ _ _ hL.out (Below.refl _ _).drew
            have hkf := hk.out.trans (KeepF.below (Below.refl _ _).drew)
            obtain ⟨n0, n1, n2, n3⟩ := Fb.four (HNb.out _ _ hcur)
            obtain ⟨s0, s1, s2, s3⟩ := Fb.four (HSb.out _ _ hcur)
            obtain ⟨b0, b1, b2⟩ := (HBb.out _ _ hcur).thr
            have hGl := (HNb.out _ _ hcur).lt
            have hHl := (HSb.out _ _ hcur).lt
            have hBl := (HBb.out _ _ hcur).lt
            go_region_law (
              (go_simp
               first
                | (go_at_call 114
                   refine (exitNode_any _ _).mono ?_
                   rintro e wn ⟨rfl, hbk⟩
                   have hcur := HKb.out _ _ _ hcur hbk
                   have hkf := hkf.trans (KeepF.below hbk)
                   obtain ⟨n0, n1, n2, n3⟩ := Fb.four (HNb.out _ _ hcur)
                   obtain ⟨s0, s1, s2, s3⟩ := Fb.four (HSb.out _ _ hcur)
                   obtain ⟨b0, b1, b2⟩ := (HBb.out _ _ hcur).thr
                   have hGl := (HNb.out _ _ hcur).lt
                   have hHl := (HSb.out _ _ hcur).lt
                   have hBl := (HBb.out _ _ hcur).lt
                   clear hbk)
                | (go_at_call 77
                   refine (HCo.out _ _ hcur (by omega) ⟨3, f, b, j⟩ ⟨2, f, -1, -1⟩ Hwn.out (wf_small (by omega) (by omega) (by omega) (by omega))).mono ?_
                   rintro e wn ⟨rfl, hcur, hk77⟩
                   have hkf := hkf.trans hk77
                   obtain ⟨n0, n1, n2, n3⟩ := Fb.four (HNb.out _ _ hcur)
                   obtain ⟨s0, s1, s2, s3⟩ := Fb.four (HSb.out _ _ hcur)
                   obtain ⟨b0, b1, b2⟩ := (HBb.out _ _ hcur).thr
                   have hGl := (HNb.out _ _ hcur).lt
                   have hHl := (HSb.out _ _ hcur).lt
                   have hBl := (HBb.out _ _ hcur).lt
                   clear hk77)))
            all_goals
              have HF := hid (show Bls w0 ⟨some ad1, xn, xc, xl⟩ B MB M N L (E ++ (stE pp yf.bs f b j ⟨op, dd, us, ts⟩).map (numE L)) _ from by rw [Hst.out]; exact HEn.out _ _ hcur)
              clear n0 n1 n2 n3 s0 s1 s2 s3 b0 b1 b2 hGl hHl hBl
              go_wp2_with fail
              exact bodyPost_end (v := .tuple #[]) (by simp [results, Tryz.results79]) rfl ⟨rfl, HF.out, hkf⟩
        | false =>
          cases h3 : (op == 3) with
          | true =>
            as_aux_lemma =>
              have hne := Hts.out h3
              have hlen0 : 0 < sm := by rw [← Hsln.out]; exact List.length_pos_iff.2 hne
              obtain ⟨nm, hnm, -⟩ := get_at Hsln.out hlen0
              have Hst := hid (show stE pp yf.bs f b j ⟨op, dd, us, ts⟩ = [(⟨3, f, b, j⟩, ⟨1, nmI (pp.map Fnc.name) nm, -1, -1⟩), (⟨2, nmI (pp.map Fnc.name) nm, -1, -1⟩, ⟨4, f, b, j⟩)] by
                unfold stE; simp only; rw [h7, h8, h9, h3, show ts.getD 0 ByteArray.empty = nm by rw [List.getD_eq_getElem?_getD, hnm]; rfl]; rfl)
              obtain ⟨ad4, hA4, had4, hc4⟩ := (HTs2.out _ _ HL3.out).one (i := 0) (u := .string nm) (by rw [List.getElem?_map, hnm]; rfl)
              subst hA4
              rw [show ad4.add 0 = ad4 by unfold Addr.add; simp] at hc4
              have Hw1 := hid (wf_small (k := 1) (f := nmI (pp.map Fnc.name) nm) (b := -1) (s := -1) (by omega) (Hpd.out nm) (by omega) (by omega))
              have Hw2 := hid (wf_small (k := 2) (f := nmI (pp.map Fnc.name) nm) (b := -1) (s := -1) (by omega) (Hpd.out nm) (by omega) (by omega))
              have Hw4 := hid (wf_small (k := 4) (f := (f : Int)) (b := (b : Int)) (s := (j : Int)) (by omega) (by omega) (by omega) (by omega))
              have Hnc := hid (fun (v : World) (h : Ls2 w0 ⟨some ad1, xn, xc, xl⟩ B MB M N G Hb L ⟨3, f, b, j⟩ ⟨sA, sn, sc, some ad4, sm, sd, ⟨op, dd, us, ts⟩⟩ E v) => (show ad4.block < v.heap.size ∧ v.cell? ad4 = some (.string nm) by
                obtain ⟨ad5, hA5, had5, hc5⟩ := (HTs2.out _ _ h).one (i := 0) (u := .string nm) (by rw [List.getElem?_map, hnm]; rfl)
                obtain rfl := Option.some.inj hA5
                rw [show ad4.add 0 = ad4 by unfold Addr.add; simp] at hc5
                exact ⟨had5.1, hc5⟩))
              clear hnm hc4 had4 hne
              have hcIe : ∃ cI, nmI (pp.map Fnc.name) nm = cI := ⟨_, rfl⟩
              obtain ⟨cI, hcIe⟩ := hcIe
              have HB115n := hid (fun (v : World) (h : Ls2 w0 ⟨some ad1, xn, xc, xl⟩ B MB M N G Hb L ⟨3, f, b, j⟩ ⟨sA, sn, sc, some ad4, sm, sd, ⟨op, dd, us, ts⟩⟩ E v) => HB115.out E v h nm)
              rw [hcIe] at Hst Hw1 Hw2 HB115n
              clear hcIe
              have hL := HL3
              have hk := HK3
              clear HL3 HK3
              go_upto_region 15 with fail
              clear s0 s1 s2 s3
              go_cut [8] (fun v wd => v = .int .i64 cI ∧ Hid (Ls2 w0 ⟨some ad1, xn, xc, xl⟩ B MB M N G Hb L ⟨3, f, b, j⟩ ⟨sA, sn, sc, some ad4, sm, sd, ⟨op, dd, us, ts⟩⟩ E wd) ∧ Hid (KeepF w wd))
              case first =>
                have hcur := HKb.out _ _ _ hL.out (Below.refl _ _).drew
                have hkf := hk.out.trans (KeepF.below (Below.refl _ _).drew)
                obtain ⟨n0, n1, n2, n3⟩ := Fb.four (HNb.out _ _ hcur)
                obtain ⟨s0, s1, s2, s3⟩ := Fb.four (HSb.out _ _ hcur)
                obtain ⟨b0, b1, b2⟩ := (HBb.out _ _ hcur).thr
                have hGl := (HNb.out _ _ hcur).lt
                have hHl := (HSb.out _ _ hcur).lt
                have hBl := (HBb.out _ _ hcur).lt
                obtain ⟨hnl, hnc⟩ := Hnc.out _ hcur
                go_region_law (
                  (go_simp
                   first
                  | (go_at_call 115
                     refine (HB115n.out _ hcur).mono ?_
                     rintro e wn ⟨rfl, hbk⟩
                     have hcur := HKb.out _ _ _ hcur hbk
                     have hkf := hkf.trans (KeepF.below hbk)
                     obtain ⟨n0, n1, n2, n3⟩ := Fb.four (HNb.out _ _ hcur)
                     obtain ⟨s0, s1, s2, s3⟩ := Fb.four (HSb.out _ _ hcur)
                     obtain ⟨b0, b1, b2⟩ := (HBb.out _ _ hcur).thr
                     have hGl := (HNb.out _ _ hcur).lt
                     have hHl := (HSb.out _ _ hcur).lt
                     have hBl := (HBb.out _ _ hcur).lt
                     clear hbk)))
                all_goals
                  clear n0 n1 n2 n3 s0 s1 s2 s3 b0 b1 b2 hGl hHl hBl
                  go_wp2_with fail
                  go_meet
                  exact ⟨rfl, hid hcur, hid hkf⟩
              case rest =>
                clear hL hk
                obtain ⟨rfl, hL, hk⟩ := hcut
                go_upto_region 16 with fail
                go_cut [] (fun wd => Hid (Ls2 w0 ⟨some ad1, xn, xc, xl⟩ B MB M N G Hb L ⟨3, f, b, j⟩ ⟨sA, sn, sc, some ad4, sm, sd, ⟨op, dd, us, ts⟩⟩ (E ++ [numE L (⟨3, f, b, j⟩, ⟨1, cI, -1, -1⟩)]) wd) ∧ Hid (KeepF w wd))
                case first =>
                  have hcur := HKb.out _ _ _ hL.out (Below.refl _ _).drew
                  have hkf := hk.out.trans (KeepF.below (Below.refl _ _).drew)
                  obtain ⟨n0, n1, n2, n3⟩ := Fb.four (HNb.out _ _ hcur)
                  obtain ⟨s0, s1, s2, s3⟩ := Fb.four (HSb.out _ _ hcur)
                  obtain ⟨b0, b1, b2⟩ := (HBb.out _ _ hcur).thr
                  have hGl := (HNb.out _ _ hcur).lt
                  have hHl := (HSb.out _ _ hcur).lt
                  have hBl := (HBb.out _ _ hcur).lt
                  go_region_law (
                    (go_simp
                     first
                    | (go_at_call 116
                       refine (entryNode_any _ _).mono ?_
                       rintro e wn ⟨rfl, hbk⟩
                       have hcur := HKb.out _ _ _ hcur hbk
                       have hkf := hkf.trans (KeepF.below hbk)
                       obtain ⟨n0, n1, n2, n3⟩ := Fb.four (HNb.out _ _ hcur)
                       obtain ⟨s0, s1, s2, s3⟩ := Fb.four (HSb.out _ _ hcur)
                       obtain ⟨b0, b1, b2⟩ := (HBb.out _ _ hcur).thr
                       have hGl := (HNb.out _ _ hcur).lt
                       have hHl := (HSb.out _ _ hcur).lt
                       have hBl := (HBb.out _ _ hcur).lt
                       clear hbk)
                    | (go_at_call 77
                       refine (HCo.out _ _ hcur (by omega) ⟨3, f, b, j⟩ ⟨1, cI, -1, -1⟩ Hwn.out Hw1.out).mono ?_
                       rintro e wn ⟨rfl, hcur, hk77⟩
                       have hkf := hkf.trans hk77
                       obtain ⟨n0, n1, n2, n3⟩ := Fb.four (HNb.out _ _ hcur)
                       obtain ⟨s0, s1, s2, s3⟩ := Fb.four (HSb.out _ _ hcur)
                       obtain ⟨b0, b1, b2⟩ := (HBb.out _ _ hcur).thr
                       have hGl := (HNb.out _ _ hcur).lt
                       have hHl := (HSb.out _ _ hcur).lt
                       have hBl := (HBb.out _ _ hcur).lt
                       clear hk77)))
                  all_goals
                    clear n0 n1 n2 n3 s0 s1 s2 s3 b0 b1 b2 hGl hHl hBl
                    go_wp2_with fail
                    go_meet
                    exact ⟨hid hcur, hid hkf⟩
                case rest =>
                  clear hL hk
                  obtain ⟨hL, hk⟩ := hcut
                  have HEl := hid (show (E ++ [numE L (⟨3, f, b, j⟩, ⟨1, cI, -1, -1⟩)]).length ≤ 1000000 by simp; omega)
                  go_upto_region 17 with fail
                  have hcur := HKb.out _ _ _ hL.out (Below.refl _ _).drew
                  have hkf := hk.out.trans (KeepF.below (Below.refl _ _).drew)
                  obtain ⟨n0, n1, n2, n3⟩ := Fb.four (HNb.out _ _ hcur)
                  obtain ⟨s0, s1, s2, s3⟩ := Fb.four (HSb.out _ _ hcur)
                  obtain ⟨b0, b1, b2⟩ := (HBb.out _ _ hcur).thr
                  have hGl := (HNb.out _ _ hcur).lt
                  have hHl := (HSb.out _ _ hcur).lt
                  have hBl := (HBb.out _ _ hcur).lt
                  go_region_law (
                    (go_simp
                     first
                    | (go_at_call 114
                       refine (exitNode_any _ _).mono ?_
                       rintro e wn ⟨rfl, hbk⟩
                       have hcur := HKb.out _ _ _ hcur hbk
                       have hkf := hkf.trans (KeepF.below hbk)
                       obtain ⟨n0, n1, n2, n3⟩ := Fb.four (HNb.out _ _ hcur)
                       obtain ⟨s0, s1, s2, s3⟩ := Fb.four (HSb.out _ _ hcur)
                       obtain ⟨b0, b1, b2⟩ := (HBb.out _ _ hcur).thr
                       have hGl := (HNb.out _ _ hcur).lt
                       have hHl := (HSb.out _ _ hcur).lt
                       have hBl := (HBb.out _ _ hcur).lt
                       clear hbk)
                    | (go_at_call 77
                       refine (HCo.out _ _ hcur HEl.out ⟨2, cI, -1, -1⟩ ⟨4, f, b, j⟩ Hw2.out Hw4.out).mono ?_
                       rintro e wn ⟨rfl, hcur, hk77⟩
                       have hkf := hkf.trans hk77
                       obtain ⟨n0, n1, n2, n3⟩ := Fb.four (HNb.out _ _ hcur)
                       obtain ⟨s0, s1, s2, s3⟩ := Fb.four (HSb.out _ _ hcur)
                       obtain ⟨b0, b1, b2⟩ := (HBb.out _ _ hcur).thr
                       have hGl := (HNb.out _ _ hcur).lt
                       have hHl := (HSb.out _ _ hcur).lt
                       have hBl := (HBb.out _ _ hcur).lt
                       clear hk77)))
                  all_goals
                    have HF := hid (show Bls w0 ⟨some ad1, xn, xc, xl⟩ B MB M N L (E ++ (stE pp yf.bs f b j ⟨op, dd, us, ts⟩).map (numE L)) _ from by
                      rw [Hst.out]; have := HEn.out _ _ hcur; rw [List.append_assoc] at this; exact this)
                    clear n0 n1 n2 n3 s0 s1 s2 s3 b0 b1 b2 hGl hHl hBl
                    go_wp2_with fail
                    exact bodyPost_end (v := .tuple #[]) (by simp [results, Tryz.results79]) rfl ⟨rfl, HF.out, hkf⟩
          | false =>
            as_aux_lemma =>
              have Hst := hid (show stE pp yf.bs f b j ⟨op, dd, us, ts⟩ = [(⟨3, f, b, j⟩, ⟨3, f, b, (j : Int) + 1⟩)] by unfold stE; simp only; rw [h7, h8, h9, h3]; rfl)
              have hL := HL3
              have hk := HK3
              have hjw : IntKind.i64.wrap ((j : Int) + 1) = (j : Int) + 1 := IntWalk.i64_in _ (by omega)
              go_wp2_with fail
              clear s0 s1 s2 s3 HL3 HK3
              have hcur := HKb.out _ _ _ hL.out (Below.refl _ _).drew
              have hkf := hk.out.trans (KeepF.below (Below.refl _ _).drew)
              obtain ⟨n0, n1, n2, n3⟩ := Fb.four (HNb.out _ _ hcur)
              obtain ⟨s0, s1, s2, s3⟩ := Fb.four (HSb.out _ _ hcur)
              obtain ⟨b0, b1, b2⟩ := (HBb.out _ _ hcur).thr
              have hGl := (HNb.out _ _ hcur).lt
              have hHl := (HSb.out _ _ hcur).lt
              have hBl := (HBb.out _ _ hcur).lt
              go_region_law (
                (go_simp
                 first
                  | (go_at_call 78
                     refine (stmtNode_any _ _ _ _).mono ?_
                     rintro e wn ⟨rfl, hbk⟩
                     have hcur := HKb.out _ _ _ hcur hbk
                     have hkf := hkf.trans (KeepF.below hbk)
                     obtain ⟨n0, n1, n2, n3⟩ := Fb.four (HNb.out _ _ hcur)
                     obtain ⟨s0, s1, s2, s3⟩ := Fb.four (HSb.out _ _ hcur)
                     obtain ⟨b0, b1, b2⟩ := (HBb.out _ _ hcur).thr
                     have hGl := (HNb.out _ _ hcur).lt
                     have hHl := (HSb.out _ _ hcur).lt
                     have hBl := (HBb.out _ _ hcur).lt
                     clear hbk)
                  | (go_at_call 77
                     refine (HCo.out _ _ hcur (by omega) ⟨3, f, b, j⟩ ⟨3, f, b, (j : Int) + 1⟩ Hwn.out (wf_small (by omega) (by omega) (by omega) (by omega))).mono ?_
                     rintro e wn ⟨rfl, hcur, hk77⟩
                     have hkf := hkf.trans hk77
                     obtain ⟨n0, n1, n2, n3⟩ := Fb.four (HNb.out _ _ hcur)
                     obtain ⟨s0, s1, s2, s3⟩ := Fb.four (HSb.out _ _ hcur)
                     obtain ⟨b0, b1, b2⟩ := (HBb.out _ _ hcur).thr
                     have hGl := (HNb.out _ _ hcur).lt
                     have hHl := (HSb.out _ _ hcur).lt
                     have hBl := (HBb.out _ _ hcur).lt
                     clear hk77)))
              all_goals
                have HF := hid (show Bls w0 ⟨some ad1, xn, xc, xl⟩ B MB M N L (E ++ (stE pp yf.bs f b j ⟨op, dd, us, ts⟩).map (numE L)) _ from by rw [Hst.out]; exact HEn.out _ _ hcur)
                clear n0 n1 n2 n3 s0 s1 s2 s3 b0 b1 b2 hGl hHl hBl
                go_wp2_with fail
                exact bodyPost_end (v := .tuple #[]) (by simp [results, Tryz.results79]) rfl ⟨rfl, HF.out, hkf⟩

/-- The edges that leave adds. -/
def lvE (p : List Fnc) (n : Nd) : List (Nd × Nd) :=
  if n.kd == 1 then [(n, ⟨3, n.fn, 0, 0⟩)]
  else if n.kd == 3 then (match p[n.fn.toNat]? with | some F => (match F.bs[n.bk.toNat]? with | some b => (match b.ss[n.st.toNat]? with | some t => stE p F.bs n.fn.toNat n.bk.toNat n.st.toNat t | none => []) | none => []) | none => [])
  else if n.kd == 4 then [(n, ⟨3, n.fn, n.bk, n.st + 1⟩)]
  else []
end Go.Proofs.YtcgichfanfijjaaGreatDoor

namespace Go.Proofs.YtcgichfanfijjaaGreatDoor
set_option maxRecDepth 20000
set_option linter.unusedVariables false
set_option linter.unusedSimpArgs false
open Go.ChangeShapes Go.WideShapes Go.ChangeAt Go.RowKit

/-- A node of a program. -/
inductive NdOk (p : List Fnc) : Nd → Prop
  | entry (f : Nat) : f ≤ 1000 → NdOk p ⟨1, f, -1, -1⟩
  | exit (f : Nat) : f ≤ 1000 → NdOk p ⟨2, f, -1, -1⟩
  | stmt (f b j : Nat) (F : Fnc) (B : Blk) (t : Stm) : p[f]? = some F → F.bs[b]? = some B → B.ss[j]? = some t → ((t.op == 3) = true → t.ts ≠ []) → NdOk p ⟨3, f, b, j⟩
  | retn (f b j : Nat) : f ≤ 1000 → b ≤ 1000 → j ≤ 1000 → NdOk p ⟨4, f, b, j⟩
theorem lv_stmt {p : List Fnc} {f b j : Nat} {F : Fnc} {B : Blk} {t : Stm} (h1 : p[f]? = some F) (h2 : F.bs[b]? = some B) (h3 : B.ss[j]? = some t) : lvE p ⟨3, f, b, j⟩ = stE p F.bs f b j t := by
  unfold lvE
  simp [h1, h2, h3]
set_option maxHeartbeats 6400000 in
theorem leave_any (w0 : World) (x : PH) (ex : List (Option Nat)) (B MB M N : Nat) (L : List Nd) (E : List (Nat × Nat)) (w : World) (h : Bls w0 x B MB M N L E w) (hx : PHok w0 ex x) (hN : 1 ≤ N) (hL : L.length = N) (hE : E.length ≤ 900000)
    (n : Nd) (hn : NdOk x.p n) :
    Calls Tryz.prog 45 #[.pointer (some ⟨B, 0, none⟩), .agg #[.int .i64 n.kd, .int .i64 n.fn, .int .i64 n.bk, .int .i64 n.st]] w
      fun e w' => e = .returned (.tuple #[]) ∧ Bls w0 x B MB M N L (E ++ (lvE x.p n).map (numE L)) w' ∧ KeepF w w' := by
  have hb0 := (Below.refl w.heap.size w).alloc (Nat.le_refl _) (.cells #[.int .i64 n.kd, .int .i64 n.fn, .int .i64 n.bk, .int .i64 n.st] 50)
  have hL1 : Ls1 w0 x B MB M N w.heap.size L n E (w.alloc (.cells #[.int .i64 n.kd, .int .i64 n.fn, .int .i64 n.bk, .int .i64 n.st] 50)) := ⟨h.below hb0, Fb.new _ _ _⟩
  have HK0 := hid (KeepF.below hb0)
  have HL1 := hid hL1
  have HX := hid hx
  clear h hL1 hb0 hx
  have hG : ∃ G, w.heap.size = G := ⟨_, rfl⟩
  obtain ⟨G, hG⟩ := hG
  rw [hG] at HL1
  have HGe := hid hG
  clear hG
  cases hn with
  | entry f hf =>
    as_aux_lemma =>
      have HCo := hid (fun (E : List (Nat × Nat)) (v : World) (h : Ls1 w0 x B MB M N G L ⟨1, f, -1, -1⟩ E v) (hE : E.length ≤ 1000000) (a t : Nd) (ha : wfN a) (ht : wfN t) => h.conn hN hL hE a t ha ht)
      have HKb := hid (fun (E : List (Nat × Nat)) (v u : World) (h : Ls1 w0 x B MB M N G L ⟨1, f, -1, -1⟩ E v) (hb : Below v.heap.size v u) => h.below hb)
      have HNb := hid (fun (E : List (Nat × Nat)) (v : World) (h : Ls1 w0 x B MB M N G L ⟨1, f, -1, -1⟩ E v) => h.nb)
      have Hst := hid (show (lvE x.p ⟨1, f, -1, -1⟩).map (numE L) = [numE L (⟨1, f, -1, -1⟩, ⟨3, f, 0, 0⟩)] by unfold lvE; rfl)
      simp only at *
      obtain ⟨n0, n1, n2, n3⟩ := Fb.four (HNb.out _ _ HL1.out)
      have hGl := (HNb.out _ _ HL1.out).lt
      go_enter Tryz.func45, Tryz.ntmps45
      rw [← HGe.out] at n0 n1 n2 n3 hGl
      go_wp2_with fail
      clear n0 n1 n2 n3 hGl
      rw [HGe.out]
      generalize w.alloc (.cells #[.int .i64 1, .int .i64 (f : Int), .int .i64 (-1), .int .i64 (-1)] 50) = W at *
      have hcur := HKb.out _ _ _ HL1.out (Below.refl _ _).drew
      have hkf := HK0.out.trans (KeepF.below (Below.refl _ _).drew)
      obtain ⟨n0, n1, n2, n3⟩ := Fb.four (HNb.out _ _ hcur)
      have hGl := (HNb.out _ _ hcur).lt
      clear HL1 HK0
      go_region_law (
        (go_simp
         first
         | (go_at_call 78
            refine (stmtNode_any _ _ _ _).mono ?_
            rintro e wn ⟨rfl, hbk⟩
            have hcur := HKb.out _ _ _ hcur hbk
            have hkf := hkf.trans (KeepF.below hbk)
            obtain ⟨n0, n1, n2, n3⟩ := Fb.four (HNb.out _ _ hcur)
            have hGl := (HNb.out _ _ hcur).lt
            clear hbk)
         | (go_at_call 77
            refine (HCo.out _ _ hcur (by omega) ⟨1, f, -1, -1⟩ ⟨3, f, 0, 0⟩ (wf_small (by omega) (by omega) (by omega) (by omega)) (wf_small (by omega) (by omega) (by omega) (by omega))).mono ?_
            rintro e wn ⟨rfl, hcur, hk77⟩
            have hkf := hkf.trans hk77
            obtain ⟨n0, n1, n2, n3⟩ := Fb.four (HNb.out _ _ hcur)
            have hGl := (HNb.out _ _ hcur).lt
            clear hk77)))
      all_goals
        have HF := hid (show Bls w0 x B MB M N L (E ++ (lvE x.p ⟨1, f, -1, -1⟩).map (numE L)) _ from by rw [Hst.out]; exact hcur.bls)
        clear n0 n1 n2 n3 hGl
        go_wp2_with fail
        exact bodyPost_end (v := .tuple #[]) (by simp [results, Tryz.results45]) rfl ⟨rfl, HF.out, hkf⟩
  | exit f hf =>
    as_aux_lemma =>
      have Hst := hid (show (lvE x.p ⟨2, f, -1, -1⟩).map (numE L) = [] by unfold lvE; rfl)
      obtain ⟨n0, n1, n2, n3⟩ := Fb.four HL1.out.nb
      have hGl := HL1.out.nb.lt
      have HF := hid (show Bls w0 x B MB M N L (E ++ (lvE x.p ⟨2, f, -1, -1⟩).map (numE L)) _ from by rw [Hst.out, List.append_nil]; exact HL1.out.bls)
      simp only at *
      go_enter Tryz.func45, Tryz.ntmps45
      rw [← HGe.out] at n0 n1 n2 n3 hGl
      go_wp2_with fail
      exact bodyPost_end (v := .tuple #[]) (by simp [results, Tryz.results45]) rfl ⟨rfl, HF.out, HK0.out⟩
  | stmt f b j F Bk t h1 h2 h3 hts =>
    as_aux_lemma =>
      have Hst := hid (lv_stmt h1 h2 h3)
      have HC := hid (fun (v : World) (hv : Bls w0 x B MB M N L E v) => leaveStmt_any w0 x ex B MB M N L E v hv HX.out hN hL hE f b j F Bk t h1 h2 h3 hts)
      clear h1 h2 h3 hts
      obtain ⟨n0, n1, n2, n3⟩ := Fb.four HL1.out.nb
      have hGl := HL1.out.nb.lt
      simp only at *
      go_enter Tryz.func45, Tryz.ntmps45
      rw [← HGe.out] at n0 n1 n2 n3 hGl
      go_wp2_with fail
      clear n0 n1 n2 n3 hGl
      refine (HC.out _ HL1.out.bls).mono ?_
      rintro e w2 ⟨rfl, h2, hk2⟩
      have HF := hid (show Bls w0 x B MB M N L (E ++ (lvE x.p ⟨3, f, b, j⟩).map (numE L)) w2 from by rw [Hst.out]; exact h2)
      have HK2 := hid (HK0.out.trans hk2)
      clear h2 hk2 HC HL1
      go_wp2_with fail
      exact bodyPost_end (v := .tuple #[]) (by simp [results, Tryz.results45]) rfl ⟨rfl, HF.out, HK2.out⟩
  | retn f b j hf hb hj =>
    as_aux_lemma =>
      have HCo := hid (fun (E : List (Nat × Nat)) (v : World) (h : Ls1 w0 x B MB M N G L ⟨4, f, b, j⟩ E v) (hE : E.length ≤ 1000000) (a t : Nd) (ha : wfN a) (ht : wfN t) => h.conn hN hL hE a t ha ht)
      have HKb := hid (fun (E : List (Nat × Nat)) (v u : World) (h : Ls1 w0 x B MB M N G L ⟨4, f, b, j⟩ E v) (hb : Below v.heap.size v u) => h.below hb)
      have HNb := hid (fun (E : List (Nat × Nat)) (v : World) (h : Ls1 w0 x B MB M N G L ⟨4, f, b, j⟩ E v) => h.nb)
      have Hst := hid (show (lvE x.p ⟨4, f, b, j⟩).map (numE L) = [numE L (⟨4, f, b, j⟩, ⟨3, f, b, (j : Int) + 1⟩)] by unfold lvE; rfl)
      have hjw : IntKind.i64.wrap ((j : Int) + 1) = (j : Int) + 1 := IntWalk.i64_in _ (by omega)
      simp only at *
      obtain ⟨n0, n1, n2, n3⟩ := Fb.four (HNb.out _ _ HL1.out)
      have hGl := (HNb.out _ _ HL1.out).lt
      go_enter Tryz.func45, Tryz.ntmps45
      rw [← HGe.out] at n0 n1 n2 n3 hGl
      go_wp2_with fail
      clear n0 n1 n2 n3 hGl
      rw [HGe.out]
      generalize w.alloc (.cells #[.int .i64 4, .int .i64 (f : Int), .int .i64 (b : Int), .int .i64 (j : Int)] 50) = W at *
      have hcur := HKb.out _ _ _ HL1.out (Below.refl _ _).drew
      have hkf := HK0.out.trans (KeepF.below (Below.refl _ _).drew)
      obtain ⟨n0, n1, n2, n3⟩ := Fb.four (HNb.out _ _ hcur)
      have hGl := (HNb.out _ _ hcur).lt
      clear HL1 HK0
      go_region_law (
        (go_simp
         first
         | (go_at_call 78
            refine (stmtNode_any _ _ _ _).mono ?_
            rintro e wn ⟨rfl, hbk⟩
            have hcur := HKb.out _ _ _ hcur hbk
            have hkf := hkf.trans (KeepF.below hbk)
            obtain ⟨n0, n1, n2, n3⟩ := Fb.four (HNb.out _ _ hcur)
            have hGl := (HNb.out _ _ hcur).lt
            clear hbk)
         | (go_at_call 77
            refine (HCo.out _ _ hcur (by omega) ⟨4, f, b, j⟩ ⟨3, f, b, (j : Int) + 1⟩ (wf_small (by omega) (by omega) (by omega) (by omega)) (wf_small (by omega) (by omega) (by omega) (by omega))).mono ?_
            rintro e wn ⟨rfl, hcur, hk77⟩
            have hkf := hkf.trans hk77
            obtain ⟨n0, n1, n2, n3⟩ := Fb.four (HNb.out _ _ hcur)
            have hGl := (HNb.out _ _ hcur).lt
            clear hk77)))
      all_goals
        have HF := hid (show Bls w0 x B MB M N L (E ++ (lvE x.p ⟨4, f, b, j⟩).map (numE L)) _ from by rw [Hst.out]; exact hcur.bls)
        clear n0 n1 n2 n3 hGl
        go_wp2_with fail
        exact bodyPost_end (v := .tuple #[]) (by simp [results, Tryz.results45]) rfl ⟨rfl, HF.out, hkf⟩
end Go.Proofs.YtcgichfanfijjaaGreatDoor

namespace Go.Proofs.YtcgichfanfijjaaGreatDoor
set_option maxRecDepth 20000
open Go.ChangeShapes Go.WideShapes Go.ChangeAt Go.RowKit

/-- The decimal digits of a number, as bytes. -/
def dec (n : Nat) : List UInt8 := if h : n < 10 then [UInt8.ofNat (48 + n)] else dec (n / 10) ++ [UInt8.ofNat (48 + n % 10)]
termination_by n
decreasing_by omega

def str (l : List UInt8) : Value := .string ⟨l.toArray⟩
theorem add_str (a b : List UInt8) (h : a.length + b.length ≤ 4611686018427387904) (w : World) : (binOp BinOp.add 9 (str a) (str b)).run Tryz.prog w = .ok (str (a ++ b)) w := by
  unfold str
  simp [go_sem]
  rw [if_neg (by omega)]
  congr 3
theorem dec_len (n : Nat) : (dec n).length ≤ n + 1 := by
  induction n using Nat.strongRecOn with
  | ind n ih =>
    unfold dec
    split
    · simp
    · have := ih (n / 10) (by omega)
      rw [List.length_append]; simp; omega

theorem slice_digit (d : Int) (h0 : 0 ≤ d) (h1 : d < 10) (w : World) :
    (Instr.slice 9 (.string { data := #[48, 49, 50, 51, 52, 53, 54, 55, 56, 57] }) (some (.int .i64 d)) (some (.int .i64 (d + 1))) none).run Tryz.prog w = .ok (str [UInt8.ofNat (48 + d.toNat)]) w := by
  have : d = 0 ∨ d = 1 ∨ d = 2 ∨ d = 3 ∨ d = 4 ∨ d = 5 ∨ d = 6 ∨ d = 7 ∨ d = 8 ∨ d = 9 := by omega
  rcases this with rfl | rfl | rfl | rfl | rfl | rfl | rfl | rfl | rfl | rfl <;> rfl

theorem decimal_any (n : Nat) (w : World) (hn : n ≤ 1000000000) :
    Calls Tryz.prog 93 #[.int .i64 n] w fun e w' => e = .returned (str (dec n)) ∧ w = w' := by
  have hs := fun w => slice_digit ((n : Int) % 10) (by omega) (by omega) w
  have hd : ((n : Int) % 10).toNat = n % 10 := by omega
  generalize hl : [UInt8.ofNat (48 + ((n : Int) % 10).toNat)] = l0 at hs
  have Hl := hid hl
  have Hd := hid hd
  clear hl hd
  go_enter Tryz.func93, Tryz.ntmps93
  go_wp2_with fail
  clear hs
  go_loop [0, 3] (fun m s => ∃ (k : Nat) (l : List UInt8), k ≤ 1000000000 ∧ m = .int .i64 k ∧ s = str l ∧ Hid (dec n = (if k = 0 then [] else dec k) ++ l)) (fun m _ => (intOf m).toNat)
  case atStart =>
    refine ⟨n / 10, l0, by omega, by go_num, rfl, hid ?_⟩
    rw [← Hl.out, Hd.out]
    by_cases h : n < 10
    · have : n / 10 = 0 := by omega
      rw [if_pos this]; unfold dec; rw [dif_pos h]; simp; congr 2; omega
    · rw [if_neg (by omega)]; conv => lhs; unfold dec
      rw [dif_neg h]
  case round =>
    obtain ⟨k, l, hk, rfl, rfl, hD⟩ := hrel
    by_cases h0 : 0 < k
    · have hs := fun w => slice_digit ((k : Int) % 10) (by omega) (by omega) w
      have hd : ((k : Int) % 10).toNat = k % 10 := by omega
      have hlen := dec_len n
      have hll : (dec n).length = (if k = 0 then [] else dec k).length + l.length := by rw [hD.out, List.length_append]
      generalize hl : [UInt8.ofNat (48 + ((k : Int) % 10).toNat)] = l1 at hs
      have hl1 : l1.length = 1 := by rw [← hl]; rfl
      have ha := fun w => add_str l1 l (by omega) w
      have Hl := hid hl
      have Hd := hid hd
      clear hl hd hlen hll hl1
      go_wp2_with fail
      go_round
      case rel =>
        refine ⟨k / 10, l1 ++ l, by omega, by go_num, rfl, hid ?_⟩
        rw [hD.out, if_neg (by omega), ← Hl.out, Hd.out, ← List.append_assoc]
        congr 1
        by_cases h : k < 10
        · have : k / 10 = 0 := by omega
          rw [if_pos this]; unfold dec; rw [dif_pos h]; simp; congr 2; omega
        · rw [if_neg (by omega)]; conv => lhs; unfold dec
          rw [dif_neg h]
      case measure => simp [intOf]; omega
    · go_wp2_with fail
      go_ret
      refine ⟨?_, rfl⟩
      have h1 : k = 0 := by omega
      rw [hD.out, if_pos h1]; rfl
end Go.Proofs.YtcgichfanfijjaaGreatDoor

namespace Go.Proofs.YtcgichfanfijjaaGreatDoor
set_option maxRecDepth 20000
set_option linter.unusedVariables false
set_option linter.unusedSimpArgs false
open Go.ChangeShapes Go.WideShapes Go.ChangeAt Go.RowKit

def digC (k : Nat) : UInt8 := UInt8.ofNat (48 + k)
theorem small_any (n : Nat) (hn : n < 10) (w : World) : Calls Tryz.prog 167 #[.int .i64 n] w fun e w' => e = .returned (.string ⟨#[digC n]⟩) ∧ w = w' := by
  have t1 : decide ((n : Int) < 10) = true := by simp; omega
  rcases (show n = 0 ∨ n = 1 ∨ n = 2 ∨ n = 3 ∨ n = 4 ∨ n = 5 ∨ n = 6 ∨ n = 7 ∨ n = 8 ∨ n = 9 by omega) with rfl | rfl | rfl | rfl | rfl | rfl | rfl | rfl | rfl | rfl
  all_goals
    clear t1 hn
    go_enter Tryz.func167, Tryz.ntmps167
    go_wp2
    go_ret
    exact ⟨rfl, rfl⟩
theorem format_any (n : Nat) (hn : n < 10) (w : World) : Calls Tryz.prog 156 #[.int .i64 n, .int .i64 10] w fun e w' => e = .returned (.string ⟨#[digC n]⟩) ∧ w = w' := by
  have t1 : decide ((n : Int) < 100) = true := by simp; omega
  have t0 : decide (0 ≤ (n : Int)) = true := by simp
  have H := hid (small_any n hn)
  go_enter Tryz.func156, Tryz.ntmps156
  go_wp2_with fail
  refine (H.out _).mono ?_
  rintro e w' ⟨rfl, rfl⟩
  go_wp2_with fail
  go_ret
  exact ⟨rfl, rfl⟩
theorem itoaI_any (n : Nat) (hn : n < 10) (w : World) : Calls Tryz.prog 131 #[.int .i64 n] w fun e w' => e = .returned (.string ⟨#[digC n]⟩) ∧ w = w' := by
  have H := hid (format_any n hn)
  go_enter Tryz.func131, Tryz.ntmps131
  go_wp2_with fail
  refine (H.out _).mono ?_
  rintro e w' ⟨rfl, rfl⟩
  go_wp2_with fail
  go_ret
  exact ⟨rfl, rfl⟩
theorem itoa_any (n : Nat) (hn : n < 10) (w : World) : Calls Tryz.prog 92 #[.int .i64 n] w fun e w' => e = .returned (.string ⟨#[digC n]⟩) ∧ w = w' := by
  have H := hid (itoaI_any n hn)
  go_enter Tryz.func92, Tryz.ntmps92
  go_wp2_with fail
  refine (H.out _).mono ?_
  rintro e w' ⟨rfl, rfl⟩
  go_wp2_with fail
  go_ret
  exact ⟨rfl, rfl⟩
def dotB : ByteArray := ⟨#[46]⟩
def entW : ByteArray := ⟨#[46, 101, 110, 116, 114, 121]⟩
def exiW : ByteArray := ⟨#[46, 101, 120, 105, 116]⟩
def plsW : ByteArray := ⟨#[43]⟩
def RetTx (w : World) (s : ByteArray) (e : Ending) (w' : World) : Prop := e = .returned (.string s) ∧ Below w.heap.size w w'
theorem prog_fn {w : World} {ex : List (Option Nat)} {x : PH} (h : PHok w ex x) {f : Nat} {F : Fnc} (h1 : x.p[f]? = some F) : ∃ y : FH, x.l[f]? = some y ∧ y ∈ x.l ∧ y.f = F := by
  unfold PH.p at h1
  rw [List.getElem?_map] at h1
  obtain ⟨y, hy, rfl⟩ := Option.map_eq_some_iff.1 h1
  exact ⟨y, hy, List.mem_of_getElem? hy, rfl⟩
set_option maxHeartbeats 6400000 in
theorem label_entry (x : PH) (f : Nat) (bk st : Int) (F : Fnc) (ex : List (Option Nat)) (w : World) (h : PHok w ex x) (hs : Shp w) (h1 : x.p[f]? = some F)
    (i : Nat) (hfind : findI (listN x.p) ⟨1, f, bk, st⟩ = (i : Int)) :
    Calls Tryz.prog 63 #[.agg #[.slice x.A x.n x.c], .agg #[.int .i64 1, .int .i64 f, .int .i64 bk, .int .i64 st]] w (RetTx w (F.name ++ entW)) := by
  have hx0 : PHok w [] x := h.go (Go2.less w (by simp))
  obtain ⟨y, hy, hym, rfl⟩ := prog_fn hx0 h1
  have hb0 : Below w.heap.size w ((w.alloc (.cells #[.slice x.A x.n x.c] 25)).alloc (.cells #[.int .i64 1, .int .i64 f, .int .i64 bk, .int .i64 st] 50)) := ((Below.refl w.heap.size w).alloc (Nat.le_refl _) _).alloc (by rw [World.size_alloc]; omega) _
  have HB0 := hid hb0
  have HP0 := hid ((Fb.new w #[.slice x.A x.n x.c] 25).alloc (.cells #[.int .i64 1, .int .i64 f, .int .i64 bk, .int .i64 st] 50))
  have HN0 := hid (show Fb ((w.alloc (.cells #[.slice x.A x.n x.c] 25)).alloc (.cells #[.int .i64 1, .int .i64 f, .int .i64 bk, .int .i64 st] 50)) (w.heap.size + 1) #[.int .i64 1, .int .i64 f, .int .i64 bk, .int .i64 st] 50 by have := Fb.new (w.alloc (.cells #[.slice x.A x.n x.c] 25)) #[.int .i64 1, .int .i64 f, .int .i64 bk, .int .i64 st] 50; rwa [World.size_alloc] at this)
  have HX0 := hid hx0
  have Hy := hid hy
  have HC := hid (find_any x ⟨1, f, bk, st⟩ [] _ (PHok.below hx0 hb0) (hs.keep (hb0.block 0 hs.pos0)))
  rw [hfind] at HC
  unfold agN at HC
  simp only at HC
  clear h hs h1 hb0 hx0 hfind
  have hfl : f < x.n := by have := (List.getElem?_eq_some_iff.1 hy).1; have h2 : x.l.length = x.n := HX0.out.len; omega
  have hfn : x.n ≤ 40 := HX0.out.few
  have Hym := hid hym
  clear hy hym
  go_enter Tryz.func63, Tryz.ntmps63
  go_wp2_with fail
  generalize (w.alloc (.cells #[.slice x.A x.n x.c] 25)).alloc (.cells #[.int .i64 1, .int .i64 f, .int .i64 bk, .int .i64 st] 50) = w0 at HB0 HP0 HN0 HC ⊢
  refine HC.out.mono ?_
  rintro e w1 ⟨rfl, hb1⟩
  have HB1 := hid (below_step HB0.out hb1)
  have HP1 := hid (HP0.out.below hb1 HP0.out.lt)
  have HN1 := hid (HN0.out.below hb1 HN0.out.lt)
  have HX1 := hid (PHok.below HX0.out HB1.out)
  clear hb1 HB0 HP0 HN0 HC HX0
  obtain ⟨ad, hA, had, hc1, hc2⟩ := FH.cells HX1.out.lies Hy.out
  have Hsm := hid (show y.f.name.size ≤ 1000 from (HX1.out.all y Hym.out).small)
  have Hnm := hid (show y.f.name = y.name from rfl)
  obtain ⟨xA, xn, xc, xl⟩ := x
  obtain ⟨ynm, yA, yn, yc, yl⟩ := y
  simp only at *
  subst hA
  have p0 := HP1.out.onec
  obtain ⟨n0, n1, n2, n3⟩ := Fb.four HN1.out
  have hlP := HP1.out.lt
  have hlN := HN1.out.lt
  have had' : (ad.add (f * 2)).block < w1.heap.size := by rw [add_block]; exact had
  have hi0 : decide ((i : Int) < 0) = false := by simp
  have hs1 : ynm.size + (⟨#[46, 101, 110, 116, 114, 121]⟩ : ByteArray).size ≤ 9223372036854775807 := by have h6 : (⟨#[46, 101, 110, 116, 114, 121]⟩ : ByteArray).size = 6 := rfl; have : ynm.size ≤ 1000 := Hsm.out; omega
  have hs2 : ynm.size + (⟨#[46, 101, 120, 105, 116]⟩ : ByteArray).size ≤ 9223372036854775807 := by have h6 : (⟨#[46, 101, 120, 105, 116]⟩ : ByteArray).size = 5 := rfl; have : ynm.size ≤ 1000 := Hsm.out; omega
  have HB5 := hid (below_step HB1.out ((Below.refl w1.heap.size w1).alloc (Nat.le_refl _) (.cells #[.string ynm, .slice yA yn yc] 65)))
  clear Hy Hym HX1
  go_wp2_with fail
  go_ret
  exact ⟨rfl, HB5.out⟩
set_option maxHeartbeats 6400000 in
theorem label_exit (x : PH) (f : Nat) (bk st : Int) (F : Fnc) (ex : List (Option Nat)) (w : World) (h : PHok w ex x) (hs : Shp w) (h1 : x.p[f]? = some F)
    (i : Nat) (hfind : findI (listN x.p) ⟨2, f, bk, st⟩ = (i : Int)) :
    Calls Tryz.prog 63 #[.agg #[.slice x.A x.n x.c], .agg #[.int .i64 2, .int .i64 f, .int .i64 bk, .int .i64 st]] w (RetTx w (F.name ++ exiW)) := by
  have hx0 : PHok w [] x := h.go (Go2.less w (by simp))
  obtain ⟨y, hy, hym, rfl⟩ := prog_fn hx0 h1
  have hb0 : Below w.heap.size w ((w.alloc (.cells #[.slice x.A x.n x.c] 25)).alloc (.cells #[.int .i64 2, .int .i64 f, .int .i64 bk, .int .i64 st] 50)) := ((Below.refl w.heap.size w).alloc (Nat.le_refl _) _).alloc (by rw [World.size_alloc]; omega) _
  have HB0 := hid hb0
  have HP0 := hid ((Fb.new w #[.slice x.A x.n x.c] 25).alloc (.cells #[.int .i64 2, .int .i64 f, .int .i64 bk, .int .i64 st] 50))
  have HN0 := hid (show Fb ((w.alloc (.cells #[.slice x.A x.n x.c] 25)).alloc (.cells #[.int .i64 2, .int .i64 f, .int .i64 bk, .int .i64 st] 50)) (w.heap.size + 1) #[.int .i64 2, .int .i64 f, .int .i64 bk, .int .i64 st] 50 by have := Fb.new (w.alloc (.cells #[.slice x.A x.n x.c] 25)) #[.int .i64 2, .int .i64 f, .int .i64 bk, .int .i64 st] 50; rwa [World.size_alloc] at this)
  have HX0 := hid hx0
  have Hy := hid hy
  have HC := hid (find_any x ⟨2, f, bk, st⟩ [] _ (PHok.below hx0 hb0) (hs.keep (hb0.block 0 hs.pos0)))
  rw [hfind] at HC
  unfold agN at HC
  simp only at HC
  clear h hs h1 hb0 hx0 hfind
  have hfl : f < x.n := by have := (List.getElem?_eq_some_iff.1 hy).1; have h2 : x.l.length = x.n := HX0.out.len; omega
  have hfn : x.n ≤ 40 := HX0.out.few
  have Hym := hid hym
  clear hy hym
  go_enter Tryz.func63, Tryz.ntmps63
  go_wp2_with fail
  generalize (w.alloc (.cells #[.slice x.A x.n x.c] 25)).alloc (.cells #[.int .i64 2, .int .i64 f, .int .i64 bk, .int .i64 st] 50) = w0 at HB0 HP0 HN0 HC ⊢
  refine HC.out.mono ?_
  rintro e w1 ⟨rfl, hb1⟩
  have HB1 := hid (below_step HB0.out hb1)
  have HP1 := hid (HP0.out.below hb1 HP0.out.lt)
  have HN1 := hid (HN0.out.below hb1 HN0.out.lt)
  have HX1 := hid (PHok.below HX0.out HB1.out)
  clear hb1 HB0 HP0 HN0 HC HX0
  obtain ⟨ad, hA, had, hc1, hc2⟩ := FH.cells HX1.out.lies Hy.out
  have Hsm := hid (show y.f.name.size ≤ 1000 from (HX1.out.all y Hym.out).small)
  have Hnm := hid (show y.f.name = y.name from rfl)
  obtain ⟨xA, xn, xc, xl⟩ := x
  obtain ⟨ynm, yA, yn, yc, yl⟩ := y
  simp only at *
  subst hA
  have p0 := HP1.out.onec
  obtain ⟨n0, n1, n2, n3⟩ := Fb.four HN1.out
  have hlP := HP1.out.lt
  have hlN := HN1.out.lt
  have had' : (ad.add (f * 2)).block < w1.heap.size := by rw [add_block]; exact had
  have hi0 : decide ((i : Int) < 0) = false := by simp
  have hs1 : ynm.size + (⟨#[46, 101, 110, 116, 114, 121]⟩ : ByteArray).size ≤ 9223372036854775807 := by have h6 : (⟨#[46, 101, 110, 116, 114, 121]⟩ : ByteArray).size = 6 := rfl; have : ynm.size ≤ 1000 := Hsm.out; omega
  have hs2 : ynm.size + (⟨#[46, 101, 120, 105, 116]⟩ : ByteArray).size ≤ 9223372036854775807 := by have h6 : (⟨#[46, 101, 120, 105, 116]⟩ : ByteArray).size = 5 := rfl; have : ynm.size ≤ 1000 := Hsm.out; omega
  have HB5 := hid (below_step HB1.out ((Below.refl w1.heap.size w1).alloc (Nat.le_refl _) (.cells #[.string ynm, .slice yA yn yc] 65)))
  clear Hy Hym HX1
  go_wp2_with fail
  go_ret
  exact ⟨rfl, HB5.out⟩
set_option maxHeartbeats 6400000 in
theorem label_stmt (x : PH) (f b j : Nat) (F : Fnc) (B : Blk) (ex : List (Option Nat)) (w : World) (h : PHok w ex x) (hs : Shp w) (h1 : x.p[f]? = some F) (h2 : F.bs[b]? = some B) (hj : j < 10)
    (i : Nat) (hfind : findI (listN x.p) ⟨3, f, b, j⟩ = (i : Int)) :
    Calls Tryz.prog 63 #[.agg #[.slice x.A x.n x.c], .agg #[.int .i64 3, .int .i64 f, .int .i64 b, .int .i64 j]] w (RetTx w ((((F.name ++ dotB) ++ B.name) ++ dotB) ++ (⟨#[digC j]⟩ : ByteArray))) := by
  have hx0 : PHok w [] x := h.go (Go2.less w (by simp))
  obtain ⟨y, hy, hym, rfl⟩ := prog_fn hx0 h1
  obtain ⟨z, hz, hzm, rfl⟩ : ∃ z : BH, y.l[b]? = some z ∧ z ∈ y.l ∧ z.b = B := by
    change (y.l.map BH.b)[b]? = some B at h2
    rw [List.getElem?_map] at h2
    obtain ⟨z, hz, rfl⟩ := Option.map_eq_some_iff.1 h2
    exact ⟨z, hz, List.mem_of_getElem? hz, rfl⟩
  have hb0 : Below w.heap.size w ((w.alloc (.cells #[.slice x.A x.n x.c] 25)).alloc (.cells #[.int .i64 3, .int .i64 f, .int .i64 b, .int .i64 j] 50)) := ((Below.refl w.heap.size w).alloc (Nat.le_refl _) _).alloc (by rw [World.size_alloc]; omega) _
  have HB0 := hid hb0
  have HP0 := hid ((Fb.new w #[.slice x.A x.n x.c] 25).alloc (.cells #[.int .i64 3, .int .i64 f, .int .i64 b, .int .i64 j] 50))
  have HN0 := hid (show Fb ((w.alloc (.cells #[.slice x.A x.n x.c] 25)).alloc (.cells #[.int .i64 3, .int .i64 f, .int .i64 b, .int .i64 j] 50)) (w.heap.size + 1) #[.int .i64 3, .int .i64 f, .int .i64 b, .int .i64 j] 50 by have := Fb.new (w.alloc (.cells #[.slice x.A x.n x.c] 25)) #[.int .i64 3, .int .i64 f, .int .i64 b, .int .i64 j] 50; rwa [World.size_alloc] at this)
  have HX0 := hid hx0
  have Hy := hid hy
  have HC := hid (find_any x ⟨3, f, b, j⟩ [] _ (PHok.below hx0 hb0) (hs.keep (hb0.block 0 hs.pos0)))
  rw [hfind] at HC
  unfold agN at HC
  simp only at HC
  clear h hs h1 h2 hb0 hx0 hfind
  have hfl : f < x.n := by have := (List.getElem?_eq_some_iff.1 hy).1; have h2 : x.l.length = x.n := HX0.out.len; omega
  have hfn : x.n ≤ 40 := HX0.out.few
  have Hym := hid hym
  have hbl : b < y.n := by have := (List.getElem?_eq_some_iff.1 hz).1; have h2 : y.l.length = y.n := (HX0.out.all y hym).len; omega
  have hbn : y.n ≤ 40 := (HX0.out.all y hym).few
  have Hz := hid hz
  have Hzm := hid hzm
  clear hy hym hz hzm
  go_enter Tryz.func63, Tryz.ntmps63
  go_wp2_with fail
  generalize (w.alloc (.cells #[.slice x.A x.n x.c] 25)).alloc (.cells #[.int .i64 3, .int .i64 f, .int .i64 b, .int .i64 j] 50) = w0 at HB0 HP0 HN0 HC ⊢
  refine HC.out.mono ?_
  rintro e w1 ⟨rfl, hb1⟩
  have HB1 := hid (below_step HB0.out hb1)
  have HP1 := hid (HP0.out.below hb1 HP0.out.lt)
  have HN1 := hid (HN0.out.below hb1 HN0.out.lt)
  have HX1 := hid (PHok.below HX0.out HB1.out)
  clear hb1 HB0 HP0 HN0 HC HX0
  obtain ⟨ad, hA, had, hc1, hc2⟩ := FH.cells HX1.out.lies Hy.out
  have HY := hid (HX1.out.all y Hym.out)
  obtain ⟨ad2, hA2, had2, hd1, hd2⟩ := BH.cells HY.out.lies Hz.out
  have Hsz := hid (show z.b.name.size ≤ 1000 from (HY.out.all z Hzm.out).small)
  have Hsm := hid (show y.f.name.size ≤ 1000 from (HX1.out.all y Hym.out).small)
  have Hnm := hid (show y.f.name = y.name from rfl)
  obtain ⟨xA, xn, xc, xl⟩ := x
  obtain ⟨ynm, yA, yn, yc, yl⟩ := y
  obtain ⟨znm, zA, zn, zc, zl⟩ := z
  simp only at *
  subst hA
  subst hA2
  have p0 := HP1.out.onec
  obtain ⟨n0, n1, n2, n3⟩ := Fb.four HN1.out
  have hlP := HP1.out.lt
  have hlN := HN1.out.lt
  have had' : (ad.add (f * 2)).block < w1.heap.size := by rw [add_block]; exact had
  have hi0 : decide ((i : Int) < 0) = false := by simp
  have had2' : (ad2.add (b * 2)).block < w1.heap.size := by rw [add_block]; exact had2
  have HB5 := hid (below_step HB1.out ((Below.refl w1.heap.size w1).alloc (Nat.le_refl _) (.cells #[.string ynm, .slice (some ad2) yn yc] 65)))
  clear Hy Hym HX1 HY Hz Hzm
  have hnS : ynm.size ≤ 1000 := Hsm.out
  have hzS : znm.size ≤ 1000 := Hsz.out
  have e1 : (⟨#[46]⟩ : ByteArray).size = 1 := rfl
  have e2 : (⟨#[digC j]⟩ : ByteArray).size = 1 := rfl
  have e3 : (⟨#[43]⟩ : ByteArray).size = 1 := rfl
  have hs1 : ynm.size + (⟨#[46]⟩ : ByteArray).size ≤ 9223372036854775807 := by omega
  have hs2 : (ynm ++ (⟨#[46]⟩ : ByteArray)).size + znm.size ≤ 9223372036854775807 := by rw [ByteArray.size_append]; omega
  have hs3 : ((ynm ++ (⟨#[46]⟩ : ByteArray)) ++ znm).size + (⟨#[46]⟩ : ByteArray).size ≤ 9223372036854775807 := by rw [ByteArray.size_append, ByteArray.size_append]; omega
  have hs4 : (((ynm ++ (⟨#[46]⟩ : ByteArray)) ++ znm) ++ (⟨#[46]⟩ : ByteArray)).size + (⟨#[digC j]⟩ : ByteArray).size ≤ 9223372036854775807 := by rw [ByteArray.size_append, ByteArray.size_append, ByteArray.size_append]; omega
  have hs5 : ((((ynm ++ (⟨#[46]⟩ : ByteArray)) ++ znm) ++ (⟨#[46]⟩ : ByteArray)) ++ (⟨#[digC j]⟩ : ByteArray)).size + (⟨#[43]⟩ : ByteArray).size ≤ 9223372036854775807 := by rw [ByteArray.size_append, ByteArray.size_append, ByteArray.size_append, ByteArray.size_append]; omega
  have Hit := hid (fun w => itoa_any j hj w)
  clear e1 e2 e3 hnS hzS
  go_wp2_with fail
  have HQ := hid (fun q => below_drewN HB5.out q)
  go_quiet ((go_at_call 92; exact quiet_same (Hit.out _)))
  go_wp2_with fail
  go_ret
  exact ⟨rfl, HQ.out _⟩
set_option maxHeartbeats 6400000 in
theorem label_retn (x : PH) (f b j : Nat) (F : Fnc) (B : Blk) (ex : List (Option Nat)) (w : World) (h : PHok w ex x) (hs : Shp w) (h1 : x.p[f]? = some F) (h2 : F.bs[b]? = some B) (hj : j < 10)
    (i : Nat) (hfind : findI (listN x.p) ⟨4, f, b, j⟩ = (i : Int)) :
    Calls Tryz.prog 63 #[.agg #[.slice x.A x.n x.c], .agg #[.int .i64 4, .int .i64 f, .int .i64 b, .int .i64 j]] w (RetTx w ((((F.name ++ dotB) ++ B.name) ++ dotB) ++ (⟨#[digC j]⟩ : ByteArray) ++ plsW)) := by
  have hx0 : PHok w [] x := h.go (Go2.less w (by simp))
  obtain ⟨y, hy, hym, rfl⟩ := prog_fn hx0 h1
  obtain ⟨z, hz, hzm, rfl⟩ : ∃ z : BH, y.l[b]? = some z ∧ z ∈ y.l ∧ z.b = B := by
    change (y.l.map BH.b)[b]? = some B at h2
    rw [List.getElem?_map] at h2
    obtain ⟨z, hz, rfl⟩ := Option.map_eq_some_iff.1 h2
    exact ⟨z, hz, List.mem_of_getElem? hz, rfl⟩
  have hb0 : Below w.heap.size w ((w.alloc (.cells #[.slice x.A x.n x.c] 25)).alloc (.cells #[.int .i64 4, .int .i64 f, .int .i64 b, .int .i64 j] 50)) := ((Below.refl w.heap.size w).alloc (Nat.le_refl _) _).alloc (by rw [World.size_alloc]; omega) _
  have HB0 := hid hb0
  have HP0 := hid ((Fb.new w #[.slice x.A x.n x.c] 25).alloc (.cells #[.int .i64 4, .int .i64 f, .int .i64 b, .int .i64 j] 50))
  have HN0 := hid (show Fb ((w.alloc (.cells #[.slice x.A x.n x.c] 25)).alloc (.cells #[.int .i64 4, .int .i64 f, .int .i64 b, .int .i64 j] 50)) (w.heap.size + 1) #[.int .i64 4, .int .i64 f, .int .i64 b, .int .i64 j] 50 by have := Fb.new (w.alloc (.cells #[.slice x.A x.n x.c] 25)) #[.int .i64 4, .int .i64 f, .int .i64 b, .int .i64 j] 50; rwa [World.size_alloc] at this)
  have HX0 := hid hx0
  have Hy := hid hy
  have HC := hid (find_any x ⟨4, f, b, j⟩ [] _ (PHok.below hx0 hb0) (hs.keep (hb0.block 0 hs.pos0)))
  rw [hfind] at HC
  unfold agN at HC
  simp only at HC
  clear h hs h1 h2 hb0 hx0 hfind
  have hfl : f < x.n := by have := (List.getElem?_eq_some_iff.1 hy).1; have h2 : x.l.length = x.n := HX0.out.len; omega
  have hfn : x.n ≤ 40 := HX0.out.few
  have Hym := hid hym
  have hbl : b < y.n := by have := (List.getElem?_eq_some_iff.1 hz).1; have h2 : y.l.length = y.n := (HX0.out.all y hym).len; omega
  have hbn : y.n ≤ 40 := (HX0.out.all y hym).few
  have Hz := hid hz
  have Hzm := hid hzm
  clear hy hym hz hzm
  go_enter Tryz.func63, Tryz.ntmps63
  go_wp2_with fail
  generalize (w.alloc (.cells #[.slice x.A x.n x.c] 25)).alloc (.cells #[.int .i64 4, .int .i64 f, .int .i64 b, .int .i64 j] 50) = w0 at HB0 HP0 HN0 HC ⊢
  refine HC.out.mono ?_
  rintro e w1 ⟨rfl, hb1⟩
  have HB1 := hid (below_step HB0.out hb1)
  have HP1 := hid (HP0.out.below hb1 HP0.out.lt)
  have HN1 := hid (HN0.out.below hb1 HN0.out.lt)
  have HX1 := hid (PHok.below HX0.out HB1.out)
  clear hb1 HB0 HP0 HN0 HC HX0
  obtain ⟨ad, hA, had, hc1, hc2⟩ := FH.cells HX1.out.lies Hy.out
  have HY := hid (HX1.out.all y Hym.out)
  obtain ⟨ad2, hA2, had2, hd1, hd2⟩ := BH.cells HY.out.lies Hz.out
  have Hsz := hid (show z.b.name.size ≤ 1000 from (HY.out.all z Hzm.out).small)
  have Hsm := hid (show y.f.name.size ≤ 1000 from (HX1.out.all y Hym.out).small)
  have Hnm := hid (show y.f.name = y.name from rfl)
  obtain ⟨xA, xn, xc, xl⟩ := x
  obtain ⟨ynm, yA, yn, yc, yl⟩ := y
  obtain ⟨znm, zA, zn, zc, zl⟩ := z
  simp only at *
  subst hA
  subst hA2
  have p0 := HP1.out.onec
  obtain ⟨n0, n1, n2, n3⟩ := Fb.four HN1.out
  have hlP := HP1.out.lt
  have hlN := HN1.out.lt
  have had' : (ad.add (f * 2)).block < w1.heap.size := by rw [add_block]; exact had
  have hi0 : decide ((i : Int) < 0) = false := by simp
  have had2' : (ad2.add (b * 2)).block < w1.heap.size := by rw [add_block]; exact had2
  have HB5 := hid (below_step HB1.out ((Below.refl w1.heap.size w1).alloc (Nat.le_refl _) (.cells #[.string ynm, .slice (some ad2) yn yc] 65)))
  clear Hy Hym HX1 HY Hz Hzm
  have hnS : ynm.size ≤ 1000 := Hsm.out
  have hzS : znm.size ≤ 1000 := Hsz.out
  have e1 : (⟨#[46]⟩ : ByteArray).size = 1 := rfl
  have e2 : (⟨#[digC j]⟩ : ByteArray).size = 1 := rfl
  have e3 : (⟨#[43]⟩ : ByteArray).size = 1 := rfl
  have hs1 : ynm.size + (⟨#[46]⟩ : ByteArray).size ≤ 9223372036854775807 := by omega
  have hs2 : (ynm ++ (⟨#[46]⟩ : ByteArray)).size + znm.size ≤ 9223372036854775807 := by rw [ByteArray.size_append]; omega
  have hs3 : ((ynm ++ (⟨#[46]⟩ : ByteArray)) ++ znm).size + (⟨#[46]⟩ : ByteArray).size ≤ 9223372036854775807 := by rw [ByteArray.size_append, ByteArray.size_append]; omega
  have hs4 : (((ynm ++ (⟨#[46]⟩ : ByteArray)) ++ znm) ++ (⟨#[46]⟩ : ByteArray)).size + (⟨#[digC j]⟩ : ByteArray).size ≤ 9223372036854775807 := by rw [ByteArray.size_append, ByteArray.size_append, ByteArray.size_append]; omega
  have hs5 : ((((ynm ++ (⟨#[46]⟩ : ByteArray)) ++ znm) ++ (⟨#[46]⟩ : ByteArray)) ++ (⟨#[digC j]⟩ : ByteArray)).size + (⟨#[43]⟩ : ByteArray).size ≤ 9223372036854775807 := by rw [ByteArray.size_append, ByteArray.size_append, ByteArray.size_append, ByteArray.size_append]; omega
  have Hit := hid (fun w => itoa_any j hj w)
  clear e1 e2 e3 hnS hzS
  go_wp2_with fail
  have HQ := hid (fun q => below_drewN HB5.out q)
  go_quiet ((go_at_call 92; exact quiet_same (Hit.out _)))
  go_wp2_with fail
  go_ret
  exact ⟨rfl, HQ.out _⟩
end Go.Proofs.YtcgichfanfijjaaGreatDoor

namespace Go.Proofs.YtcgichfanfijjaaGreatDoor
set_option maxRecDepth 20000
set_option linter.unusedVariables false
set_option linter.unusedSimpArgs false
open Go.ChangeShapes Go.WideShapes Go.ChangeAt Go.RowKit

theorem isK_text {σ : Rs} {k : ByteArray} (h : isK k σ = true) : (nxt σ.l).text = k := by
  unfold isK at h
  simp only [Bool.and_eq_true] at h
  exact eqB_iff.1 h.2
theorem stmtR_kw {l : List Tok} {er : Int} {k : ByteArray} (hn : isN ⟨l, er⟩ = false) (hk : isK k ⟨l, er⟩ = true) : stmtR ⟨l, er⟩ = opR k ⟨l.tail, er⟩ := by
  unfold stmtR
  rw [hn]
  show opR (nxt l).text _ = _
  rw [show (nxt l).text = k from isK_text hk]
  rfl
theorem opR_call (r : Rs) : opR kwCall r = (⟨3, ⟨#[]⟩, [], [(nameR r).1]⟩, endR (nameR r).2) := by unfold opR eqB; simp only [toList_data]; rfl
theorem opR_source (r : Rs) : opR kwSource r = (⟨4, (nameR r).1, [], []⟩, endR (nameR r).2) := by unfold opR eqB; simp only [toList_data]; rfl
theorem opR_sink (r : Rs) : opR kwSink r = (⟨5, ⟨#[]⟩, [(nameR r).1], []⟩, endR (nameR r).2) := by unfold opR eqB; simp only [toList_data]; rfl
theorem opR_sanitize (r : Rs) : opR kwSanitize r = (⟨6, (nameR r).1, [], []⟩, endR (nameR r).2) := by unfold opR eqB; simp only [toList_data]; rfl
theorem opR_goto (r : Rs) : opR kwGoto r = (⟨7, ⟨#[]⟩, [], [(nameR r).1]⟩, endR (nameR r).2) := by unfold opR eqB; simp only [toList_data]; rfl
theorem opR_return (r : Rs) : opR kwReturn r = (⟨9, ⟨#[]⟩, [], []⟩, endR r) := by unfold opR eqB; simp only [toList_data]; rfl
theorem opR_use (r : Rs) : opR kwUse r = (⟨2, ⟨#[]⟩, (nameR r).1 :: (namesR 3 (nameR r).2).1, []⟩, endR (namesR 3 (nameR r).2).2) := by unfold opR eqB; simp only [toList_data]; rfl
theorem opR_branch (r : Rs) : opR kwBranch r = (⟨8, ⟨#[]⟩, [(nameR r).1], [(nameR (nameR r).2).1, (nameR (nameR (nameR r).2).2).1]⟩, endR (nameR (nameR (nameR r).2).2).2) := by unfold opR eqB; simp only [toList_data]; rfl
/-- The texts as the walk compares them. -/
def kwTests (x : ByteArray) : List Bool := k8.map fun k => x.toList == k.data.toList
set_option maxHeartbeats 3200000 in
theorem refStmt_call (b : Nat) (A : Option Addr) (c : Nat) (L : List Tok) (σ : Rs) (w : World) (h : Rst w b A c L σ) (hs : Short L) (hn : isN σ = false) (hk : isK kwCall σ = true) :
    Calls Tryz.prog 135 #[.pointer (some ⟨b, 0, none⟩)] w (RetT w b A c L (stmtR σ)) := by
  have Hne := hid (isK_l hk)
  obtain ⟨l, er⟩ := σ
  have hR := (stmtR_kw hn hk).trans (opR_call _)
  have ht : (nxt l).text = kwCall := isK_text hk
  have t0 : ((nxt l).text.toList == [117, 115, 101]) = false := by rw [ht, toList_data]; decide
  have t1 : ((nxt l).text.toList == [99, 97, 108, 108]) = true := by rw [ht, toList_data]; decide
  have HN := hid hn; have HS := hid hs
  have h0 : Hid (Sg w b A c L ⟨l, er⟩ zSH ((w.alloc (.cells #[.int .i64 0, .string ⟨#[]⟩, .slice none 0 0, .slice none 0 0] 70)).alloc (.cells #[.int .i64 0, .string ⟨#[]⟩, .slice none 0 0, .slice none 0 0] 70))) := hid (Sg.start h)
  have HR := hid hR
  clear h hs hn hk ht hR
  go_enter Tryz.func135, Tryz.ntmps135
  go_wp2_with fail
  refine (refIsName2_any b A c L ⟨l, er⟩ _ h0.out.st HS.out).mono ?_
  rw [HN.out]
  rintro e w1 ⟨rfl, hb1⟩
  have h1 := hid (h0.out.below hb1)
  clear hb1 h0
  obtain ⟨k, a, hkl, hl, hf, rfl, ha, a0, a1⟩ := h1.out.st.next Hne.out
  have hlt := h1.out.st.lt
  have hfew := h1.out.st.few
  obtain ⟨⟨c0, c1, c2⟩, ⟨f0, f1, f2⟩⟩ := hf.three
  have Hst := hid (fun q => (h1.out.drewN q).call ((h1.out.st.drewN q).step hkl hl (hf.drewN q)))
  have hab : (a.add (k * 4)).block < w1.heap.size := by rw [add_block]; omega
  generalize (nxt l).text = tx at *
  clear hf hl a0
  go_wp2_with fail
  go_quiet (fail)
  clear h1 a1 hab
  go_wp2_with fail
  refine (refName_any b (some a) c L ⟨l.tail, er⟩ _ (Hst.out nq).st HS.out).mono ?_
  rintro e w3 ⟨rfl, h3⟩
  have H3 := hid ((Hst.out nq).call h3)
  have H16y := hid ((Hst.out nq).st.name16 HS.out)
  clear h3
  generalize (nameR ⟨l.tail, er⟩).1 = y at *
  generalize (nameR ⟨l.tail, er⟩).2 = σ2 at *
  obtain ⟨⟨q0, q1, q2, q3⟩, ⟨r0, r1, r2, r3⟩, -, -, hz⟩ := H3.out.cells
  clear Hst c0 c1 c2 f0 f1 f2
  go_wp2_with fail
  have H4 := hid (H3.out.putOT 3 y H16y.out)
  clear q0 q1 q2 q3 r0 r1 r2 r3 hz
  refine (refEnd_any b (some a) c L σ2 _ H4.out.st).mono ?_
  rintro e wz ⟨rfl, hz0⟩
  have HZ := hid (H4.out.call hz0)
  clear hz0
  obtain ⟨⟨p0, p1, p2, p3⟩, ⟨-, -, -, -⟩, ⟨v0, v1, v2, v3⟩, ⟨s0, s1, s2, s3⟩, hsz⟩ := HZ.out.cells
  have hsz2 : w.heap.size < wz.heap.size := by omega
  go_wp2_with fail
  refine bodyPost_ret (v := agS ⟨none, 0, 0, some ⟨w3.heap.size, 0, none⟩, 1, 1, ⟨3, ⟨#[]⟩, [], [y]⟩⟩) (by simp [results, Tryz.results135, go_sem, p0, p1, p2, p3, s0, s1, s2, s3, v0, v1, v2, v3, hsz, hsz2, agS]) rfl ?_
  exact HZ.out.done _ _ _ _ HR.out
set_option maxHeartbeats 3200000 in
theorem refStmt_source (b : Nat) (A : Option Addr) (c : Nat) (L : List Tok) (σ : Rs) (w : World) (h : Rst w b A c L σ) (hs : Short L) (hn : isN σ = false) (hk : isK kwSource σ = true) :
    Calls Tryz.prog 135 #[.pointer (some ⟨b, 0, none⟩)] w (RetT w b A c L (stmtR σ)) := by
  have Hne := hid (isK_l hk)
  obtain ⟨l, er⟩ := σ
  have hR := (stmtR_kw hn hk).trans (opR_source _)
  have ht : (nxt l).text = kwSource := isK_text hk
  have t0 : ((nxt l).text.toList == [117, 115, 101]) = false := by rw [ht, toList_data]; decide
  have t1 : ((nxt l).text.toList == [99, 97, 108, 108]) = false := by rw [ht, toList_data]; decide
  have t2 : ((nxt l).text.toList == [115, 111, 117, 114, 99, 101]) = true := by rw [ht, toList_data]; decide
  have HN := hid hn; have HS := hid hs
  have h0 : Hid (Sg w b A c L ⟨l, er⟩ zSH ((w.alloc (.cells #[.int .i64 0, .string ⟨#[]⟩, .slice none 0 0, .slice none 0 0] 70)).alloc (.cells #[.int .i64 0, .string ⟨#[]⟩, .slice none 0 0, .slice none 0 0] 70))) := hid (Sg.start h)
  have HR := hid hR
  clear h hs hn hk ht hR
  go_enter Tryz.func135, Tryz.ntmps135
  go_wp2_with fail
  refine (refIsName2_any b A c L ⟨l, er⟩ _ h0.out.st HS.out).mono ?_
  rw [HN.out]
  rintro e w1 ⟨rfl, hb1⟩
  have h1 := hid (h0.out.below hb1)
  clear hb1 h0
  obtain ⟨k, a, hkl, hl, hf, rfl, ha, a0, a1⟩ := h1.out.st.next Hne.out
  have hlt := h1.out.st.lt
  have hfew := h1.out.st.few
  obtain ⟨⟨c0, c1, c2⟩, ⟨f0, f1, f2⟩⟩ := hf.three
  have Hst := hid (fun q => (h1.out.drewN q).call ((h1.out.st.drewN q).step hkl hl (hf.drewN q)))
  have hab : (a.add (k * 4)).block < w1.heap.size := by rw [add_block]; omega
  generalize (nxt l).text = tx at *
  clear hf hl a0
  go_wp2_with fail
  go_quiet (fail)
  clear h1 a1 hab
  go_wp2_with fail
  refine (refName_any b (some a) c L ⟨l.tail, er⟩ _ (Hst.out nq).st HS.out).mono ?_
  rintro e w3 ⟨rfl, h3⟩
  have H3 := hid ((Hst.out nq).call h3)
  have H16y := hid ((Hst.out nq).st.name16 HS.out)
  clear h3
  generalize (nameR ⟨l.tail, er⟩).1 = y at *
  generalize (nameR ⟨l.tail, er⟩).2 = σ2 at *
  obtain ⟨⟨q0, q1, q2, q3⟩, ⟨r0, r1, r2, r3⟩, -, -, hz⟩ := H3.out.cells
  clear Hst c0 c1 c2 f0 f1 f2
  go_wp2_with fail
  have H4 := hid ((H3.out.putO 4).putD y H16y.out)
  clear q0 q1 q2 q3 r0 r1 r2 r3 hz
  refine (refEnd_any b (some a) c L σ2 _ H4.out.st).mono ?_
  rintro e wz ⟨rfl, hz0⟩
  have HZ := hid (H4.out.call hz0)
  clear hz0
  obtain ⟨⟨p0, p1, p2, p3⟩, ⟨-, -, -, -⟩, ⟨v0, v1, v2, v3⟩, ⟨s0, s1, s2, s3⟩, hsz⟩ := HZ.out.cells
  have hsz2 : w.heap.size < wz.heap.size := by omega
  go_wp2_with fail
  refine bodyPost_ret (v := agS ⟨none, 0, 0, none, 0, 0, ⟨4, y, [], []⟩⟩) (by simp [results, Tryz.results135, go_sem, p0, p1, p2, p3, s0, s1, s2, s3, v0, v1, v2, v3, hsz, hsz2, agS]) rfl ?_
  exact HZ.out.done _ _ _ _ HR.out
set_option maxHeartbeats 3200000 in
theorem refStmt_sink (b : Nat) (A : Option Addr) (c : Nat) (L : List Tok) (σ : Rs) (w : World) (h : Rst w b A c L σ) (hs : Short L) (hn : isN σ = false) (hk : isK kwSink σ = true) :
    Calls Tryz.prog 135 #[.pointer (some ⟨b, 0, none⟩)] w (RetT w b A c L (stmtR σ)) := by
  have Hne := hid (isK_l hk)
  obtain ⟨l, er⟩ := σ
  have hR := (stmtR_kw hn hk).trans (opR_sink _)
  have ht : (nxt l).text = kwSink := isK_text hk
  have t0 : ((nxt l).text.toList == [117, 115, 101]) = false := by rw [ht, toList_data]; decide
  have t1 : ((nxt l).text.toList == [99, 97, 108, 108]) = false := by rw [ht, toList_data]; decide
  have t2 : ((nxt l).text.toList == [115, 111, 117, 114, 99, 101]) = false := by rw [ht, toList_data]; decide
  have t3 : ((nxt l).text.toList == [115, 105, 110, 107]) = true := by rw [ht, toList_data]; decide
  have HN := hid hn; have HS := hid hs
  have h0 : Hid (Sg w b A c L ⟨l, er⟩ zSH ((w.alloc (.cells #[.int .i64 0, .string ⟨#[]⟩, .slice none 0 0, .slice none 0 0] 70)).alloc (.cells #[.int .i64 0, .string ⟨#[]⟩, .slice none 0 0, .slice none 0 0] 70))) := hid (Sg.start h)
  have HR := hid hR
  clear h hs hn hk ht hR
  go_enter Tryz.func135, Tryz.ntmps135
  go_wp2_with fail
  refine (refIsName2_any b A c L ⟨l, er⟩ _ h0.out.st HS.out).mono ?_
  rw [HN.out]
  rintro e w1 ⟨rfl, hb1⟩
  have h1 := hid (h0.out.below hb1)
  clear hb1 h0
  obtain ⟨k, a, hkl, hl, hf, rfl, ha, a0, a1⟩ := h1.out.st.next Hne.out
  have hlt := h1.out.st.lt
  have hfew := h1.out.st.few
  obtain ⟨⟨c0, c1, c2⟩, ⟨f0, f1, f2⟩⟩ := hf.three
  have Hst := hid (fun q => (h1.out.drewN q).call ((h1.out.st.drewN q).step hkl hl (hf.drewN q)))
  have hab : (a.add (k * 4)).block < w1.heap.size := by rw [add_block]; omega
  generalize (nxt l).text = tx at *
  clear hf hl a0
  go_wp2_with fail
  go_quiet (fail)
  clear h1 a1 hab
  go_wp2_with fail
  refine (refName_any b (some a) c L ⟨l.tail, er⟩ _ (Hst.out nq).st HS.out).mono ?_
  rintro e w3 ⟨rfl, h3⟩
  have H3 := hid ((Hst.out nq).call h3)
  have H16y := hid ((Hst.out nq).st.name16 HS.out)
  clear h3
  generalize (nameR ⟨l.tail, er⟩).1 = y at *
  generalize (nameR ⟨l.tail, er⟩).2 = σ2 at *
  obtain ⟨⟨q0, q1, q2, q3⟩, ⟨r0, r1, r2, r3⟩, -, -, hz⟩ := H3.out.cells
  clear Hst c0 c1 c2 f0 f1 f2
  go_wp2_with fail
  have H4 := hid (H3.out.putOU 5 y H16y.out)
  clear q0 q1 q2 q3 r0 r1 r2 r3 hz
  refine (refEnd_any b (some a) c L σ2 _ H4.out.st).mono ?_
  rintro e wz ⟨rfl, hz0⟩
  have HZ := hid (H4.out.call hz0)
  clear hz0
  obtain ⟨⟨p0, p1, p2, p3⟩, ⟨-, -, -, -⟩, ⟨v0, v1, v2, v3⟩, ⟨s0, s1, s2, s3⟩, hsz⟩ := HZ.out.cells
  have hsz2 : w.heap.size < wz.heap.size := by omega
  go_wp2_with fail
  refine bodyPost_ret (v := agS ⟨some ⟨w3.heap.size, 0, none⟩, 1, 1, none, 0, 0, ⟨5, ⟨#[]⟩, [y], []⟩⟩) (by simp [results, Tryz.results135, go_sem, p0, p1, p2, p3, s0, s1, s2, s3, v0, v1, v2, v3, hsz, hsz2, agS]) rfl ?_
  exact HZ.out.done _ _ _ _ HR.out
set_option maxHeartbeats 3200000 in
theorem refStmt_sanitize (b : Nat) (A : Option Addr) (c : Nat) (L : List Tok) (σ : Rs) (w : World) (h : Rst w b A c L σ) (hs : Short L) (hn : isN σ = false) (hk : isK kwSanitize σ = true) :
    Calls Tryz.prog 135 #[.pointer (some ⟨b, 0, none⟩)] w (RetT w b A c L (stmtR σ)) := by
  have Hne := hid (isK_l hk)
  obtain ⟨l, er⟩ := σ
  have hR := (stmtR_kw hn hk).trans (opR_sanitize _)
  have ht : (nxt l).text = kwSanitize := isK_text hk
  have t0 : ((nxt l).text.toList == [117, 115, 101]) = false := by rw [ht, toList_data]; decide
  have t1 : ((nxt l).text.toList == [99, 97, 108, 108]) = false := by rw [ht, toList_data]; decide
  have t2 : ((nxt l).text.toList == [115, 111, 117, 114, 99, 101]) = false := by rw [ht, toList_data]; decide
  have t3 : ((nxt l).text.toList == [115, 105, 110, 107]) = false := by rw [ht, toList_data]; decide
  have t4 : ((nxt l).text.toList == [115, 97, 110, 105, 116, 105, 122, 101]) = true := by rw [ht, toList_data]; decide
  have HN := hid hn; have HS := hid hs
  have h0 : Hid (Sg w b A c L ⟨l, er⟩ zSH ((w.alloc (.cells #[.int .i64 0, .string ⟨#[]⟩, .slice none 0 0, .slice none 0 0] 70)).alloc (.cells #[.int .i64 0, .string ⟨#[]⟩, .slice none 0 0, .slice none 0 0] 70))) := hid (Sg.start h)
  have HR := hid hR
  clear h hs hn hk ht hR
  go_enter Tryz.func135, Tryz.ntmps135
  go_wp2_with fail
  refine (refIsName2_any b A c L ⟨l, er⟩ _ h0.out.st HS.out).mono ?_
  rw [HN.out]
  rintro e w1 ⟨rfl, hb1⟩
  have h1 := hid (h0.out.below hb1)
  clear hb1 h0
  obtain ⟨k, a, hkl, hl, hf, rfl, ha, a0, a1⟩ := h1.out.st.next Hne.out
  have hlt := h1.out.st.lt
  have hfew := h1.out.st.few
  obtain ⟨⟨c0, c1, c2⟩, ⟨f0, f1, f2⟩⟩ := hf.three
  have Hst := hid (fun q => (h1.out.drewN q).call ((h1.out.st.drewN q).step hkl hl (hf.drewN q)))
  have hab : (a.add (k * 4)).block < w1.heap.size := by rw [add_block]; omega
  generalize (nxt l).text = tx at *
  clear hf hl a0
  go_wp2_with fail
  go_quiet (fail)
  clear h1 a1 hab
  go_wp2_with fail
  refine (refName_any b (some a) c L ⟨l.tail, er⟩ _ (Hst.out nq).st HS.out).mono ?_
  rintro e w3 ⟨rfl, h3⟩
  have H3 := hid ((Hst.out nq).call h3)
  have H16y := hid ((Hst.out nq).st.name16 HS.out)
  clear h3
  generalize (nameR ⟨l.tail, er⟩).1 = y at *
  generalize (nameR ⟨l.tail, er⟩).2 = σ2 at *
  obtain ⟨⟨q0, q1, q2, q3⟩, ⟨r0, r1, r2, r3⟩, -, -, hz⟩ := H3.out.cells
  clear Hst c0 c1 c2 f0 f1 f2
  go_wp2_with fail
  have H4 := hid ((H3.out.putO 6).putD y H16y.out)
  clear q0 q1 q2 q3 r0 r1 r2 r3 hz
  refine (refEnd_any b (some a) c L σ2 _ H4.out.st).mono ?_
  rintro e wz ⟨rfl, hz0⟩
  have HZ := hid (H4.out.call hz0)
  clear hz0
  obtain ⟨⟨p0, p1, p2, p3⟩, ⟨-, -, -, -⟩, ⟨v0, v1, v2, v3⟩, ⟨s0, s1, s2, s3⟩, hsz⟩ := HZ.out.cells
  have hsz2 : w.heap.size < wz.heap.size := by omega
  go_wp2_with fail
  refine bodyPost_ret (v := agS ⟨none, 0, 0, none, 0, 0, ⟨6, y, [], []⟩⟩) (by simp [results, Tryz.results135, go_sem, p0, p1, p2, p3, s0, s1, s2, s3, v0, v1, v2, v3, hsz, hsz2, agS]) rfl ?_
  exact HZ.out.done _ _ _ _ HR.out
set_option maxHeartbeats 3200000 in
theorem refStmt_goto (b : Nat) (A : Option Addr) (c : Nat) (L : List Tok) (σ : Rs) (w : World) (h : Rst w b A c L σ) (hs : Short L) (hn : isN σ = false) (hk : isK kwGoto σ = true) :
    Calls Tryz.prog 135 #[.pointer (some ⟨b, 0, none⟩)] w (RetT w b A c L (stmtR σ)) := by
  have Hne := hid (isK_l hk)
  obtain ⟨l, er⟩ := σ
  have hR := (stmtR_kw hn hk).trans (opR_goto _)
  have ht : (nxt l).text = kwGoto := isK_text hk
  have t0 : ((nxt l).text.toList == [117, 115, 101]) = false := by rw [ht, toList_data]; decide
  have t1 : ((nxt l).text.toList == [99, 97, 108, 108]) = false := by rw [ht, toList_data]; decide
  have t2 : ((nxt l).text.toList == [115, 111, 117, 114, 99, 101]) = false := by rw [ht, toList_data]; decide
  have t3 : ((nxt l).text.toList == [115, 105, 110, 107]) = false := by rw [ht, toList_data]; decide
  have t4 : ((nxt l).text.toList == [115, 97, 110, 105, 116, 105, 122, 101]) = false := by rw [ht, toList_data]; decide
  have t5 : ((nxt l).text.toList == [103, 111, 116, 111]) = true := by rw [ht, toList_data]; decide
  have HN := hid hn; have HS := hid hs
  have h0 : Hid (Sg w b A c L ⟨l, er⟩ zSH ((w.alloc (.cells #[.int .i64 0, .string ⟨#[]⟩, .slice none 0 0, .slice none 0 0] 70)).alloc (.cells #[.int .i64 0, .string ⟨#[]⟩, .slice none 0 0, .slice none 0 0] 70))) := hid (Sg.start h)
  have HR := hid hR
  clear h hs hn hk ht hR
  go_enter Tryz.func135, Tryz.ntmps135
  go_wp2_with fail
  refine (refIsName2_any b A c L ⟨l, er⟩ _ h0.out.st HS.out).mono ?_
  rw [HN.out]
  rintro e w1 ⟨rfl, hb1⟩
  have h1 := hid (h0.out.below hb1)
  clear hb1 h0
  obtain ⟨k, a, hkl, hl, hf, rfl, ha, a0, a1⟩ := h1.out.st.next Hne.out
  have hlt := h1.out.st.lt
  have hfew := h1.out.st.few
  obtain ⟨⟨c0, c1, c2⟩, ⟨f0, f1, f2⟩⟩ := hf.three
  have Hst := hid (fun q => (h1.out.drewN q).call ((h1.out.st.drewN q).step hkl hl (hf.drewN q)))
  have hab : (a.add (k * 4)).block < w1.heap.size := by rw [add_block]; omega
  generalize (nxt l).text = tx at *
  clear hf hl a0
  go_wp2_with fail
  go_quiet (fail)
  clear h1 a1 hab
  go_wp2_with fail
  refine (refName_any b (some a) c L ⟨l.tail, er⟩ _ (Hst.out nq).st HS.out).mono ?_
  rintro e w3 ⟨rfl, h3⟩
  have H3 := hid ((Hst.out nq).call h3)
  have H16y := hid ((Hst.out nq).st.name16 HS.out)
  clear h3
  generalize (nameR ⟨l.tail, er⟩).1 = y at *
  generalize (nameR ⟨l.tail, er⟩).2 = σ2 at *
  obtain ⟨⟨q0, q1, q2, q3⟩, ⟨r0, r1, r2, r3⟩, -, -, hz⟩ := H3.out.cells
  clear Hst c0 c1 c2 f0 f1 f2
  go_wp2_with fail
  have H4 := hid (H3.out.putOT 7 y H16y.out)
  clear q0 q1 q2 q3 r0 r1 r2 r3 hz
  refine (refEnd_any b (some a) c L σ2 _ H4.out.st).mono ?_
  rintro e wz ⟨rfl, hz0⟩
  have HZ := hid (H4.out.call hz0)
  clear hz0
  obtain ⟨⟨p0, p1, p2, p3⟩, ⟨-, -, -, -⟩, ⟨v0, v1, v2, v3⟩, ⟨s0, s1, s2, s3⟩, hsz⟩ := HZ.out.cells
  have hsz2 : w.heap.size < wz.heap.size := by omega
  go_wp2_with fail
  refine bodyPost_ret (v := agS ⟨none, 0, 0, some ⟨w3.heap.size, 0, none⟩, 1, 1, ⟨7, ⟨#[]⟩, [], [y]⟩⟩) (by simp [results, Tryz.results135, go_sem, p0, p1, p2, p3, s0, s1, s2, s3, v0, v1, v2, v3, hsz, hsz2, agS]) rfl ?_
  exact HZ.out.done _ _ _ _ HR.out
set_option maxHeartbeats 3200000 in
theorem refStmt_return (b : Nat) (A : Option Addr) (c : Nat) (L : List Tok) (σ : Rs) (w : World) (h : Rst w b A c L σ) (hs : Short L) (hn : isN σ = false) (hk : isK kwReturn σ = true) :
    Calls Tryz.prog 135 #[.pointer (some ⟨b, 0, none⟩)] w (RetT w b A c L (stmtR σ)) := by
  have Hne := hid (isK_l hk)
  obtain ⟨l, er⟩ := σ
  have hR := (stmtR_kw hn hk).trans (opR_return _)
  have ht : (nxt l).text = kwReturn := isK_text hk
  have t0 : ((nxt l).text.toList == [117, 115, 101]) = false := by rw [ht, toList_data]; decide
  have t1 : ((nxt l).text.toList == [99, 97, 108, 108]) = false := by rw [ht, toList_data]; decide
  have t2 : ((nxt l).text.toList == [115, 111, 117, 114, 99, 101]) = false := by rw [ht, toList_data]; decide
  have t3 : ((nxt l).text.toList == [115, 105, 110, 107]) = false := by rw [ht, toList_data]; decide
  have t4 : ((nxt l).text.toList == [115, 97, 110, 105, 116, 105, 122, 101]) = false := by rw [ht, toList_data]; decide
  have t5 : ((nxt l).text.toList == [103, 111, 116, 111]) = false := by rw [ht, toList_data]; decide
  have t6 : ((nxt l).text.toList == [98, 114, 97, 110, 99, 104]) = false := by rw [ht, toList_data]; decide
  have t7 : ((nxt l).text.toList == [114, 101, 116, 117, 114, 110]) = true := by rw [ht, toList_data]; decide
  have HN := hid hn; have HS := hid hs
  have h0 : Hid (Sg w b A c L ⟨l, er⟩ zSH ((w.alloc (.cells #[.int .i64 0, .string ⟨#[]⟩, .slice none 0 0, .slice none 0 0] 70)).alloc (.cells #[.int .i64 0, .string ⟨#[]⟩, .slice none 0 0, .slice none 0 0] 70))) := hid (Sg.start h)
  have HR := hid hR
  clear h hs hn hk ht hR
  go_enter Tryz.func135, Tryz.ntmps135
  go_wp2_with fail
  refine (refIsName2_any b A c L ⟨l, er⟩ _ h0.out.st HS.out).mono ?_
  rw [HN.out]
  rintro e w1 ⟨rfl, hb1⟩
  have h1 := hid (h0.out.below hb1)
  clear hb1 h0
  obtain ⟨k, a, hkl, hl, hf, rfl, ha, a0, a1⟩ := h1.out.st.next Hne.out
  have hlt := h1.out.st.lt
  have hfew := h1.out.st.few
  obtain ⟨⟨c0, c1, c2⟩, ⟨f0, f1, f2⟩⟩ := hf.three
  have Hst := hid (fun q => (h1.out.drewN q).call ((h1.out.st.drewN q).step hkl hl (hf.drewN q)))
  have hab : (a.add (k * 4)).block < w1.heap.size := by rw [add_block]; omega
  generalize (nxt l).text = tx at *
  clear hf hl a0
  go_wp2_with fail
  go_quiet (fail)
  clear h1 a1 hab
  obtain ⟨⟨q0, q1, q2, q3⟩, ⟨r0, r1, r2, r3⟩, -, -, hz⟩ := (Hst.out nq).cells
  have H4 := hid ((Hst.out nq).putO 9)
  go_wp2_with fail
  clear q0 q1 q2 q3 r0 r1 r2 r3 hz Hst
  refine (refEnd_any b (some a) c L ⟨l.tail, er⟩ _ H4.out.st).mono ?_
  rintro e wz ⟨rfl, hz0⟩
  have HZ := hid (H4.out.call hz0)
  clear hz0
  obtain ⟨⟨p0, p1, p2, p3⟩, ⟨-, -, -, -⟩, ⟨v0, v1, v2, v3⟩, ⟨s0, s1, s2, s3⟩, hsz⟩ := HZ.out.cells
  have hsz2 : w.heap.size < wz.heap.size := by omega
  go_wp2_with fail
  refine bodyPost_ret (v := agS ⟨none, 0, 0, none, 0, 0, ⟨9, ⟨#[]⟩, [], []⟩⟩) (by simp [results, Tryz.results135, go_sem, p0, p1, p2, p3, s0, s1, s2, s3, v0, v1, v2, v3, hsz, hsz2, agS]) rfl ?_
  exact HZ.out.done _ _ _ _ HR.out
end Go.Proofs.YtcgichfanfijjaaGreatDoor

namespace Go.Proofs.YtcgichfanfijjaaGreatDoor
set_option maxRecDepth 20000
set_option linter.unusedVariables false
set_option linter.unusedSimpArgs false
open Go.ChangeShapes Go.WideShapes Go.ChangeAt Go.RowKit
attribute [local go_sem ↓] Go.wp_at_zero Go.wp_at_succ

/-- A row beside the statement has grown, and a field is written. -/
theorem Sg.row {w0 w wa w9 : World} {b g c : Nat} {A : Option Addr} {L : List Tok} {σ : Rs} {x : SH} (h : Sg w0 b A c L σ x w) (ha : Below w.heap.size w wa) (hg : wa.grownBy w9 (some g)) (hge : w0.heap.size + 2 ≤ g) (j : Nat) (u : Value) (x' : SH)
    (hc : (#[.int .i64 x.t.op, .string x.t.d, .slice x.A x.n x.c, .slice x.B x.m x.c2] : Array Value).setIfInBounds j u = #[.int .i64 x'.t.op, .string x'.t.d, .slice x'.A x'.n x'.c, .slice x'.B x'.m x'.c2])
    (hf : Fr (w0.heap.size + 2) (TP x') w9) : Sg w0 b A c L σ x' (w9.setCell ⟨w0.heap.size + 1, j, none⟩ u) := by
  have h1 := h.below ha
  have ho := h.old
  have hz := h1.size
  refine ⟨(h1.st.grown hg (fun k hk => by injection hk with hk; omega)).far (by show b < w0.heap.size + 1; omega) u, ho, grown_set_new ?_ (by show w0.heap.size ≤ w0.heap.size + 1; omega) u, (h1.f2.grown hg (by simp; omega)).far (by show w0.heap.size ≠ w0.heap.size + 1; omega) u, ?_, hf.grown TP.go (setCell_grown _ _ _) (fun k hk => by injection hk with hk; have : w0.heap.size + 1 = k := hk; omega)⟩
  · have h2 := h1.gr
    exact ⟨hg.os.trans h2.os, hg.tape.trans h2.tape, hg.output.trans h2.output, Nat.le_trans h2.size hg.size, fun i hi hne => (hg.block i (Nat.lt_of_lt_of_le hi h2.size) (by simp; omega)).trans (h2.block i hi hne)⟩
  · have := (h1.f3.grown hg (by simp; omega)).set j u
    rw [hc] at this
    exact this
theorem own_lit1 {w : World} {base g : Nat} {y : ByteArray} (hb : base ≤ w.heap.size) (hg : w.heap.size = g) : (w.alloc (.cells #[.string y] 9)).ownsRow base 9 1 (.slice (some ⟨g, 0, none⟩) 1 1) 1 [.string y] := by
  subst hg
  exact World.ownsRow_lit w #[.string y] 1 hb (by unfold maxLen; omega) rfl
theorem size_set2 (w : World) (p q : Addr) (u v : Value) : ((w.setCell p u).setCell q v).heap.size = w.heap.size := by simp [World.setCell]
theorem size_set1 (w : World) (p : Addr) (u : Value) : (w.setCell p u).heap.size = w.heap.size := by simp [World.setCell]
theorem frs_own2 {w : World} {base N n : Nat} {A : Option Addr} {c : Nat} {l : List ByteArray} {xs : List Value} (h : w.ownsRow base 9 1 (.slice A n c) n xs) (hx : xs = l.map Value.string) (hn : n = l.length) (hN : N ≤ base) (hl : l.length ≤ 40) (hs : ∀ x ∈ l, x.size ≤ 1000) : Fr N (SP A n l) w := by
  subst hn
  subst hx
  exact frs_own h hN hl hs
theorem strs_one {l : List ByteArray} : ∀ u ∈ l.map Value.string, u.oneCell' = true := by
  intro u hu
  obtain ⟨x, _, rfl⟩ := List.mem_map.1 hu
  rfl
theorem namesR_len (n : Nat) (σ : Rs) : (namesR n σ).1.length ≤ n := by
  have key : ∀ (n : Nat) (σ : Rs) (l : List ByteArray), (namesL n σ).1 = some l → l.length ≤ n := by
    intro n
    induction n with
    | zero => intro σ l h; unfold namesL at h; split at h <;> simp at h; subst h; simp
    | succ n ih =>
      intro σ l h
      unfold namesL at h
      split at h
      · simp only [Option.map_eq_some_iff] at h
        obtain ⟨l', h1, rfl⟩ := h
        have := ih _ _ h1
        simp; omega
      · simp at h; subst h; simp
  unfold namesR
  cases h : (namesL n σ).1 with
  | none => simp
  | some l => exact key n σ l h
set_option maxHeartbeats 3200000 in
theorem refStmt_use (b : Nat) (A : Option Addr) (c : Nat) (L : List Tok) (σ : Rs) (w : World) (h : Rst w b A c L σ) (hs : Short L) (hn : isN σ = false) (hk : isK kwUse σ = true) :
    Calls Tryz.prog 135 #[.pointer (some ⟨b, 0, none⟩)] w (RetT w b A c L (stmtR σ)) := by
  have Hne := hid (isK_l hk)
  obtain ⟨l, er⟩ := σ
  have hR := (stmtR_kw hn hk).trans (opR_use _)
  have ht : (nxt l).text = kwUse := isK_text hk
  have t0 : ((nxt l).text.toList == [117, 115, 101]) = true := by rw [ht, toList_data]; decide
  have HN := hid hn; have HS := hid hs
  have h0 : Hid (Sg w b A c L ⟨l, er⟩ zSH ((w.alloc (.cells #[.int .i64 0, .string ⟨#[]⟩, .slice none 0 0, .slice none 0 0] 70)).alloc (.cells #[.int .i64 0, .string ⟨#[]⟩, .slice none 0 0, .slice none 0 0] 70))) := hid (Sg.start h)
  have HR := hid hR
  clear h hs hn hk ht hR
  go_enter Tryz.func135, Tryz.ntmps135
  go_wp2_with fail
  refine (refIsName2_any b A c L ⟨l, er⟩ _ h0.out.st HS.out).mono ?_
  rw [HN.out]
  rintro e w1 ⟨rfl, hb1⟩
  have h1 := hid (h0.out.below hb1)
  clear hb1 h0
  obtain ⟨k, a, hkl, hl, hf, rfl, ha, a0, a1⟩ := h1.out.st.next Hne.out
  have hlt := h1.out.st.lt
  have hfew := h1.out.st.few
  obtain ⟨⟨c0, c1, c2⟩, ⟨f0, f1, f2⟩⟩ := hf.three
  have Hst := hid (fun q => (h1.out.drewN q).call ((h1.out.st.drewN q).step hkl hl (hf.drewN q)))
  have hab : (a.add (k * 4)).block < w1.heap.size := by rw [add_block]; omega
  generalize (nxt l).text = tx at *
  clear hf hl a0
  go_wp2_with fail
  go_quiet (fail)
  clear h1 a1 hab
  go_wp2_with fail
  refine (refName_any b (some a) c L ⟨l.tail, er⟩ _ (Hst.out nq).st HS.out).mono ?_
  rintro e w3 ⟨rfl, h3⟩
  have H3 := hid ((Hst.out nq).call h3)
  have H16y := hid ((Hst.out nq).st.name16 HS.out)
  clear h3
  generalize (nameR ⟨l.tail, er⟩).1 = y at *
  generalize (nameR ⟨l.tail, er⟩).2 = σ2 at *
  obtain ⟨⟨q0, q1, q2, q3⟩, ⟨r0, r1, r2, r3⟩, -, -, hz⟩ := H3.out.cells
  have H4 := hid (H3.out.putOU 2 y H16y.out)
  have Hown := hid (own_lit1 (w := (w3.setCell ⟨w.heap.size + 1, 0, none⟩ (.int .i64 2)).setCell ⟨w.heap.size + 1, 2, none⟩ (.slice (some ⟨w3.heap.size, 0, none⟩) 1 1)) (base := w.heap.size + 2) (g := w3.heap.size) (y := y) (by rw [size_set2]; exact H3.out.size) (size_set2 ..))
  have hgu := H3.out.size
  clear Hst c0 c1 c2 f0 f1 f2
  go_wp2_with fail
  generalize (((w3.setCell ⟨w.heap.size + 1, 0, none⟩ (.int .i64 2)).setCell ⟨w.heap.size + 1, 2, none⟩ (.slice (some ⟨w3.heap.size, 0, none⟩) 1 1)).alloc (.cells #[.string y] 9)) = w4 at *
  generalize w3.heap.size = gu at *
  clear q0 q1 q2 q3 r0 r1 r2 r3 hz H3
  have H4d : Hid (Sg w b (some a) c L σ2 ⟨some ⟨gu, 0, none⟩, 1, 1, none, 0, 0, ⟨2, ⟨#[]⟩, [y], []⟩⟩ w4.drew) := hid (H4.out.drewN 1)
  have HM := hid (fun w' h' => refMore_any b (some a) c L σ2 w' h' HS.out)
  obtain ⟨⟨q0, q1, q2, q3⟩, ⟨r0, r1, r2, r3⟩, -, -, hz⟩ := H4.out.cells
  obtain ⟨i0, hi, hz0, hz1, hz2⟩ := info_parts info9
  have Hi := hid hi; have Hz0 := hid hz0; have Hz1 := hid hz1; have Hz2 := hid hz2
  clear hi hz0 hz1 hz2
  have hr3 := namesR_len 3 σ2
  generalize hrr : (namesR 3 σ2).1 = r at *
  have Hrr := hid hrr
  clear hrr
  have Hol := H4.out.old
  cases r with
  | nil =>
    go_region_law ((
       go_simp
       go_at_call 157
       go_must (
       refine (HM.out _ H4d.out.st).mono ?_
       rintro e w5 ⟨B, d, he, hown5, hsm5, hni5, h5⟩
       obtain ⟨e1, e2⟩ := hni5 Hrr.out
       rw [Hrr.out] at he hown5
       subst e1
       subst e2
       subst he
       clear hni5
       have H5 := hid (H4d.out.call h5)
       obtain ⟨⟨q0, q1, q2, q3⟩, ⟨r0, r1, r2, r3⟩, -, -, hz⟩ := H5.out.cells
       clear hown5 hsm5 h5)))
    all_goals
      have H6 := hid (H5.out.putU (A2 := some ⟨gu, 0, none⟩) (n2 := 1) (c2 := 1) (us2 := [y]) (fun ex he => (H5.out.fr ex he).uses))
      clear q0 q1 q2 q3 r0 r1 r2 r3 hz
      go_wp2_with fail
      refine (refEnd_any b (some a) c L (namesR 3 σ2).2 _ H6.out.st).mono ?_
      rintro e wz ⟨rfl, hz0⟩
      have HZ := hid (H6.out.call hz0)
      clear hz0
      obtain ⟨⟨p0, p1, p2, p3⟩, ⟨-, -, -, -⟩, ⟨v0, v1, v2, v3⟩, ⟨s0, s1, s2, s3⟩, hsz⟩ := HZ.out.cells
      have hsz2 : w.heap.size < wz.heap.size := by omega
      go_wp2_with fail
      refine bodyPost_ret (v := agS ⟨some ⟨gu, 0, none⟩, 1, 1, none, 0, 0, ⟨2, ⟨#[]⟩, [y], []⟩⟩) (by simp [results, Tryz.results135, go_sem, p0, p1, p2, p3, s0, s1, s2, s3, v0, v1, v2, v3, hsz, hsz2, agS]) rfl ?_
      exact HZ.out.done _ _ _ _ HR.out
  | cons z zs =>
    go_region_law (first
      | ((refine step_append_lies _ (by rfl) _ _ 62 (by rfl) (w.heap.size + 2) 9 i0 _ 1 16 Tryz.underlying62 Hi.out Hz0.out Hz1.out Hz2.out (by rfl) (by decide) (.slice (some ⟨gu, 0, none⟩) 1 1) 1 [.string y] (by rfl) (by exact Hown5.out)
            ⟨g5, 0, none⟩ (z :: zs).length _ ((z :: zs).map Value.string) (by rfl) (by simp) (by exact Hc5.out) strs_one (by simp) (by unfold maxLen; omega) (by omega) (by have := H5.out.size; omega) _ rfl ?_)
         intro g9 cap9 w9 hown9 hgr9 hat9 hlt9
         have Hown9 := hid hown9
         have Hgr9 := hid hgr9
         have k0 := hgr9.cell q0 (by show some _ ≠ some gu; simp; omega)
         have k1 := hgr9.cell q1 (by show some _ ≠ some gu; simp; omega)
         have k2 := hgr9.cell q2 (by show some _ ≠ some gu; simp; omega)
         have k3 := hgr9.cell q3 (by show some _ ≠ some gu; simp; omega)
         have j2 := (hgr9.frozen_far ⟨w.heap.size + 1, 2, none⟩ (by exact hz) (by show some _ ≠ some gu; simp; omega)).trans r2
         have hz9 : w.heap.size + 1 < w9.heap.size := Nat.lt_of_lt_of_le hz hgr9.size
         clear hown9 hgr9 hat9 hlt9)
      | (go_simp
         go_at_call 157
         go_must (
         refine (HM.out _ H4d.out.st).mono ?_
         rintro e w5 ⟨B, d, he, hown5, hsm5, -, h5⟩
         rw [Hrr.out] at he hown5 hsm5
         obtain ⟨g5, cap5, he5, hb5, hl5⟩ := hown5.form (by simp)
         injection he5 with e1 e2 e3
         subst e1
         subst e3
         subst he
         have Hc5 := hid (hown5.cells (g := g5) rfl)
         have Hsm5 := hid hsm5
         have H5 := hid (H4d.out.call h5)
         have Hown5 := hid (RTo.own (w := w4.drew) Hown.out.drew h5 (by omega))
         obtain ⟨⟨q0, q1, q2, q3⟩, ⟨r0, r1, r2, r3⟩, -, -, hz⟩ := H5.out.cells
         clear hown5 hsm5 h5 hl5)))
    all_goals
      have H6 := hid (Sg.row H5.out (Below.refl _ _) Hgr9.out hgu 2 (.slice (some ⟨g9, 0, none⟩) (1 + (z :: zs).length) cap9) ⟨some ⟨g9, 0, none⟩, 1 + (z :: zs).length, cap9, none, 0, 0, ⟨2, ⟨#[]⟩, y :: z :: zs, []⟩⟩ rfl
        (fun ex he => ⟨frs_own2 Hown9.out rfl (by simp; omega) (Nat.le_refl _) (by simp at hr3 ⊢; omega) (fun x hx => by
          rcases List.mem_cons.1 hx with hx | hx
          · subst hx; have := H16y.out; omega
          · have := Hsm5.out x hx; omega) ex he, SSafe.nil _ _ _, by show (0 : Nat) ≤ 1000; omega⟩))
      clear q0 q1 q2 q3 r0 r1 r2 r3 hz
      go_wp2_with fail
      clear k0 k1 k2 k3 j2 hz9
      refine (refEnd_any b (some a) c L (namesR 3 σ2).2 _ H6.out.st).mono ?_
      rintro e wz ⟨rfl, hz0⟩
      have HZ := hid (H6.out.call hz0)
      clear hz0
      obtain ⟨⟨p0, p1, p2, p3⟩, ⟨-, -, -, -⟩, ⟨v0, v1, v2, v3⟩, ⟨s0, s1, s2, s3⟩, hsz⟩ := HZ.out.cells
      have hsz2 : w.heap.size < wz.heap.size := by omega
      go_wp2_with fail
      refine bodyPost_ret (v := agS ⟨some ⟨g9, 0, none⟩, 1 + (z :: zs).length, cap9, none, 0, 0, ⟨2, ⟨#[]⟩, y :: z :: zs, []⟩⟩) (by simp [results, Tryz.results135, go_sem, p0, p1, p2, p3, s0, s1, s2, s3, v0, v1, v2, v3, hsz, hsz2, agS]) rfl ?_
      exact HZ.out.done _ _ _ _ HR.out
end Go.Proofs.YtcgichfanfijjaaGreatDoor

namespace Go.Proofs.YtcgichfanfijjaaGreatDoor
set_option maxRecDepth 20000
set_option linter.unusedVariables false
set_option linter.unusedSimpArgs false
open Go.ChangeShapes Go.WideShapes Go.ChangeAt Go.RowKit
attribute [local go_sem ↓] Go.wp_at_zero Go.wp_at_succ

set_option maxHeartbeats 3200000 in
theorem refStmt_branch (b : Nat) (A : Option Addr) (c : Nat) (L : List Tok) (σ : Rs) (w : World) (h : Rst w b A c L σ) (hs : Short L) (hn : isN σ = false) (hk : isK kwBranch σ = true) :
    Calls Tryz.prog 135 #[.pointer (some ⟨b, 0, none⟩)] w (RetT w b A c L (stmtR σ)) := by
  have Hne := hid (isK_l hk)
  obtain ⟨l, er⟩ := σ
  have hR := (stmtR_kw hn hk).trans (opR_branch _)
  have ht : (nxt l).text = kwBranch := isK_text hk
  have t0 : ((nxt l).text.toList == [117, 115, 101]) = false := by rw [ht, toList_data]; decide
  have t1 : ((nxt l).text.toList == [99, 97, 108, 108]) = false := by rw [ht, toList_data]; decide
  have t2 : ((nxt l).text.toList == [115, 111, 117, 114, 99, 101]) = false := by rw [ht, toList_data]; decide
  have t3 : ((nxt l).text.toList == [115, 105, 110, 107]) = false := by rw [ht, toList_data]; decide
  have t4 : ((nxt l).text.toList == [115, 97, 110, 105, 116, 105, 122, 101]) = false := by rw [ht, toList_data]; decide
  have t5 : ((nxt l).text.toList == [103, 111, 116, 111]) = false := by rw [ht, toList_data]; decide
  have t6 : ((nxt l).text.toList == [98, 114, 97, 110, 99, 104]) = true := by rw [ht, toList_data]; decide
  have HN := hid hn; have HS := hid hs
  have h0 : Hid (Sg w b A c L ⟨l, er⟩ zSH ((w.alloc (.cells #[.int .i64 0, .string ⟨#[]⟩, .slice none 0 0, .slice none 0 0] 70)).alloc (.cells #[.int .i64 0, .string ⟨#[]⟩, .slice none 0 0, .slice none 0 0] 70))) := hid (Sg.start h)
  have HR := hid hR
  clear h hs hn hk ht hR
  go_enter Tryz.func135, Tryz.ntmps135
  go_wp2_with fail
  refine (refIsName2_any b A c L ⟨l, er⟩ _ h0.out.st HS.out).mono ?_
  rw [HN.out]
  rintro e w1 ⟨rfl, hb1⟩
  have h1 := hid (h0.out.below hb1)
  clear hb1 h0
  obtain ⟨k, a, hkl, hl, hf, rfl, ha, a0, a1⟩ := h1.out.st.next Hne.out
  have hlt := h1.out.st.lt
  have hfew := h1.out.st.few
  obtain ⟨⟨c0, c1, c2⟩, ⟨f0, f1, f2⟩⟩ := hf.three
  have Hst := hid (fun q => (h1.out.drewN q).call ((h1.out.st.drewN q).step hkl hl (hf.drewN q)))
  have hab : (a.add (k * 4)).block < w1.heap.size := by rw [add_block]; omega
  generalize (nxt l).text = tx at *
  clear hf hl a0
  go_wp2_with fail
  go_quiet (fail)
  clear h1 a1 hab
  go_wp2_with fail
  refine (refName_any b (some a) c L ⟨l.tail, er⟩ _ (Hst.out nq).st HS.out).mono ?_
  rintro e w3 ⟨rfl, h3⟩
  have H3 := hid ((Hst.out nq).call h3)
  have H16y := hid ((Hst.out nq).st.name16 HS.out)
  clear h3
  generalize (nameR ⟨l.tail, er⟩).1 = y at *
  generalize (nameR ⟨l.tail, er⟩).2 = σ2 at *
  obtain ⟨⟨q0, q1, q2, q3⟩, ⟨r0, r1, r2, r3⟩, -, -, hz⟩ := H3.out.cells
  have H4 := hid (H3.out.putOU 8 y H16y.out)
  have HFu := hid (show Fb _ _ (strC [y]) 9 from Fb.new ((w3.setCell ⟨w.heap.size + 1, 0, none⟩ (.int .i64 8)).setCell ⟨w.heap.size + 1, 2, none⟩ (.slice (some ⟨w3.heap.size, 0, none⟩) 1 1)) #[.string y] 9)
  rw [size_set2] at HFu
  have hgu := H3.out.size
  have Hol := H3.out.old
  clear Hst c0 c1 c2 f0 f1 f2
  go_wp2_with fail
  generalize (((w3.setCell ⟨w.heap.size + 1, 0, none⟩ (.int .i64 8)).setCell ⟨w.heap.size + 1, 2, none⟩ (.slice (some ⟨w3.heap.size, 0, none⟩) 1 1)).alloc (.cells #[.string y] 9)) = w4 at *
  generalize w3.heap.size = gu at *
  clear q0 q1 q2 q3 r0 r1 r2 r3 hz H3
  refine (refName_any b (some a) c L σ2 _ H4.out.st HS.out).mono ?_
  rintro e w5 ⟨rfl, h5⟩
  have H5 := hid (H4.out.call h5)
  have H16y2 := hid (H4.out.st.name16 HS.out)
  have HFu5 := hid (HFu.out.grown h5.2 (by simp; omega))
  have hgt := HFu5.out.lt
  clear h5
  generalize (nameR σ2).1 = y2 at *
  generalize (nameR σ2).2 = σ3 at *
  obtain ⟨⟨q0, q1, q2, q3⟩, ⟨r0, r1, r2, r3⟩, -, -, hz⟩ := H5.out.cells
  have H6 := hid (H5.out.putT1 y2 H16y2.out)
  have Hown := hid (own_lit1 (w := w5.setCell ⟨w.heap.size + 1, 3, none⟩ (.slice (some ⟨w5.heap.size, 0, none⟩) 1 1)) (base := w.heap.size + 2) (g := w5.heap.size) (y := y2) (by rw [size_set1]; exact H5.out.size) (size_set1 ..))
  have HFu6 := hid ((HFu5.out.far (p := ⟨w.heap.size + 1, 3, none⟩) (by show gu ≠ w.heap.size + 1; omega) (.slice (some ⟨w5.heap.size, 0, none⟩) 1 1)).alloc (.cells #[.string y2] 9))
  have hsz5 := H5.out.size
  go_wp2_with fail
  generalize (w5.setCell ⟨w.heap.size + 1, 3, none⟩ (.slice (some ⟨w5.heap.size, 0, none⟩) 1 1)).alloc (.cells #[.string y2] 9) = w6 at *
  generalize w5.heap.size = gt at *
  clear q0 q1 q2 q3 r0 r1 r2 r3 hz H5 HFu5 HFu
  have H6d : Hid (Sg w b (some a) c L σ3 ⟨some ⟨gu, 0, none⟩, 1, 1, some ⟨gt, 0, none⟩, 1, 1, ⟨8, ⟨#[]⟩, [y], [y2]⟩⟩ w6.drew) := hid (H6.out.drewN 1)
  have HM := hid (fun w' h' => refName_any b (some a) c L σ3 w' h' HS.out)
  have H16y3 := hid (H6.out.st.name16 HS.out)
  generalize (nameR σ3).1 = y3 at *
  generalize (nameR σ3).2 = σ4 at *
  obtain ⟨⟨q0, q1, q2, q3⟩, ⟨r0, r1, r2, r3⟩, -, -, hz⟩ := H6.out.cells
  obtain ⟨vt, hvt⟩ : ∃ v, v = Value.slice (some ⟨gt, 0, none⟩) 1 1 := ⟨_, rfl⟩
  have Hvt := hid hvt
  clear hvt
  rw [← Hvt.out] at q3
  obtain ⟨i0, hi, hz0, hz1, hz2⟩ := info_parts info9
  have Hi := hid hi; have Hz0 := hid hz0; have Hz1 := hid hz1; have Hz2 := hid hz2
  clear hi hz0 hz1 hz2
  go_region_law (first
    | (go_simp
       go_at_call 102
       go_must (
       refine (HM.out _ H6d.out.st).mono ?_
       rintro e w7 ⟨rfl, h7⟩
       have H7 := hid (H6d.out.call h7)
       have Hown7 := hid (RTo.own (w := w6.drew) Hown.out.drew h7 (by omega))
       have HFu7 := hid ((HFu6.out.drewN 1).grown h7.2 (by simp; omega))
       obtain ⟨⟨q0, q1, q2, q3⟩, ⟨r0, r1, r2, r3⟩, -, -, hz⟩ := H7.out.cells
       rw [← Hvt.out] at q3
       clear h7))
    | ((refine step_append_lies _ (by rfl) _ _ 62 (by rfl) (w.heap.size + 2) 9 i0 _ 1 16 Tryz.underlying62 Hi.out Hz0.out Hz1.out Hz2.out (by rfl) (by decide) vt 1 [.string y2] (by rfl) (by rw [Hvt.out]; exact Hown7.out.alloc _)
          ⟨_, 0, none⟩ 1 1 [.string y3] (by rfl) rfl (by exact one_str _ _ _) (one_strc _) (by decide) (by unfold maxLen; omega) (by omega) (by have := H7.out.size; rw [World.size_alloc]; omega) _ rfl ?_)
       intro g9 cap9 w9 hown9 hgr9 hat9 hlt9
       rw [Hvt.out] at hgr9
       have Hown9 := hid hown9
       have Hgr9 := hid hgr9
       have k3 := hgr9.cell ((World.cell?_alloc_lt _ _ ⟨w.heap.size + 1, 3, none⟩ hz).trans (q3.trans (by rw [Hvt.out]))) (by show some _ ≠ some gt; simp; omega)
       have j3 := (hgr9.frozen_far ⟨w.heap.size + 1, 3, none⟩ (by rw [World.size_alloc]; show w.heap.size + 1 < _; omega) (by show some _ ≠ some gt; simp; omega)).trans ((World.frozen?_alloc_old _ _ ⟨w.heap.size + 1, 3, none⟩ (Nat.ne_of_lt hz)).trans r3)
       have hz9 : w.heap.size + 1 < w9.heap.size := Nat.lt_of_lt_of_le hz (Nat.le_trans (by rw [World.size_alloc]; omega) hgr9.size)
       clear hown9 hgr9 hat9 hlt9))
  all_goals
    have HFu9 := hid ((HFu7.out.alloc (.cells #[.string y3] 9)).grown Hgr9.out (by show some gu ≠ some gt; simp; omega))
    have H8 := hid (Sg.row H7.out ((Below.refl _ _).alloc (Nat.le_refl _) (.cells #[.string y3] 9)) Hgr9.out (by omega) 3 (.slice (some ⟨g9, 0, none⟩) (1 + 1) cap9) ⟨some ⟨gu, 0, none⟩, 1, 1, some ⟨g9, 0, none⟩, 1 + 1, cap9, ⟨8, ⟨#[]⟩, [y], [y2, y3]⟩⟩ rfl
      (fun ex he => ⟨SSafe.new (l := [y]) (m := 1) HFu9.out (fun hin => by have := he _ hin; omega) (by simp) (by simp) (by have := H16y.out; simp; omega), frs_own2 Hown9.out rfl rfl (Nat.le_refl _) (by simp) (fun x hx => by
        have h1 := H16y2.out; have h2 := H16y3.out
        simp at hx; rcases hx with rfl | rfl <;> omega) ex he, by show (0 : Nat) ≤ 1000; omega⟩))
    clear q0 q1 q2 q3 r0 r1 r2 r3 hz
    go_wp2_with fail
    clear k3 j3 hz9
    refine (refEnd_any b (some a) c L σ4 _ H8.out.st).mono ?_
    rintro e wz ⟨rfl, hz0⟩
    have HZ := hid (H8.out.call hz0)
    clear hz0
    obtain ⟨⟨p0, p1, p2, p3⟩, ⟨-, -, -, -⟩, ⟨v0, v1, v2, v3⟩, ⟨s0, s1, s2, s3⟩, hsz⟩ := HZ.out.cells
    have hsz2 : w.heap.size < wz.heap.size := by omega
    go_wp2_with fail
    refine bodyPost_ret (v := agS ⟨some ⟨gu, 0, none⟩, 1, 1, some ⟨g9, 0, none⟩, 1 + 1, cap9, ⟨8, ⟨#[]⟩, [y], [y2, y3]⟩⟩) (by simp [results, Tryz.results135, go_sem, p0, p1, p2, p3, s0, s1, s2, s3, v0, v1, v2, v3, hsz, hsz2, agS]) rfl ?_
    exact HZ.out.done _ _ _ _ HR.out
set_option maxHeartbeats 3200000 in
theorem refStmt_name (b : Nat) (A : Option Addr) (c : Nat) (L : List Tok) (σ : Rs) (w : World) (h : Rst w b A c L σ) (hs : Short L) (hn : isN σ = true) :
    Calls Tryz.prog 135 #[.pointer (some ⟨b, 0, none⟩)] w (RetT w b A c L (stmtR σ)) := by
  have hR : stmtR σ = opR noB σ := by unfold stmtR; rw [hn]; rfl
  rw [opR_no] at hR
  have HN := hid hn; have HS := hid hs
  have h0 : Hid (Sg w b A c L σ zSH ((w.alloc (.cells #[.int .i64 0, .string ⟨#[]⟩, .slice none 0 0, .slice none 0 0] 70)).alloc (.cells #[.int .i64 0, .string ⟨#[]⟩, .slice none 0 0, .slice none 0 0] 70))) := hid (Sg.start h)
  have HR := hid hR
  clear h hs hn hR
  go_enter Tryz.func135, Tryz.ntmps135
  go_wp2_with fail
  refine (refIsName2_any b A c L σ _ h0.out.st HS.out).mono ?_
  rw [HN.out]
  rintro e w1 ⟨rfl, hb1⟩
  have h1 := hid (h0.out.below hb1)
  clear hb1 h0
  go_wp2_with fail
  refine (refName_any b A c L σ _ h1.out.st HS.out).mono ?_
  rintro e w3 ⟨rfl, h3⟩
  have H3 := hid (h1.out.call h3)
  have H16y := hid (h1.out.st.name16 HS.out)
  clear h3
  generalize (nameR σ).1 = y at *
  generalize (nameR σ).2 = σ2 at *
  obtain ⟨⟨q0, q1, q2, q3⟩, ⟨r0, r1, r2, r3⟩, -, -, hz⟩ := H3.out.cells
  have H4 := hid ((H3.out.putO 1).putD y H16y.out)
  clear h1
  go_wp2_with fail
  generalize ((w3.setCell ⟨w.heap.size + 1, 0, none⟩ (.int .i64 1)).setCell ⟨w.heap.size + 1, 1, none⟩ (.string y)) = w4 at *
  clear q0 q1 q2 q3 r0 r1 r2 r3 hz
  cases hd : isD 2 σ2 with
  | false =>
    have HD := hid hd
    rw [hd] at HR
    clear hd
    refine (refIsKind_any b A c L σ2 2 (by omega) _ H4.out.st).mono ?_
    rw [HD.out]
    rintro e w5 ⟨rfl, hb5⟩
    have H5 := hid (H4.out.below hb5)
    clear hb5
    go_wp2_with fail
    refine (refFail_any b A c L σ2 4 _ H5.out.st).mono ?_
    rintro e wz ⟨rfl, hz0⟩
    have HZ := hid (H5.out.call hz0)
    clear hz0
    obtain ⟨⟨p0, p1, p2, p3⟩, ⟨-, -, -, -⟩, ⟨v0, v1, v2, v3⟩, ⟨s0, s1, s2, s3⟩, hsz⟩ := HZ.out.cells
    have hsz2 : w.heap.size < wz.heap.size := by omega
    go_wp2_with fail
    refine bodyPost_ret (v := agS ⟨none, 0, 0, none, 0, 0, ⟨1, y, [], []⟩⟩) (by simp [results, Tryz.results135, go_sem, p0, p1, p2, p3, s0, s1, s2, s3, v0, v1, v2, v3, hsz, hsz2, agS]) rfl ?_
    exact HZ.out.done _ _ _ _ HR.out
  | true =>
    have HD := hid hd
    rw [hd] at HR
    have Hne := hid (isD_l (by omega) hd)
    clear hd
    refine (refIsKind_any b A c L σ2 2 (by omega) _ H4.out.st).mono ?_
    rw [HD.out]
    rintro e w5 ⟨rfl, hb5⟩
    have H5 := hid (H4.out.below hb5)
    clear hb5
    obtain ⟨l, er⟩ := σ2
    obtain ⟨k, a, hkl, hl, hf, rfl, ha, a0, a1⟩ := H5.out.st.next Hne.out
    have hlt := H5.out.st.lt
    have hfew := H5.out.st.few
    obtain ⟨⟨c0, c1, c2⟩, ⟨f0, f1, f2⟩⟩ := hf.three
    have Hst := hid (H5.out.call (H5.out.st.step hkl hl hf))
    clear hf hl a0 a1
    have HR2 : Hid (stmtR σ = (⟨1, y, (namesR 4 ⟨l.tail, er⟩).1, []⟩, endR (namesR 4 ⟨l.tail, er⟩).2)) := HR
    clear HR
    go_wp2_with fail
    refine (refNames_any b (some a) c L ⟨l.tail, er⟩ _ Hst.out.st HS.out).mono ?_
    rintro e w6 ⟨B, d, rfl, hown6, hsm6, -, h6⟩
    have H6 := hid (Hst.out.call h6)
    have hr4 := namesR_len 4 ⟨l.tail, er⟩
    have Hfr := hid (frs_own (N := w.heap.size + 2) hown6 (Hst.out.size) (by omega) (fun x hx => by have := hsm6 x hx; omega))
    clear h6 hown6 hsm6
    generalize (namesR 4 ⟨l.tail, er⟩).1 = r at *
    generalize (namesR 4 ⟨l.tail, er⟩).2 = σ4 at *
    generalize hm : r.length = m at *
    have Hm := hid hm
    clear hm hr4
    obtain ⟨⟨q0, q1, q2, q3⟩, ⟨r0, r1, r2, r3⟩, -, -, hz⟩ := H6.out.cells
    have H7 := hid (H6.out.putU (c2 := d) Hfr.out)
    go_wp2_with fail
    clear q0 q1 q2 q3 r0 r1 r2 r3 hz
    refine (refEnd_any b (some a) c L σ4 _ H7.out.st).mono ?_
    rintro e wz ⟨rfl, hz0⟩
    have HZ := hid (H7.out.call hz0)
    clear hz0
    obtain ⟨⟨p0, p1, p2, p3⟩, ⟨-, -, -, -⟩, ⟨v0, v1, v2, v3⟩, ⟨s0, s1, s2, s3⟩, hsz⟩ := HZ.out.cells
    have hsz2 : w.heap.size < wz.heap.size := by omega
    go_wp2_with fail
    refine bodyPost_ret (v := agS ⟨B, m, d, none, 0, 0, ⟨1, y, r, []⟩⟩) (by simp [results, Tryz.results135, go_sem, p0, p1, p2, p3, s0, s1, s2, s3, v0, v1, v2, v3, hsz, hsz2, agS]) rfl ?_
    exact HZ.out.done _ _ _ _ HR2.out
theorem refStmt_any (b : Nat) (A : Option Addr) (c : Nat) (L : List Tok) (σ : Rs) (w : World) (h : Rst w b A c L σ) (hs : Short L) (hb : begR σ = true) :
    Calls Tryz.prog 135 #[.pointer (some ⟨b, 0, none⟩)] w (RetT w b A c L (stmtR σ)) := by
  cases hn : isN σ with
  | true => exact refStmt_name b A c L σ w h hs hn
  | false =>
    unfold begR at hb
    rw [hn] at hb
    simp only [Bool.or_false, Bool.or_eq_true] at hb
    rcases hb with ((((((hb | hb) | hb) | hb) | hb) | hb) | hb) | hb
    · exact refStmt_use b A c L σ w h hs hn hb
    · exact refStmt_call b A c L σ w h hs hn hb
    · exact refStmt_source b A c L σ w h hs hn hb
    · exact refStmt_sink b A c L σ w h hs hn hb
    · exact refStmt_sanitize b A c L σ w h hs hn hb
    · exact refStmt_goto b A c L σ w h hs hn hb
    · exact refStmt_branch b A c L σ w h hs hn hb
    · exact refStmt_return b A c L σ w h hs hn hb
end Go.Proofs.YtcgichfanfijjaaGreatDoor

namespace Go.Proofs.YtcgichfanfijjaaGreatDoor
set_option maxRecDepth 20000
set_option linter.unusedVariables false
set_option linter.unusedSimpArgs false
open Go.ChangeShapes Go.WideShapes Go.ChangeAt Go.RowKit

/-- Safe from all that is written below N, and from the row that grows. -/
def FrV (N : Nat) (v : Value) (P : World → List (Option Nat) → Prop) (w : World) : Prop := ∀ ex : List (Option Nat), (∀ k, some k ∈ ex → k < N ∨ v.ownBlock = some k) → P w ex
section
variable {N : Nat} {v v' : Value} {P : World → List (Option Nat) → Prop} {w w' : World}
theorem FrV.fr (h : FrV N v P w) : Fr N P w := fun ex he => h ex fun k hk => .inl (he k hk)
theorem FrV.grown (hP : ∀ {w w' : World} {ex ex' : List (Option Nat)}, P w ex → Go2 w ex w' ex' → P w' ex') {row : Option Nat} (h : FrV N v P w) (hg : w.grownBy w' row) (hr : ∀ k, row = some k → k < N) : FrV N v P w' := by
  intro ex he
  have e1 := h (row :: ex) (fun k hk => by
    rcases List.mem_cons.1 hk with hk | hk
    · exact .inl (hr k hk.symm)
    · exact he k hk)
  exact hP (hP e1 (Go2.same hg (.inr (by simp)))) (Go2.less _ fun k hk => List.mem_cons_of_mem _ hk)
theorem FrV.push (hP : ∀ {w w' : World} {ex ex' : List (Option Nat)}, P w ex → Go2 w ex w' ex' → P w' ex') (h : FrV N v P w) (hg : w.grownBy w' v.ownBlock) {g : Nat} (hv : v'.ownBlock = some g) (hgh : v.ownBlock = some g ∨ g = w.heap.size) : FrV N v' P w' := by
  intro ex he
  have e1 := h (v.ownBlock :: ex.filter (fun o => decide (o ≠ some g))) (fun k hk => by
    rcases List.mem_cons.1 hk with hk | hk
    · exact .inr hk.symm
    · simp only [List.mem_filter, decide_eq_true_eq] at hk
      rcases he k hk.1 with h1 | h1
      · exact .inl h1
      · rw [hv] at h1; exact absurd h1.symm hk.2)
  refine hP e1 (Go2.grown hg (.inr (by simp)) (fun k hk hin => ?_))
  by_cases hkg : k = g
  · subst hkg
    rcases hgh with h1 | h1
    · rw [h1]; simp
    · omega
  · refine List.mem_cons_of_mem _ ?_
    simp only [List.mem_filter, decide_eq_true_eq]
    exact ⟨hin, by simpa using hkg⟩
theorem FrV.fresh {B : Nat} (h : Fr B P w) (hN : N ≤ B) (hv : ∀ k, v.ownBlock = some k → k < B) : FrV N v P w := fun ex he => h ex fun k hk => by
  rcases he k hk with h1 | h1
  · omega
  · exact hv k h1
end
/-- What lies in a row whose elements are parts. -/
structure Kind (α : Type) where
  f : α → List Value
  k : Nat
  te : TypeId
  tb : TypeId
  P : α → World → List (Option Nat) → Prop
  go : ∀ (x : α) {w w' : World} {ex ex' : List (Option Nat)}, P x w ex → Go2 w ex w' ex' → P x w' ex'

structure Bg {α : Type} (K : Kind α) (w0 : World) (b : Nat) (A : Option Addr) (c : Nat) (L : List Tok) (σ : Rs) (nm : ByteArray) (v : Value) (l : List α) (w : World) : Prop where
  st : Rst w b A c L σ
  old : b < w0.heap.size
  gr : w0.grownBy w (some b)
  f2 : Fb w w0.heap.size #[.string ⟨#[]⟩, .slice none 0 0] K.tb
  f3 : Fb w (w0.heap.size + 1) #[.string nm, v] K.tb
  own : w.ownsRow (w0.heap.size + 2) K.te K.k v l.length (l.flatMap K.f)
  all : ∀ x ∈ l, FrV (w0.heap.size + 2) v (K.P x) w
section
variable {α : Type} {K : Kind α} {w0 w w' : World} {b : Nat} {A : Option Addr} {c : Nat} {L : List Tok} {σ σ' : Rs} {nm : ByteArray} {v : Value} {l : List α}
theorem Bg.start (h : Rst w0 b A c L σ) : Bg K w0 b A c L σ ⟨#[]⟩ (.slice none 0 0) [] ((w0.alloc (.cells #[.string ⟨#[]⟩, .slice none 0 0] K.tb)).alloc (.cells #[.string ⟨#[]⟩, .slice none 0 0] K.tb)) := by
  have hb : Below w0.heap.size w0 ((w0.alloc (.cells #[.string ⟨#[]⟩, .slice none 0 0] K.tb)).alloc (.cells #[.string ⟨#[]⟩, .slice none 0 0] K.tb)) := ((Below.refl _ _).alloc (Nat.le_refl _) _).alloc (by simp) _
  refine ⟨h.below hb h.lt, h.lt, grown_of_below hb _, (Fb.new w0 _ _).alloc _, ?_, World.ownsRow_nil _ _ _ _, by simp⟩
  have := Fb.new (w0.alloc (.cells #[.string ⟨#[]⟩, .slice none 0 0] K.tb)) #[.string ⟨#[]⟩, .slice none 0 0] K.tb
  rw [World.size_alloc] at this
  exact this
theorem Bg.call (h : Bg K w0 b A c L σ nm v l w) (hr : RTo w b A c L σ' w') : Bg K w0 b A c L σ' nm v l w' :=
  ⟨hr.1, h.old, grown_two h.gr hr.2, h.f2.grown hr.2 (by have := h.old; simp; omega), h.f3.grown hr.2 (by have := h.old; simp; omega), RTo.own h.own hr (by have := h.old; omega),
    fun x hx => (h.all x hx).grown (K.go x) hr.2 (fun k hk => by injection hk with hk; have := h.old; omega)⟩
theorem Bg.below (h : Bg K w0 b A c L σ nm v l w) (hb : Below w.heap.size w w') : Bg K w0 b A c L σ nm v l w' := h.call ((RTo.refl h.st).belowr hb)
theorem Bg.drewN (h : Bg K w0 b A c L σ nm v l w) (q : Nat) : Bg K w0 b A c L σ nm v l (w.drewN q) := h.below (below_drewN (Below.refl _ _) q)
theorem Bg.size (h : Bg K w0 b A c L σ nm v l w) : w0.heap.size + 2 ≤ w.heap.size := by have := h.f3.lt; omega
theorem Bg.name (h : Bg K w0 b A c L σ nm v l w) (y : ByteArray) : Bg K w0 b A c L σ y v l (w.setCell ⟨w0.heap.size + 1, 0, none⟩ (.string y)) := by
  have ho := h.old
  have hg := setCell_grown w ⟨w0.heap.size + 1, 0, none⟩ (.string y)
  refine ⟨h.st.far (by show b < w0.heap.size + 1; omega) _, ho, grown_set_new h.gr (by show w0.heap.size ≤ w0.heap.size + 1; omega) _, h.f2.far (by show w0.heap.size ≠ w0.heap.size + 1; omega) _, ?_, ?_, fun x hx => (h.all x hx).grown (K.go x) hg (fun k hk => by injection hk with hk; have : w0.heap.size + 1 = k := hk; omega)⟩
  · have := h.f3.set 0 (.string y)
    simpa using this
  · exact h.own.kept hg (by
      cases e : v.ownBlock with
      | none => exact .inl rfl
      | some g => exact .inr (by have h2 := (h.own.lt g e).1; show some g ≠ some (w0.heap.size + 1); simp; omega))
theorem Bg.cells (h : Bg K w0 b A c L σ nm v l w) :
    (w.cell? ⟨w0.heap.size + 1, 0, none⟩ = some (.string nm) ∧ w.cell? ⟨w0.heap.size + 1, 1, none⟩ = some v) ∧ (w.frozen? ⟨w0.heap.size + 1, 0, none⟩ = false ∧ w.frozen? ⟨w0.heap.size + 1, 1, none⟩ = false) ∧
    (w.cell? ⟨w0.heap.size, 0, none⟩ = some (.string ⟨#[]⟩) ∧ w.cell? ⟨w0.heap.size, 1, none⟩ = some (.slice none 0 0)) ∧ (w.frozen? ⟨w0.heap.size, 0, none⟩ = false ∧ w.frozen? ⟨w0.heap.size, 1, none⟩ = false) ∧ w0.heap.size + 1 < w.heap.size :=
  ⟨⟨h.f3.cell 0, h.f3.cell 1⟩, ⟨h.f3.frozen 0, h.f3.frozen 1⟩, ⟨h.f2.cell 0, h.f2.cell 1⟩, ⟨h.f2.frozen 0, h.f2.frozen 1⟩, h.f3.lt⟩
/-- A part more: the row has grown, and the field is stored. -/
theorem Bg.push {wa w9 : World} {g9 cap9 : Nat} {x : α} (h : Bg K w0 b A c L σ nm v l w) (ha : Below w.heap.size w wa) (hx : Fr w.heap.size (K.P x) w ∨ FrV (w0.heap.size + 2) v (K.P x) w) (hg : wa.grownBy w9 v.ownBlock)
    (hown : w9.ownsRow (w0.heap.size + 2) K.te K.k (.slice (some ⟨g9, 0, none⟩) (l.length + 1) cap9) (l.length + 1) (l.flatMap K.f ++ K.f x)) (hat : v.ownBlock = some g9 ∨ g9 = wa.heap.size) :
    (w9.cell? ⟨w0.heap.size + 1, 1, none⟩ = some v ∧ w9.frozen? ⟨w0.heap.size + 1, 1, none⟩ = false ∧ w0.heap.size + 1 < w9.heap.size) ∧
    Bg K w0 b A c L σ nm (.slice (some ⟨g9, 0, none⟩) (l.length + 1) cap9) (l ++ [x]) (w9.setCell ⟨w0.heap.size + 1, 1, none⟩ (.slice (some ⟨g9, 0, none⟩) (l.length + 1) cap9)) := by
  have h1 := h.below ha
  have ho := h.old
  have hz := h1.size
  have hlt : ∀ k, v.ownBlock = some k → w0.heap.size + 2 ≤ k := fun k hk => (h1.own.lt k hk).1
  have hne : ∀ k, k < w0.heap.size + 2 → some k ≠ v.ownBlock := fun k hk e => by have := hlt k e.symm; omega
  have hf3 := h1.f3.grown hg (hne _ (by omega))
  have hxV : FrV (w0.heap.size + 2) v (K.P x) wa := by
    have h2 : FrV (w0.heap.size + 2) v (K.P x) w := by
      rcases hx with hx | hx
      · exact FrV.fresh hx h.size (fun k hk => (h.own.lt k hk).2)
      · exact hx
    exact h2.grown (K.go x) (grown_of_below ha none) (fun k hk => by cases hk)
  have hset := setCell_grown w9 ⟨w0.heap.size + 1, 1, none⟩ (.slice (some ⟨g9, 0, none⟩) (l.length + 1) cap9)
  have hg9 := (hown.lt g9 rfl).1
  refine ⟨⟨hf3.cell 1, hf3.frozen 1, hf3.lt⟩, ?_⟩
  refine ⟨(h1.st.grown hg (fun k hk => by have := hlt k hk; omega)).far (by show b < w0.heap.size + 1; omega) _, ho, grown_set_new ?_ (by show w0.heap.size ≤ w0.heap.size + 1; omega) _, (h1.f2.grown hg (hne _ (by omega))).far (by show w0.heap.size ≠ w0.heap.size + 1; omega) _, ?_, ?_, ?_⟩
  · have h2 := h1.gr
    exact ⟨hg.os.trans h2.os, hg.tape.trans h2.tape, hg.output.trans h2.output, Nat.le_trans h2.size hg.size, fun i hi hne2 => (hg.block i (Nat.lt_of_lt_of_le hi h2.size) (hne i (by omega))).trans (h2.block i hi hne2)⟩
  · have := hf3.set 1 (.slice (some ⟨g9, 0, none⟩) (l.length + 1) cap9)
    simpa using this
  · rw [List.flatMap_append, List.length_append]
    have e : [x].flatMap K.f = K.f x := by simp
    rw [e]
    exact hown.kept hset (.inr (by show some g9 ≠ some (w0.heap.size + 1); simp; omega))
  · intro y hy
    have hyV : FrV (w0.heap.size + 2) v (K.P y) wa := by
      rcases List.mem_append.1 hy with hy | hy
      · exact h1.all y hy
      · simp at hy; subst hy; exact hxV
    exact (hyV.push (K.go y) hg (v' := .slice (some ⟨g9, 0, none⟩) (l.length + 1) cap9) (g := g9) rfl hat).grown (K.go y) hset (fun k hk => by injection hk with hk; have : w0.heap.size + 1 = k := hk; omega)
end
/-- How far a list has come. -/
def Lrel {α : Type} (bb : Rs → Bool) (part : Rs → α × Rs) (N : Nat) (σ0 : Rs) (done : List α) (n : Nat) (σ : Rs) : Prop :=
  done.length + n = N ∧ listR bb part N σ0 = (done ++ (listR bb part n σ).1, (listR bb part n σ).2)
section
variable {α : Type} {bb : Rs → Bool} {part : Rs → α × Rs} {N n : Nat} {σ0 σ : Rs} {done : List α}
theorem Lrel.start : Lrel bb part N σ0 [] N σ0 := ⟨by simp, by simp⟩
theorem Lrel.step (h : Lrel bb part N σ0 done (n + 1) σ) (hb : bb σ = true) : Lrel bb part N σ0 (done ++ [(part σ).1]) n (part σ).2 := by
  refine ⟨by have := h.1; simp; omega, ?_⟩
  rw [h.2]
  conv => lhs; unfold listR
  rw [hb]; simp
theorem Lrel.stop (h : Lrel bb part N σ0 done n σ) (hb : bb σ = false) : listR bb part N σ0 = (done, σ) := by
  rw [h.2]
  cases n <;> (unfold listR; rw [hb]; simp)
theorem Lrel.full (h : Lrel bb part N σ0 done 0 σ) (hb : bb σ = true) : listR bb part N σ0 = (done, failR 7 σ) := by
  rw [h.2]
  unfold listR
  rw [hb]; simp
end
def lenAt (g : Nat) (w : World) : Nat := match w.cell? ⟨g, 1, none⟩ with | some (.slice _ n _) => n | _ => 0
theorem lenAt_of {g n c : Nat} {B : Option Addr} {w : World} (h : w.cell? ⟨g, 1, none⟩ = some (.slice B n c)) : lenAt g w = n := by unfold lenAt; rw [h]
/-- A block in memory, and its parts. -/
def KS : Kind SH := ⟨shc, 4, 70, 68, TP, fun _ _ _ _ _ h hg => TP.go h hg⟩
def BP (x : BH) : World → List (Option Nat) → Prop := fun w ex => BHok w ex x
def KB : Kind BH := ⟨bhc, 2, 68, 65, BP, fun _ _ _ _ _ h hg => BHok.go h hg⟩
def FP (x : FH) : World → List (Option Nat) → Prop := fun w ex => FHok w ex x
def agB (x : BH) : Value := .agg #[.string x.name, .slice x.A x.n x.c]
def agF (x : FH) : Value := .agg #[.string x.name, .slice x.A x.n x.c]
def RetBk (w : World) (b : Nat) (A : Option Addr) (c : Nat) (L : List Tok) (r : Blk × Rs) (e : Ending) (w' : World) : Prop :=
  ∃ x : BH, e = .returned (agB x) ∧ x.b = r.1 ∧ Fr w.heap.size (BP x) w' ∧ RTo w b A c L r.2 w'
def RetFn (w : World) (b : Nat) (A : Option Addr) (c : Nat) (L : List Tok) (r : Fnc × Rs) (e : Ending) (w' : World) : Prop :=
  ∃ x : FH, e = .returned (agF x) ∧ x.f = r.1 ∧ Fr w.heap.size (FP x) w' ∧ RTo w b A c L r.2 w'
theorem set2_grown {w0 w : World} {b : Nat} (h : w0.grownBy w (some b)) (p q : Value) : w0.grownBy ((w.setCell ⟨w0.heap.size, 0, none⟩ p).setCell ⟨w0.heap.size, 1, none⟩ q) (some b) :=
  grown_set_new (grown_set_new h (p := ⟨w0.heap.size, 0, none⟩) (Nat.le_refl _) p) (p := ⟨w0.heap.size, 1, none⟩) (Nat.le_refl _) q
theorem Bg.doneB {w0 w : World} {b c n d : Nat} {A B : Option Addr} {L : List Tok} {σ : Rs} {nm : ByteArray} {l : List SH} (h : Bg KS w0 b A c L σ nm (.slice B n d) l w) (hn : l.length = n) (hl : n ≤ 40) (hnm : nm.size ≤ 16) (p q : Value) {R : Blk × Rs} (hR : R = (⟨nm, l.map SH.t⟩, σ)) :
    RetBk w0 b A c L R (.returned (agB ⟨nm, B, n, d, l⟩)) ((w.setCell ⟨w0.heap.size, 0, none⟩ p).setCell ⟨w0.heap.size, 1, none⟩ q) := by
  subst hR
  have ho := h.old
  have hg : w.grownBy ((w.setCell ⟨w0.heap.size, 0, none⟩ p).setCell ⟨w0.heap.size, 1, none⟩ q) (some w0.heap.size) := grown_two (setCell_grown w ⟨w0.heap.size, 0, none⟩ p) (setCell_grown _ ⟨w0.heap.size, 1, none⟩ q)
  refine ⟨⟨nm, B, n, d, l⟩, rfl, rfl, ?_, h.st.grown hg (fun k hk => by injection hk with hk; omega), set2_grown h.gr p q⟩
  have h1 : Fr (w0.heap.size + 2) (BP ⟨nm, B, n, d, l⟩) w := by
    subst hn
    exact fun ex he => ⟨EAt.own h.own (fun g hg2 hin => by have h1 := (h.own.lt g hg2).1; have h2 := he g hin; omega), rfl, hl, by show nm.size ≤ 1000; omega, fun y hy => (h.all y hy).fr ex he⟩
  exact (h1.grown (fun h hg => BHok.go h hg) hg (fun k hk => by injection hk with hk; omega)).less (by omega)
theorem Bg.doneF {w0 w : World} {b c n d : Nat} {A B : Option Addr} {L : List Tok} {σ : Rs} {nm : ByteArray} {l : List BH} (h : Bg KB w0 b A c L σ nm (.slice B n d) l w) (hn : l.length = n) (hl : n ≤ 40) (hnm : nm.size ≤ 16) (p q : Value) {R : Fnc × Rs} (hR : R = (⟨nm, l.map BH.b⟩, σ)) :
    RetFn w0 b A c L R (.returned (agF ⟨nm, B, n, d, l⟩)) ((w.setCell ⟨w0.heap.size, 0, none⟩ p).setCell ⟨w0.heap.size, 1, none⟩ q) := by
  subst hR
  have ho := h.old
  have hg : w.grownBy ((w.setCell ⟨w0.heap.size, 0, none⟩ p).setCell ⟨w0.heap.size, 1, none⟩ q) (some w0.heap.size) := grown_two (setCell_grown w ⟨w0.heap.size, 0, none⟩ p) (setCell_grown _ ⟨w0.heap.size, 1, none⟩ q)
  refine ⟨⟨nm, B, n, d, l⟩, rfl, rfl, ?_, h.st.grown hg (fun k hk => by injection hk with hk; omega), set2_grown h.gr p q⟩
  have h1 : Fr (w0.heap.size + 2) (FP ⟨nm, B, n, d, l⟩) w := by
    subst hn
    exact fun ex he => ⟨EAt.own h.own (fun g hg2 hin => by have h1 := (h.own.lt g hg2).1; have h2 := he g hin; omega), rfl, hl, by show nm.size ≤ 1000; omega, fun y hy => (h.all y hy).fr ex he⟩
  exact (h1.grown (fun h hg => FHok.go h hg) hg (fun k hk => by injection hk with hk; omega)).less (by omega)
end Go.Proofs.YtcgichfanfijjaaGreatDoor
