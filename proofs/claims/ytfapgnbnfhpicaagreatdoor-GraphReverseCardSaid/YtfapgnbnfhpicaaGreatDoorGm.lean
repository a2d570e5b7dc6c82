/- Graphs in memory; ascends, count. -/
import Derived.Test.YtfapgnbnfhpicaaGreatDoorLst2
import Derived.Test.YtfapgnbnfhpicaaGreatDoorGpu
namespace Go.Proofs.YtfapgnbnfhpicaaGreatDoor
set_option maxRecDepth 20000
set_option linter.unusedVariables false
set_option linter.unusedSimpArgs false
open Go.ChangeShapes Go.WideShapes Go.ChangeAt Go.RowKit

/-- A list of numbers and where it lies. -/
structure RH where
  A : Option Addr
  n : Nat
  c : Nat
  l : List Int
def RH.v (x : RH) : Value := .slice x.A x.n x.c
structure RHok (w : World) (ex : List (Option Nat)) (x : RH) : Prop where
  lies : EAt w ex x.A (ints x.l)
  len : x.l.length = x.n
  few : x.n ≤ 9223372036854775807
theorem RHok.go {w w' : World} {ex ex' : List (Option Nat)} {x : RH} (h : RHok w ex x) (hg : Go2 w ex w' ex') : RHok w' ex' x := ⟨h.lies.go hg, h.len, h.few⟩
theorem RHok.below {w w' : World} {ex : List (Option Nat)} {x : RH} (h : RHok w ex x) (hb : Below w.heap.size w w') : RHok w' ex x := h.go (Go2.below hb)
theorem EAt.one {w : World} {ex : List (Option Nat)} {A : Option Addr} {xs : List Value} (h : EAt w ex A xs) {i : Nat} {u : Value} (hi : xs[i]? = some u) : ∃ ad : Addr, A = some ad ∧ Safe w ex ad.block ∧ w.cell? (ad.add i) = some u := by
  rcases h with rfl | ⟨ad, e, hs, hc⟩
  · simp at hi
  · exact ⟨ad, e, hs, hc i u hi⟩
theorem RHok.cell {w : World} {ex : List (Option Nat)} {x : RH} (h : RHok w ex x) {i : Nat} {a : Int} (hi : x.l[i]? = some a) : ∃ ad : Addr, x.A = some ad ∧ ad.block < w.heap.size ∧ w.cell? (ad.add i) = some (.int .i64 a) := by
  obtain ⟨ad, h1, h2, h3⟩ := h.lies.one (i := i) (u := .int .i64 a) (by unfold ints; rw [List.getElem?_map, hi]; rfl)
  exact ⟨ad, h1, h2.1, h3⟩
/-- A list of lists. -/
structure LH where
  A : Option Addr
  n : Nat
  c : Nat
  l : List RH
def LH.v (x : LH) : List (List Int) := x.l.map RH.l
structure LHok (w : World) (ex : List (Option Nat)) (x : LH) : Prop where
  lies : EAt w ex x.A (x.l.map RH.v)
  len : x.l.length = x.n
  few : x.n ≤ 9223372036854775807
  all : ∀ y ∈ x.l, RHok w ex y
theorem LHok.go {w w' : World} {ex ex' : List (Option Nat)} {x : LH} (h : LHok w ex x) (hg : Go2 w ex w' ex') : LHok w' ex' x := ⟨h.lies.go hg, h.len, h.few, fun y hy => (h.all y hy).go hg⟩
theorem LHok.below {w w' : World} {ex : List (Option Nat)} {x : LH} (h : LHok w ex x) (hb : Below w.heap.size w w') : LHok w' ex x := h.go (Go2.below hb)
theorem LHok.cell {w : World} {ex : List (Option Nat)} {x : LH} (h : LHok w ex x) {i : Nat} {y : RH} (hi : x.l[i]? = some y) : ∃ ad : Addr, x.A = some ad ∧ ad.block < w.heap.size ∧ w.cell? (ad.add i) = some (.slice y.A y.n y.c) := by
  obtain ⟨ad, h1, h2, h3⟩ := h.lies.one (i := i) (u := RH.v y) (by rw [List.getElem?_map, hi]; rfl)
  exact ⟨ad, h1, h2.1, h3⟩
theorem LH.vlen (x : LH) : x.v.length = x.l.length := by simp [LH.v]
theorem LH.at {x : LH} {i : Nat} {y : RH} (h : x.l[i]? = some y) : x.v[i]? = some y.l := by unfold LH.v; rw [List.getElem?_map, h]; rfl
theorem LH.rw {x : LH} {i : Nat} {y : RH} (h : x.l[i]? = some y) : rw0 x.v i = y.l := rw0_at (LH.at h)
/-- A graph. -/
structure GH where
  A : Option Addr
  n : Nat
  c : Nat
  ns : List Nd
  S : LH
  P : LH
def GH.a (x : GH) : Value := .agg #[.slice x.A x.n x.c, .slice x.S.A x.S.n x.S.c, .slice x.P.A x.P.n x.P.c]
structure GHok (w : World) (ex : List (Option Nat)) (x : GH) : Prop where
  lies : EAt w ex x.A (x.ns.flatMap ndc)
  len : x.ns.length = x.n
  few : x.n ≤ 9223372036854775807
  s : LHok w ex x.S
  p : LHok w ex x.P
theorem GHok.go {w w' : World} {ex ex' : List (Option Nat)} {x : GH} (h : GHok w ex x) (hg : Go2 w ex w' ex') : GHok w' ex' x := ⟨h.lies.go hg, h.len, h.few, h.s.go hg, h.p.go hg⟩
theorem GHok.below {w w' : World} {ex : List (Option Nat)} {x : GH} (h : GHok w ex x) (hb : Below w.heap.size w w') : GHok w' ex x := h.go (Go2.below hb)

theorem ascG_cons (N : Nat) (p a : Int) (l : List Int) : ascG N p (a :: l) = if a ≤ p then false else if (N : Int) ≤ a then false else ascG N a l := rfl
theorem drop_at {α : Type} {l : List α} {k : Nat} {a : α} (h : l[k]? = some a) : l.drop k = a :: l.drop (k + 1) := by
  obtain ⟨h1, h2⟩ := List.getElem?_eq_some_iff.1 h
  rw [List.drop_eq_getElem_cons h1, h2]
set_option maxHeartbeats 1600000 in
theorem asc_any (x : RH) (N : Nat) (ex : List (Option Nat)) (w : World) (h : RHok w ex x) (hN : N ≤ 9223372036854775807) :
    Calls Tryz.prog 38 #[.slice x.A x.n x.c, .int .i64 N] w fun e w' => e = .returned (.bool (risB N x.l)) ∧ w = w' := by
  have hn := h.few
  have HX := hid h
  have HL := hid h.len
  clear h
  obtain ⟨A, n, c, l⟩ := x
  simp only at *
  go_enter Tryz.func38, Tryz.ntmps38
  go_wp2_with fail
  go_loop [5, 7, 10] (fun pv _ iv => ∃ (k : Nat) (p : Int), k ≤ n ∧ iv = .int .i64 k ∧ pv = .int .i64 p ∧ Hid (risB N l = ascG N p (l.drop k))) (fun _ _ iv => n - (intOf iv).toNat)
  case atStart => exact ⟨0, -1, by omega, rfl, rfl, hid rfl⟩
  case round =>
    obtain ⟨k, p, hk, rfl, rfl, hE⟩ := hrel
    by_cases hlt : k < n
    · obtain ⟨a, ha, -⟩ := get_at HL.out hlt
      obtain ⟨ad, hA, had, hc⟩ := HX.out.cell ha
      simp only at hA
      subst hA
      have Hd := hid (drop_at ha)
      clear ha
      by_cases h1 : a ≤ p
      · have Hr := hid (show risB N l = false by rw [hE.out, Hd.out, ascG_cons, if_pos h1])
        go_wp2_with fail
        go_ret
        exact ⟨ret_b Hr.out, rfl⟩
      · by_cases h2 : (N : Int) ≤ a
        · have Hr := hid (show risB N l = false by rw [hE.out, Hd.out, ascG_cons, if_neg h1, if_pos h2])
          go_wp2_with fail
          go_ret
          exact ⟨ret_b Hr.out, rfl⟩
        · have Hr := hid (show risB N l = ascG N a (l.drop (k + 1)) by rw [hE.out, Hd.out, ascG_cons, if_neg h1, if_neg h2])
          go_wp2_with fail
          go_round
          case rel => exact ⟨k + 1, a, by omega, by go_num, rfl, Hr⟩
          case measure => simp [intOf]; omega
    · have Hr := hid (show risB N l = true by rw [hE.out, List.drop_of_length_le (by rw [HL.out]; omega)]; rfl)
      go_wp2_with fail
      go_ret
      exact ⟨ret_b Hr.out, rfl⟩
theorem tot_take {S : List (List Int)} {k : Nat} {l : List Int} (h : S[k]? = some l) : tot (S.take (k + 1)) = tot (S.take k) + l.length := by
  unfold tot; rw [List.take_add_one, h, List.map_append, List.sum_append]; simp
set_option maxHeartbeats 1600000 in
theorem count_any (x : LH) (N : Nat) (ex : List (Option Nat)) (w : World) (h : LHok w ex x) (hN : x.n ≤ 100000) (hr : ∀ y ∈ x.l, y.n ≤ 100000) :
    Calls Tryz.prog 37 #[.slice x.A x.n x.c] w fun e w' => e = .returned (.int .i64 (tot x.v : Nat)) ∧ w = w' := by
  have HX := hid h
  have HR := hid hr
  have HL := hid h.len
  have Hat := hid (fun (k : Nat) (y : RH) (hy : x.l[k]? = some y) => LH.at hy)
  have Hvl := hid (LH.vlen x)
  clear h hr
  generalize hv : LH.v x = v at *
  clear hv
  obtain ⟨A, n, c, l⟩ := x
  simp only at *
  go_enter Tryz.func37, Tryz.ntmps37
  go_wp2_with fail
  go_loop [3, 5, 8] (fun sv _ iv => ∃ (k t : Nat), k ≤ n ∧ iv = .int .i64 k ∧ sv = .int .i64 t ∧ t ≤ k * 100000 ∧ Hid (t = tot (v.take k))) (fun _ _ iv => n - (intOf iv).toNat)
  case atStart => exact ⟨0, 0, by omega, rfl, rfl, by omega, hid rfl⟩
  case round =>
    obtain ⟨k, t, hk, rfl, rfl, ht, hE⟩ := hrel
    by_cases hlt : k < n
    · obtain ⟨y, hy, hym⟩ := get_at HL.out hlt
      obtain ⟨ad, hA, had, hc⟩ := HX.out.cell hy
      simp only at hA
      subst hA
      have hyn := HR.out y hym
      have Ht := hid (show t + y.n = tot (v.take (k + 1)) by rw [tot_take (Hat.out k y hy), ← hE.out, (HX.out.all y hym).len])
      clear hy hym
      obtain ⟨yA, yn, yc, yl⟩ := y
      simp only at *
      go_wp2_with fail
      go_round
      case rel => exact ⟨k + 1, t + yn, by omega, by go_num, by go_num, by omega, Ht⟩
      case measure => simp [intOf]; omega
    · obtain rfl : k = n := by omega
      have Ht := hid (show t = tot v by rw [hE.out, List.take_of_length_le (by rw [Hvl.out, HL.out]; omega)])
      go_wp2_with fail
      go_ret
      exact ⟨ret_i (by rw [Ht.out]), rfl⟩
end Go.Proofs.YtfapgnbnfhpicaaGreatDoor
