/- Texts that the proof leans on, merged. -/
import Derived.Test.YtadkjnjibefocaaCa
import Derived.Test.YtadkjnjibefocaaCb
import Derived.Test.YtadkjnjibefocaaCc
import Derived.Test.YtadkjnjibefocaaCe
import Derived.Test.YtadkjnjibefocaaCnp
import Derived.Deep.DeepCutAuto
import Derived.Deep.AppendLies
import Derived.Deep.QuietTactic
import Derived.BigQuiet
namespace Go.Proofs.Ytadkjnjibefocaa
set_option maxRecDepth 20000
set_option linter.unusedVariables false
set_option linter.unusedSimpArgs false
open Go.ChangeShapes Go.WideShapes Go.ChangeAt Go.RowKit

theorem isUnkC_any (s : SY) (N : Nat) (m : Int) (w : World) (hN : s.D.n = N) :
    Calls Try.prog 35 #[s.a, .int .i64 m] w fun e w' => e = .returned (.bool (decide (0 ≤ m ∧ m < (N : Int)))) ∧ Below w.heap.size w w' := by
  obtain ⟨W, ⟨DA, dn, dc, dl⟩, ⟨TA, tn, tc, tl⟩, ⟨BA, bn, bc, bl⟩⟩ := s
  unfold SY.a
  simp only at *
  subst hN
  have hb1 := (Below.refl w.heap.size w).alloc (Nat.le_refl _) (.cells #[.int .i64 W, .slice DA dn dc, .slice TA tn tc, .slice BA bn bc] 27)
  have HW1 := hid (Fb.new w #[.int .i64 W, .slice DA dn dc, .slice TA tn tc, .slice BA bn bc] 27)
  have HB := hid hb1
  clear hb1
  go_enter Try.func35, Try.ntmps35
  go_upto_region 1 with fail
  generalize w.alloc (.cells #[.int .i64 W, .slice DA dn dc, .slice TA tn tc, .slice BA bn bc] 27) = w1 at *
  obtain ⟨x0, x1, x2, x3⟩ := HW1.out.four
  by_cases h0 : 0 ≤ m
  · by_cases h1 : m < (dn : Int)
    · have Hr := hid (show decide (0 ≤ m ∧ m < (dn : Int)) = true by simp [h0, h1])
      go_wp2_with fail
      go_ret
      exact ⟨ret_b Hr.out, HB.out⟩
    · have Hr := hid (show decide (0 ≤ m ∧ m < (dn : Int)) = false by simp [h1])
      have h2 : (dn : Int) ≤ m := by omega
      have t1 : decide (m < (dn : Int)) = false := by simp [h1]
      clear h1
      go_wp2_with fail
      go_ret
      exact ⟨ret_b Hr.out, HB.out⟩
  · have Hr := hid (show decide (0 ≤ m ∧ m < (dn : Int)) = false by simp [h0])
    have t1 : decide (0 ≤ m) = false := by simp [h0]
    clear h0
    go_wp2_with fail
    go_ret
    exact ⟨ret_b Hr.out, HB.out⟩
/-- Which unknowns are in a list came back. -/
def RetMk (w : World) (N : Nat) (l : List Int) (e : Ending) (w' : World) : Prop :=
  (inR N l = true → ∃ g, e = .returned (.tuple #[.slice (some ⟨g, 0, none⟩) N N, .bool true]) ∧ w.heap.size ≤ g ∧ BRow w' g N (mks N l)) ∧ (inR N l = false → e = .returned (.tuple #[.slice none 0 0, .bool false])) ∧ Below w.heap.size w w'
/-- While marks are made. -/
structure MkS (w : World) (S : Array Value) (g N : Nat) (l : List Int) (u : World) : Prop where
  bx : Fb u w.heap.size S 27
  ms : BRow u g N (mks N l)
  lt : w.heap.size < g
  bel : Below w.heap.size w u
  inn : inR N l = true
theorem MkS.below {w u u' : World} {S : Array Value} {g N : Nat} {l : List Int} (h : MkS w S g N l u) (hb : Below u.heap.size u u') : MkS w S g N l u' :=
  ⟨h.bx.below hb h.bx.lt, h.ms.below hb, h.lt, below_step h.bel hb, h.inn⟩
theorem inR_snoc {N : Nat} {l : List Int} {m : Nat} (h : inR N l = true) (hm : m < N) : inR N (l ++ [(m : Int)]) = true := by
  rw [inR_iff] at *
  intro x hx
  rcases List.mem_append.1 hx with hx | hx
  · exact h x hx
  · rw [List.mem_singleton.1 hx]; omega
theorem MkS.put {w u : World} {S : Array Value} {g N m : Nat} {l : List Int} (h : MkS w S g N l u) (hm : m < N) : MkS w S g N (l ++ [(m : Int)]) (u.setCell ⟨g, m, none⟩ (.bool true)) :=
  ⟨h.bx.far (by have := h.lt; show w.heap.size ≠ g; omega) _, by have := h.ms.put m true; rwa [mks_put hm] at this, h.lt, h.bel.setCell (by have := h.lt; exact Nat.le_of_lt this) _, inR_snoc h.inn hm⟩
set_option maxHeartbeats 6400000 in
theorem markedC_any (s : SY) (N : Nat) (rk : RH) (ex' : List (Option Nat)) (w : World) (hN : s.D.n = N) (hN2 : N ≤ 100000) (hr : RHok w ex' rk) :
    Calls Try.prog 34 #[s.a, .slice rk.A rk.n rk.c] w (RetMk w N rk.l) := by
  have HU := hid (fun (m : Int) (u : World) => isUnkC_any s N m u hN)
  have HR := hid (fun (u : World) (hu : Below w.heap.size w u) => hr.below hu)
  have HRl := hid hr.len
  have hfew := hr.few
  have hmk := run_mkbools N hN2
  have HBn := hid (fun (u : World) => show BRow (u.alloc (.cells ((List.replicate N false).map Value.bool).toArray 4)) u.heap.size N (mks N []) by rw [mks_nil]; exact BRow.new u N)
  generalize List.replicate N false = ds0 at *
  have Hmk := hid hmk
  clear hr hmk
  obtain ⟨W, ⟨DA, dn, dc, dl⟩, ⟨TA, tn, tc, tl⟩, ⟨BA, bn, bc, bl⟩⟩ := s
  unfold SY.a at *
  simp only at *
  subst hN
  have hb1 := (Below.refl w.heap.size w).alloc (Nat.le_refl _) (.cells #[.int .i64 W, .slice DA dn dc, .slice TA tn tc, .slice BA bn bc] 27)
  have HW1 := hid (Fb.new w #[.int .i64 W, .slice DA dn dc, .slice TA tn tc, .slice BA bn bc] 27)
  have HB := hid hb1
  clear hb1
  go_enter Try.func34, Try.ntmps34
  go_upto_region 1 with fail
  generalize w.alloc (.cells #[.int .i64 W, .slice DA dn dc, .slice TA tn tc, .slice BA bn bc] 27) = w1 at *
  obtain ⟨x0, x1, x2, x3⟩ := HW1.out.four
  have hmk := Hmk.out w1
  have hb2 := (Below.refl w1.heap.size w1).alloc (Nat.le_refl _) (.cells (ds0.map Value.bool).toArray 4)
  have HS0 := hid (show MkS w #[.int .i64 W, .slice DA dn dc, .slice TA tn tc, .slice BA bn bc] w1.heap.size dn [] (w1.alloc (.cells (ds0.map Value.bool).toArray 4)) from
    ⟨HW1.out.below hb2 HW1.out.lt, HBn.out w1, HW1.out.lt, below_step HB.out hb2, rfl⟩)
  clear hb2
  go_upto_region 2 with fail
  generalize w1.alloc (.cells (ds0.map Value.bool).toArray 4) = w2 at *
  generalize w1.heap.size = g at *
  clear x0 x1 x2 x3 hmk HB HW1
  go_wp2_with fail
  go_loopw [15] (fun iv wr => ∃ i : Nat, i ≤ rk.n ∧ iv = .int .i64 i ∧ Hid (MkS w #[.int .i64 W, .slice DA dn dc, .slice TA tn tc, .slice BA bn bc] g dn (rk.l.take i) wr)) (fun iv _ => rk.n - (intOf iv).toNat)
  case atStart => exact ⟨0, by omega, rfl, HS0⟩
  case round =>
    clear HS0
    obtain ⟨i, hi, rfl, HS⟩ := hrel
    by_cases hlt : i < rk.n
    · obtain ⟨m, hm, hmm⟩ := get_at HRl.out hlt
      obtain ⟨ad, hA, hal, y0⟩ := (HR.out wr HS.out.bel).cell hm
      obtain ⟨x0, x1, x2, x3⟩ := HS.out.bx.four
      have Hm := hid hm
      have Hmm := hid hmm
      clear hm hmm
      rw [hA]
      go_wp2_with fail
      refine (HU.out m wr).mono ?_
      by_cases hu : 0 ≤ m ∧ m < (dn : Int)
      · rw [show decide (0 ≤ m ∧ m < (dn : Int)) = true by simp [hu]]
        rintro _ w5 ⟨rfl, hb5⟩
        have HS5 := hid (HS.out.below hb5)
        clear x0 x1 x2 x3 y0 hb5 HS
        obtain ⟨m, rfl⟩ : ∃ k : Nat, m = k := ⟨m.toNat, by omega⟩
        have hmN : m < dn := by omega
        have m2 : (m : Int).toNat = m := by omega
        clear hu
        have y0 := HS5.out.ms.cell (mks_at hmN)
        have f0 := HS5.out.ms.fb.frozen m
        have hl := HS5.out.ms.fb.lt
        have HI1 := hid (show MkS w #[.int .i64 W, .slice DA dn dc, .slice TA tn tc, .slice BA bn bc] g dn (rk.l.take (i + 1)) (w5.setCell ⟨g, m, none⟩ (.bool true)) from by
          have := HS5.out.put hmN
          rw [List.take_add_one, Hm.out]
          exact this)
        clear HS5
        go_wp2_with fail
        go_roundw
        case rel => exact ⟨i + 1, by omega, by go_num, HI1⟩
        case measure => simp [intOf]; omega
      · rw [show decide (0 ≤ m ∧ m < (dn : Int)) = false by simp [hu]]
        rintro _ w5 ⟨rfl, hb5⟩
        have HS5 := hid (HS.out.below hb5)
        have Hno := hid (show inR dn rk.l = false by
          rw [Bool.eq_false_iff]
          intro h
          exact hu (inR_iff.1 h m Hmm.out))
        clear x0 x1 x2 x3 y0 hb5 HS hu
        go_wp2_with fail
        exact bodyPost_ret (v := .tuple #[.slice none 0 0, .bool false]) (by simp [results, Try.results34, go_sem]) rfl ⟨fun h => absurd (Hno.out.symm.trans h) (by decide), fun _ => rfl, HS5.out.bel⟩
    · have e : i = rk.n := by omega
      have HS5 := hid (show MkS w #[.int .i64 W, .slice DA dn dc, .slice TA tn tc, .slice BA bn bc] g dn rk.l wr from by
        have := HS.out
        rw [e, ← HRl.out, List.take_length] at this
        exact this)
      clear e HS
      go_wp2_with fail
      exact bodyPost_ret (v := .tuple #[.slice (some ⟨g, 0, none⟩) dn dn, .bool true]) (by simp [results, Try.results34, go_sem]) rfl ⟨fun _ => ⟨g, rfl, Nat.le_of_lt HS5.out.lt, HS5.out.ms⟩, fun h => absurd (HS5.out.inn.symm.trans h) (by decide), HS5.out.bel⟩
/-- The function that asks whether a number is not in a set of marks. -/
theorem notIn_any (g p N m : Nat) (l : List Int) (w : World) (hp : w.cell? ⟨p, 0, none⟩ = some (.slice (some ⟨g, 0, none⟩) N N)) (hpl : p < w.heap.size) (hg : BRow w g N (mks N l)) (hm : m < N) :
    Calls Try.prog 37 #[.int .i64 m, .pointer (some ⟨p, 0, none⟩)] w fun e w' => e = .returned (.bool (!decide ((m : Int) ∈ l))) ∧ w' = w := by
  have y0 := hg.cell (mks_at hm)
  have hl := hg.fb.lt
  have m0 : (0 : Int) ≤ m := by omega
  have m1 : (m : Int) < N := by omega
  have m2 : (m : Int).toNat = m := by omega
  clear hg
  generalize decide ((m : Int) ∈ l) = b at *
  go_enter Try.func37, Try.ntmps37
  go_wp2_with fail
  go_ret
  exact ⟨rfl, rfl⟩
theorem any_hit {l : List Int} {k : Nat} {m : Int} {f : Int → Bool} (h : l[k]? = some m) (hf : f m = true) : l.any f = true := List.any_eq_true.2 ⟨m, List.mem_of_getElem? h, hf⟩
set_option maxHeartbeats 3200000 in
theorem idxC_any (x : RH) (g p N : Nat) (l : List Int) (ex : List (Option Nat)) (w : World) (h : RHok w ex x) (hx : RisP N x.l) (hp : w.cell? ⟨p, 0, none⟩ = some (.slice (some ⟨g, 0, none⟩) N N)) (hpl : p < w.heap.size) (hg : BRow w g N (mks N l)) :
    Calls Try.prog 44 #[.slice x.A x.n x.c, .func (Fn.func 37) #[] #[.pointer (some ⟨p, 0, none⟩)]] w fun e w' => ∃ r : Int, e = .returned (.int .i64 r) ∧ decide (0 ≤ r) = x.l.any (fun m => !decide (m ∈ l)) ∧ w' = w := by
  have HX := hid h
  have HL := hid h.len
  have hfew := h.few
  have HR := hid hx.2
  have HC := hid (fun (m : Nat) (hm : m < N) => notIn_any g p N m l w hp hpl hg hm)
  clear h hx hp hpl hg
  obtain ⟨A, n, c, xl⟩ := x
  simp only at *
  go_enter Try.func44, Try.ntmps44
  go_wp2_with fail
  go_loop [5, 8] (fun _ iv => ∃ k : Nat, k ≤ n ∧ iv = .int .i64 k ∧ Hid (∀ m ∈ xl.take k, (!decide (m ∈ l)) = false)) (fun _ iv => n - (intOf iv).toNat)
  case atStart => exact ⟨0, by omega, rfl, hid (by simp)⟩
  case round =>
    obtain ⟨k, hk, rfl, hE⟩ := hrel
    by_cases hlt : k < n
    · obtain ⟨m, hm, hmm⟩ := get_at HL.out hlt
      obtain ⟨m0, m1⟩ := HR.out m hmm
      obtain ⟨m, rfl⟩ : ∃ j : Nat, m = j := ⟨m.toNat, by omega⟩
      obtain ⟨ad, hA, had, hc⟩ := HX.out.cell hm
      simp only at hA
      subst hA
      have HC2 := hid (HC.out m (by omega))
      cases hd : (!decide ((m : Int) ∈ l)) with
      | true =>
        rw [hd] at HC2
        have Hr := hid (show decide (0 ≤ (k : Int)) = xl.any (fun m => !decide (m ∈ l)) by rw [any_hit (f := fun m => !decide (m ∈ l)) hm hd]; simp)
        clear hd hm hmm m0 m1
        go_wp2_with fail
        refine HC2.out.mono ?_
        rintro _ w1 ⟨rfl, rfl⟩
        go_wp2_with fail
        go_ret
        exact ⟨k, rfl, Hr.out, rfl⟩
      | false =>
        rw [hd] at HC2
        have Hr := hid (show ∀ x ∈ xl.take (k + 1), (!decide (x ∈ l)) = false from fun x hx => by
          rw [List.take_add_one, hm] at hx
          rcases List.mem_append.1 hx with hx | hx
          · exact hE.out x hx
          · simp at hx; subst hx; exact hd)
        clear hd hm hmm m0 m1 hE
        go_wp2_with fail
        refine HC2.out.mono ?_
        rintro _ w1 ⟨rfl, rfl⟩
        go_wp2_with fail
        go_round
        case rel => exact ⟨k + 1, by omega, by go_num, Hr⟩
        case measure => simp [intOf]; omega
    · obtain rfl : k = n := by omega
      have Hr := hid (show decide ((0 : Int) ≤ -1) = xl.any (fun m => !decide (m ∈ l)) by
        have : xl.any (fun m => !decide (m ∈ l)) = false := List.any_eq_false.2 fun b hb => by
          have := hE.out b (by rw [List.take_of_length_le (by rw [HL.out]; exact Nat.le_refl _)]; exact hb)
          rw [this]; decide
        rw [this]; rfl)
      go_wp2_with fail
      go_ret
      exact ⟨-1, rfl, Hr.out, rfl⟩
theorem contC_any (x : RH) (g p N : Nat) (l : List Int) (ex : List (Option Nat)) (w : World) (h : RHok w ex x) (hx : RisP N x.l) (hp : w.cell? ⟨p, 0, none⟩ = some (.slice (some ⟨g, 0, none⟩) N N)) (hpl : p < w.heap.size) (hg : BRow w g N (mks N l)) :
    Calls Try.prog 36 #[.slice x.A x.n x.c, .func (Fn.func 37) #[] #[.pointer (some ⟨p, 0, none⟩)]] w fun e w' => e = .returned (.bool (x.l.any (fun m => !decide (m ∈ l)))) ∧ w' = w := by
  have HI := hid (idxC_any x g p N l ex w h hx hp hpl hg)
  clear h hx hp hpl hg
  generalize x.l.any (fun m => !decide (m ∈ l)) = b at *
  go_enter Try.func36, Try.ntmps36
  go_wp2_with fail
  refine HI.out.mono ?_
  rintro e w1 ⟨r, rfl, hr, rfl⟩
  have Hr := hid hr
  clear hr
  go_wp2_with fail
  go_ret
  exact ⟨ret_b Hr.out.symm, rfl⟩
/-- While a set is tested for being closed. -/
structure ClS (w : World) (S : Array Value) (g p gL N : Nat) (set lf : List Int) (u : World) : Prop where
  bx : Fb u w.heap.size S 27
  ms : BRow u g N (mks N set)
  pt : Fb u p #[.slice (some ⟨g, 0, none⟩) N N] 66
  lm : BRow u gL N (mks N lf)
  bel : Below w.heap.size w u
theorem ClS.below {w u u' : World} {S : Array Value} {g p gL N : Nat} {set lf : List Int} (h : ClS w S g p gL N set lf u) (hb : Below u.heap.size u u') : ClS w S g p gL N set lf u' :=
  ⟨h.bx.below hb h.bx.lt, h.ms.below hb, h.pt.below hb h.pt.lt, h.lm.below hb, below_step h.bel hb⟩
/-- Go's answer for closed sets: for unknowns in their order. -/
theorem closed_end {D : List (List Int)} {lf set : List Int} {N : Nat} (hD : D.length = N) (hs : inR N set = true) (h : ∀ n : Nat, n < N → (n : Int) ∈ set → (n : Int) ∉ lf → ∀ m ∈ rw0 D n, m ∈ set) : closedP D lf set := fun x hx hl => by
  obtain ⟨x0, x1⟩ := inR_iff.1 hs x hx
  have := h x.toNat (by omega)
  rw [Int.toNat_of_nonneg x0] at this
  exact this hx hl
theorem closed_no {D : List (List Int)} {lf set : List Int} {n : Nat} (h1 : (n : Int) ∈ set) (h2 : (n : Int) ∉ lf) (h3 : (rw0 D n).any (fun m => !decide (m ∈ set)) = true) : ¬ closedP D lf set := fun h => by
  obtain ⟨m, hm, h4⟩ := List.any_eq_true.1 h3
  have := h n h1 h2 m (by rw [Int.toNat_natCast]; exact hm)
  simp [this] at h4
set_option maxHeartbeats 12800000 in
theorem closedC_any (s : SY) (v N : Nat) (rs rl : RH) (ex ex1 ex2 : List (Option Nat)) (w : World) (h : SYok w ex s) (ho : SOk s v N) (hs : RHok w ex1 rs) (hl : RHok w ex2 rl) (hsi : inR N rs.l = true) (hli : inR N rl.l = true) (hv : sysB s = true) :
    Calls Try.prog 24 #[s.a, .slice rs.A rs.n rs.c, .slice rl.A rl.n rl.c] w fun e w' => e = .returned (.bool (decide (closedP s.D.v rl.l rs.l))) ∧ Below w.heap.size w w' := by
  have hN2 := ho.n256
  have hdn := ho.dn
  have HV := hid (fun (u : World) (hu : Below w.heap.size w u) => by
    have := validS_any s ex u (h.below hu)
    rw [hv] at this
    exact this)
  have HM1 := hid (fun (u : World) (hu : Below w.heap.size w u) => markedC_any s N rs ex1 u hdn (by omega) (hs.below hu))
  have HM2 := hid (fun (u : World) (hu : Below w.heap.size w u) => markedC_any s N rl ex2 u hdn (by omega) (hl.below hu))
  have HS := hid (fun (u : World) (hu : Below w.heap.size w u) => (h.below hu).d)
  have HD := hid ho.d
  have Hsi := hid hsi
  have Hli := hid hli
  have HDl := hid (show s.D.l.length = N by rw [h.d.len, hdn])
  have HDv := hid (show s.D.v.length = N by rw [LH.vlen, h.d.len, hdn])
  have Hat := hid (fun (k : Nat) (y : RH) (hy : s.D.l[k]? = some y) => LH.rw hy)
  clear h ho hs hl hsi hli hv
  obtain ⟨W, ⟨DA, dn, dc, dl⟩, ⟨TA, tn, tc, tl⟩, ⟨BA, bn, bc, bl⟩⟩ := s
  unfold SY.a at *
  simp only at *
  subst hdn
  generalize hDv : LH.v ⟨DA, dn, dc, dl⟩ = D at *
  clear hDv
  generalize rs.l = set at *
  generalize rl.l = lf at *
  have hb1 := (Below.refl w.heap.size w).alloc (Nat.le_refl _) (.cells #[.int .i64 W, .slice DA dn dc, .slice TA tn tc, .slice BA bn bc] 27)
  have HW1 := hid (Fb.new w #[.int .i64 W, .slice DA dn dc, .slice TA tn tc, .slice BA bn bc] 27)
  have HB := hid hb1
  clear hb1
  go_enter Try.func24, Try.ntmps24
  go_upto_region 1 with fail
  generalize w.alloc (.cells #[.int .i64 W, .slice DA dn dc, .slice TA tn tc, .slice BA bn bc] 27) = w1 at *
  obtain ⟨x0, x1, x2, x3⟩ := HW1.out.four
  go_wp2_with fail
  refine (HV.out w1 HB.out).mono ?_
  rintro _ w2 ⟨rfl, hb2⟩
  have HW2 := hid (HW1.out.below hb2 HW1.out.lt)
  have HB2 := hid (below_step HB.out hb2)
  clear x0 x1 x2 x3 hb2 HW1 HB HV
  obtain ⟨x0, x1, x2, x3⟩ := HW2.out.four
  go_wp2_with fail
  refine (HM1.out w2 HB2.out).mono ?_
  rintro e w3 ⟨h1, -, hb3⟩
  obtain ⟨g, rfl, hg, hmk⟩ := h1 Hsi.out
  have hb4 := (Below.refl w3.heap.size w3).alloc (Nat.le_refl _) (.cells #[.slice (some ⟨g, 0, none⟩) dn dn] 66)
  have HW4 := hid (HW2.out.below (below_step hb3 hb4) HW2.out.lt)
  have HB4 := hid (below_step HB2.out (below_step hb3 hb4))
  have HK4 := hid (hmk.below hb4)
  have HP4 := hid (Fb.new w3 #[.slice (some ⟨g, 0, none⟩) dn dn] 66)
  clear x0 x1 x2 x3 hb3 hb4 hmk h1 hg HW2 HB2 HM1
  go_upto_region 4 with fail
  generalize w3.alloc (.cells #[.slice (some ⟨g, 0, none⟩) dn dn] 66) = w4 at *
  generalize w3.heap.size = p at *
  obtain ⟨x0, x1, x2, x3⟩ := HW4.out.four
  go_wp2_with fail
  refine (HM2.out w4 HB4.out).mono ?_
  rintro e w5 ⟨h1, -, hb5⟩
  obtain ⟨gL, rfl, hg, hmk⟩ := h1 Hli.out
  have HS5 := hid (show ClS w #[.int .i64 W, .slice DA dn dc, .slice TA tn tc, .slice BA bn bc] g p gL dn set lf w5 from ⟨HW4.out.below hb5 HW4.out.lt, HK4.out.below hb5, HP4.out.below hb5 HP4.out.lt, hmk, below_step HB4.out hb5⟩)
  clear x0 x1 x2 x3 hb5 hmk h1 hg HW4 HB4 HM2 HK4 HP4
  obtain ⟨x0, x1, x2, x3⟩ := HS5.out.bx.four
  go_wp2_with fail
  clear x0 x1 x2 x3
  go_loopw [37] (fun iv wr => ∃ i : Nat, i ≤ dn ∧ iv = .int .i64 i ∧ Hid (∀ n : Nat, n < i → (n : Int) ∈ set → (n : Int) ∉ lf → ∀ m ∈ rw0 D n, m ∈ set) ∧ Hid (ClS w #[.int .i64 W, .slice DA dn dc, .slice TA tn tc, .slice BA bn bc] g p gL dn set lf wr)) (fun iv _ => dn - (intOf iv).toNat)
  case atStart => exact ⟨0, by omega, rfl, hid (fun n h => by omega), HS5⟩
  case round =>
    clear HS5
    obtain ⟨i, hi, rfl, hE, HS6⟩ := hrel
    by_cases hlt : i < dn
    · obtain ⟨y, hy, hym⟩ := get_at HDl.out hlt
      obtain ⟨ad, hA, had, hc⟩ := (HS.out wr HS6.out.bel).cell hy
      simp only at hA
      subst hA
      have n0 : (0 : Int) ≤ i := by omega
      have n1 : (i : Int) < dn := by omega
      have n2 : (i : Int).toNat = i := by omega
      have Hrw := hid (Hat.out i y hy)
      have HC := hid (contC_any y g p dn set ex wr ((HS.out wr HS6.out.bel).all y hym) (HD.out y hym) (HS6.out.pt.cell 0) HS6.out.pt.lt HS6.out.ms)
      have z0 := HS6.out.ms.cell (mks_at hlt)
      have z1 := HS6.out.lm.cell (mks_at hlt)
      have z2 := HS6.out.pt.cell 0
      simp only [List.getElem?_toArray, List.getElem?_cons_zero] at z2
      have l0 := HS6.out.ms.fb.lt
      have l1 := HS6.out.lm.fb.lt
      have l2 := HS6.out.pt.lt
      clear hy hym
      obtain ⟨yA, yn, yc, yl⟩ := y
      simp only at *
      by_cases h1 : (i : Int) ∈ set
      · rw [show decide ((i : Int) ∈ set) = true by simp [h1]] at z0
        by_cases h2 : (i : Int) ∈ lf
        · rw [show decide ((i : Int) ∈ lf) = true by simp [h2]] at z1
          have Hr := hid (show ∀ n : Nat, n < i + 1 → (n : Int) ∈ set → (n : Int) ∉ lf → ∀ m ∈ rw0 D n, m ∈ set from fun n hn a b => by
            by_cases e : n = i
            · subst e; exact absurd h2 b
            · exact hE.out n (by omega) a b)
          clear h1 h2 hE HC
          as_aux_lemma =>
            go_wp2_with fail
            go_roundw
            case rel => exact ⟨i + 1, by omega, by go_num, Hr, HS6⟩
            case measure => simp [intOf]; omega
        · rw [show decide ((i : Int) ∈ lf) = false by simp [h2]] at z1
          cases hb : yl.any (fun m => !decide (m ∈ set)) with
          | true =>
            rw [hb] at HC
            have Hr := hid (show decide (closedP D lf set) = false by
              rw [decide_eq_false_iff_not]
              exact closed_no h1 h2 (by rw [Hrw.out]; exact hb))
            clear h1 h2 hE hb
            as_aux_lemma =>
              go_wp2_with fail
              refine HC.out.mono ?_
              rintro _ w6 ⟨rfl, rfl⟩
              go_wp2_with fail
              go_ret
              exact ⟨ret_b Hr.out, HS6.out.bel⟩
          | false =>
            rw [hb] at HC
            have Hr := hid (show ∀ n : Nat, n < i + 1 → (n : Int) ∈ set → (n : Int) ∉ lf → ∀ m ∈ rw0 D n, m ∈ set from fun n hn a b => by
              by_cases e : n = i
              · subst e
                intro m hm
                rw [Hrw.out] at hm
                have := List.any_eq_false.1 hb m hm
                simpa using this
              · exact hE.out n (by omega) a b)
            clear h1 h2 hE hb
            as_aux_lemma =>
              go_wp2_with fail
              refine HC.out.mono ?_
              rintro _ w6 ⟨rfl, rfl⟩
              go_wp2_with fail
              go_roundw
              case rel => exact ⟨i + 1, by omega, by go_num, Hr, HS6⟩
              case measure => simp [intOf]; omega
      · rw [show decide ((i : Int) ∈ set) = false by simp [h1]] at z0
        have Hr := hid (show ∀ n : Nat, n < i + 1 → (n : Int) ∈ set → (n : Int) ∉ lf → ∀ m ∈ rw0 D n, m ∈ set from fun n hn a b => by
          by_cases e : n = i
          · subst e; exact absurd a h1
          · exact hE.out n (by omega) a b)
        clear h1 hE HC
        as_aux_lemma =>
          go_wp2_with fail
          go_roundw
          case rel => exact ⟨i + 1, by omega, by go_num, Hr, HS6⟩
          case measure => simp [intOf]; omega
    · obtain rfl : i = dn := by omega
      have Hr := hid (show decide (closedP D lf set) = true by
        rw [decide_eq_true_eq]
        exact closed_end HDv.out Hsi.out hE.out)
      go_wp2_with fail
      go_ret
      exact ⟨ret_b Hr.out, HS6.out.bel⟩
end Go.Proofs.Ytadkjnjibefocaa

namespace Go.Proofs.Ytadkjnjibefocaa
set_option maxRecDepth 20000
set_option linter.unusedVariables false
set_option linter.unusedSimpArgs false
open Go.ChangeShapes Go.WideShapes Go.ChangeAt Go.RowKit

/-- The cone and its cost came back, the list in a block of the call's own. -/
def RetOf (w : World) (D : List (List Int)) (lf : List Int) (root : Int) (e : Ending) (w' : World) : Prop :=
  ∃ y : RH, e = .returned (.tuple #[.slice y.A y.n y.c, .int .i64 ((coneP D lf root).2 : Nat), .int .i64 0]) ∧ y.l = (coneP D lf root).1 ∧ (∀ ex : List (Option Nat), (∀ k, some k ∈ ex → k < w.heap.size) → RHok w' ex y) ∧ y.n ≤ 256 ∧ Below w.heap.size w w'
/-- While the cone is searched: l is marked, l0 is listed. -/
structure OfS (w : World) (S : Array Value) (gL gF N : Nat) (lf l l0 : List Int) (V : Value) (u : World) : Prop where
  bx : Fb u w.heap.size S 27
  lm : BRow u gL N (mks N lf)
  fm : BRow u gF N (mks N l)
  ne : gL ≠ gF
  lt : w.heap.size < gF
  ow : u.ownsRow (w.heap.size + 1) 3 1 V l0.length (ints l0)
  bel : Below w.heap.size w u
section
variable {w u u' : World} {S : Array Value} {gL gF N : Nat} {lf l l0 : List Int} {V : Value}
theorem OfS.below (h : OfS w S gL gF N lf l l0 V u) (hb : Below u.heap.size u u') : OfS w S gL gF N lf l l0 V u' :=
  ⟨h.bx.below hb h.bx.lt, h.lm.below hb, h.fm.below hb, h.ne, h.lt, (Stp1.below (t := 0) hb).own h.ow (by decide), below_step h.bel hb⟩
theorem OfS.mark {m : Nat} (h : OfS w S gL gF N lf l l0 V u) (hm : m < N) : OfS w S gL gF N lf (l ++ [(m : Int)]) l0 V (u.setCell ⟨gF, m, none⟩ (.bool true)) := by
  have hs : Stp1 4 u (u.setCell ⟨gF, m, none⟩ (.bool true)) := ⟨some gF, setCell_grown u ⟨gF, m, none⟩ _, fun k e => by obtain rfl := Option.some.inj e; exact h.fm.fb.typ⟩
  exact ⟨h.bx.far (by have := h.lt; show w.heap.size ≠ gF; omega) _, ⟨h.lm.fb.far h.ne _, h.lm.len⟩, by have := h.fm.put m true; rwa [mks_put hm] at this, h.ne, h.lt, hs.own h.ow (by decide), h.bel.setCell (Nat.le_of_lt h.lt) _⟩
theorem OfS.app {V' : Value} {m : Int} (h : OfS w S gL gF N lf l l0 V u) (hg : u.grownBy u' V.ownBlock) (ho : u'.ownsRow (w.heap.size + 1) 3 1 V' (l0.length + 1) (ints l0 ++ [.int .i64 m])) : OfS w S gL gF N lf l (l0 ++ [m]) V' u' := by
  have hs : Stp1 3 u u' := ⟨_, hg, fun k e => own_typ h.ow e⟩
  exact ⟨hs.fb h.bx (by decide), ⟨hs.fb h.lm.fb (by decide), h.lm.len⟩, ⟨hs.fb h.fm.fb (by decide), h.fm.len⟩, h.ne, h.lt, by
    rw [List.length_append, List.length_singleton]
    unfold ints at ho ⊢
    rw [List.map_append]
    exact ho, h.bel.grown hg h.bel.size (fun k e => by have := (h.ow.lt k e).1; omega)⟩
end
theorem own_one (w : World) (b : Nat) (x : Int) (hb : b ≤ w.heap.size) : (w.alloc (.cells #[.int .i64 x] 3)).ownsRow b 3 1 (.slice (some ⟨w.heap.size, 0, none⟩) 1 1) 1 [.int .i64 x] :=
  ⟨rfl, .inr ⟨w.heap.size, 1, #[.int .i64 x], rfl, hb, Fb.new w _ _, Nat.le_refl _, by unfold maxLen; omega, rfl, rfl⟩⟩
theorem addNew_in {l : List Int} {m : Int} {d : List Int} (h : m ∈ l) : addNew l (m :: d) = addNew l d := by
  conv => lhs; unfold addNew
  rw [if_pos h]
theorem addNew_out {l : List Int} {m : Int} {d : List Int} (h : m ∉ l) : addNew l (m :: d) = addNew (l ++ [m]) d := by
  conv => lhs; unfold addNew
  rw [if_neg h]
theorem ints_len (l : List Int) : (ints l).length = l.length := by unfold ints; rw [List.length_map]
/-- A cell of the list that grows. -/
theorem OfS.cell {w u : World} {S : Array Value} {gL gF N g c n k : Nat} {lf l l0 : List Int} {x : Int} (h : OfS w S gL gF N lf l l0 (.slice (some ⟨g, 0, none⟩) n c) u) (hk : l0[k]? = some x) : u.cell? ⟨g, k, none⟩ = some (.int .i64 x) ∧ g < u.heap.size := by
  have hE := EAt.own (ex := []) (A := some ⟨g, 0, none⟩) (n := n) (c := c) (xs := ints l0) (by
    have := h.ow
    have e : l0.length = n := by
      have := h.ow.2
      rcases this with ⟨e, _⟩ | ⟨g', cap, cur, e, _⟩
      · cases e
      · injection e with _ e2 _; exact e2.symm
    rw [e] at this
    exact this) (by simp)
  obtain ⟨ad, e, hs, hc⟩ := hE.one (i := k) (u := .int .i64 x) (by unfold ints; rw [List.getElem?_map, hk]; rfl)
  obtain rfl := Option.some.inj e
  rw [add_of] at hc
  exact ⟨hc, hs.1⟩
theorem below_dq (w : World) (q : Nat) : Below w.heap.size w (w.drewN q) := ⟨rfl, rfl, rfl, Nat.le_refl _, fun _ _ => rfl⟩
set_option maxHeartbeats 25600000 in
theorem coneOf_any (s : SY) (v N : Nat) (root : Int) (rl : RH) (ex ex2 : List (Option Nat)) (w : World) (h : SYok w ex s) (ho : SOk s v N) (hl : RHok w ex2 rl) (hli : inR N rl.l = true) (hv : sysB s = true) (r0 : 0 ≤ root) (r1 : root < (N : Int)) :
    Calls Try.prog 22 #[s.a, .int .i64 root, .slice rl.A rl.n rl.c] w (RetOf w s.D.v rl.l root) := by
  obtain ⟨i1, hi, hz0, hz1, hz2⟩ := info_parts info3
  have Hi := hid hi; have Hz0 := hid hz0; have Hz1 := hid hz1; have Hz2 := hid hz2
  clear hi hz0 hz1 hz2
  have hN2 := ho.n256
  have hdn := ho.dn
  have HV := hid (fun (u : World) (hu : Below w.heap.size w u) => by
    have := validS_any s ex u (h.below hu)
    rw [hv] at this
    exact this)
  have HM2 := hid (fun (u : World) (hu : Below w.heap.size w u) => markedC_any s N rl ex2 u hdn (by omega) (hl.below hu))
  have HU := hid (fun (u : World) => by
    have := isUnkC_any s N root u hdn
    rw [show decide (0 ≤ root ∧ root < (N : Int)) = true by simp [r0, r1]] at this
    exact this)
  have HS := hid (fun (u : World) (hu : Below w.heap.size w u) => (h.below hu).d)
  have HD := hid ho.d
  have Hli := hid hli
  have HDl := hid (show s.D.l.length = N by rw [h.d.len, hdn])
  have HDv := hid (show s.D.v.length = N by rw [LH.vlen, h.d.len, hdn])
  have HDr := hid (show ∀ l ∈ s.D.v, RisP N l from fun l hl => by obtain ⟨y, hy, rfl⟩ := List.mem_map.1 hl; exact ho.d y hy)
  have Hat := hid (fun (k : Nat) (y : RH) (hy : s.D.l[k]? = some y) => LH.rw hy)
  have hmk := run_mkbools N (by omega)
  have HBn := hid (fun (u : World) => show BRow (u.alloc (.cells ((List.replicate N false).map Value.bool).toArray 4)) u.heap.size N (mks N []) by rw [mks_nil]; exact BRow.new u N)
  generalize List.replicate N false = ds0 at *
  have Hmk := hid hmk
  clear h ho hl hli hv hmk
  obtain ⟨W, ⟨DA, dn, dc, dl⟩, ⟨TA, tn, tc, tl⟩, ⟨BA, bn, bc, bl⟩⟩ := s
  unfold SY.a at *
  simp only at *
  subst hdn
  generalize hDv : LH.v ⟨DA, dn, dc, dl⟩ = D at *
  clear hDv
  generalize rl.l = lf at *
  obtain ⟨root, rfl⟩ : ∃ k : Nat, root = k := ⟨root.toNat, by omega⟩
  have hrN : root < dn := by omega
  have HP := hid (show coneP D lf (root : Int) = coneR D lf (dn - 0) [(root : Int)] 0 0 by unfold coneP; rw [HDv.out]; rfl)
  have HK0 := hid (show Cnk dn [(root : Int)] from ⟨by simp, fun x hx => by rw [List.mem_singleton.1 hx]; exact ⟨r0, r1⟩⟩)
  unfold RetOf
  generalize hcp : coneP D lf (root : Int) = cp at *
  clear hcp
  have hb1 := (Below.refl w.heap.size w).alloc (Nat.le_refl _) (.cells #[.int .i64 W, .slice DA dn dc, .slice TA tn tc, .slice BA bn bc] 27)
  have HW1 := hid (Fb.new w #[.int .i64 W, .slice DA dn dc, .slice TA tn tc, .slice BA bn bc] 27)
  have HB := hid hb1
  clear hb1
  go_enter Try.func22, Try.ntmps22
  go_upto_region 1 with fail
  generalize w.alloc (.cells #[.int .i64 W, .slice DA dn dc, .slice TA tn tc, .slice BA bn bc] 27) = w1 at *
  obtain ⟨x0, x1, x2, x3⟩ := HW1.out.four
  go_wp2_with fail
  refine (HV.out w1 HB.out).mono ?_
  rintro _ w2 ⟨rfl, hb2⟩
  have HW2 := hid (HW1.out.below hb2 HW1.out.lt)
  have HB2 := hid (below_step HB.out hb2)
  clear x0 x1 x2 x3 hb2 HW1 HB HV
  obtain ⟨x0, x1, x2, x3⟩ := HW2.out.four
  go_wp2_with fail
  refine (HM2.out w2 HB2.out).mono ?_
  rintro e w3 ⟨h1, -, hb3⟩
  obtain ⟨gL, rfl, hg, hmk⟩ := h1 Hli.out
  have HW3 := hid (HW2.out.below hb3 HW2.out.lt)
  have HB3 := hid (below_step HB2.out hb3)
  have HL3 := hid hmk
  clear x0 x1 x2 x3 hb3 hmk h1 hg HW2 HB2 HM2
  obtain ⟨x0, x1, x2, x3⟩ := HW3.out.four
  go_wp2_with fail
  refine (HU.out w3).mono ?_
  rintro _ w4 ⟨rfl, hb4⟩
  have HW4 := hid (HW3.out.below hb4 HW3.out.lt)
  have HB4 := hid (below_step HB3.out hb4)
  have HL4 := hid (HL3.out.below hb4)
  clear x0 x1 x2 x3 hb4 HW3 HB3 HL3 HU
  obtain ⟨x0, x1, x2, x3⟩ := HW4.out.four
  have hmk := Hmk.out w4
  have hb5 := (Below.refl w4.heap.size w4).alloc (Nat.le_refl _) (.cells (ds0.map Value.bool).toArray 4)
  have HW5 := hid (HW4.out.below hb5 HW4.out.lt)
  have HB5 := hid (below_step HB4.out hb5)
  have HL5 := hid (HL4.out.below hb5)
  have HF5 := hid (HBn.out w4)
  have Hne := hid (show gL ≠ w4.heap.size from fun e => by have := HL4.out.fb.lt; omega)
  have Hlt := hid HW4.out.lt
  clear hb5
  go_upto_region 7 with fail
  generalize w4.alloc (.cells (ds0.map Value.bool).toArray 4) = w5 at *
  generalize w4.heap.size = gF at *
  clear x0 x1 x2 x3 hmk HW4 HB4 HL4
  have y0 := HF5.out.cell (mks_at hrN)
  have f0 := HF5.out.fb.frozen root
  have hl5 := HF5.out.fb.lt
  have m2 : (root : Int).toNat = root := by omega
  have HS0 := hid (show OfS w #[.int .i64 W, .slice DA dn dc, .slice TA tn tc, .slice BA bn bc] gL gF dn lf [(root : Int)] [(root : Int)] (.slice (some ⟨w5.heap.size, 0, none⟩) 1 1) ((w5.setCell ⟨gF, root, none⟩ (.bool true)).alloc (.cells #[.int .i64 root] 3)) from by
    have hs : OfS w #[.int .i64 W, .slice DA dn dc, .slice TA tn tc, .slice BA bn bc] gL gF dn lf [] [] (.slice none 0 0) w5 := ⟨HW5.out, HL5.out, HF5.out, Hne.out, Hlt.out, World.ownsRow_nil _ _ _ _, HB5.out⟩
    have h2 := (hs.mark hrN).below ((Below.refl _ _).alloc (Nat.le_refl _) (.cells #[.int .i64 root] 3))
    refine ⟨h2.bx, h2.lm, h2.fm, h2.ne, h2.lt, ?_, h2.bel⟩
    have := own_one (w5.setCell ⟨gF, root, none⟩ (.bool true)) (w.heap.size + 1) root (by rw [World.size_setCell]; have := Hlt.out; omega)
    rw [World.size_setCell] at this
    exact this)
  clear HW5 HB5 HL5 HF5 Hne Hlt HBn Hmk
  go_upto_region 9 with fail
  try simp only [World.size_setCell]
  generalize (w5.setCell ⟨gF, root, none⟩ (.bool true)).alloc (.cells #[.int .i64 root] 3) = w6 at *
  generalize w5.heap.size = g6 at *
  clear y0 f0 hl5
  go_wp2_with fail
  go_loopw [12, 13, 14] (fun lv cv kv wr => ∃ (l : List Int) (g L c k t : Nat), lv = .slice (some ⟨g, 0, none⟩) L c ∧ cv = .int .i64 t ∧ kv = .int .i64 k ∧ L = l.length ∧ k ≤ l.length ∧ l.length ≤ dn ∧ t ≤ k * 300 ∧ Hid (cp = coneR D lf (dn - k) l k t) ∧ Hid (Cnk dn l) ∧ Hid (OfS w #[.int .i64 W, .slice DA dn dc, .slice TA tn tc, .slice BA bn bc] gL gF dn lf l l (.slice (some ⟨g, 0, none⟩) L c) wr)) (fun _ _ kv _ => dn - (intOf kv).toNat)
  case atStart => exact ⟨[(root : Int)], g6, 1, 1, 0, 0, rfl, rfl, rfl, rfl, by simp, by simp; omega, by omega, HP, HK0, HS0⟩
  case round =>
    clear HS0 HP HK0
    obtain ⟨l, g, L, c, k, t, rfl, rfl, rfl, rfl, hk, hln, ht, HP, HK, HSt⟩ := hrel
    by_cases hlt : k < l.length
    · obtain ⟨n, hn, hnm⟩ := get_at (rfl : l.length = l.length) hlt
      obtain ⟨n0, n1⟩ := HK.out.rg n hnm
      obtain ⟨n, rfl⟩ : ∃ j : Nat, n = j := ⟨n.toNat, by omega⟩
      have hnN : n < dn := by omega
      obtain ⟨z0, hgl⟩ := HSt.out.cell hn
      have z1 := HSt.out.lm.cell (mks_at hnN)
      have hgL := HSt.out.lm.fb.lt
      have n2 : (n : Int).toNat = n := by omega
      have k0 : (0 : Int) ≤ k := by omega
      have k1 : (k : Int) < l.length := by omega
      have k2 : (k : Int).toNat = k := by omega
      have Hn := hid hn
      have hf : dn - k = (dn - (k + 1)) + 1 := by omega
      have Hf := hid hf
      clear hn hnm hf
      by_cases hlf : (n : Int) ∈ lf
      · rw [show decide ((n : Int) ∈ lf) = true by simp [hlf]] at z1
        have HP2 := hid (show cp = coneR D lf (dn - (k + 1)) l (k + 1) (t + 1) by rw [HP.out, Hf.out, coneR_leaf Hn.out hlf])
        clear hlf Hf
        as_aux_lemma =>
          go_wp2_with fail
          go_roundw
          case rel => exact ⟨l, g, _, c, k + 1, t + 1, rfl, by go_num, by go_num, rfl, by omega, hln, by omega, HP2, HK, HSt⟩
          case measure => simp [intOf]; omega
      · rw [show decide ((n : Int) ∈ lf) = false by simp [hlf]] at z1
        have HP2 := hid (show cp = coneR D lf (dn - (k + 1)) (addNew l (rw0 D n)) (k + 1) (t + 1 + (rw0 D n).length) by rw [HP.out, Hf.out, coneR_node Hn.out hlf, Int.toNat_natCast])
        have HK2 := hid (HK.out.add (rw0_ris HDr.out n).2)
        have hln2 := HK2.out.len
        have hkl2 : l.length ≤ (addNew l (rw0 D n)).length := by obtain ⟨t', e⟩ := addNew_pre l (rw0 D n); rw [e, List.length_append]; omega
        obtain ⟨y, hy, hym⟩ := get_at HDl.out hnN
        have Hrw := hid (Hat.out n y hy)
        have hyn : y.n ≤ dn := by have h1 := ris_len (HD.out y hym); rw [((HS.out w (Below.refl _ _)).all y hym).len] at h1; exact h1
        have Hyr := hid (HD.out y hym).2
        have HY := hid (fun (u : World) (hu : Below w.heap.size w u) => (HS.out u hu).all y hym)
        obtain ⟨adD, hDA, hDl, q0⟩ := (HS.out wr HSt.out.bel).cell hy
        simp only at hDA
        subst hDA
        obtain ⟨b0, b1, b2, b3⟩ := HSt.out.bx.four
        rw [Hrw.out] at HP2 HK2 hln2 hkl2
        have Hyl := hid (HY.out w (Below.refl _ _)).len
        clear hy hym hlf Hf Hrw
        obtain ⟨yA, yn, yc, yl⟩ := y
        simp only at *
        have HQ := hid (fun q => HSt.out.below (below_dq wr q))
        clear HSt
        have HA0 := hid (show addNew l (yl.drop 0) = addNew l yl from rfl)
        go_upto_region 14 with fail
        go_quiet (fail)
        go_wp2_with fail
        clear z0 z1 q0 b0 b1 b2 b3 hgl hgL hDl
        rename_i Kx hKx Kz Qz
        go_loopw [12, 13, 67] (fun lv cv jv wr => ∃ (l' : List Int) (g' L' c' j : Nat), lv = .slice (some ⟨g', 0, none⟩) L' c' ∧ cv = .int .i64 ((t + 1 + j : Nat) : Int) ∧ jv = .int .i64 j ∧ L' = l'.length ∧ j ≤ yn ∧ Hid (addNew l' (yl.drop j) = addNew l yl) ∧ Hid (Cnk dn l') ∧ Hid (OfS w #[.int .i64 W, .slice (some adD) dn dc, .slice TA tn tc, .slice BA bn bc] gL gF dn lf l' l' (.slice (some ⟨g', 0, none⟩) L' c') wr)) (fun _ _ jv _ => yn - (intOf jv).toNat)
        case atStart => exact ⟨l, g, _, c, 0, rfl, by go_num, rfl, rfl, by omega, HA0, HK, HQ.out _⟩
        case round =>
          clear HQ HA0 HK
          obtain ⟨l', g', L', c', j, rfl, rfl, rfl, rfl, hj, HA, HK, HSt⟩ := hrel
          by_cases hlj : j < yn
          · obtain ⟨m, hm, hmm⟩ := get_at Hyl.out hlj
            obtain ⟨m0, m1⟩ := Hyr.out m hmm
            obtain ⟨m, rfl⟩ : ∃ i : Nat, m = i := ⟨m.toNat, by omega⟩
            have hmN : m < dn := by omega
            obtain ⟨adY, hYA, hYl, q0⟩ := (HY.out wr HSt.out.bel).cell hm
            simp only at hYA
            subst hYA
            have m2 : (m : Int).toNat = m := by omega
            have y0 := HSt.out.fm.cell (mks_at hmN)
            have f0 := HSt.out.fm.fb.frozen m
            have hgF := HSt.out.fm.fb.lt
            have hl'n := HK.out.len
            have Hd := hid (drop_at hm)
            clear hm hmm
            by_cases hml : (m : Int) ∈ l'
            · rw [show decide ((m : Int) ∈ l') = true by simp [hml]] at y0
              have HA2 := hid (show addNew l' (yl.drop (j + 1)) = addNew l yl by rw [← HA.out, Hd.out, addNew_in hml])
              clear hml Hd HA
              as_aux_lemma =>
                go_wp2_with fail
                go_roundw
                case rel => exact ⟨l', g', _, c', j + 1, rfl, by go_num, by go_num, rfl, by omega, HA2, HK, HSt⟩
                case measure => simp [intOf]; omega
            · rw [show decide ((m : Int) ∈ l') = false by simp [hml]] at y0
              have HA2 := hid (show addNew (l' ++ [(m : Int)]) (yl.drop (j + 1)) = addNew l yl by rw [← HA.out, Hd.out, addNew_out hml])
              have HK2 := hid (HK.out.one (by omega) (by omega) hml)
              have hln3 := HK2.out.len
              rw [List.length_append, List.length_singleton] at hln3
              have HS7 := hid (HSt.out.mark hmN)
              have HS8 := hid (HS7.out.below ((Below.refl _ _).alloc (Nat.le_refl _) (.cells #[.int .i64 m] 3)))
              have hsz : w.heap.size + 1 ≤ (wr.setCell ⟨gF, m, none⟩ (.bool true)).heap.size := by rw [World.size_setCell]; have := HSt.out.lt; omega
              clear hml Hd HA HSt HK
              go_upto_region 20 with fail
              clear y0 f0 hgF q0 hYl
              generalize wr.setCell ⟨gF, m, none⟩ (.bool true) = w7 at *
              go_wp2_with (first
                | (at_builtin
                   refine wpList_append_lies _ rfl _ _ 22 rfl (w.heap.size + 1) 3 i1 _ 1 8 Try.underlying22 Hi.out Hz0.out Hz1.out Hz2.out rfl (by decide) _ l'.length (ints l') rfl HS8.out.ow ⟨w7.heap.size, 0, none⟩ 1 1 [Value.int .i64 m] rfl rfl (int_new w7 m 3) (one_int1 _) (by omega) (by unfold maxLen; omega) (by omega) (by rw [World.size_alloc]; omega) _ rfl ?_
                   intro g5 cap5 w5 hown5 hgr5 hat5 hlt5
                   have HS9 := hid (HS8.out.app hgr5 hown5)
                   clear hown5 hgr5 hat5 hlt5))
              go_roundw
              case rel => exact ⟨l' ++ [(m : Int)], g5, _, cap5, j + 1, rfl, by go_num, by go_num, by simp, by omega, HA2, HK2, HS9⟩
              case measure => simp [intOf]; omega
          · have e : j = yn := by omega
            have HA2 := hid (show l' = addNew l yl by rw [← HA.out, e, List.drop_of_length_le (by rw [Hyl.out]; exact Nat.le_refl _)]; rfl)
            have HP3 := hid (show cp = coneR D lf (dn - (k + 1)) l' (k + 1) (t + 1 + yn) by rw [HP2.out, HA2.out, Hyl.out])
            have h1 : l'.length ≤ dn := by rw [HA2.out]; exact hln2
            have h2 : k + 1 ≤ l'.length := by rw [HA2.out]; omega
            subst e
            clear HA HA2 HP2 hln2 hkl2
            go_wp2_with fail
            go_roundw
            case rel => exact ⟨l', g', _, c', k + 1, t + 1 + j, rfl, by go_num, by go_num, rfl, h2, h1, by omega, HP3, HK, HSt⟩
            case measure => simp [intOf]; omega
    · obtain rfl : k = l.length := by omega
      have HP2 := hid (show cp = (l, t) by rw [HP.out, coneR_end (Nat.le_refl _)])
      have HFin := hid (show ∃ y : RH, Ending.returned (.tuple #[.slice (some ⟨g, 0, none⟩) l.length c, .int .i64 t, .int .i64 0]) = .returned (.tuple #[.slice y.A y.n y.c, .int .i64 (cp.2 : Nat), .int .i64 0]) ∧ y.l = cp.1 ∧ (∀ ex : List (Option Nat), (∀ k, some k ∈ ex → k < w.heap.size) → RHok wr ex y) ∧ y.n ≤ 256 ∧ Below w.heap.size w wr from
        ⟨⟨some ⟨g, 0, none⟩, l.length, c, l⟩, by rw [HP2.out], by rw [HP2.out], fun ex hex => ⟨EAt.own HSt.out.ow (fun b hb hm => by have h1 := hex b hm; have h2 := (HSt.out.ow.lt b hb).1; omega), rfl, by show l.length ≤ _; omega⟩, by show l.length ≤ 256; omega, HSt.out.bel⟩)
      clear HP HP2 HK HSt
      go_wp2_with fail
      exact bodyPost_ret (v := .tuple #[.slice (some ⟨g, 0, none⟩) l.length c, .int .i64 t, .int .i64 0]) (by simp [results, Try.results22, go_sem]) rfl HFin.out
end Go.Proofs.Ytadkjnjibefocaa

namespace Go.Proofs.Ytadkjnjibefocaa
set_option maxRecDepth 20000
set_option linter.unusedVariables false
set_option linter.unusedSimpArgs false
open Go.ChangeShapes Go.WideShapes Go.ChangeAt Go.RowKit

set_option maxHeartbeats 6400000 in
theorem coneOf_bad (s : SY) (root : Int) (rl : RH) (ex : List (Option Nat)) (w : World) (h : SYok w ex s) (hv : sysB s = false) :
    Calls Try.prog 22 #[s.a, .int .i64 root, .slice rl.A rl.n rl.c] w fun e w' => e = .returned (.tuple #[.slice none 0 0, .int .i64 0, .int .i64 1]) ∧ Below w.heap.size w w' := by
  have HV := hid (fun (u : World) (hu : Below w.heap.size w u) => by
    have := validS_any s ex u (h.below hu)
    rw [hv] at this
    exact this)
  clear h hv
  obtain ⟨W, ⟨DA, dn, dc, dl⟩, ⟨TA, tn, tc, tl⟩, ⟨BA, bn, bc, bl⟩⟩ := s
  unfold SY.a at *
  simp only at *
  have hb1 := (Below.refl w.heap.size w).alloc (Nat.le_refl _) (.cells #[.int .i64 W, .slice DA dn dc, .slice TA tn tc, .slice BA bn bc] 27)
  have HW1 := hid (Fb.new w #[.int .i64 W, .slice DA dn dc, .slice TA tn tc, .slice BA bn bc] 27)
  have HB := hid hb1
  clear hb1
  go_enter Try.func22, Try.ntmps22
  go_upto_region 1 with fail
  generalize w.alloc (.cells #[.int .i64 W, .slice DA dn dc, .slice TA tn tc, .slice BA bn bc] 27) = w1 at *
  obtain ⟨x0, x1, x2, x3⟩ := HW1.out.four
  go_wp2_with fail
  refine (HV.out w1 HB.out).mono ?_
  rintro _ w2 ⟨rfl, hb2⟩
  have HW2 := hid (HW1.out.below hb2 HW1.out.lt)
  have HB2 := hid (below_step HB.out hb2)
  clear x0 x1 x2 x3 hb2 HW1 HB HV
  go_wp2_with fail
  exact bodyPost_ret (v := .tuple #[.slice none 0 0, .int .i64 0, .int .i64 1]) (by simp [results, Try.results22, go_sem]) rfl ⟨rfl, HB2.out⟩
set_option maxHeartbeats 6400000 in
theorem closedC_bad (s : SY) (rs rl : RH) (ex : List (Option Nat)) (w : World) (h : SYok w ex s) (hv : sysB s = false) :
    Calls Try.prog 24 #[s.a, .slice rs.A rs.n rs.c, .slice rl.A rl.n rl.c] w fun e w' => e = .returned (.bool false) ∧ Below w.heap.size w w' := by
  have HV := hid (fun (u : World) (hu : Below w.heap.size w u) => by
    have := validS_any s ex u (h.below hu)
    rw [hv] at this
    exact this)
  clear h hv
  obtain ⟨W, ⟨DA, dn, dc, dl⟩, ⟨TA, tn, tc, tl⟩, ⟨BA, bn, bc, bl⟩⟩ := s
  unfold SY.a at *
  simp only at *
  have hb1 := (Below.refl w.heap.size w).alloc (Nat.le_refl _) (.cells #[.int .i64 W, .slice DA dn dc, .slice TA tn tc, .slice BA bn bc] 27)
  have HW1 := hid (Fb.new w #[.int .i64 W, .slice DA dn dc, .slice TA tn tc, .slice BA bn bc] 27)
  have HB := hid hb1
  clear hb1
  go_enter Try.func24, Try.ntmps24
  go_upto_region 1 with fail
  generalize w.alloc (.cells #[.int .i64 W, .slice DA dn dc, .slice TA tn tc, .slice BA bn bc] 27) = w1 at *
  obtain ⟨x0, x1, x2, x3⟩ := HW1.out.four
  go_wp2_with fail
  refine (HV.out w1 HB.out).mono ?_
  rintro _ w2 ⟨rfl, hb2⟩
  have HW2 := hid (HW1.out.below hb2 HW1.out.lt)
  have HB2 := hid (below_step HB.out hb2)
  clear x0 x1 x2 x3 hb2 HW1 HB HV
  go_wp2_with fail
  go_ret
  exact ⟨rfl, HB2.out⟩
set_option maxHeartbeats 12800000 in
theorem coneOf_node (s : SY) (N : Nat) (root : Int) (rl : RH) (ex ex2 : List (Option Nat)) (w : World) (h : SYok w ex s) (hv : sysB s = true) (hdn : s.D.n = N) (hN2 : N ≤ 256) (hl : RHok w ex2 rl) (hbad : (inR N rl.l && decide (0 ≤ root ∧ root < (N : Int))) = false) :
    Calls Try.prog 22 #[s.a, .int .i64 root, .slice rl.A rl.n rl.c] w fun e w' => e = .returned (.tuple #[.slice none 0 0, .int .i64 0, .int .i64 9]) ∧ Below w.heap.size w w' := by
  have HV := hid (fun (u : World) (hu : Below w.heap.size w u) => by
    have := validS_any s ex u (h.below hu)
    rw [hv] at this
    exact this)
  have HM2 := hid (fun (u : World) (hu : Below w.heap.size w u) => markedC_any s N rl ex2 u hdn (by omega) (hl.below hu))
  have HU := hid (fun (u : World) => isUnkC_any s N root u hdn)
  have Hbad := hid hbad
  clear h hv hdn hl hbad
  obtain ⟨W, ⟨DA, dn, dc, dl⟩, ⟨TA, tn, tc, tl⟩, ⟨BA, bn, bc, bl⟩⟩ := s
  unfold SY.a at *
  simp only at *
  have hb1 := (Below.refl w.heap.size w).alloc (Nat.le_refl _) (.cells #[.int .i64 W, .slice DA dn dc, .slice TA tn tc, .slice BA bn bc] 27)
  have HW1 := hid (Fb.new w #[.int .i64 W, .slice DA dn dc, .slice TA tn tc, .slice BA bn bc] 27)
  have HB := hid hb1
  clear hb1
  go_enter Try.func22, Try.ntmps22
  go_upto_region 1 with fail
  generalize w.alloc (.cells #[.int .i64 W, .slice DA dn dc, .slice TA tn tc, .slice BA bn bc] 27) = w1 at *
  obtain ⟨x0, x1, x2, x3⟩ := HW1.out.four
  go_wp2_with fail
  refine (HV.out w1 HB.out).mono ?_
  rintro _ w2 ⟨rfl, hb2⟩
  have HW2 := hid (HW1.out.below hb2 HW1.out.lt)
  have HB2 := hid (below_step HB.out hb2)
  clear x0 x1 x2 x3 hb2 HW1 HB HV
  obtain ⟨x0, x1, x2, x3⟩ := HW2.out.four
  go_wp2_with fail
  refine (HM2.out w2 HB2.out).mono ?_
  rintro e w3 ⟨h1, h2, hb3⟩
  have HW3 := hid (HW2.out.below hb3 HW2.out.lt)
  have HB3 := hid (below_step HB2.out hb3)
  clear x0 x1 x2 x3 hb3 HW2 HB2 HM2
  obtain ⟨x0, x1, x2, x3⟩ := HW3.out.four
  cases hi : inR N rl.l with
  | false =>
    obtain rfl := h2 hi
    clear h1 h2 hi HU Hbad
    as_aux_lemma =>
      go_wp2_with fail
      exact bodyPost_ret (v := .tuple #[.slice none 0 0, .int .i64 0, .int .i64 9]) (by simp [results, Try.results22, go_sem]) rfl ⟨rfl, HB3.out⟩
  | true =>
    obtain ⟨gL, rfl, -, -⟩ := h1 hi
    have hz : decide (0 ≤ root ∧ root < (N : Int)) = false := by have := Hbad.out; rw [hi] at this; simpa using this
    rw [hz] at HU
    clear h1 h2 hi hz Hbad
    as_aux_lemma =>
      go_wp2_with fail
      refine (HU.out w3).mono ?_
      rintro _ w4 ⟨rfl, hb4⟩
      have HB4 := hid (below_step HB3.out hb4)
      clear x0 x1 x2 x3 hb4 HB3 HW3 HU
      go_wp2_with fail
      exact bodyPost_ret (v := .tuple #[.slice none 0 0, .int .i64 0, .int .i64 9]) (by simp [results, Try.results22, go_sem]) rfl ⟨rfl, HB4.out⟩
set_option maxHeartbeats 12800000 in
theorem closedC_out (s : SY) (N : Nat) (rs rl : RH) (ex ex1 ex2 : List (Option Nat)) (w : World) (h : SYok w ex s) (hv : sysB s = true) (hdn : s.D.n = N) (hN2 : N ≤ 256) (hs : RHok w ex1 rs) (hl : RHok w ex2 rl) (hbad : (inR N rs.l && inR N rl.l) = false) :
    Calls Try.prog 24 #[s.a, .slice rs.A rs.n rs.c, .slice rl.A rl.n rl.c] w fun e w' => e = .returned (.bool false) ∧ Below w.heap.size w w' := by
  have HV := hid (fun (u : World) (hu : Below w.heap.size w u) => by
    have := validS_any s ex u (h.below hu)
    rw [hv] at this
    exact this)
  have HM1 := hid (fun (u : World) (hu : Below w.heap.size w u) => markedC_any s N rs ex1 u hdn (by omega) (hs.below hu))
  have HM2 := hid (fun (u : World) (hu : Below w.heap.size w u) => markedC_any s N rl ex2 u hdn (by omega) (hl.below hu))
  have Hbad := hid hbad
  clear h hv hdn hs hl hbad
  obtain ⟨W, ⟨DA, dn, dc, dl⟩, ⟨TA, tn, tc, tl⟩, ⟨BA, bn, bc, bl⟩⟩ := s
  unfold SY.a at *
  simp only at *
  have hb1 := (Below.refl w.heap.size w).alloc (Nat.le_refl _) (.cells #[.int .i64 W, .slice DA dn dc, .slice TA tn tc, .slice BA bn bc] 27)
  have HW1 := hid (Fb.new w #[.int .i64 W, .slice DA dn dc, .slice TA tn tc, .slice BA bn bc] 27)
  have HB := hid hb1
  clear hb1
  go_enter Try.func24, Try.ntmps24
  go_upto_region 1 with fail
  generalize w.alloc (.cells #[.int .i64 W, .slice DA dn dc, .slice TA tn tc, .slice BA bn bc] 27) = w1 at *
  obtain ⟨x0, x1, x2, x3⟩ := HW1.out.four
  go_wp2_with fail
  refine (HV.out w1 HB.out).mono ?_
  rintro _ w2 ⟨rfl, hb2⟩
  have HW2 := hid (HW1.out.below hb2 HW1.out.lt)
  have HB2 := hid (below_step HB.out hb2)
  clear x0 x1 x2 x3 hb2 HW1 HB HV
  obtain ⟨x0, x1, x2, x3⟩ := HW2.out.four
  go_wp2_with fail
  refine (HM1.out w2 HB2.out).mono ?_
  rintro e w3 ⟨h1, h2, hb3⟩
  have HW3 := hid (HW2.out.below hb3 HW2.out.lt)
  have HB3 := hid (below_step HB2.out hb3)
  clear x0 x1 x2 x3 hb3 HW2 HB2 HM1
  cases hi : inR N rs.l with
  | false =>
    obtain rfl := h2 hi
    clear h1 h2 hi Hbad
    as_aux_lemma =>
      have hb4 := (Below.refl w3.heap.size w3).alloc (Nat.le_refl _) (.cells #[.slice none 0 0] 66)
      have HW4 := hid (HW3.out.below hb4 HW3.out.lt)
      have HB4 := hid (below_step HB3.out hb4)
      clear hb4 HW3 HB3
      go_upto_region 4 with fail
      generalize w3.alloc (.cells #[.slice none 0 0] 66) = w4 at *
      generalize w3.heap.size = p at *
      obtain ⟨x0, x1, x2, x3⟩ := HW4.out.four
      go_wp2_with fail
      refine (HM2.out w4 HB4.out).mono ?_
      rintro e w5 ⟨h1, h2, hb3⟩
      have HW5 := hid (HW4.out.below hb3 HW4.out.lt)
      have HB5 := hid (below_step HB4.out hb3)
      clear x0 x1 x2 x3 hb3 HW4 HB4 HM2
      cases hj : inR N rl.l with
      | false =>
        obtain rfl := h2 hj
        clear h1 h2 hj
        obtain ⟨x0, x1, x2, x3⟩ := HW5.out.four
        go_wp2_with fail
        go_ret
        exact ⟨rfl, HB5.out⟩
      | true =>
        obtain ⟨gL, rfl, -, -⟩ := h1 hj
        clear h1 h2 hj
        obtain ⟨x0, x1, x2, x3⟩ := HW5.out.four
        go_wp2_with fail
        go_ret
        exact ⟨rfl, HB5.out⟩
  | true =>
    obtain ⟨gS, rfl, -, -⟩ := h1 hi
    have hj : inR N rl.l = false := by have := Hbad.out; rw [hi] at this; simpa using this
    clear h1 h2 hi Hbad
    as_aux_lemma =>
      have hb4 := (Below.refl w3.heap.size w3).alloc (Nat.le_refl _) (.cells #[.slice (some ⟨gS, 0, none⟩) N N] 66)
      have HW4 := hid (HW3.out.below hb4 HW3.out.lt)
      have HB4 := hid (below_step HB3.out hb4)
      clear hb4 HW3 HB3
      go_upto_region 4 with fail
      generalize w3.alloc (.cells #[.slice (some ⟨gS, 0, none⟩) N N] 66) = w4 at *
      generalize w3.heap.size = p at *
      obtain ⟨x0, x1, x2, x3⟩ := HW4.out.four
      go_wp2_with fail
      refine (HM2.out w4 HB4.out).mono ?_
      rintro e w5 ⟨h1, h2, hb3⟩
      have HW5 := hid (HW4.out.below hb3 HW4.out.lt)
      have HB5 := hid (below_step HB4.out hb3)
      clear x0 x1 x2 x3 hb3 HW4 HB4 HM2
      obtain rfl := h2 hj
      clear h1 h2 hj
      obtain ⟨x0, x1, x2, x3⟩ := HW5.out.four
      go_wp2_with fail
      go_ret
      exact ⟨rfl, HB5.out⟩
end Go.Proofs.Ytadkjnjibefocaa

namespace Go.Proofs.Ytadkjnjibefocaa
set_option maxRecDepth 20000
set_option linter.unusedVariables false
set_option linter.unusedSimpArgs false
open Go.ChangeShapes Go.WideShapes Go.ChangeAt Go.RowKit

theorem inR_bad {N : Nat} {l : List Int} {k : Nat} {a : Int} (ha : l[k]? = some a) (h : ¬(0 ≤ a ∧ a < (N : Int))) : false = inR N l := by
  cases e : inR N l with
  | false => rfl
  | true => exact absurd (inR_iff.1 e a (List.mem_of_getElem? ha)) h
theorem below_dq2 (w : World) (q r : Nat) : Below w.heap.size w ((w.drewN q).drewN r) := ⟨rfl, rfl, rfl, Nat.le_refl _, fun _ _ => rfl⟩
set_option maxHeartbeats 6400000 in
theorem inside14_any (s : SY) (x : RH) (ex : List (Option Nat)) (w : World) (h : RHok w ex x) (hbf : s.B.n ≤ 9223372036854775807) :
    Calls Try.prog 19 #[s.a, .slice x.A x.n x.c] w fun e w' => e = .returned (.bool (inR s.B.n x.l)) ∧ Below w.heap.size w w' := by
  have hn := h.few
  have HX := hid (fun (u : World) (hu : Below w.heap.size w u) => h.below hu)
  have HL := hid h.len
  have HI0 := hid (show Rvb w s (w.alloc (.cells #[.int .i64 s.W, .slice s.D.A s.D.n s.D.c, .slice s.T.A s.T.n s.T.c, .slice s.B.A s.B.n s.B.c] 27)) from ⟨Fb.new w _ _, (Below.refl _ _).alloc (Nat.le_refl _) _⟩)
  clear h
  obtain ⟨A, n, c, l⟩ := x
  simp only at *
  unfold SY.a
  go_enter Try.func19, Try.ntmps19
  go_upto_region 1 with fail
  generalize w.alloc (.cells #[.int .i64 s.W, .slice s.D.A s.D.n s.D.c, .slice s.T.A s.T.n s.T.c, .slice s.B.A s.B.n s.B.c] 27) = w1 at *
  go_wp2_with fail
  have HJ := HI0
  clear HI0
  go_loopw [5] (fun iv wr => ∃ k : Nat, k ≤ n ∧ iv = .int .i64 k ∧ Hid (∀ (j : Nat) (y : Int), j < k → l[j]? = some y → 0 ≤ y ∧ y < (s.B.n : Int)) ∧ Hid (Rvb w s wr)) (fun iv _ => n - (intOf iv).toNat)
  case atStart => exact ⟨0, by omega, rfl, hid (fun k r hk _ => absurd hk (by omega)), HJ⟩
  case round =>
    clear HJ
    obtain ⟨k, hk, rfl, HG, HI⟩ := hrel
    by_cases hlt : k < n
    · obtain ⟨a, ha, -⟩ := get_at HL.out hlt
      obtain ⟨ad, hA, had, hc⟩ := (HX.out wr HI.out.bel).cell ha
      simp only at hA
      subst hA
      obtain ⟨c0, c1, c2, c3⟩ := HI.out.bx.four
      have n0 : (0 : Int) ≤ k := by omega
      have n1 : (k : Int) < n := by omega
      have n2 : (k : Int).toNat = k := by omega
      have HN := hid (fun hp : 0 ≤ a ∧ a < (s.B.n : Int) => upto_next (P := fun y : Int => 0 ≤ y ∧ y < (s.B.n : Int)) HG.out ha hp)
      have HB := hid (fun hp : ¬(0 ≤ a ∧ a < (s.B.n : Int)) => inR_bad ha hp)
      clear ha HG
      by_cases h1 : a < 0
      · have t1 : decide (a < 0) = true := by simpa using h1
        as_aux_lemma =>
          have Hr := hid (HB.out (by omega))
          go_wp2_with fail
          go_quiet (fail)
          go_wp2_with fail
          go_ret
          refine ⟨ret_b Hr.out.symm, ?_⟩
          first | exact below_step HI.out.bel (below_dq _ _) | exact below_step HI.out.bel (below_dq2 _ _ _)
      · have t1 : decide (a < 0) = false := by simpa using h1
        by_cases h2 : (s.B.n : Int) ≤ a
        · have t2 : decide ((s.B.n : Int) ≤ a) = true := by simpa using h2
          as_aux_lemma =>
            have Hr := hid (HB.out (by omega))
            go_wp2_with fail
            go_quiet (fail)
            go_wp2_with fail
            go_ret
            refine ⟨ret_b Hr.out.symm, ?_⟩
            first | exact below_step HI.out.bel (below_dq _ _) | exact below_step HI.out.bel (below_dq2 _ _ _)
        · have t2 : decide ((s.B.n : Int) ≤ a) = false := by simpa using h2
          as_aux_lemma =>
            have Hr := hid (HN.out ⟨by omega, by omega⟩)
            go_wp2_with fail
            go_quiet (fail)
            go_wp2_with fail
            go_roundw
            case rel => exact ⟨k + 1, by omega, by go_num, Hr, hid (HI.out.below (by first | exact below_dq _ _ | exact below_dq2 _ _ _))⟩
            case measure => simp [intOf]; omega
    · have e : k = n := by omega
      have Hr := hid (show true = inR s.B.n l from (inR_iff.2 (upto_all (P := fun y : Int => 0 ≤ y ∧ y < (s.B.n : Int)) HL.out (by rw [← e]; exact HG.out))).symm)
      as_aux_lemma =>
        go_wp2_with fail
        go_ret
        exact ⟨ret_b Hr.out.symm, HI.out.bel⟩
end Go.Proofs.Ytadkjnjibefocaa

namespace Go.Proofs.Ytadkjnjibefocaa
set_option maxRecDepth 20000
set_option linter.unusedVariables false
set_option linter.unusedSimpArgs false
open Go.ChangeShapes Go.WideShapes Go.ChangeAt Go.RowKit

theorem hasI_iff {l : List Int} {n : Int} : hasI l n = true ↔ n ∈ l := by unfold hasI; simp
theorem hasI_not {l : List Int} {n : Int} (h : hasI l n = false) : n ∉ l := fun hm => by rw [hasI_iff.2 hm] at h; simp at h
set_option maxHeartbeats 12800000 in
theorem closed14_any (s : SY) (N : Nat) (rs rl : RH) (ex ex1 ex2 : List (Option Nat)) (w : World) (h : SYok w ex s) (hdn : s.D.n = N) (hs : RHok w ex1 rs) (hl : RHok w ex2 rl) (hsi : inR N rs.l = true) :
    Calls Try.prog 38 #[s.a, .slice rs.A rs.n rs.c, .slice rl.A rl.n rl.c] w fun e w' => e = .returned (.bool (decide (closedP s.D.v rl.l rs.l))) ∧ Below w.heap.size w w' := by
  have HS := hid (fun (u : World) (hu : Below w.heap.size w u) => h.below hu)
  have HX := hid (fun (u : World) (hu : Below w.heap.size w u) => hs.below hu)
  have HF := hid (fun (u : World) (hu : Below w.heap.size w u) => hl.below hu)
  have HL := hid hs.len
  have HDl := hid (show s.D.l.length = N by rw [h.d.len, hdn])
  have Hat := hid (fun (k : Nat) (y : RH) (hy : s.D.l[k]? = some y) => LH.rw hy)
  have HR := hid (fun (j : Nat) (a : Int) (hj : rs.l[j]? = some a) => inR_iff.1 hsi a (List.mem_of_getElem? hj))
  have hn := hs.few
  have hdf := h.d.few
  have Hdn := hid hdn
  have HI0 := hid (show Rvb w s (w.alloc (.cells #[.int .i64 s.W, .slice s.D.A s.D.n s.D.c, .slice s.T.A s.T.n s.T.c, .slice s.B.A s.B.n s.B.c] 27)) from ⟨Fb.new w _ _, (Below.refl _ _).alloc (Nat.le_refl _) _⟩)
  clear h hs hl hsi hdn
  generalize s.D.v = D at *
  obtain ⟨A, n, c, set⟩ := rs
  obtain ⟨LA, ln, lc, lf⟩ := rl
  simp only at *
  unfold SY.a
  go_enter Try.func38, Try.ntmps38
  go_upto_region 1 with fail
  generalize w.alloc (.cells #[.int .i64 s.W, .slice s.D.A s.D.n s.D.c, .slice s.T.A s.T.n s.T.c, .slice s.B.A s.B.n s.B.c] 27) = w1 at *
  go_wp2_with fail
  have HJ := HI0
  clear HI0
  go_loopw [7] (fun iv wr => ∃ i : Nat, i ≤ n ∧ iv = .int .i64 i ∧ Hid (∀ (j : Nat) (a : Int), j < i → set[j]? = some a → a ∉ lf → ∀ m ∈ rw0 D a.toNat, m ∈ set) ∧ Hid (Rvb w s wr)) (fun iv _ => n - (intOf iv).toNat)
  case atStart => exact ⟨0, by omega, rfl, hid (fun k r hk _ => absurd hk (by omega)), HJ⟩
  case round =>
    clear HJ
    obtain ⟨i, hi, rfl, HG, HI⟩ := hrel
    by_cases hlt : i < n
    · obtain ⟨a, ha, -⟩ := get_at HL.out hlt
      have hr := HR.out i a ha
      obtain ⟨r, rfl⟩ : ∃ r : Nat, a = r := ⟨a.toNat, by omega⟩
      obtain ⟨ad, hA, had, hc⟩ := (HX.out wr HI.out.bel).cell ha
      simp only at hA
      subst hA
      obtain ⟨⟨yA, yn, yc, yl⟩, hy, hym⟩ := get_at HDl.out (show r < N by omega)
      obtain ⟨ad2, hA2, had2, hc2⟩ := (HS.out wr HI.out.bel).d.cell hy
      have hyf := ((HS.out wr HI.out.bel).d.all _ hym).few
      have HY := hid (fun (u : World) (hu : Below w.heap.size w u) => (HS.out u hu).d.all _ hym)
      have HYl := hid ((HS.out wr HI.out.bel).d.all _ hym).len
      have Hrw := hid (Hat.out r _ hy)
      have Ham := hid (List.mem_of_getElem? ha)
      have HGn := hid (fun hp : (r : Int) ∉ lf → ∀ m ∈ yl, m ∈ set => upto_next (P := fun a : Int => a ∉ lf → ∀ m ∈ rw0 D a.toNat, m ∈ set) HG.out ha (by rw [Int.toNat_natCast, Hrw.out]; exact hp))
      have HXc := hid (fun (u : World) (hu : Below w.heap.size w u) => by
        obtain ⟨ad3, h1, h2, h3⟩ := (HX.out u hu).cell ha
        obtain rfl := Option.some.inj h1
        exact (And.intro h2 h3))
      obtain ⟨c0, c1, c2, c3⟩ := HI.out.bx.four
      rw [hA2] at c1
      have n0 : (0 : Int) ≤ i := by omega
      have n1 : (i : Int) < n := by omega
      have n2 : (i : Int).toNat = i := by omega
      have k0 : (0 : Int) ≤ r := by omega
      have k1 : (r : Int) < s.D.n := by rw [Hdn.out]; omega
      have k2 : (r : Int).toNat = r := by omega
      simp only at hc2 hyf HY HYl Hrw
      clear ha hy hym HG hr
      go_wp2_with fail
      go_quiet (fail)
      go_wp2_with fail
      clear c0 c1 c2 c3 hc hc2 hA2
      have HI2 := hid (fun q : Nat => HI.out.below (below_dq wr q))
      have HI3 := hid (fun q r : Nat => HI.out.below (below_dq2 wr q r))
      have HI4 := HI
      clear HI
      go_loopw [9] (fun iv wr => ∃ k : Nat, k ≤ yn ∧ iv = .int .i64 k ∧ Hid (∀ (j : Nat) (m : Int), j < k → yl[j]? = some m → (r : Int) ∉ lf → m ∈ set) ∧ Hid (Rvb w s wr)) (fun iv _ => yn - (intOf iv).toNat)
      case atStart => exact ⟨0, by omega, rfl, hid (fun k r hk _ => absurd hk (by omega)), by first | exact HI4 | exact hid (HI2.out _) | exact hid (HI3.out _ _)⟩
      case round =>
        clear HI2 HI3 HI4
        obtain ⟨k, hk, rfl, HM, HK⟩ := hrel
        by_cases hlk : k < yn
        · obtain ⟨m, hm, -⟩ := get_at HYl.out hlk
          obtain ⟨ad3, hA3, had3, hc3⟩ := (HY.out _ HK.out.bel).cell hm
          simp only at hA3
          subst hA3
          obtain ⟨had4, hc4⟩ := HXc.out _ HK.out.bel
          have q0 : (0 : Int) ≤ k := by omega
          have q1 : (k : Int) < yn := by omega
          have q2 : (k : Int).toNat = k := by omega
          have HC1 := hid (has_any ⟨LA, ln, lc, lf⟩ r ex2 _ (HF.out _ HK.out.bel))
          have HC2 := hid (has_any ⟨some ad, n, c, set⟩ m ex1 _ (HX.out _ HK.out.bel))
          simp only at HC1 HC2
          have HN := hid (fun hp : (r : Int) ∉ lf → m ∈ set => upto_next (P := fun m : Int => (r : Int) ∉ lf → m ∈ set) HM.out hm hp)
          have HNo := hid (show (r : Int) ∉ lf → m ∉ set → false = decide (closedP D lf set) from fun h1 h2 => (decide_eq_false (fun hcl => h2 (hcl r Ham.out h1 m (by rw [Int.toNat_natCast, Hrw.out]; exact List.mem_of_getElem? hm)))).symm)
          clear hm HM had3 had4
          generalize hb1 : hasI lf r = v1 at *
          generalize hb2 : hasI set m = v2 at *
          have Hb1 := hid hb1
          have Hb2 := hid hb2
          clear hb1 hb2
          cases v1 with
          | true =>
            as_aux_lemma =>
              have Hr := hid (HN.out (fun h => absurd (hasI_iff.1 Hb1.out) h))
              clear HN HNo Hb1 Hb2
              go_wp2_with fail
              refine HC1.out.mono ?_
              rintro _ w5 ⟨rfl, rfl⟩
              go_wp2_with fail
              go_roundw
              case rel => exact ⟨k + 1, by omega, by go_num, Hr, HK⟩
              case measure => simp [intOf]; omega
          | false =>
            cases v2 with
            | true =>
              as_aux_lemma =>
                have Hr := hid (HN.out (fun h => hasI_iff.1 Hb2.out))
                clear HN HNo Hb1 Hb2
                go_wp2_with fail
                refine HC1.out.mono ?_
                rintro _ w5 ⟨rfl, rfl⟩
                go_wp2_with fail
                refine HC2.out.mono ?_
                rintro _ w5 ⟨rfl, rfl⟩
                go_wp2_with fail
                go_roundw
                case rel => exact ⟨k + 1, by omega, by go_num, Hr, HK⟩
                case measure => simp [intOf]; omega
            | false =>
              as_aux_lemma =>
                have Hr := hid (HNo.out (hasI_not Hb1.out) (hasI_not Hb2.out))
                clear HN HNo Hb1 Hb2
                go_wp2_with fail
                refine HC1.out.mono ?_
                rintro _ w5 ⟨rfl, rfl⟩
                go_wp2_with fail
                refine HC2.out.mono ?_
                rintro _ w5 ⟨rfl, rfl⟩
                go_wp2_with fail
                go_ret
                exact ⟨ret_b Hr.out.symm, HK.out.bel⟩
        · have e : k = yn := by omega
          have Hr := hid (HGn.out (fun h1 => upto_all (P := fun m : Int => m ∈ set) HYl.out (fun j m hj hm => HM.out j m (by omega) hm h1)))
          as_aux_lemma =>
            go_wp2_with fail
            go_roundw
            case rel => exact ⟨i + 1, by omega, by go_num, Hr, HK⟩
            case measure => simp [intOf]; omega
    · have e : i = n := by omega
      have Hr := hid (show true = decide (closedP D lf set) from (decide_eq_true (show closedP D lf set from upto_all (P := fun a : Int => a ∉ lf → ∀ m ∈ rw0 D a.toNat, m ∈ set) HL.out (by rw [← e]; exact HG.out))).symm)
      as_aux_lemma =>
        go_wp2_with fail
        go_ret
        exact ⟨ret_b Hr.out.symm, HI.out.bel⟩
end Go.Proofs.Ytadkjnjibefocaa

namespace Go.Proofs.Ytadkjnjibefocaa
set_option maxRecDepth 20000
set_option linter.unusedVariables false
set_option linter.unusedSimpArgs false
open Go.ChangeShapes Go.WideShapes Go.ChangeAt Go.RowKit

def closedB (s : SY) (lf set : List Int) : Bool := sysB s && (inR s.B.n set && (inR s.B.n lf && decide (closedP s.D.v lf set)))
theorem Rvb.new (w : World) (s : SY) : Rvb w s (w.alloc (.cells #[.int .i64 s.W, .slice s.D.A s.D.n s.D.c, .slice s.T.A s.T.n s.T.c, .slice s.B.A s.B.n s.B.c] 27)) := ⟨Fb.new w _ _, (Below.refl _ _).alloc (Nat.le_refl _) _⟩
set_option maxHeartbeats 6400000 in
theorem closedR_any (s : SY) (rs rl : RH) (ex ex1 ex2 : List (Option Nat)) (w : World) (h : SYok w ex s) (hs : RHok w ex1 rs) (hl : RHok w ex2 rl) :
    Calls Try.prog 25 #[s.a, .slice rs.A rs.n rs.c, .slice rl.A rl.n rl.c] w fun e w' => e = .returned (.bool (closedB s rl.l rs.l)) ∧ Below w.heap.size w w' := by
  have HV := hid (fun (u : World) (hu : Below w.heap.size w u) => refValidS_any s ex u (h.below hu))
  have HX := hid (fun (u : World) (hu : Below w.heap.size w u) => inside14_any s rs ex1 u (hs.below hu) h.b.few)
  have HF := hid (fun (u : World) (hu : Below w.heap.size w u) => inside14_any s rl ex2 u (hl.below hu) h.b.few)
  have HC := hid (fun (hv : sysB s = true) (hi : inR s.B.n rs.l = true) (u : World) (hu : Below w.heap.size w u) => closed14_any s s.B.n rs rl ex ex1 ex2 u (h.below hu) (sysB_ok h hv).1.dn (hs.below hu) (hl.below hu) hi)
  have HI1 := hid (Rvb.new w s)
  clear h hs hl
  unfold closedB
  generalize sysB s = v0 at *
  generalize inR s.B.n rs.l = v1 at *
  generalize inR s.B.n rl.l = v2 at *
  generalize decide (closedP s.D.v rl.l rs.l) = v3 at *
  unfold SY.a at *
  go_enter Try.func25, Try.ntmps25
  go_upto_region 1 with fail
  generalize w.alloc (.cells #[.int .i64 s.W, .slice s.D.A s.D.n s.D.c, .slice s.T.A s.T.n s.T.c, .slice s.B.A s.B.n s.B.c] 27) = w1 at *
  cases v0 with
  | false =>
    have Hr := hid (show (false && (v1 && (v2 && v3))) = false by simp)
    as_aux_lemma =>
      obtain ⟨x0, x1, x2, x3⟩ := HI1.out.bx.four
      go_wp2_with fail
      refine (HV.out w1 HI1.out.bel).mono ?_
      rintro _ w2 ⟨rfl, hb⟩
      have HI2 := hid (HI1.out.below hb)
      clear x0 x1 x2 x3 hb HI1 HV
      go_wp2_with fail
      go_ret
      exact ⟨ret_b Hr.out, HI2.out.bel⟩
  | true =>
    cases v1 with
    | false =>
      have Hr := hid (show (true && (false && (v2 && v3))) = false by simp)
      as_aux_lemma =>
        obtain ⟨x0, x1, x2, x3⟩ := HI1.out.bx.four
        go_wp2_with fail
        refine (HV.out w1 HI1.out.bel).mono ?_
        rintro _ w2 ⟨rfl, hb⟩
        have HI2 := hid (HI1.out.below hb)
        clear x0 x1 x2 x3 hb HI1 HV
        obtain ⟨x0, x1, x2, x3⟩ := HI2.out.bx.four
        go_wp2_with fail
        refine (HX.out w2 HI2.out.bel).mono ?_
        rintro _ w3 ⟨rfl, hb⟩
        have HI3 := hid (HI2.out.below hb)
        clear x0 x1 x2 x3 hb HI2 HX
        go_wp2_with fail
        go_ret
        exact ⟨ret_b Hr.out, HI3.out.bel⟩
    | true =>
      have HD := hid (HC.out rfl rfl)
      clear HC
      cases v2 with
      | false =>
        have Hr := hid (show (true && (true && (false && v3))) = false by simp)
        as_aux_lemma =>
          obtain ⟨x0, x1, x2, x3⟩ := HI1.out.bx.four
          go_wp2_with fail
          refine (HV.out w1 HI1.out.bel).mono ?_
          rintro _ w2 ⟨rfl, hb⟩
          have HI2 := hid (HI1.out.below hb)
          clear x0 x1 x2 x3 hb HI1 HV
          obtain ⟨x0, x1, x2, x3⟩ := HI2.out.bx.four
          go_wp2_with fail
          refine (HX.out w2 HI2.out.bel).mono ?_
          rintro _ w3 ⟨rfl, hb⟩
          have HI3 := hid (HI2.out.below hb)
          clear x0 x1 x2 x3 hb HI2 HX
          obtain ⟨x0, x1, x2, x3⟩ := HI3.out.bx.four
          go_wp2_with fail
          refine (HF.out w3 HI3.out.bel).mono ?_
          rintro _ w4 ⟨rfl, hb⟩
          have HI4 := hid (HI3.out.below hb)
          clear x0 x1 x2 x3 hb HI3 HF
          go_wp2_with fail
          go_ret
          exact ⟨ret_b Hr.out, HI4.out.bel⟩
      | true =>
        have Hr := hid (show (true && (true && (true && v3))) = v3 by simp)
        as_aux_lemma =>
          obtain ⟨x0, x1, x2, x3⟩ := HI1.out.bx.four
          go_wp2_with fail
          refine (HV.out w1 HI1.out.bel).mono ?_
          rintro _ w2 ⟨rfl, hb⟩
          have HI2 := hid (HI1.out.below hb)
          clear x0 x1 x2 x3 hb HI1 HV
          obtain ⟨x0, x1, x2, x3⟩ := HI2.out.bx.four
          go_wp2_with fail
          refine (HX.out w2 HI2.out.bel).mono ?_
          rintro _ w3 ⟨rfl, hb⟩
          have HI3 := hid (HI2.out.below hb)
          clear x0 x1 x2 x3 hb HI2 HX
          obtain ⟨x0, x1, x2, x3⟩ := HI3.out.bx.four
          go_wp2_with fail
          refine (HF.out w3 HI3.out.bel).mono ?_
          rintro _ w4 ⟨rfl, hb⟩
          have HI4 := hid (HI3.out.below hb)
          clear x0 x1 x2 x3 hb HI3 HF
          obtain ⟨x0, x1, x2, x3⟩ := HI4.out.bx.four
          go_wp2_with fail
          refine (HD.out w4 HI4.out.bel).mono ?_
          rintro _ w5 ⟨rfl, hb⟩
          have HI5 := hid (HI4.out.below hb)
          clear x0 x1 x2 x3 hb HI4 HD
          go_wp2_with fail
          go_ret
          exact ⟨ret_b Hr.out, HI5.out.bel⟩
end Go.Proofs.Ytadkjnjibefocaa

namespace Go.Proofs.Ytadkjnjibefocaa
set_option maxRecDepth 20000
set_option linter.unusedVariables false
set_option linter.unusedSimpArgs false
open Go.ChangeShapes Go.WideShapes Go.ChangeAt Go.RowKit

/-- While the reference searches: l is listed. -/
structure RfS (w : World) (S : Array Value) (l : List Int) (V : Value) (u : World) : Prop where
  bx : Fb u w.heap.size S 27
  ow : u.ownsRow (w.heap.size + 1) 3 1 V l.length (ints l)
  bel : Below w.heap.size w u
section
variable {w u u' : World} {S : Array Value} {l : List Int} {V : Value}
theorem RfS.below (h : RfS w S l V u) (hb : Below u.heap.size u u') : RfS w S l V u' :=
  ⟨h.bx.below hb h.bx.lt, (Stp1.below (t := 0) hb).own h.ow (by decide), below_step h.bel hb⟩
theorem RfS.app {V' : Value} {m : Int} (h : RfS w S l V u) (hg : u.grownBy u' V.ownBlock) (ho : u'.ownsRow (w.heap.size + 1) 3 1 V' (l.length + 1) (ints l ++ [.int .i64 m])) : RfS w S (l ++ [m]) V' u' := by
  have hs : Stp1 3 u u' := ⟨_, hg, fun k e => own_typ h.ow e⟩
  exact ⟨hs.fb h.bx (by decide), by
    rw [List.length_append, List.length_singleton]
    unfold ints at ho ⊢
    rw [List.map_append]
    exact ho, h.bel.grown hg h.bel.size (fun k e => by have := (h.ow.lt k e).1; omega)⟩
theorem RfS.row {g c n : Nat} (h : RfS w S l (.slice (some ⟨g, 0, none⟩) n c) u) (hn : n = l.length) (hf : n ≤ 9223372036854775807) : RHok u [] ⟨some ⟨g, 0, none⟩, n, c, l⟩ :=
  ⟨EAt.own (ex := []) (by subst hn; exact h.ow) (by simp), hn.symm, hf⟩
theorem RfS.cell {g c n k : Nat} {x : Int} (h : RfS w S l (.slice (some ⟨g, 0, none⟩) n c) u) (hn : n = l.length) (hf : n ≤ 9223372036854775807) (hk : l[k]? = some x) : u.cell? ⟨g, k, none⟩ = some (.int .i64 x) ∧ g < u.heap.size := by
  obtain ⟨ad, e, hs, hc⟩ := (h.row hn hf).lies.one (i := k) (u := .int .i64 x) (by unfold ints; rw [List.getElem?_map, hk]; rfl)
  obtain rfl := Option.some.inj e
  rw [add_of] at hc
  exact ⟨hc, hs.1⟩
end
set_option maxHeartbeats 25600000 in
theorem coneR_ok (s : SY) (v N : Nat) (root : Int) (rl : RH) (ex ex2 : List (Option Nat)) (w : World) (h : SYok w ex s) (ho : SOk s v N) (hl : RHok w ex2 rl) (hli : inR N rl.l = true) (hv : sysB s = true) (r0 : 0 ≤ root) (r1 : root < (N : Int)) :
    Calls Try.prog 6 #[s.a, .int .i64 root, .slice rl.A rl.n rl.c] w (RetOf w s.D.v rl.l root) := by
  obtain ⟨i1, hi, hz0, hz1, hz2⟩ := info_parts info3
  have Hi := hid hi; have Hz0 := hid hz0; have Hz1 := hid hz1; have Hz2 := hid hz2
  clear hi hz0 hz1 hz2
  have hN2 := ho.n256
  have hdn := ho.dn
  have hbn := ho.bn
  have HV := hid (fun (u : World) (hu : Below w.heap.size w u) => by
    have := refValidS_any s ex u (h.below hu)
    rw [hv] at this
    exact this)
  have HM1 := hid (fun (u : World) => by
    have hr : RHok (u.alloc (.cells #[.int .i64 root] 3)) [] ⟨some ⟨u.heap.size, 0, none⟩, 1, 1, [root]⟩ := ⟨EAt.own (ex := []) (own_one u u.heap.size root (Nat.le_refl _)) (by simp), rfl, by show 1 ≤ _; omega⟩
    have := inside14_any s ⟨some ⟨u.heap.size, 0, none⟩, 1, 1, [root]⟩ [] _ hr (by omega)
    simp only at this
    rw [show inR s.B.n [root] = true from inR_iff.2 (fun x hx => by rw [List.mem_singleton.1 hx, hbn]; exact ⟨r0, r1⟩)] at this
    exact this)
  have HM2 := hid (fun (u : World) (hu : Below w.heap.size w u) => by
    have := inside14_any s rl ex2 u (hl.below hu) (by omega)
    rw [hbn, hli] at this
    exact this)
  have HF := hid (fun (u : World) (hu : Below w.heap.size w u) (n : Int) => has_any rl n ex2 u (hl.below hu))
  have HS := hid (fun (u : World) (hu : Below w.heap.size w u) => (h.below hu).d)
  have HD := hid ho.d
  have HDl := hid (show s.D.l.length = N by rw [h.d.len, hdn])
  have HDv := hid (show s.D.v.length = N by rw [LH.vlen, h.d.len, hdn])
  have HDr := hid (show ∀ l ∈ s.D.v, RisP N l from fun l hl => by obtain ⟨y, hy, rfl⟩ := List.mem_map.1 hl; exact ho.d y hy)
  have Hat := hid (fun (k : Nat) (y : RH) (hy : s.D.l[k]? = some y) => LH.rw hy)
  clear h ho hl hli hv hbn
  obtain ⟨W, ⟨DA, dn, dc, dl⟩, ⟨TA, tn, tc, tl⟩, ⟨BA, bn, bc, bl⟩⟩ := s
  unfold SY.a at *
  simp only at *
  subst hdn
  generalize hDv : LH.v ⟨DA, dn, dc, dl⟩ = D at *
  clear hDv
  obtain ⟨LA, ln, lc, lf⟩ := rl
  simp only at *
  obtain ⟨root, rfl⟩ : ∃ k : Nat, root = k := ⟨root.toNat, by omega⟩
  have hrN : root < dn := by omega
  have HP := hid (show coneP D lf (root : Int) = coneR D lf (dn - 0) [(root : Int)] 0 0 by unfold coneP; rw [HDv.out]; rfl)
  have HK0 := hid (show Cnk dn [(root : Int)] from ⟨by simp, fun x hx => by rw [List.mem_singleton.1 hx]; exact ⟨r0, r1⟩⟩)
  unfold RetOf
  generalize hcp : coneP D lf (root : Int) = cp at *
  clear hcp
  have hb1 := (Below.refl w.heap.size w).alloc (Nat.le_refl _) (.cells #[.int .i64 W, .slice DA dn dc, .slice TA tn tc, .slice BA bn bc] 27)
  have HW1 := hid (Fb.new w #[.int .i64 W, .slice DA dn dc, .slice TA tn tc, .slice BA bn bc] 27)
  have HB := hid hb1
  clear hb1
  go_enter Try.func6, Try.ntmps6
  go_upto_region 1 with fail
  generalize w.alloc (.cells #[.int .i64 W, .slice DA dn dc, .slice TA tn tc, .slice BA bn bc] 27) = w1 at *
  obtain ⟨x0, x1, x2, x3⟩ := HW1.out.four
  go_wp2_with fail
  refine (HV.out w1 HB.out).mono ?_
  rintro _ w2 ⟨rfl, hb2⟩
  have HW2 := hid (HW1.out.below hb2 HW1.out.lt)
  have HB2 := hid (below_step HB.out hb2)
  clear x0 x1 x2 x3 hb2 HW1 HB HV
  obtain ⟨x0, x1, x2, x3⟩ := HW2.out.four
  have ha := (Below.refl w2.heap.size w2).alloc (Nat.le_refl _) (.cells #[.int .i64 root] 3)
  have HM := hid (HM1.out w2)
  go_wp2_with fail
  refine HM.out.mono ?_
  rintro _ w3 ⟨rfl, hb3⟩
  have HW3 := hid (HW2.out.below (below_step ha hb3) HW2.out.lt)
  have HB3 := hid (below_step HB2.out (below_step ha hb3))
  clear x0 x1 x2 x3 hb3 ha HW2 HB2 HM HM1
  obtain ⟨x0, x1, x2, x3⟩ := HW3.out.four
  go_wp2_with fail
  refine (HM2.out w3 HB3.out).mono ?_
  rintro _ w4 ⟨rfl, hb4⟩
  have HW4 := hid (HW3.out.below hb4 HW3.out.lt)
  have HB4 := hid (below_step HB3.out hb4)
  clear x0 x1 x2 x3 hb4 HW3 HB3 HM2
  have HS0 := hid (show RfS w #[.int .i64 W, .slice DA dn dc, .slice TA tn tc, .slice BA bn bc] [(root : Int)] (.slice (some ⟨w4.heap.size, 0, none⟩) 1 1) (w4.alloc (.cells #[.int .i64 root] 3)) from by
    have ha := (Below.refl w4.heap.size w4).alloc (Nat.le_refl _) (.cells #[.int .i64 root] 3)
    exact ⟨HW4.out.below ha HW4.out.lt, own_one w4 (w.heap.size + 1) root HW4.out.lt, below_step HB4.out ha⟩)
  clear HW4 HB4
  go_upto_region 7 with fail
  generalize w4.alloc (.cells #[.int .i64 root] 3) = w6 at *
  generalize w4.heap.size = g6 at *
  go_wp2_with fail
  go_loopw [9, 10, 11] (fun lv cv kv wr => ∃ (l : List Int) (g L c k t : Nat), lv = .slice (some ⟨g, 0, none⟩) L c ∧ cv = .int .i64 t ∧ kv = .int .i64 k ∧ L = l.length ∧ k ≤ l.length ∧ l.length ≤ dn ∧ t ≤ k * 300 ∧ Hid (cp = coneR D lf (dn - k) l k t) ∧ Hid (Cnk dn l) ∧ Hid (RfS w #[.int .i64 W, .slice DA dn dc, .slice TA tn tc, .slice BA bn bc] l (.slice (some ⟨g, 0, none⟩) L c) wr)) (fun _ _ kv _ => dn - (intOf kv).toNat)
  case atStart => exact ⟨[(root : Int)], g6, 1, 1, 0, 0, rfl, rfl, rfl, rfl, by simp, by simp; omega, by omega, HP, HK0, HS0⟩
  case round =>
    clear HS0 HP HK0
    obtain ⟨l, g, L, c, k, t, rfl, rfl, rfl, rfl, hk, hln, ht, HP, HK, HSt⟩ := hrel
    by_cases hlt : k < l.length
    · obtain ⟨n, hn, hnm⟩ := get_at (rfl : l.length = l.length) hlt
      obtain ⟨n0, n1⟩ := HK.out.rg n hnm
      obtain ⟨n, rfl⟩ : ∃ j : Nat, n = j := ⟨n.toNat, by omega⟩
      have hnN : n < dn := by omega
      obtain ⟨z0, hgl⟩ := HSt.out.cell rfl (by omega) hn
      have n2 : (n : Int).toNat = n := by omega
      have k0 : (0 : Int) ≤ k := by omega
      have k1 : (k : Int) < l.length := by omega
      have k2 : (k : Int).toNat = k := by omega
      have HC := hid (HF.out wr HSt.out.bel n)
      have Hn := hid hn
      have hf : dn - k = (dn - (k + 1)) + 1 := by omega
      have Hf := hid hf
      clear hn hnm hf
      by_cases hlf : (n : Int) ∈ lf
      · rw [hasI_iff.2 hlf] at HC
        have HP2 := hid (show cp = coneR D lf (dn - (k + 1)) l (k + 1) (t + 1) by rw [HP.out, Hf.out, coneR_leaf Hn.out hlf])
        clear hlf Hf
        as_aux_lemma =>
          go_wp2_with fail
          refine HC.out.mono ?_
          rintro _ w7 ⟨rfl, rfl⟩
          go_wp2_with fail
          go_roundw
          case rel => exact ⟨l, g, _, c, k + 1, t + 1, rfl, by go_num, by go_num, rfl, by omega, hln, by omega, HP2, HK, HSt⟩
          case measure => simp [intOf]; omega
      · rw [show hasI lf (n : Int) = false by cases e : hasI lf (n : Int) with | false => rfl | true => exact absurd (hasI_iff.1 e) hlf] at HC
        have HP2 := hid (show cp = coneR D lf (dn - (k + 1)) (addNew l (rw0 D n)) (k + 1) (t + 1 + (rw0 D n).length) by rw [HP.out, Hf.out, coneR_node Hn.out hlf, Int.toNat_natCast])
        have HK2 := hid (HK.out.add (rw0_ris HDr.out n).2)
        have hln2 := HK2.out.len
        have hkl2 : l.length ≤ (addNew l (rw0 D n)).length := by obtain ⟨t', e⟩ := addNew_pre l (rw0 D n); rw [e, List.length_append]; omega
        obtain ⟨y, hy, hym⟩ := get_at HDl.out hnN
        have Hrw := hid (Hat.out n y hy)
        have hyn : y.n ≤ dn := by have h1 := ris_len (HD.out y hym); rw [((HS.out w (Below.refl _ _)).all y hym).len] at h1; exact h1
        have Hyr := hid (HD.out y hym).2
        have HY := hid (fun (u : World) (hu : Below w.heap.size w u) => (HS.out u hu).all y hym)
        obtain ⟨adD, hDA, hDl, q0⟩ := (HS.out wr HSt.out.bel).cell hy
        simp only at hDA
        subst hDA
        obtain ⟨b0, b1, b2, b3⟩ := HSt.out.bx.four
        rw [Hrw.out] at HP2 HK2 hln2 hkl2
        have Hyl := hid (HY.out w (Below.refl _ _)).len
        clear hy hym hlf Hf Hrw
        obtain ⟨yA, yn, yc, yl⟩ := y
        simp only at *
        have HQ := hid (fun q => HSt.out.below (below_dq wr q))
        have HQ2 := hid (fun q r => HSt.out.below (below_dq2 wr q r))
        clear HSt
        have HA0 := hid (show addNew l (yl.drop 0) = addNew l yl from rfl)
        go_wp2_with fail
        refine HC.out.mono ?_
        rintro _ w7 ⟨rfl, rfl⟩
        go_wp2_with fail
        go_quiet (fail)
        go_wp2_with fail
        clear z0 q0 b0 b1 b2 b3 hgl hDl HC
        go_loopw [9, 13] (fun lv jv wr => ∃ (l' : List Int) (g' L' c' j : Nat), lv = .slice (some ⟨g', 0, none⟩) L' c' ∧ jv = .int .i64 j ∧ L' = l'.length ∧ j ≤ yn ∧ Hid (addNew l' (yl.drop j) = addNew l yl) ∧ Hid (Cnk dn l') ∧ Hid (RfS w #[.int .i64 W, .slice (some adD) dn dc, .slice TA tn tc, .slice BA bn bc] l' (.slice (some ⟨g', 0, none⟩) L' c') wr)) (fun _ jv _ => yn - (intOf jv).toNat)
        case atStart => exact ⟨l, g, _, c, 0, rfl, rfl, rfl, by omega, HA0, HK, by first | exact HQ.out _ | exact hid (HQ.out _) | exact hid (HQ2.out _ _)⟩
        case round =>
          clear HQ HQ2 HA0 HK
          obtain ⟨l', g', L', c', j, rfl, rfl, rfl, hj, HA, HK, HSt⟩ := hrel
          by_cases hlj : j < yn
          · obtain ⟨m, hm, hmm⟩ := get_at Hyl.out hlj
            obtain ⟨m0, m1⟩ := Hyr.out m hmm
            obtain ⟨m, rfl⟩ : ∃ i : Nat, m = i := ⟨m.toNat, by omega⟩
            obtain ⟨adY, hYA, hYl, q0⟩ := (HY.out wr HSt.out.bel).cell hm
            simp only at hYA
            subst hYA
            have hl'n := HK.out.len
            have HC := hid (has_any ⟨some ⟨g', 0, none⟩, l'.length, c', l'⟩ (m : Int) [] wr (HSt.out.row rfl (by omega)))
            simp only at HC
            have Hd := hid (drop_at hm)
            have j0 : (0 : Int) ≤ j := by omega
            have j1 : (j : Int) < yn := by omega
            have j2 : (j : Int).toNat = j := by omega
            clear hm hmm
            by_cases hml : (m : Int) ∈ l'
            · rw [hasI_iff.2 hml] at HC
              have HA2 := hid (show addNew l' (yl.drop (j + 1)) = addNew l yl by rw [← HA.out, Hd.out, addNew_in hml])
              clear hml Hd HA
              as_aux_lemma =>
                go_wp2_with fail
                refine HC.out.mono ?_
                rintro _ w7 ⟨rfl, rfl⟩
                go_wp2_with fail
                go_roundw
                case rel => exact ⟨l', g', _, c', j + 1, rfl, by go_num, rfl, by omega, HA2, HK, HSt⟩
                case measure => simp [intOf]; omega
            · rw [show hasI l' (m : Int) = false by cases e : hasI l' (m : Int) with | false => rfl | true => exact absurd (hasI_iff.1 e) hml] at HC
              have HA2 := hid (show addNew (l' ++ [(m : Int)]) (yl.drop (j + 1)) = addNew l yl by rw [← HA.out, Hd.out, addNew_out hml])
              have HK2 := hid (HK.out.one (by omega) (by omega) hml)
              have hln3 := HK2.out.len
              rw [List.length_append, List.length_singleton] at hln3
              have HS8 := hid (HSt.out.below ((Below.refl _ _).alloc (Nat.le_refl _) (.cells #[.int .i64 m] 3)))
              have hsz : w.heap.size + 1 ≤ wr.heap.size := HSt.out.bx.lt
              clear hml Hd HA HSt HK
              go_wp2_with fail
              refine HC.out.mono ?_
              rintro _ w7 ⟨rfl, rfl⟩
              go_wp2_with (first
                | (at_builtin
                   refine wpList_append_lies _ rfl _ _ 22 rfl (w.heap.size + 1) 3 i1 _ 1 8 Try.underlying22 Hi.out Hz0.out Hz1.out Hz2.out rfl (by decide) _ l'.length (ints l') rfl HS8.out.ow ⟨wr.heap.size, 0, none⟩ 1 1 [Value.int .i64 m] rfl rfl (int_new wr m 3) (one_int1 _) (by omega) (by unfold maxLen; omega) (by omega) (by rw [World.size_alloc]; omega) _ rfl ?_
                   intro g5 cap5 w5 hown5 hgr5 hat5 hlt5
                   have HS9 := hid (HS8.out.app hgr5 hown5)
                   clear hown5 hgr5 hat5 hlt5))
              go_roundw
              case rel => exact ⟨l' ++ [(m : Int)], g5, _, cap5, j + 1, rfl, by go_num, by simp, by omega, HA2, HK2, HS9⟩
              case measure => simp [intOf]; omega
          · have e : j = yn := by omega
            have HA2 := hid (show l' = addNew l yl by rw [← HA.out, e, List.drop_of_length_le (by rw [Hyl.out]; exact Nat.le_refl _)]; rfl)
            have HP3 := hid (show cp = coneR D lf (dn - (k + 1)) l' (k + 1) (t + 1 + yn) by rw [HP2.out, HA2.out, Hyl.out])
            have h1 : l'.length ≤ dn := by rw [HA2.out]; exact hln2
            have h2 : k + 1 ≤ l'.length := by rw [HA2.out]; omega
            subst e
            clear HA HA2 HP2 hln2 hkl2
            go_wp2_with fail
            go_roundw
            case rel => exact ⟨l', g', _, c', k + 1, t + 1 + j, rfl, by go_num, by go_num, rfl, h2, h1, by omega, HP3, HK, HSt⟩
            case measure => simp [intOf]; omega
    · obtain rfl : k = l.length := by omega
      have HP2 := hid (show cp = (l, t) by rw [HP.out, coneR_end (Nat.le_refl _)])
      have HFin := hid (show ∃ y : RH, Ending.returned (.tuple #[.slice (some ⟨g, 0, none⟩) l.length c, .int .i64 t, .int .i64 0]) = .returned (.tuple #[.slice y.A y.n y.c, .int .i64 (cp.2 : Nat), .int .i64 0]) ∧ y.l = cp.1 ∧ (∀ ex : List (Option Nat), (∀ k, some k ∈ ex → k < w.heap.size) → RHok wr ex y) ∧ y.n ≤ 256 ∧ Below w.heap.size w wr from
        ⟨⟨some ⟨g, 0, none⟩, l.length, c, l⟩, by rw [HP2.out], by rw [HP2.out], fun ex hex => ⟨EAt.own HSt.out.ow (fun b hb hm => by have h1 := hex b hm; have h2 := (HSt.out.ow.lt b hb).1; omega), rfl, by show l.length ≤ _; omega⟩, by show l.length ≤ 256; omega, HSt.out.bel⟩)
      clear HP HP2 HK HSt
      go_wp2_with fail
      exact bodyPost_ret (v := .tuple #[.slice (some ⟨g, 0, none⟩) l.length c, .int .i64 t, .int .i64 0]) (by simp [results, Try.results6, go_sem]) rfl HFin.out
end Go.Proofs.Ytadkjnjibefocaa

namespace Go.Proofs.Ytadkjnjibefocaa
set_option maxRecDepth 20000
set_option linter.unusedVariables false
set_option linter.unusedSimpArgs false
open Go.ChangeShapes Go.WideShapes Go.ChangeAt Go.RowKit

set_option maxHeartbeats 6400000 in
theorem coneX_bad (s : SY) (root : Int) (rl : RH) (ex : List (Option Nat)) (w : World) (h : SYok w ex s) (hv : sysB s = false) :
    Calls Try.prog 6 #[s.a, .int .i64 root, .slice rl.A rl.n rl.c] w fun e w' => e = .returned (.tuple #[.slice none 0 0, .int .i64 0, .int .i64 1]) ∧ Below w.heap.size w w' := by
  have HV := hid (fun (u : World) (hu : Below w.heap.size w u) => by
    have := refValidS_any s ex u (h.below hu)
    rw [hv] at this
    exact this)
  clear h hv
  obtain ⟨W, ⟨DA, dn, dc, dl⟩, ⟨TA, tn, tc, tl⟩, ⟨BA, bn, bc, bl⟩⟩ := s
  unfold SY.a at *
  simp only at *
  have hb1 := (Below.refl w.heap.size w).alloc (Nat.le_refl _) (.cells #[.int .i64 W, .slice DA dn dc, .slice TA tn tc, .slice BA bn bc] 27)
  have HW1 := hid (Fb.new w #[.int .i64 W, .slice DA dn dc, .slice TA tn tc, .slice BA bn bc] 27)
  have HB := hid hb1
  clear hb1
  go_enter Try.func6, Try.ntmps6
  go_upto_region 1 with fail
  generalize w.alloc (.cells #[.int .i64 W, .slice DA dn dc, .slice TA tn tc, .slice BA bn bc] 27) = w1 at *
  obtain ⟨x0, x1, x2, x3⟩ := HW1.out.four
  go_wp2_with fail
  refine (HV.out w1 HB.out).mono ?_
  rintro _ w2 ⟨rfl, hb2⟩
  have HW2 := hid (HW1.out.below hb2 HW1.out.lt)
  have HB2 := hid (below_step HB.out hb2)
  clear x0 x1 x2 x3 hb2 HW1 HB HV
  go_wp2_with fail
  exact bodyPost_ret (v := .tuple #[.slice none 0 0, .int .i64 0, .int .i64 1]) (by simp [results, Try.results6, go_sem]) rfl ⟨rfl, HB2.out⟩
set_option maxHeartbeats 12800000 in
theorem coneX_node (s : SY) (N : Nat) (root : Int) (rl : RH) (ex ex2 : List (Option Nat)) (w : World) (h : SYok w ex s) (hv : sysB s = true) (hbn : s.B.n = N) (hN2 : N ≤ 256) (hl : RHok w ex2 rl) (hbad : (inR N rl.l && decide (0 ≤ root ∧ root < (N : Int))) = false) :
    Calls Try.prog 6 #[s.a, .int .i64 root, .slice rl.A rl.n rl.c] w fun e w' => e = .returned (.tuple #[.slice none 0 0, .int .i64 0, .int .i64 9]) ∧ Below w.heap.size w w' := by
  have HV := hid (fun (u : World) (hu : Below w.heap.size w u) => by
    have := refValidS_any s ex u (h.below hu)
    rw [hv] at this
    exact this)
  have HM1 := hid (fun (u : World) => by
    have hr : RHok (u.alloc (.cells #[.int .i64 root] 3)) [] ⟨some ⟨u.heap.size, 0, none⟩, 1, 1, [root]⟩ := ⟨EAt.own (ex := []) (own_one u u.heap.size root (Nat.le_refl _)) (by simp), rfl, by show 1 ≤ _; omega⟩
    have := inside14_any s ⟨some ⟨u.heap.size, 0, none⟩, 1, 1, [root]⟩ [] _ hr (by omega)
    simp only at this
    rw [show inR s.B.n [root] = decide (0 ≤ root ∧ root < (N : Int)) by unfold inR; rw [hbn]; simp only [List.all_cons, List.all_nil, Bool.and_true]] at this
    exact this)
  have HM2 := hid (fun (u : World) (hu : Below w.heap.size w u) => by
    have := inside14_any s rl ex2 u (hl.below hu) (by omega)
    rw [hbn] at this
    exact this)
  generalize inR N rl.l = v1 at *
  generalize decide (0 ≤ root ∧ root < (N : Int)) = v2 at *
  clear h hv hl hbn
  obtain ⟨W, ⟨DA, dn, dc, dl⟩, ⟨TA, tn, tc, tl⟩, ⟨BA, bn, bc, bl⟩⟩ := s
  unfold SY.a at *
  simp only at *
  have hb1 := (Below.refl w.heap.size w).alloc (Nat.le_refl _) (.cells #[.int .i64 W, .slice DA dn dc, .slice TA tn tc, .slice BA bn bc] 27)
  have HW1 := hid (Fb.new w #[.int .i64 W, .slice DA dn dc, .slice TA tn tc, .slice BA bn bc] 27)
  have HB := hid hb1
  clear hb1
  go_enter Try.func6, Try.ntmps6
  go_upto_region 1 with fail
  generalize w.alloc (.cells #[.int .i64 W, .slice DA dn dc, .slice TA tn tc, .slice BA bn bc] 27) = w1 at *
  obtain ⟨x0, x1, x2, x3⟩ := HW1.out.four
  go_wp2_with fail
  refine (HV.out w1 HB.out).mono ?_
  rintro _ w2 ⟨rfl, hb2⟩
  have HW2 := hid (HW1.out.below hb2 HW1.out.lt)
  have HB2 := hid (below_step HB.out hb2)
  clear x0 x1 x2 x3 hb2 HW1 HB HV
  obtain ⟨x0, x1, x2, x3⟩ := HW2.out.four
  have ha := (Below.refl w2.heap.size w2).alloc (Nat.le_refl _) (.cells #[.int .i64 root] 3)
  have HM := hid (HM1.out w2)
  clear HM1
  cases v2 with
  | false =>
    clear hbad
    as_aux_lemma =>
      go_wp2_with fail
      refine HM.out.mono ?_
      rintro _ w3 ⟨rfl, hb3⟩
      have HB3 := hid (below_step HB2.out (below_step ha hb3))
      clear x0 x1 x2 x3 hb3 ha HW2 HB2 HM HM2
      go_wp2_with fail
      exact bodyPost_ret (v := .tuple #[.slice none 0 0, .int .i64 0, .int .i64 9]) (by simp [results, Try.results6, go_sem]) rfl ⟨rfl, HB3.out⟩
  | true =>
    cases v1 with
    | true => simp at hbad
    | false =>
      clear hbad
      as_aux_lemma =>
        go_wp2_with fail
        refine HM.out.mono ?_
        rintro _ w3 ⟨rfl, hb3⟩
        have HW3 := hid (HW2.out.below (below_step ha hb3) HW2.out.lt)
        have HB3 := hid (below_step HB2.out (below_step ha hb3))
        clear x0 x1 x2 x3 hb3 ha HW2 HB2 HM
        obtain ⟨x0, x1, x2, x3⟩ := HW3.out.four
        go_wp2_with fail
        refine (HM2.out w3 HB3.out).mono ?_
        rintro _ w4 ⟨rfl, hb4⟩
        have HB4 := hid (below_step HB3.out hb4)
        clear x0 x1 x2 x3 hb4 HW3 HB3 HM2
        go_wp2_with fail
        exact bodyPost_ret (v := .tuple #[.slice none 0 0, .int .i64 0, .int .i64 9]) (by simp [results, Try.results6, go_sem]) rfl ⟨rfl, HB4.out⟩
end Go.Proofs.Ytadkjnjibefocaa

namespace Go.Proofs.Ytadkjnjibefocaa
set_option maxRecDepth 20000
set_option linter.unusedVariables false
set_option linter.unusedSimpArgs false
open Go.ChangeShapes Go.WideShapes Go.ChangeAt Go.RowKit

/-- What Of answers. -/
def coneA (s : SY) (lf : List Int) (root : Int) : List Int × Nat × Int :=
  if sysB s then (if inR s.B.n lf && decide (0 ≤ root ∧ root < (s.B.n : Int)) then ((coneP s.D.v lf root).1, (coneP s.D.v lf root).2, 0) else ([], 0, 9)) else ([], 0, 1)
def RetC (w : World) (c : List Int × Nat × Int) (e : Ending) (w' : World) : Prop :=
  ∃ y : RH, e = .returned (.tuple #[.slice y.A y.n y.c, .int .i64 (c.2.1 : Nat), .int .i64 c.2.2]) ∧ y.l = c.1 ∧ RHok w' [] y ∧ Below w.heap.size w w'
theorem RetC.nil {w w' : World} {e : Ending} {r : Int} (he : e = .returned (.tuple #[.slice none 0 0, .int .i64 0, .int .i64 r])) (hb : Below w.heap.size w w') : RetC w ([], 0, r) e w' :=
  ⟨⟨none, 0, 0, []⟩, he, rfl, ⟨.inl rfl, rfl, by show 0 ≤ _; omega⟩, hb⟩
theorem RetC.of {w w' : World} {e : Ending} {D : List (List Int)} {lf : List Int} {root : Int} (h : RetOf w D lf root e w') : RetC w ((coneP D lf root).1, (coneP D lf root).2, 0) e w' := by
  obtain ⟨y, h1, h2, h3, -, h4⟩ := h
  exact ⟨y, h1, h2, h3 [] (by simp), h4⟩
section
variable (s : SY) (root : Int) (rl : RH) (ex ex2 : List (Option Nat)) (w : World) (h : SYok w ex s) (hl : RHok w ex2 rl)
include h hl
theorem ofD_any : Calls Try.prog 22 #[s.a, .int .i64 root, .slice rl.A rl.n rl.c] w (RetC w (coneA s rl.l root)) := by
  unfold coneA
  cases hv : sysB s with
  | false => exact (coneOf_bad s root rl ex w h hv).mono fun e w' hq => RetC.nil hq.1 hq.2
  | true =>
    have ho := (sysB_ok h hv).1
    rw [if_pos rfl]
    cases hb : (inR s.B.n rl.l && decide (0 ≤ root ∧ root < (s.B.n : Int))) with
    | false => exact (coneOf_node s s.B.n root rl ex ex2 w h hv ho.dn ho.n256 hl hb).mono fun e w' hq => RetC.nil hq.1 hq.2
    | true =>
      simp only [Bool.and_eq_true, decide_eq_true_eq] at hb
      exact (coneOf_any s _ s.B.n root rl ex ex2 w h ho hl hb.1 hv hb.2.1 hb.2.2).mono fun e w' hq => RetC.of hq
theorem ofR_any : Calls Try.prog 6 #[s.a, .int .i64 root, .slice rl.A rl.n rl.c] w (RetC w (coneA s rl.l root)) := by
  unfold coneA
  cases hv : sysB s with
  | false => exact (coneX_bad s root rl ex w h hv).mono fun e w' hq => RetC.nil hq.1 hq.2
  | true =>
    have ho := (sysB_ok h hv).1
    rw [if_pos rfl]
    cases hb : (inR s.B.n rl.l && decide (0 ≤ root ∧ root < (s.B.n : Int))) with
    | false => exact (coneX_node s s.B.n root rl ex ex2 w h hv rfl ho.n256 hl hb).mono fun e w' hq => RetC.nil hq.1 hq.2
    | true =>
      simp only [Bool.and_eq_true, decide_eq_true_eq] at hb
      exact (coneR_ok s _ s.B.n root rl ex ex2 w h ho hl hb.1 hv hb.2.1 hb.2.2).mono fun e w' hq => RetC.of hq
theorem closedD_any (rs : RH) (ex1 : List (Option Nat)) (hs : RHok w ex1 rs) :
    Calls Try.prog 24 #[s.a, .slice rs.A rs.n rs.c, .slice rl.A rl.n rl.c] w fun e w' => e = .returned (.bool (closedB s rl.l rs.l)) ∧ Below w.heap.size w w' := by
  unfold closedB
  cases hv : sysB s with
  | false => exact (closedC_bad s rs rl ex w h hv).mono fun e w' hq => ⟨hq.1, hq.2⟩
  | true =>
    have ho := (sysB_ok h hv).1
    cases h1 : inR s.B.n rs.l with
    | false => exact (closedC_out s s.B.n rs rl ex ex1 ex2 w h hv ho.dn ho.n256 hs hl (by rw [h1]; rfl)).mono fun e w' hq => ⟨by rw [hq.1]; rfl, hq.2⟩
    | true =>
      cases h2 : inR s.B.n rl.l with
      | false => exact (closedC_out s s.B.n rs rl ex ex1 ex2 w h hv ho.dn ho.n256 hs hl (by rw [h1, h2]; rfl)).mono fun e w' hq => ⟨by rw [hq.1]; rfl, hq.2⟩
      | true => exact (closedC_any s _ s.B.n rs rl ex ex1 ex2 w h ho hs hl h1 h2 hv).mono fun e w' hq => ⟨by rw [hq.1]; rfl, hq.2⟩
end
end Go.Proofs.Ytadkjnjibefocaa

namespace Go.Proofs.Ytadkjnjibefocaa
set_option maxRecDepth 20000
set_option linter.unusedVariables false
set_option linter.unusedSimpArgs false
open Go.ChangeShapes Go.WideShapes Go.ChangeAt Go.RowKit

set_option maxHeartbeats 12800000 in
theorem agrees14_any (s : SY) (root : Int) (rl rs : RH) (ex ex1 ex2 : List (Option Nat)) (w : World) (h : SYok w ex s) (hl : RHok w ex2 rl) (hs : RHok w ex1 rs) :
    Calls Try.prog 8 #[s.a, .int .i64 root, .slice rl.A rl.n rl.c, .slice rs.A rs.n rs.c] w fun e w' => e = .returned (.bool true) ∧ Below w.heap.size w w' := by
  have HA := hid (fun (u : World) (hu : Below w.heap.size w u) => ofD_any s root rl ex ex2 u (h.below hu) (hl.below hu))
  have HB := hid (fun (u : World) (hu : Below w.heap.size w u) => ofR_any s root rl ex ex2 u (h.below hu) (hl.below hu))
  have HC := hid (fun (u : World) (hu : Below w.heap.size w u) => closedD_any s rl ex ex2 u (h.below hu) (hl.below hu) rs ex1 (hs.below hu))
  have HD := hid (fun (u : World) (hu : Below w.heap.size w u) => closedR_any s rs rl ex ex1 ex2 u (h.below hu) (hs.below hu) (hl.below hu))
  have HI1 := hid (Rvb.new w s)
  clear h hl hs
  generalize coneA s rl.l root = cA at *
  generalize closedB s rl.l rs.l = cB at *
  obtain ⟨LA, ln, lc, lf⟩ := rl
  obtain ⟨SA, sn, sc, set⟩ := rs
  simp only at *
  unfold SY.a at *
  go_enter Try.func8, Try.ntmps8
  go_upto_region 1 with fail
  generalize w.alloc (.cells #[.int .i64 s.W, .slice s.D.A s.D.n s.D.c, .slice s.T.A s.T.n s.T.c, .slice s.B.A s.B.n s.B.c] 27) = w1 at *
  obtain ⟨x0, x1, x2, x3⟩ := HI1.out.bx.four
  go_wp2_with fail
  refine (HA.out w1 HI1.out.bel).mono ?_
  rintro _ w2 ⟨⟨A1, n1, c1, l1⟩, rfl, hy1, hr1, hb⟩
  simp only at hy1
  have HI2 := hid (HI1.out.below hb)
  have HR1 := hid hr1
  clear x0 x1 x2 x3 hb HI1 HA hr1
  obtain ⟨x0, x1, x2, x3⟩ := HI2.out.bx.four
  go_wp2_with fail
  refine (HB.out w2 HI2.out.bel).mono ?_
  rintro _ w3 ⟨⟨A2, n2, c2, l2⟩, rfl, hy2, hr2, hb⟩
  simp only at hy2
  have HI3 := hid (HI2.out.below hb)
  have HR2 := hid hr2
  have HR3 := hid (HR1.out.below hb)
  have He := hid (show eqD l1 l2 = true by unfold eqD; rw [hy1, hy2]; simp)
  clear x0 x1 x2 x3 hb HI2 HB hr2 HR1 hy1 hy2
  obtain ⟨x0, x1, x2, x3⟩ := HI3.out.bx.four
  have hbx := HI3.out.bx.lt
  have y0 := Later.cell (show (⟨w.heap.size, 0, none⟩ : Addr).block < w3.heap.size from hbx) x0
  have y1 := Later.cell (show (⟨w.heap.size, 1, none⟩ : Addr).block < w3.heap.size from hbx) x1
  have y2 := Later.cell (show (⟨w.heap.size, 2, none⟩ : Addr).block < w3.heap.size from hbx) x2
  have y3 := Later.cell (show (⟨w.heap.size, 3, none⟩ : Addr).block < w3.heap.size from hbx) x3
  have HC1 := hid (show ∀ p : Later w3, Calls Try.prog 23 #[.slice A1 n1 c1, .slice A2 n2 c2] p.wd fun e w' => e = .returned (.bool true) ∧ Below p.wd.heap.size p.wd w' from fun p => by
    have := ints7_any ⟨A1, n1, c1, l1⟩ ⟨A2, n2, c2, l2⟩ [] [] p.wd (HR3.out.below p.keeps) (HR2.out.below p.keeps)
    simp only at this
    rw [He.out] at this
    refine this.mono ?_
    rintro e w' ⟨h1, q, h2⟩
    exact ⟨h1, by rw [h2]; exact below_dq _ _⟩)
  have HC2 := hid (fun (p : Later w3) => HC.out p.wd (HI3.out.below p.keeps).bel)
  have HC3 := hid (fun (p : Later w3) => HD.out p.wd (HI3.out.below p.keeps).bel)
  clear x0 x1 x2 x3 hbx HC HD HR2 HR3 He
  obtain ⟨cl, ct, ce⟩ := cA
  simp only at *
  go_upto_region 3 with fail
  refine wp_region_below (by kernel_rfl) (by kernel_rfl) ?_
  repeat (go_big_quiet_step (first | (go_at_call 23; exact Later.call (HC1.out _)) | (go_at_call 24; exact Later.call (HC2.out _)) | (go_at_call 25; exact Later.call (HC3.out _))))
  refine wpQuiet_nil ?_
  rintro _ ⟨pq, rfl⟩
  have HIn := hid (HI3.out.below pq.keeps)
  clear y0 y1 y2 y3 HC1 HC2 HC3 HI3
  go_wp2_with fail
  go_ret
  exact ⟨by simp, HIn.out.bel⟩
end Go.Proofs.Ytadkjnjibefocaa

namespace Go.Proofs.Ytadkjnjibefocaa
set_option maxRecDepth 20000
set_option linter.unusedVariables false
set_option linter.unusedSimpArgs false
open Go.ChangeShapes Go.WideShapes Go.ChangeAt Go.RowKit

theorem SOk.valid3 {s : SY} {v N : Nat} {w : World} {ex : List (Option Nat)} (h : SOk s v N) (hs : SYok w ex s) : sysB s = true := by
  have hl : s.D.v.length = N := by rw [LH.vlen, hs.d.len, h.dn]
  have h1 : linkB s.D.v = true := by
    unfold linkB
    rw [hl]
    simp only [Bool.and_eq_true, decide_eq_true_eq, List.all_eq_true]
    refine ⟨⟨⟨h.n1, h.n256⟩, fun l hm => ?_⟩, h.tt⟩
    obtain ⟨y, hy, rfl⟩ := List.mem_map.1 hm
    exact risB_iff.2 (h.d y hy)
  unfold sysB
  rw [h1]
  simp only [Bool.and_eq_true, decide_eq_true_eq, List.all_eq_true, h.tn, h.dn, h.bn, true_and, and_true]
  refine ⟨fun z hz => ?_, fun f hf => ?_⟩
  · obtain ⟨a, b⟩ := h.b z hz
    unfold zfitB
    rw [a, Bs.valid_of_fit b h.v256, h.w]; simp
  · obtain ⟨a, b, c⟩ := h.t f hf
    unfold ffitB FH.vB
    rw [a, b, c, h.w]; simp
theorem ints_rh (w : World) (l : List Int) (hl : l.length ≤ 100) : RHok (w.alloc (.cells (l.map (Value.int .i64)).toArray 3)) [] ⟨some ⟨w.heap.size, 0, none⟩, l.length, l.length, l⟩ :=
  ⟨EAt.fb (Fb.new w _ _) (by simp) (fun j x hx => by unfold ints at hx; simpa using hx), rfl, by show l.length ≤ _; omega⟩
theorem ex14a : coneP [[], [0], [1], [2]] [] 2 = ([2, 1, 0], 5) := by kernel_rfl
theorem ex14b : coneP [[], [0], [1], [2]] [1] 2 = ([2, 1], 3) := by kernel_rfl
theorem ex14c : coneP [[], [0], [1], [2]] [2] 2 = ([2], 1) := by kernel_rfl
theorem lineOf (s : SY) (rl : RH) (l : List Int) (t : Nat) (w : World) (hs : SYok w [] s) (ho : SOk s 0 4) (hd : s.D.v = [[], [0], [1], [2]]) (hr : RHok w [] rl) (hi : inR 4 rl.l = true) (hc : coneP [[], [0], [1], [2]] rl.l 2 = (l, t)) :
    Calls Try.prog 22 #[s.a, .int .i64 2, .slice rl.A rl.n rl.c] w fun e w' => ∃ y : RH, e = .returned (.tuple #[.slice y.A y.n y.c, .int .i64 t, .int .i64 0]) ∧ y.l = l ∧ RHok w' [] y ∧ Below w.heap.size w w' := by
  refine (coneOf_any s 0 4 2 rl [] [] w hs ho hr hi (ho.valid3 hs) (by omega) (by omega)).mono ?_
  rintro e w' ⟨y, h1, h2, h3, -, h5⟩
  rw [hd, hc] at h1 h2
  exact ⟨y, h1, h2, h3 [] (by simp), h5⟩
theorem drewB (w : World) (q : Nat) : Below w.heap.size w (w.drewN q) := ⟨rfl, rfl, rfl, Nat.le_refl _, fun _ _ => rfl⟩
theorem intsYes (y : RH) (l : List Int) (g n : Nat) (w : World) (hy : RHok w [] y) (he : y.l = l) (hg : RHok w [] ⟨some ⟨g, 0, none⟩, n, n, l⟩) :
    Calls Try.prog 23 #[.slice y.A y.n y.c, .slice (some ⟨g, 0, none⟩) n n] w fun e w' => e = .returned (.bool true) ∧ Below w.heap.size w w' := by
  refine (ints7_any y ⟨some ⟨g, 0, none⟩, n, n, l⟩ [] [] w hy hg).mono ?_
  rintro e w' ⟨rfl, q, rfl⟩
  exact ⟨by rw [he]; unfold eqD; simp, drewB _ _⟩
set_option maxHeartbeats 12800000 in
theorem sane14_any (w : World) : Calls Try.prog 12 #[] w fun e w' => e = .returned (.bool true) ∧ Below w.heap.size w w' := by
  go_enter Try.func12, Try.ntmps12
  go_wp2_with fail
  refine (line_any w).mono ?_
  rintro e w1 ⟨s, rfl, hs, ho, hd, hb1⟩
  have HC := hid (lineOf s ⟨none, 0, 0, []⟩ _ _ w1 hs ho hd ⟨EAt.nil _ _ _, rfl, by show 0 ≤ 9223372036854775807; omega⟩ rfl ex14a)
  have HB1 := hid hb1
  clear hs ho hd hb1
  generalize s.a = sv at *
  go_wp2_with fail
  refine HC.out.mono ?_
  rintro e w2 ⟨y1, rfl, hl1, hy1, hb2⟩
  have HB2 := hid (below_step HB1.out hb2)
  have Hl1 := hid hl1
  have Hy1 := hid hy1
  clear hl1 hy1 hb2 HB1 HC
  go_wp2_with fail
  refine (line_any w2).mono ?_
  rintro e w3 ⟨s, rfl, hs, ho, hd, hb3⟩
  have hba := (Below.refl w3.heap.size w3).alloc (Nat.le_refl _) (.cells #[.int .i64 1] 3)
  have HC := hid (lineOf s ⟨some ⟨w3.heap.size, 0, none⟩, 1, 1, [1]⟩ _ _ (w3.alloc (.cells #[.int .i64 1] 3)) (hs.below hba) ho hd (ints_rh w3 [1] (by simp)) rfl ex14b)
  have HB3 := hid (below_step HB2.out (below_step hb3 hba))
  have Hy2 := hid (Hy1.out.below (below_step hb3 hba))
  clear hs ho hd hb3 hba HB2 Hy1
  generalize s.a = sv at *
  go_wp2_with fail
  refine HC.out.mono ?_
  generalize w3.alloc (.cells #[.int .i64 1] 3) = w3a at *
  rintro e w4 ⟨y2, rfl, hl2, hy2, hb4⟩
  have HB4 := hid (below_step HB3.out hb4)
  have Hy14 := hid (Hy2.out.below hb4)
  have Hl2 := hid hl2
  have Hy24 := hid hy2
  clear hl2 hy2 hb4 HB3 HC Hy2
  go_wp2_with fail
  refine (line_any w4).mono ?_
  rintro e w5 ⟨s, rfl, hs, ho, hd, hb5⟩
  have hba := (Below.refl w5.heap.size w5).alloc (Nat.le_refl _) (.cells #[.int .i64 2] 3)
  have HC := hid (lineOf s ⟨some ⟨w5.heap.size, 0, none⟩, 1, 1, [2]⟩ _ _ (w5.alloc (.cells #[.int .i64 2] 3)) (hs.below hba) ho hd (ints_rh w5 [2] (by simp)) rfl ex14c)
  have HB5 := hid (below_step HB4.out (below_step hb5 hba))
  have Hy15 := hid (Hy14.out.below (below_step hb5 hba))
  have Hy25 := hid (Hy24.out.below (below_step hb5 hba))
  clear hs ho hd hb5 hba HB4 Hy14 Hy24
  generalize s.a = sv at *
  go_wp2_with fail
  refine HC.out.mono ?_
  generalize w5.alloc (.cells #[.int .i64 2] 3) = w5a at *
  rintro e w6 ⟨y3, rfl, hl3, hy3, hb6⟩
  have HB6 := hid (below_step HB5.out hb6)
  have hba := (Below.refl w6.heap.size w6).alloc (Nat.le_refl _) (.cells #[.int .i64 2, .int .i64 1, .int .i64 0] 3)
  have HI := hid (intsYes y1 _ w6.heap.size 3 (w6.alloc (.cells #[.int .i64 2, .int .i64 1, .int .i64 0] 3)) (Hy15.out.below (below_step hb6 hba)) Hl1.out (ints_rh w6 [2, 1, 0] (by simp)))
  have HB7 := hid (below_step HB6.out hba)
  have Hy27 := hid (Hy25.out.below (below_step hb6 hba))
  have Hy37 := hid (hy3.below hba)
  have Hl3 := hid hl3
  clear hl3 hy3 hb6 hba HB5 HB6 HC Hy15 Hy25 Hl1
  go_wp2_with fail
  refine HI.out.mono ?_
  generalize w6.alloc (.cells #[.int .i64 2, .int .i64 1, .int .i64 0] 3) = w7 at *
  rintro _ w8 ⟨rfl, hb8⟩
  have hba := (Below.refl w8.heap.size w8).alloc (Nat.le_refl _) (.cells #[.int .i64 2, .int .i64 1] 3)
  have HI2 := hid (intsYes y2 _ w8.heap.size 2 (w8.alloc (.cells #[.int .i64 2, .int .i64 1] 3)) (Hy27.out.below (below_step hb8 hba)) Hl2.out (ints_rh w8 [2, 1] (by simp)))
  have HB9 := hid (below_step HB7.out (below_step hb8 hba))
  have Hy39 := hid (Hy37.out.below (below_step hb8 hba))
  clear hb8 hba HB7 Hy27 Hy37 Hl2 HI
  go_wp2_with fail
  refine HI2.out.mono ?_
  generalize w8.alloc (.cells #[.int .i64 2, .int .i64 1] 3) = w9 at *
  rintro _ w10 ⟨rfl, hb10⟩
  have hba := (Below.refl w10.heap.size w10).alloc (Nat.le_refl _) (.cells #[.int .i64 2] 3)
  have HI3 := hid (intsYes y3 _ w10.heap.size 1 (w10.alloc (.cells #[.int .i64 2] 3)) (Hy39.out.below (below_step hb10 hba)) Hl3.out (ints_rh w10 [2] (by simp)))
  have HB11 := hid (below_step HB9.out (below_step hb10 hba))
  clear hb10 hba HB9 Hy39 Hl3 HI2
  go_wp2_with fail
  refine HI3.out.mono ?_
  generalize w10.alloc (.cells #[.int .i64 2] 3) = w11 at *
  rintro _ w12 ⟨rfl, hb12⟩
  have HB12 := hid (below_step HB11.out hb12)
  clear hb12 HB11 HI3
  go_wp2_with fail
  go_ret
  exact ⟨rfl, HB12.out⟩
end Go.Proofs.Ytadkjnjibefocaa
