/- The package's Defines, occurrences, nodesOf, edgesOf, Sizes. -/
import Derived.Test.YtfapgnbnfhpicaaGreatDoorSts
namespace Go.Proofs.YtfapgnbnfhpicaaGreatDoor
set_option maxRecDepth 20000
set_option linter.unusedVariables false
set_option linter.unusedSimpArgs false
open Go.ChangeShapes Go.WideShapes Go.ChangeAt Go.RowKit

def nodO (o : Int) : Nat := if o == 3 then 2 else 1
def edgO (o : Int) : Nat := if o == 3 then 3 else if o == 8 then 2 else 1
theorem nod_any (o : Int) (w : World) : Calls Tryz.prog 162 #[.int .i64 o] w fun e w' => e = .returned (.int .i64 (nodO o : Nat)) ∧ w = w' := by
  unfold nodO
  cases h1 : (o == 3) with
  | true =>
    go_enter Tryz.func162, Tryz.ntmps162
    go_wp2
    go_ret
    exact ⟨rfl, rfl⟩
  | false =>
    go_enter Tryz.func162, Tryz.ntmps162
    go_wp2
    go_ret
    exact ⟨rfl, rfl⟩
theorem edg_any (o : Int) (w : World) : Calls Tryz.prog 163 #[.int .i64 o] w fun e w' => e = .returned (.int .i64 (edgO o : Nat)) ∧ w = w' := by
  unfold edgO
  cases h1 : (o == 3) with
  | true =>
    go_enter Tryz.func163, Tryz.ntmps163
    go_wp2
    go_ret
    exact ⟨rfl, rfl⟩
  | false =>
    cases h2 : (o == 8) with
    | true =>
      go_enter Tryz.func163, Tryz.ntmps163
      go_wp2
      go_ret
      exact ⟨rfl, rfl⟩
    | false =>
      go_enter Tryz.func163, Tryz.ntmps163
      go_wp2
      go_ret
      exact ⟨rfl, rfl⟩
theorem nod_le (o : Int) : nodO o ≤ 2 := by unfold nodO; split <;> omega
theorem edg_le (o : Int) : edgO o ≤ 3 := by unfold edgO; split; omega; split <;> omega
def sumP (f : Int → Nat) (l : List Stm) : Nat := (l.map fun t => f t.op).sum
theorem sum_take {f : Int → Nat} {l : List Stm} {k : Nat} {t : Stm} (h : l[k]? = some t) : sumP f (l.take (k + 1)) = sumP f (l.take k) + f t.op := by
  unfold sumP; rw [List.take_add_one, h]; simp
theorem sumP_le {f : Int → Nat} {b : Nat} (hf : ∀ o, f o ≤ b) (l : List Stm) : sumP f l ≤ l.length * b := by
  unfold sumP
  induction l with
  | nil => simp
  | cons t l ih => simp only [List.map_cons, List.sum_cons, List.length_cons, Nat.succ_mul]; have := hf t.op; omega
/-- How many nodes and edges. -/
def sizesP (p : List Fnc) : Nat × Nat := if (stmtsP p).length = 0 then (0, 0) else (2 * p.length + sumP nodO (stmtsP p), p.length + sumP edgO (stmtsP p))
def RetSz (w : World) (r : Nat × Nat) (e : Ending) (w' : World) : Prop := e = .returned (.tuple #[.int .i64 (r.1 : Nat), .int .i64 (r.2 : Nat)]) ∧ Below w.heap.size w w'
theorem retSz_mk {w w' : World} {r : Nat × Nat} {a b : Nat} {x y : Int} (h : r = (a, b)) (hx : x = a) (hy : y = b) (hb : Below w.heap.size w w') : RetSz w r (.returned (.tuple #[.int .i64 x, .int .i64 y])) w' := by subst h; subst hx; subst hy; exact ⟨rfl, hb⟩
theorem sizes_none {p : List Fnc} (h : (stmtsP p).length = 0) : sizesP p = (0, 0) := by unfold sizesP; rw [if_pos h]
theorem sizes_some {p : List Fnc} {n a b : Nat} (h : (stmtsP p).length ≠ 0) (hn : p.length = n) (ha : sumP nodO (stmtsP p) = a) (hb : sumP edgO (stmtsP p) = b) : sizesP p = (2 * n + a, n + b) := by unfold sizesP; rw [if_neg h, hn, ha, hb]
set_option maxHeartbeats 3200000 in
theorem sizes_any (x : PH) (ex : List (Option Nat)) (w : World) (h : PHok w ex x) (hs : Shp w) :
    Calls Tryz.prog 135 #[.agg #[.slice x.A x.n x.c]] w (RetSz w (sizesP x.p)) := by
  have hb0 := (Below.refl w.heap.size w).alloc (Nat.le_refl _) (.cells #[.slice x.A x.n x.c] 44)
  have HB0 := hid hb0
  have HG0 := hid (Fb.new w #[.slice x.A x.n x.c] 44)
  have HS := hid (statements_any x ex _ _ (PHok.below h hb0) (Below.refl _ _) (hs.keep (hb0.block 1 hs.pos0)))
  have Hpl := hid (show x.p.length = x.n by unfold PH.p; rw [List.length_map]; exact h.len)
  have hn := h.few
  clear h hb0 hs
  obtain ⟨A, n, c, l⟩ := x
  simp only at *
  generalize PH.p ⟨A, n, c, l⟩ = p at *
  go_enter Tryz.func135, Tryz.ntmps135
  go_wp2_with fail
  generalize w.alloc (.cells #[.slice A n c] 44) = w0 at *
  refine HS.out.mono ?_
  rintro e w1 ⟨B, d, L, rfl, hL, hL4, hE, hall, hb1⟩
  have HB1 := hid (below_step HB0.out hb1)
  have HG1 := hid (HG0.out.below hb1 HG0.out.lt)
  have HL := hid hL
  have HE := hid (hE [] (by simp))
  have Hln := hid (show (stmtsP p).length = L.length by rw [← hL, List.length_map])
  clear hb1 HB0 HG0 HS hL hE hall
  by_cases h0 : L.length = 0
  · as_aux_lemma =>
      have Hr := hid (sizes_none (p := p) (by rw [Hln.out]; exact h0))
      have t0 : ((L.length : Int) == 0) = true := by simp [h0]
      have Hh := hid h0
      clear h0
      go_wp2_with fail
      go_ret2
      exact retSz_mk Hr.out rfl rfl HB1.out
  · have t0 : ((L.length : Int) == 0) = false := by simpa using h0
    have Hh := hid h0
    have hpos : 0 < L.length := by omega
    obtain g0 := HG1.out.onec
    have hm1 : IntKind.i64.wrap (2 * (n : Int)) = 2 * (n : Int) := IntWalk.i64_in _ (by omega)
    clear h0
    go_wp2_with fail
    go_quiet (fail)
    go_wp2_with fail
    clear g0 HG1 hm1 t0
    have HB2 := hid (fun q => below_drewN HB1.out q)
    have HW2 := hid (fun q => below_drewN (Below.refl w1.heap.size w1) q)
    go_loopw [5, 6, 8, 23] (fun a b _ iv wr => ∃ (k : Nat) (za zb : Int), k ≤ L.length ∧ iv = .int .i64 k ∧ a = .int .i64 za ∧ b = .int .i64 zb ∧ 0 ≤ za ∧ za ≤ 80 + 2 * k ∧ 0 ≤ zb ∧ zb ≤ 40 + 3 * k ∧ Hid (za = ((2 * n + sumP nodO ((L.map SH.t).take k) : Nat) : Int)) ∧ Hid (zb = ((n + sumP edgO ((L.map SH.t).take k) : Nat) : Int)) ∧ Hid (Below w.heap.size w wr) ∧ Hid (Below w1.heap.size w1 wr)) (fun _ _ _ iv _ => L.length - (intOf iv).toNat)
    case atStart => exact ⟨0, _, _, by omega, rfl, rfl, rfl, by omega, by omega, by omega, by omega, hid (by show (2 * (n : Int)) = ((2 * n + 0 : Nat) : Int); simp), hid (by show (n : Int) = ((n + 0 : Nat) : Int); simp), hid (HB2.out _), hid (HW2.out _)⟩
    case round =>
      clear HB2 HW2
      obtain ⟨k, za, zb, hk, rfl, rfl, rfl, hz0, hz1, hz2, hz3, hza, hzb, hB, hW⟩ := hrel
      by_cases hlt : k < L.length
      · obtain ⟨y, hy, hym⟩ := get_at (rfl : L.length = L.length) hlt
        obtain ⟨ad, hA, had, hc1, hc2, hc3, hc4⟩ := SH.cells (HE.out.go (Go2.below hW.out)) hy
        subst hA
        have hb2 := (Below.refl wr.heap.size wr).alloc (Nat.le_refl _) (.cells #[.int .i64 y.t.op, .string y.t.d, .slice y.A y.n y.c, .slice y.B y.m y.c2] 68)
        have HB2 := hid (below_step hB.out hb2)
        have HW2 := hid (below_step hW.out hb2)
        have HG2 := hid (Fb.new wr #[.int .i64 y.t.op, .string y.t.d, .slice y.A y.n y.c, .slice y.B y.m y.c2] 68)
        have Hget := hid (show (L.map SH.t)[k]? = some y.t by rw [List.getElem?_map, hy]; rfl)
        have hq1 := nod_le y.t.op
        have hq2 := edg_le y.t.op
        have Hq1 := hid (sum_take (f := nodO) Hget.out)
        have Hq2 := hid (sum_take (f := edgO) Hget.out)
        have H1 := hid (nod_any y.t.op)
        have H2 := hid (edg_any y.t.op)
        generalize nodO y.t.op = q1 at *
        generalize edgO y.t.op = q2 at *
        clear hy hym hb2 hB hW
        obtain ⟨g0, g1, g2, g3⟩ := Fb.four HG2.out
        have hL2 := hL4
        go_wp2_with fail
        refine (H1.out _).mono ?_
        rintro e w3 ⟨rfl, rfl⟩
        go_wp2_with fail
        refine (H2.out _).mono ?_
        rintro e w3 ⟨rfl, rfl⟩
        as_aux_lemma =>
          clear g0 g1 g2 g3 H1 H2
          go_wp2_with fail
          go_roundw
          case rel => exact ⟨k + 1, za + q1, zb + q2, by omega, by go_num, by go_num, by go_num, by omega, by omega, by omega, by omega, hid (by rw [hza.out, Hq1.out]; simp only [Int.natCast_add]; omega), hid (by rw [hzb.out, Hq2.out]; simp only [Int.natCast_add]; omega), HB2, HW2⟩
          case measure => simp [intOf]; omega
      · as_aux_lemma =>
          obtain rfl : k = L.length := by omega
          have Hr := hid (sizes_some (p := p) (by rw [Hln.out]; exact Hh.out) Hpl.out rfl rfl)
          have Ha := hid (show za = ((2 * n + sumP nodO (stmtsP p) : Nat) : Int) by rw [← HL.out, hza.out, List.take_of_length_le (by simp)])
          have Hb := hid (show zb = ((n + sumP edgO (stmtsP p) : Nat) : Int) by rw [← HL.out, hzb.out, List.take_of_length_le (by simp)])
          go_wp2_with fail
          go_ret2
          exact retSz_mk Hr.out Ha.out Hb.out hB.out
end Go.Proofs.YtfapgnbnfhpicaaGreatDoor
