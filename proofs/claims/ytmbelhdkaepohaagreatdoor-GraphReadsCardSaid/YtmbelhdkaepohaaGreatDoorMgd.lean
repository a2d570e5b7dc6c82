/- Texts that the proof leans on, merged. -/
import Derived.Test.YtmbelhdkaepohaaGreatDoorMga
import Derived.Test.YtmbelhdkaepohaaGreatDoorMpp
import Derived.DeepKeys4
import Derived.Maps.Own
import Derived.Maps.Keyed
import Derived.Maps.OwnSet
import Derived.Deep.RegionLaw
import Derived.Deep.RegionHeld3
import Derived.Deep.DrawnRows
import Derived.StillTailTactics
import Derived.Deep.DeepCutAuto
import Derived.Test.YtmbelhdkaepohaaGreatDoorRpa
import Derived.Test.YtmbelhdkaepohaaGreatDoorPms
namespace Go.Proofs.YtmbelhdkaepohaaGreatDoor
set_option maxRecDepth 20000
set_option linter.unusedVariables false
set_option linter.unusedSimpArgs false
open Go.ChangeShapes Go.WideShapes Go.ChangeAt Go.RowKit

theorem eqD_self {α : Type} [DecidableEq α] (l : List α) : eqD l l = true := by unfold eqD; simp
set_option maxHeartbeats 3200000 in
theorem sameGraph_yes (x y : GH) (ex ey : List (Option Nat)) (w : World) (hx : GHok w ex x) (hy : GHok w ey y) (e1 : y.ns = x.ns) (e2 : y.S.v = x.S.v) (e3 : y.P.v = x.P.v) :
    Calls Tryz.prog 13 #[x.a, y.a] w fun e w' => e = .returned (.bool true) ∧ Below w.heap.size w w' := by
  have hb := ((Below.refl w.heap.size w).alloc (Nat.le_refl _) (.cells #[.slice x.A x.n x.c, .slice x.S.A x.S.n x.S.c, .slice x.P.A x.P.n x.P.c] 26)).alloc (by rw [World.size_alloc]; omega) (.cells #[.slice y.A y.n y.c, .slice y.S.A y.S.n y.S.c, .slice y.P.A y.P.n y.P.c] 26)
  have HB := hid hb
  have HX := hid (hx.below hb)
  have HY := hid (hy.below hb)
  have HF := hid ((Fb.new w #[.slice x.A x.n x.c, .slice x.S.A x.S.n x.S.c, .slice x.P.A x.P.n x.P.c] 26).alloc (.cells #[.slice y.A y.n y.c, .slice y.S.A y.S.n y.S.c, .slice y.P.A y.P.n y.P.c] 26))
  have HG := hid (show Fb ((w.alloc (.cells #[.slice x.A x.n x.c, .slice x.S.A x.S.n x.S.c, .slice x.P.A x.P.n x.P.c] 26)).alloc (.cells #[.slice y.A y.n y.c, .slice y.S.A y.S.n y.S.c, .slice y.P.A y.P.n y.P.c] 26)) (w.heap.size + 1) #[.slice y.A y.n y.c, .slice y.S.A y.S.n y.S.c, .slice y.P.A y.P.n y.P.c] 26 by
    have := Fb.new (w.alloc (.cells #[.slice x.A x.n x.c, .slice x.S.A x.S.n x.S.c, .slice x.P.A x.P.n x.P.c] 26)) #[.slice y.A y.n y.c, .slice y.S.A y.S.n y.S.c, .slice y.P.A y.P.n y.P.c] 26
    rwa [World.size_alloc] at this)
  have hn := hx.few
  have HL := hid hx.len
  have HM := hid (show x.ns.length = y.n by rw [← e1]; exact hy.len)
  clear hx hy
  unfold GH.a
  go_enter Tryz.func13, Tryz.ntmps13
  generalize h0 : (w.alloc (.cells #[.slice x.A x.n x.c, .slice x.S.A x.S.n x.S.c, .slice x.P.A x.P.n x.P.c] 26)).alloc (.cells #[.slice y.A y.n y.c, .slice y.S.A y.S.n y.S.c, .slice y.P.A y.P.n y.P.c] 26) = w0 at HB HX HY HF HG
  have HCS := hid (show Calls Tryz.prog 28 #[.slice x.S.A x.S.n x.S.c, .slice y.S.A y.S.n y.S.c] w0 (RetQ w0 (.bool true)) by
    have h := sameLists_any x.S y.S ex ey w0 HX.out.s HY.out.s
    rw [e2, eqD_self] at h; exact h)
  have HCP := hid (fun (r : Nat) => show Calls Tryz.prog 28 #[.slice x.P.A x.P.n x.P.c, .slice y.P.A y.P.n y.P.c] (w0.drewN r) (RetQ (w0.drewN r) (.bool true)) by
    have h := sameLists_any x.P y.P ex ey (w0.drewN r) (HX.out.p.below (below_drewN (Below.refl _ _) r)) (HY.out.p.below (below_drewN (Below.refl _ _) r))
    rw [e3, eqD_self] at h; exact h)
  have HNX := hid HX.out.lies
  have HNY := hid (show EAt w0 ey y.A (x.ns.flatMap ndc) by rw [← e1]; exact HY.out.lies)
  clear HX HY e1 e2 e3
  obtain ⟨A, n, c, ns, ⟨SA, sn, sc, sl⟩, ⟨PA, pn, pc, pl⟩⟩ := x
  obtain ⟨A2, n2, c2, ns2, ⟨SA2, sn2, sc2, sl2⟩, ⟨PA2, pn2, pc2, pl2⟩⟩ := y
  simp only at *
  obtain rfl : n = n2 := HL.out.symm.trans HM.out
  have H0 := hid h0
  clear h0
  go_wp2_with fail
  rw [H0.out]
  obtain ⟨b0, b1, b2⟩ := HF.out.thr
  obtain ⟨d0, d1, d2⟩ := HG.out.thr
  have hGl := HG.out.lt
  refine HCS.out.mono ?_
  rintro e w' ⟨rfl, q2, rfl⟩
  go_wp2_with fail
  refine (HCP.out _).mono ?_
  rintro e w' ⟨rfl, q3, rfl⟩
  go_wp2_with fail
  go_loopw [5] (fun iv wr => ∃ (k q : Nat), k ≤ n ∧ iv = .int .i64 k ∧ wr = w0.drewN q) (fun iv _ => n - (intOf iv).toNat)
  case atStart => exact ⟨0, _, by omega, rfl, rfl⟩
  case round =>
    obtain ⟨k, q, hk, rfl, rfl⟩ := hrel
    by_cases hlt : k < n
    · obtain ⟨y, hy, hym⟩ := get_at HL.out hlt
      obtain ⟨ad, hA, had, hc1, hc2, hc3, hc4⟩ := Nd.cells HNX.out hy
      obtain ⟨ad2, hA2, had2, hd1, hd2, hd3, hd4⟩ := Nd.cells HNY.out hy
      subst hA
      subst hA2
      obtain ⟨yk, yf, yb, ys⟩ := y
      simp only at hc1 hc2 hc3 hc4 hd1 hd2 hd3 hd4
      clear hy hym
      as_aux_lemma =>
        go_wp2_with fail
        go_quiet (fail)
        go_wp2_with fail
        go_roundw
        case rel => exact ⟨k + 1, _, by omega, by go_num, rfl⟩
        case measure => simp [intOf]; omega
    · as_aux_lemma =>
        obtain rfl : k = n := by omega
        go_wp2_with fail
        go_ret
        exact ⟨rfl, below_drewN HB.out _⟩
end Go.Proofs.YtmbelhdkaepohaaGreatDoor

namespace Go.Proofs.YtmbelhdkaepohaaGreatDoor
set_option maxRecDepth 20000
set_option linter.unusedVariables false
set_option linter.unusedSimpArgs false
open Go.ChangeShapes Go.WideShapes Go.ChangeAt Go.RowKit

theorem laidOutT : laidOutB Tryz.prog = true := by kernel_rfl
theorem rowT : (55 : TypeId) < Tryz.prog.types.size := of_decide_eq_true (by kernel_rfl)
theorem wideT : (match Tryz.prog.underlying 55 with | some (.array _ _) | some (.struct _) => true | _ => false) = true := by rw [Tryz.underlying55]
theorem keyed : Maps.Keyed Tryz.prog 55 := Maps.Keyed.of_law (deep_law_laid laidOutT (m := 3) (by omega) rowT (by kernel_rfl) wideT)
theorem keyT : Tryz.prog.keyType 55 = true := by kernel_rfl
theorem cellsT : Tryz.prog.cellsOf 55 = 4 := by kernel_rfl
theorem cellsI : Tryz.prog.cellsOf 3 = 1 := by kernel_rfl
/-- All four numbers are Go's. -/
def wfN (y : Nd) : Prop := ((-9223372036854775808 ≤ y.kd ∧ y.kd ≤ 9223372036854775807) ∧ (-9223372036854775808 ≤ y.fn ∧ y.fn ≤ 9223372036854775807)) ∧ ((-9223372036854775808 ≤ y.bk ∧ y.bk ≤ 9223372036854775807) ∧ (-9223372036854775808 ≤ y.st ∧ y.st ≤ 9223372036854775807))
theorem wf_lit {x : Int} (h : -9223372036854775808 ≤ x ∧ x ≤ 9223372036854775807) : (Lit.int .i64 x).wf = true := by
  have m0 : IntKind.i64.min = -9223372036854775808 := by decide
  have m1 : IntKind.i64.max = 9223372036854775807 := by decide
  simp [Lit.wf, m0, m1]; omega
theorem key_node (y : Nd) (h : wfN y) : ∃ kl, keyOf Tryz.prog 55 (agN y) = some kl := by
  obtain ⟨m, hm⟩ : ∃ m, Tryz.prog.types.size + 1 = m + 1 + 1 := by
    have h : 55 < Tryz.prog.types.size := rowT
    generalize Tryz.prog.types.size = s at h
    exact ⟨s - 1, by have h : 55 < s := h; omega⟩
  have hf : (agN y).formed Tryz.prog 55 = true := by unfold agN; simp [Value.formed, Tryz.underlying55, cellsT]
  obtain ⟨⟨h1, h2⟩, h3, h4⟩ := h
  have e1 := wf_lit h1; have e2 := wf_lit h2; have e3 := wf_lit h3; have e4 := wf_lit h4
  apply Option.isSome_iff_exists.1
  unfold keyOf
  rw [Tryz.underlying55]
  simp only [keyT, hf, Bool.and_self, if_true]
  rw [hm]
  unfold agN
  simp [Program.keyLits, Tryz.underlying55, Tryz.underlying3, cellsT, cellsI, Value.cells, e1, e2, e3, e4]
/-- The first place of a node in a list, or 0. -/
def numN (L : List Nd) (x : Nd) : Nat := (L.findIdx? fun y => decide (y = x)).getD 0
theorem numN_nil (x : Nd) : numN [] x = 0 := rfl
theorem numN_snoc {L : List Nd} {x : Nd} (h : x ∉ L) (y : Nd) : numN (L ++ [x]) y = if y = x then L.length else numN L y := by
  unfold numN
  rw [List.findIdx?_append]
  by_cases e : y = x
  · subst e
    rw [if_pos rfl]
    have : L.findIdx? (fun z => decide (z = y)) = none := by
      rw [List.findIdx?_eq_none_iff]
      intro z hz
      simp
      rintro rfl
      exact h hz
    rw [this]
    simp
  · rw [if_neg e]
    have : [x].findIdx? (fun z => decide (z = y)) = none := by
      rw [List.findIdx?_eq_none_iff]
      intro z hz
      simp at hz
      subst hz
      simp
      exact fun h => e h.symm
    rw [this]
    cases L.findIdx? (fun z => decide (z = y)) <;> simp
theorem numN_lt {L : List Nd} (h : 1 ≤ L.length) (x : Nd) : numN L x < L.length := by
  unfold numN
  cases he : L.findIdx? (fun y => decide (y = x)) with
  | none => simp; omega
  | some i =>
    have := List.findIdx?_eq_some_iff_findIdx_eq.1 he
    simp
    exact this.1
/-- Block b is a map that says the number of each node of L, and 0 of all others. -/
def NMp (w : World) (b : Nat) (L : List Nd) : Prop :=
  ∃ (D : DataW Unit) (n : Nat), w.ownsMap Tryz.prog 55 (plainElem Tryz.prog 3) b n D ∧ n ≤ L.length ∧ Maps.IsMap D ∧ ∀ (y : Nd) (kl : Lit), keyOf Tryz.prog 55 (agN y) = some kl → D.atKey kl (.lit (.int .i64 0)) = .lit (.int .i64 (numN L y : Nat))
theorem zeroI (w : World) : (zeroValue 3).run Tryz.prog w = .ok (.int .i64 0) w := by kernel_rfl
section
variable {w w' : World} {b : Nat} {L : List Nd}
theorem NMp.made (w : World) : NMp (w.alloc (.map #[] 0)) w.heap.size [] :=
  ⟨.map [], 0, World.ownsMap_made w _ _ _, Nat.le_refl _, Maps.isMap_empty, fun y kl _ => by rw [numN_nil]; simp [DataW.atKey]⟩
theorem NMp.lt (h : NMp w b L) : b < w.heap.size := by obtain ⟨D, n, h, _⟩ := h; exact h.lt
theorem NMp.kept {row : Option Nat} (h : NMp w b L) (hg : w.grownBy w' row) (hne : some b ≠ row) : NMp w' b L := by
  obtain ⟨D, n, h, r⟩ := h
  exact ⟨D, n, h.kept hg hne, r⟩
theorem NMp.below (h : NMp w b L) (hb : Below w.heap.size w w') : NMp w' b L := h.kept (grown_of_below hb none) (by simp)
theorem NMp.look (h : NMp w b L) (y : Nd) (hy : wfN y) : (Instr.lookup 82 (.map (some b)) (agN y) false).run Tryz.prog w = .ok (.int .i64 (numN L y : Nat)) w := by
  obtain ⟨D, n, h, hn, hi, hD⟩ := h
  obtain ⟨kl, hk⟩ := key_node y hy
  obtain ⟨c, hrun, hat, _⟩ := h.lookup_int keyed Tryz.underlying82 Tryz.underlying3 (zeroI w) hk
  rw [hD y kl hk] at hat
  injection hat with hat
  injection hat with _ hat
  rw [hrun, ← hat]
theorem NMp.isMap (h : NMp w b L) : ∃ es clock, w.heap[b]? = some (.map es clock) := by
  obtain ⟨D, n, h, _⟩ := h
  obtain ⟨es, clock, h1, _⟩ := h
  exact ⟨es, clock, h1⟩
theorem NMp.put {ops : Array Oper} {rest : List Oper} {o : Oper} {a : Act} {Q : Exit → Act → World → Prop} (hg : o.guard = none) (m x v : Operand) (hop : o.op = Op.mapUpdate 82 m x v)
    (hm : a.eval m = .map (some b)) (h : NMp w b L) (hn : L.length < 1000000) (y : Nd) (hy : wfN y) (hno : y ∉ L) (hx : a.eval x = agN y) (hv : a.eval v = .int .i64 (L.length : Nat))
    (hK : ∀ w', NMp w' b (L ++ [y]) → w.grownBy w' (some b) → wpList Tryz.prog ops Q rest (a.put o.dst undef) w') : wpList Tryz.prog ops Q (o :: rest) a w := by
  obtain ⟨D, n, hO, hl, hi, hD⟩ := h
  obtain ⟨kl, hk⟩ := key_node y hy
  refine wpList_mapUpdate_own w hg m x v 82 hop 55 3 keyed Tryz.underlying82 (plainElem Tryz.prog 3) b n D hm hO (by unfold maxLen; omega) (agN y) (.int .i64 (L.length : Nat)) kl hx hv hk (.lit (.int .i64 (L.length : Nat))) [] (plainElem_int Tryz.underlying3 (wf_lit (by omega))) fun w' hO' hg' => hK w' ⟨D.put kl (.lit (.int .i64 (L.length : Nat))), n + 1, hO', by simp; omega, hi.put _ _, fun y' kl' hk' => ?_⟩ hg'
  rw [numN_snoc hno]
  by_cases e : y' = y
  · subst e
    obtain rfl := Option.some.inj (hk.symm.trans hk')
    rw [if_pos rfl, Maps.atKey_put_same hi (keyed.key hk)]
  · rw [if_neg e, Maps.atKey_put_other (fun h => ?_), hD y' kl' hk']
    subst h
    have := keyed.inj hk hk'
    unfold agN at this
    simp at this
    apply e
    cases y; cases y'
    simp at this
    simp [this]
end
set_option maxHeartbeats 1600000 in
theorem numbers_any (A : Option Addr) (n c : Nat) (L : List Nd) (w : World) (h : EAt w [] A (L.flatMap ndc)) (hl : L.length = n) (hn : n ≤ 100000) (hd : L.Nodup) (hw : ∀ y ∈ L, wfN y) :
    Calls Tryz.prog 42 #[.slice A n c] w fun e w' => ∃ b : Nat, e = .returned (.map (some b)) ∧ NMp w' b L ∧ w.heap.size ≤ b ∧ Below w.heap.size w w' := by
  have HE := hid h
  have HL := hid hl
  have HD := hid hd
  have HW := hid hw
  clear h hd hw hl
  have hmm := @run_makeMap Tryz.prog
  go_enter Tryz.func42, Tryz.ntmps42
  go_wp2_with fail
  have HM := hid (NMp.made w)
  have HB := hid ((Below.refl w.heap.size w).alloc (Nat.le_refl _) (.map #[] 0))
  clear hmm
  generalize w.alloc (.map #[] 0) = w0 at HM HB ⊢
  have hG : ∃ G, w.heap.size = G := ⟨_, rfl⟩
  obtain ⟨G, hG⟩ := hG
  have HGe := hid hG
  rw [hG] at HM ⊢
  clear hG
  go_loopw [4, 5, 9] (fun _ _ iv wr => ∃ k : Nat, k ≤ n ∧ iv = .int .i64 k ∧ Hid (NMp wr G (L.take k)) ∧ Hid (Below w.heap.size w wr)) (fun _ _ iv _ => n - (intOf iv).toNat)
  case atStart => exact ⟨0, by omega, rfl, hid (by rw [List.take_zero]; exact HM.out), HB⟩
  case round =>
    clear HM HB
    obtain ⟨k, hk, rfl, hM, hB⟩ := hrel
    by_cases hlt : k < n
    · obtain ⟨y, hy, hym⟩ := get_at HL.out hlt
      obtain ⟨ad, hA, had, hc1, hc2, hc3, hc4⟩ := Nd.cells (HE.out.go (Go2.below hB.out)) hy
      subst hA
      have Hyw := hid (HW.out y hym)
      have Htk := hid (show L.take (k + 1) = L.take k ++ [y] by rw [List.take_add_one, hy]; rfl)
      have Hlen := hid (show (L.take k).length = k by rw [List.length_take, HL.out]; omega)
      have Hno := hid (show y ∉ L.take k by
        intro hm
        obtain ⟨i, hi, he⟩ := List.mem_iff_getElem.1 hm
        rw [List.getElem_take] at he
        obtain ⟨h1, h2⟩ := List.getElem?_eq_some_iff.1 hy
        have hi2 : i < k := by rw [List.length_take] at hi; omega
        have := (List.nodup_iff_pairwise_ne.1 HD.out)
        exact (List.pairwise_iff_getElem.1 this i k (by omega) h1 hi2) (he.trans h2.symm))
      have ha := (Below.refl wr.heap.size wr).alloc (Nat.le_refl _) (.cells #[.int .i64 y.kd, .int .i64 y.fn, .int .i64 y.bk, .int .i64 y.st] 55)
      have HF := hid (Fb.new wr #[.int .i64 y.kd, .int .i64 y.fn, .int .i64 y.bk, .int .i64 y.st] 55)
      have HM2 := hid (hM.out.below ha)
      have HB2 := hid (below_step hB.out ha)
      clear hy hym ha hM hB
      obtain ⟨yk, yf, yb, ys⟩ := y
      simp only at *
      obtain ⟨g0, g1, g2, g3⟩ := Fb.four HF.out
      clear HF
      have hGn : w.heap.size ≤ G := by have := HGe.out; omega
      go_wp2_with ((
        at_mapUpdate
        go_must (refine NMp.put rfl _ _ _ rfl rfl HM2.out (by rw [Hlen.out]; omega) ⟨yk, yf, yb, ys⟩ Hyw.out Hno.out rfl (by rw [Hlen.out]; rfl) ?_)
        intro w5 hm5 hg5
        have HM5 := hid (Htk.out.symm ▸ hm5)
        have HB5 := hid (HB2.out.grown hg5 HB2.out.size (fun k hk => by injection hk with hk; omega))
        clear hm5 hg5 g0 g1 g2 g3))
      go_roundw
      case rel => exact ⟨k + 1, by omega, by go_num, HM5, HB5⟩
      case measure => simp [intOf]; omega
    · obtain rfl : k = n := by omega
      have HM3 := hid (show NMp wr G L from by have := hM.out; rw [List.take_of_length_le (by rw [HL.out]; omega)] at this; exact this)
      clear hM
      have hGn : w.heap.size ≤ G := by have := HGe.out; omega
      go_wp2_with fail
      go_ret
      exact ⟨G, rfl, HM3.out, hGn, hB.out⟩
end Go.Proofs.YtmbelhdkaepohaaGreatDoor

namespace Go.Proofs.YtmbelhdkaepohaaGreatDoor
set_option maxRecDepth 20000
set_option linter.unusedVariables false
set_option linter.unusedSimpArgs false
open Go.ChangeShapes Go.WideShapes Go.ChangeAt Go.RowKit

/-- The targets of edges from a, in their order. -/
def outF (E : List (Nat × Nat)) (a : Nat) : List Int := (E.filter fun e => e.1 == a).map fun e => (e.2 : Int)
theorem outF_snoc (E : List (Nat × Nat)) (a c b : Nat) : upd (outF E) a (outF E a ++ [(c : Int)]) b = outF (E ++ [(a, c)]) b := by
  by_cases e : b = a
  · subst e
    rw [upd_at]
    unfold outF
    simp
  · rw [upd_ne _ _ e]
    unfold outF
    have : (a == b) = false := by simp; exact fun h => e h.symm
    simp [this]
theorem outF_len (E : List (Nat × Nat)) (a : Nat) : (outF E a).length ≤ E.length := by
  unfold outF
  rw [List.length_map]
  exact List.length_filter_le _ _
theorem outF_mem {E : List (Nat × Nat)} {a : Nat} {x : Int} : x ∈ outF E a ↔ ∃ c : Nat, (a, c) ∈ E ∧ x = c := by
  unfold outF
  rw [List.mem_map]
  constructor
  · rintro ⟨⟨a', c⟩, he, rfl⟩
    rw [List.mem_filter] at he
    obtain ⟨h1, h2⟩ := he
    simp at h2
    subst h2
    exact ⟨c, h1, rfl⟩
  · rintro ⟨c, h1, rfl⟩
    exact ⟨(a, c), List.mem_filter.2 ⟨h1, by simp⟩, rfl⟩
theorem Mx.of {w : World} {M N : Nat} {f : Nat → List Int} (h : Mx w M N f) {i : Nat} (hi : i < N) {v : Value} (hc : w.cell? ⟨M, i, none⟩ = some v) :
    w.ownsRow (M + 1) 3 1 v (f i).length (ints (f i)) ∧ (∀ w' : World, w.grownBy w' v.ownBlock → w'.cell? ⟨M, i, none⟩ = some v ∧ w'.frozen? ⟨M, i, none⟩ = false) ∧
    (∀ (w' : World) (u : Value) (l : List Int), w.grownBy w' v.ownBlock → w'.ownsRow (M + 1) 3 1 u l.length (ints l) → (∀ g, u.ownBlock = some g → v.ownBlock = some g ∨ w.heap.size ≤ g) → Mx (w'.setCell ⟨M, i, none⟩ u) M N (upd f i l)) := by
  obtain ⟨v2, h1, h2, h3, h4, h5, h6⟩ := h.at hi
  obtain rfl : v = v2 := Option.some.inj (hc.symm.trans h2)
  exact ⟨h1, h5, h6⟩
theorem Mx.fb {w : World} {M N : Nat} {f : Nat → List Int} (h : Mx w M N f) {B t : Nat} {cs : Array Value} (hb : Fb w B cs t) (ht : t ≠ 22) : B ≠ M := by
  obtain ⟨vs, h1, h2, _⟩ := h
  rintro rfl
  unfold Fb at hb h2
  rw [hb] at h2
  injection h2 with h2
  injection h2 with _ h2
  exact ht h2
/-- What stands in blocks of other types stays. -/
def KeepF (w w' : World) : Prop := w.heap.size ≤ w'.heap.size ∧ ∀ (k : Nat) (cs : Array Value) (t : Nat), t ≠ 3 → t ≠ 22 → Fb w k cs t → Fb w' k cs t
theorem KeepF.trans {a b c : World} (h : KeepF a b) (h2 : KeepF b c) : KeepF a c := ⟨Nat.le_trans h.1 h2.1, fun k cs t h3 h22 hf => h2.2 k cs t h3 h22 (h.2 k cs t h3 h22 hf)⟩
theorem KeepF.below {a b : World} (h : Below a.heap.size a b) : KeepF a b := ⟨h.size, fun k cs t _ _ hf => hf.below h hf.lt⟩
/-- The builder as it stands: its block B, the map MB, the lists of successors in M. -/
structure Bls (w0 : World) (x : PH) (B MB M N : Nat) (L : List Nd) (E : List (Nat × Nat)) (w : World) : Prop where
  box : Fb w B #[.slice x.A x.n x.c, .map (some MB), .slice (some ⟨M, 0, none⟩) N N] 85
  map : NMp w MB L
  mx : Mx w M N (outF E)
  bel : Below w0.heap.size w0 w
  mle : w0.heap.size ≤ M
theorem Bls.below {w0 w w' : World} {x : PH} {B MB M N : Nat} {L : List Nd} {E : List (Nat × Nat)} (h : Bls w0 x B MB M N L E w) (hb : Below w.heap.size w w') : Bls w0 x B MB M N L E w' :=
  ⟨h.box.below hb h.box.lt, h.map.below hb, h.mx.below hb, below_step h.bel hb, h.mle⟩
theorem map_ne_own {w : World} {MB base ty size n : Nat} {v : Value} {xs : List Value} {L : List Nd} (hm : NMp w MB L) (h : w.ownsRow base ty size v n xs) : some MB ≠ v.ownBlock := by
  obtain ⟨es, clock, hm⟩ := hm.isMap
  rcases h.2 with ⟨rfl, _⟩ | ⟨g', cap, cur, rfl, _, hg, _⟩
  · simp [Value.ownBlock]
  · intro e
    simp only [Value.ownBlock, Option.some.injEq] at e
    subst e
    rw [hm] at hg
    cases hg
theorem Bls.push {w0 X w9 : World} {x : PH} {B MB M N : Nat} {L : List Nd} {E : List (Nat × Nat)} (h : Bls w0 x B MB M N L E X) {a c g cap : Nat} {rv : Value} (ha : a < N) (hrv : X.cell? ⟨M, a, none⟩ = some rv)
    (hown : w9.ownsRow (M + 1) 3 1 (.slice (some ⟨g, 0, none⟩) ((outF E a).length + 1) cap) ((outF E a).length + 1) (ints (outF E a) ++ [.int .i64 (c : Int)])) (hg : X.grownBy w9 rv.ownBlock) (hat : rv.ownBlock = some g ∨ g = X.heap.size) :
    ((w9.cell? ⟨M, a, none⟩ = some rv ∧ w9.frozen? ⟨M, a, none⟩ = false) ∧ Fb w9 B #[.slice x.A x.n x.c, .map (some MB), .slice (some ⟨M, 0, none⟩) N N] 85) ∧
    Bls w0 x B MB M N L (E ++ [(a, c)]) (w9.setCell ⟨M, a, none⟩ (.slice (some ⟨g, 0, none⟩) ((outF E a).length + 1) cap)) ∧
    KeepF X (w9.setCell ⟨M, a, none⟩ (.slice (some ⟨g, 0, none⟩) ((outF E a).length + 1) cap)) := by
  obtain ⟨ho, hk, hp⟩ := h.mx.of ha hrv
  have hkeep : ∀ (k : Nat) (cs : Array Value) (t : Nat), t ≠ 3 → t ≠ 22 → Fb X k cs t → Fb (w9.setCell ⟨M, a, none⟩ (.slice (some ⟨g, 0, none⟩) ((outF E a).length + 1) cap)) k cs t := fun k cs t h3 h22 hf =>
    (hf.grown hg (fb_ne_own hf ho h3)).far (by simpa using h.mx.fb hf h22) _
  refine ⟨⟨hk _ hg, h.box.grown hg (fb_ne_own h.box ho (by decide))⟩, ⟨hkeep B _ 85 (by decide) (by decide) h.box, ?_, ?_, ?_, h.mle⟩, ⟨by simpa [World.setCell] using hg.size, hkeep⟩⟩
  · refine (h.map.kept hg (map_ne_own h.map ho)).kept (setCell_grown w9 ⟨M, a, none⟩ _) ?_
    intro e
    injection e with e
    simp only at e
    obtain ⟨es, clock, hm⟩ := h.map.isMap
    obtain ⟨vs, h1, h2, _⟩ := h.mx
    unfold Fb at h2
    rw [← e, hm] at h2
    cases h2
  · have := hp w9 (.slice (some ⟨g, 0, none⟩) ((outF E a).length + 1) cap) (outF E a ++ [(c : Int)]) hg (by rw [ints_snoc, List.length_append]; exact hown) (own_hat hat)
    exact this.congr fun b _ => outF_snoc E a c b
  · exact (h.bel.grown hg h.bel.size (fun k hk2 => by have := (ho.lt k hk2).1; have := h.mle; omega)).setCell (by simpa using h.mle) _
theorem tcells9 {w : World} {M g a t : Nat} {u : Value} {cs : Array Value} (h : Fb (w.setCell ⟨M, a, none⟩ u) g cs t) (hne : g ≠ M) : Fb w g cs t := (Below.heap_setCell w ⟨M, a, none⟩ u g (by simpa using hne)).symm.trans h
def ag4 (y : Nd) : Array Value := #[.int .i64 y.kd, .int .i64 y.fn, .int .i64 y.bk, .int .i64 y.st]
theorem look_drewN {w : World} {MB : Nat} {L : List Nd} (h : NMp w MB L) (y : Nd) (hy : wfN y) (q : Nat) : (Instr.lookup 82 (.map (some MB)) (.agg #[.int .i64 y.kd, .int .i64 y.fn, .int .i64 y.bk, .int .i64 y.st]) false).run Tryz.prog (w.drewN q) = .ok (.int .i64 (numN L y : Nat)) (w.drewN q) :=
  (h.below (below_drewN (Below.refl _ _) q)).look y hy
set_option maxHeartbeats 6400000 in
theorem connect_any (w0 : World) (x : PH) (B MB M N : Nat) (L : List Nd) (E : List (Nat × Nat)) (w : World) (h : Bls w0 x B MB M N L E w) (hN : 1 ≤ N) (hL : L.length = N) (hE : E.length ≤ 1000000) (f t : Nd) (hf : wfN f) (ht : wfN t) :
    Calls Tryz.prog 57 #[.pointer (some ⟨B, 0, none⟩), agN f, agN t] w fun e w' => e = .returned (.tuple #[]) ∧ Bls w0 x B MB M N L (E ++ [(numN L f, numN L t)]) w' ∧ KeepF w w' := by
  obtain ⟨i1, hi, hz0, hz1, hz2⟩ := info_parts info3
  have Hi := hid hi; have Hz0 := hid hz0; have Hz1 := hid hz1; have Hz2 := hid hz2
  clear hi hz0 hz1 hz2
  have hb0 : Below w.heap.size w ((w.alloc (.cells #[.int .i64 f.kd, .int .i64 f.fn, .int .i64 f.bk, .int .i64 f.st] 55)).alloc (.cells #[.int .i64 t.kd, .int .i64 t.fn, .int .i64 t.bk, .int .i64 t.st] 55)) :=
    ((Below.refl _ _).alloc (Nat.le_refl _) _).alloc (by simp) _
  have H1 := hid (h.below hb0)
  have HK0 := hid (KeepF.below hb0)
  have HF := hid (((Fb.new w #[.int .i64 f.kd, .int .i64 f.fn, .int .i64 f.bk, .int .i64 f.st] 55).alloc (.cells #[.int .i64 t.kd, .int .i64 t.fn, .int .i64 t.bk, .int .i64 t.st] 55)))
  have HT := hid (show Fb ((w.alloc (.cells #[.int .i64 f.kd, .int .i64 f.fn, .int .i64 f.bk, .int .i64 f.st] 55)).alloc (.cells #[.int .i64 t.kd, .int .i64 t.fn, .int .i64 t.bk, .int .i64 t.st] 55)) (w.heap.size + 1) #[.int .i64 t.kd, .int .i64 t.fn, .int .i64 t.bk, .int .i64 t.st] 55 by
    have := Fb.new (w.alloc (.cells #[.int .i64 f.kd, .int .i64 f.fn, .int .i64 f.bk, .int .i64 f.st] 55)) #[.int .i64 t.kd, .int .i64 t.fn, .int .i64 t.bk, .int .i64 t.st] 55
    rwa [World.size_alloc] at this)
  have Ha := hid (show numN L f < N by rw [← hL]; exact numN_lt (by omega) f)
  have Hc := hid (show numN L t < N by rw [← hL]; exact numN_lt (by omega) t)
  have Hlf := hid (fun (u : World) (hu : NMp u MB L) (q : Nat) => look_drewN hu f hf q)
  have Hlt := hid (fun (u : World) (hu : NMp u MB L) (q : Nat) => look_drewN hu t ht q)
  clear h hb0
  obtain ⟨fk, ff, fb, fs⟩ := f
  obtain ⟨tk, tf, tb, ts⟩ := t
  unfold agN
  simp only at *
  generalize numN L ⟨fk, ff, fb, fs⟩ = a at *
  generalize numN L ⟨tk, tf, tb, ts⟩ = c at *
  go_enter Tryz.func57, Tryz.ntmps57
  go_wp2_with fail
  have hG : ∃ G, w.heap.size = G := ⟨_, rfl⟩
  obtain ⟨G, hG⟩ := hG
  rw [hG] at HF HT ⊢
  clear hG
  generalize (w.alloc (.cells #[.int .i64 fk, .int .i64 ff, .int .i64 fb, .int .i64 fs] 55)).alloc (.cells #[.int .i64 tk, .int .i64 tf, .int .i64 tb, .int .i64 ts] 55) = W at *
  obtain ⟨f0, f1, f2, f3⟩ := Fb.four HF.out
  obtain ⟨t0, t1, t2, t3⟩ := Fb.four HT.out
  obtain ⟨b0, b1, b2⟩ := H1.out.box.thr
  have hlf := Hlf.out W H1.out.map
  go_quiet (fail)
  clear f0 f1 f2 f3 hlf t0 t1 t2 t3 b0 b1 b2
  have H2 := hid (H1.out.below (below_drewN (Below.refl _ _) nq))
  have HK1 := hid (HK0.out.trans (KeepF.below (below_drewN (Below.refl W.heap.size W) nq)))
  have HT2 := hid (HT.out.drewN nq)
  clear HT HF H1 HK0 Hlf
  generalize W.drewN nq = X at *
  have hTl := HT2.out.lt
  obtain ⟨t0, t1, t2, t3⟩ := Fb.four HT2.out
  have hBl := H2.out.box.lt
  obtain ⟨b0, b1, b2⟩ := H2.out.box.thr
  have hMl := H2.out.mx.lt
  have hMl2 : M + 1 ≤ X.heap.size := hMl
  obtain ⟨rv, hown, hcell, hfr, ⟨rA, rc, hrv⟩, -, -⟩ := H2.out.mx.at Ha.out
  have HO := hid hown
  have Hcell := hid hcell
  have hlt := Hlt.out X H2.out.map 1
  change _ = Result.ok _ X.drew at hlt
  change Sem.run _ _ X.drew = _ at hlt
  have hlen := outF_len E a
  have hal : ∀ q o, ((X.drewN q).alloc o).cell? ⟨M, a, none⟩ = some rv := fun q o => by
    rw [World.cell?_alloc_lt (X.drewN q) o ⟨M, a, none⟩ (by exact hMl)]; exact hcell
  have HA := hid hal
  have HTf := hid HT2.out
  clear hown hal HT2 Hlt
  subst hrv
  have han := Ha.out
  have HSd := hid (show ∀ v : World, Below X.heap.size X v → (v.cell? ⟨B, 1, none⟩ = some (.map (some MB)) ∧ v.cell? ⟨B, 2, none⟩ = some (.slice (some ⟨M, 0, none⟩) N N)) ∧ (v.cell? ⟨G + 1, 0, none⟩ = some (.int .i64 tk) ∧ v.cell? ⟨G + 1, 1, none⟩ = some (.int .i64 tf) ∧ v.cell? ⟨G + 1, 2, none⟩ = some (.int .i64 tb) ∧ v.cell? ⟨G + 1, 3, none⟩ = some (.int .i64 ts)) from fun v hv =>
    ⟨⟨(hv.cell (p := ⟨B, 1, none⟩) hBl).trans b1, (hv.cell (p := ⟨B, 2, none⟩) hBl).trans b2⟩, (hv.cell (p := ⟨G + 1, 0, none⟩) hTl).trans t0, (hv.cell (p := ⟨G + 1, 1, none⟩) hTl).trans t1, (hv.cell (p := ⟨G + 1, 2, none⟩) hTl).trans t2, (hv.cell (p := ⟨G + 1, 3, none⟩) hTl).trans t3⟩)
  have HBM := hid (H2.out.mx.fb H2.out.box (by decide))
  have HGM := hid (H2.out.mx.fb HTf.out (by decide))
  go_wp2_with fail
  refine wp_region_noPanic ?_
  refine wp_region_held_drew (S := (fun v => (v.cell? ⟨B, 1, none⟩ = some (.map (some MB)) ∧ v.cell? ⟨B, 2, none⟩ = some (.slice (some ⟨M, 0, none⟩) N N)) ∧ (v.cell? ⟨G + 1, 0, none⟩ = some (.int .i64 tk) ∧ v.cell? ⟨G + 1, 1, none⟩ = some (.int .i64 tf) ∧ v.cell? ⟨G + 1, 2, none⟩ = some (.int .i64 tb) ∧ v.cell? ⟨G + 1, 3, none⟩ = some (.int .i64 ts)))) (by kernel_rfl) (HSd.out _ (Below.refl _ _).drew) (fun hHeld => ?_)
  refine wpAnyH_take (i := 0) (oi := _) (v := ?_) rfl (by kernel_rfl) (by kernel_rfl) (by kernel_rfl) (fun _ _ _ h => h) (Or.inl ⟨by rfl, ?_⟩) (by assumption) ?_
  rotate_left
  · (intro w hSw; (try dsimp only at hSw); go_simp; try with_reducible rfl)
  try simp only [Act.put, List.setIfInBounds_toArray, List.set_cons_zero, List.set_cons_succ]
  refine wpAnyH_take (i := 1) (oi := _) (v := ?_) rfl (by kernel_rfl) (by kernel_rfl) (by kernel_rfl) (fun _ _ _ h => h) (Or.inl ⟨by rfl, ?_⟩) (by assumption) ?_
  rotate_left
  · (intro w hSw; (try dsimp only at hSw); go_simp; try with_reducible rfl)
  try simp only [Act.put, List.setIfInBounds_toArray, List.set_cons_zero, List.set_cons_succ]
  refine wpAnyH_take (i := 2) (oi := _) (v := ?_) rfl (by kernel_rfl) (by kernel_rfl) (by kernel_rfl) (fun _ _ _ h => h) (Or.inl ⟨by rfl, ?_⟩) (by assumption) ?_
  rotate_left
  · (intro w hSw; (try dsimp only at hSw); go_simp; try with_reducible rfl)
  try simp only [Act.put, List.setIfInBounds_toArray, List.set_cons_zero, List.set_cons_succ]
  refine wpAnyH_take (i := 3) (oi := _) (v := ?_) rfl (by kernel_rfl) (by kernel_rfl) (by kernel_rfl) (fun _ _ _ h => h) (Or.inl ⟨by rfl, ?_⟩) (by assumption) ?_
  rotate_left
  · (intro w hSw; (try dsimp only at hSw); go_simp; try with_reducible rfl)
  try simp only [Act.put, List.setIfInBounds_toArray, List.set_cons_zero, List.set_cons_succ]
  refine wpAnyH_take (i := 4) (oi := _) (v := ?_) rfl (by kernel_rfl) (by kernel_rfl) (by kernel_rfl) (fun _ _ _ h => h) (Or.inl ⟨by rfl, ?_⟩) (by assumption) ?_
  rotate_left
  · (intro w hSw; (try dsimp only at hSw); go_simp; try with_reducible rfl)
  try simp only [Act.put, List.setIfInBounds_toArray, List.set_cons_zero, List.set_cons_succ]
  refine wpAnyH_take (i := 5) (oi := _) (v := ?_) rfl (by kernel_rfl) (by kernel_rfl) (by kernel_rfl) (fun _ _ _ h => h) (Or.inl ⟨by rfl, ?_⟩) (by assumption) ?_
  rotate_left
  · (intro w hSw; (try dsimp only at hSw); go_simp; try with_reducible rfl)
  try simp only [Act.put, List.setIfInBounds_toArray, List.set_cons_zero, List.set_cons_succ]
  refine wpAnyH_take (i := 6) (oi := _) (v := ?_) rfl (by kernel_rfl) (by kernel_rfl) (by kernel_rfl) (fun _ _ _ h => h) (Or.inl ⟨by rfl, ?_⟩) (by assumption) ?_
  rotate_left
  · (intro w hSw; (try dsimp only at hSw); go_simp; try with_reducible rfl)
  try simp only [Act.put, List.setIfInBounds_toArray, List.set_cons_zero, List.set_cons_succ]
  refine wpAnyH_take (i := 7) (oi := _) (v := ?_) rfl (by kernel_rfl) (by kernel_rfl) (by kernel_rfl) (fun _ _ _ h => h) (Or.inl ⟨by rfl, ?_⟩) (by assumption) ?_
  rotate_left
  · (intro w hSw; (try dsimp only at hSw); go_simp; try with_reducible rfl)
  try simp only [Act.put, List.setIfInBounds_toArray, List.set_cons_zero, List.set_cons_succ]
  refine wpAnyH_take (i := 8) (oi := _) (v := ?_) rfl (by kernel_rfl) (by kernel_rfl) (by kernel_rfl) (fun _ _ _ h => h) (Or.inl ⟨by rfl, ?_⟩) (by assumption) ?_
  rotate_left
  · (intro w hSw; (try dsimp only at hSw); go_simp; try with_reducible rfl)
  try simp only [Act.put, List.setIfInBounds_toArray, List.set_cons_zero, List.set_cons_succ]
  refine wpAnyH_take (i := 9) (oi := _) (v := ?_) rfl (by kernel_rfl) (by kernel_rfl) (by kernel_rfl) (fun _ _ _ h => h) (Or.inl ⟨by rfl, ?_⟩) (by assumption) ?_
  rotate_left
  · (intro w hSw; (try dsimp only at hSw); go_simp; try with_reducible rfl)
  try simp only [Act.put, List.setIfInBounds_toArray, List.set_cons_zero, List.set_cons_succ]
  refine wpAnyH_take (i := 10) (oi := _) (v := ?_) rfl (by kernel_rfl) (by kernel_rfl) (by kernel_rfl) (fun _ _ _ h => h) (Or.inl ⟨by rfl, ?_⟩) (by assumption) ?_
  rotate_left
  · (intro w hSw; (try dsimp only at hSw); go_simp; try with_reducible rfl)
  try simp only [Act.put, List.setIfInBounds_toArray, List.set_cons_zero, List.set_cons_succ]
  refine wpAnyH_take (i := 12) (oi := _) (v := ?_) rfl (by kernel_rfl) (by kernel_rfl) (by kernel_rfl) (fun _ _ _ h => h) (Or.inl ⟨by rfl, ?_⟩) (by assumption) ?_
  rotate_left
  · (intro w hSw; (try dsimp only at hSw); go_simp; try with_reducible rfl)
  try simp only [Act.put, List.setIfInBounds_toArray, List.set_cons_zero, List.set_cons_succ]
  refine wpAnyH_take (i := 13) (oi := _) (v := ?_) rfl (by kernel_rfl) (by kernel_rfl) (by kernel_rfl) (fun _ _ _ h => h) (Or.inl ⟨by rfl, ?_⟩) (by assumption) ?_
  rotate_left
  · (intro w hSw; (try dsimp only at hSw); go_simp; try with_reducible rfl)
  try simp only [Act.put, List.setIfInBounds_toArray, List.set_cons_zero, List.set_cons_succ]
  refine wpAnyH_take (i := 14) (oi := _) (v := ?_) rfl (by kernel_rfl) (by kernel_rfl) (by kernel_rfl) (fun _ _ _ h => h) (Or.inl ⟨by rfl, ?_⟩) (by assumption) ?_
  rotate_left
  · (intro w hSw; (try dsimp only at hSw); go_simp; try with_reducible rfl)
  try simp only [Act.put, List.setIfInBounds_toArray, List.set_cons_zero, List.set_cons_succ]
  refine wpAnyH_take (i := 15) (oi := _) (v := ?_) rfl (by kernel_rfl) (by kernel_rfl) (by kernel_rfl) (fun _ _ _ h => h) (Or.inl ⟨by rfl, ?_⟩) (by assumption) ?_
  rotate_left
  · (intro w hSw; (try dsimp only at hSw); go_simp; try with_reducible rfl)
  try simp only [Act.put, List.setIfInBounds_toArray, List.set_cons_zero, List.set_cons_succ]
  refine wpAnyH_take (i := 16) (oi := _) (v := ?_) rfl (by kernel_rfl) (by kernel_rfl) (by kernel_rfl) (fun _ _ _ h => h) (Or.inl ⟨by rfl, ?_⟩) (by assumption) ?_
  rotate_left
  · (intro w hSw; (try dsimp only at hSw); go_simp; try with_reducible rfl)
  try simp only [Act.put, List.setIfInBounds_toArray, List.set_cons_zero, List.set_cons_succ]
  refine wpAnyH_ready (rs := [11, 17]) (by kernel_rfl) (by simp) ?_
  refine AllReadyH.cons (o := _) rfl (fun K hK => ?_) ?_
  ·
    go_simp
    refine hK.out _ _ ?_ (fun hHeld => ?_)
    · ((try dsimp only); (first | (with_reducible exact HSd.out _ (Below.refl _ _).drew) | (exact HSd.out _ ((Below.refl _ _).drew.alloc (by simp) _)) | assumption | (exact HS9.out) | (exact HS9s.out _)))
    clear hK K
    try simp only [Act.put, List.setIfInBounds_toArray, List.set_cons_zero, List.set_cons_succ]
    refine wpAnyH_ready (rs := [17]) (by kernel_rfl) (by simp) ?_
    refine AllReadyH.cons (o := _) rfl (fun K hK => ?_) ?_
    ·
      go_simp
      refine hK.out _ _ ?_ (fun hHeld => ?_)
      · ((try dsimp only); (first | (with_reducible exact HSd.out _ (Below.refl _ _).drew) | (exact HSd.out _ ((Below.refl _ _).drew.alloc (by simp) _)) | assumption | (exact HS9.out) | (exact HS9s.out _)))
      clear hK K
      try simp only [Act.put, List.setIfInBounds_toArray, List.set_cons_zero, List.set_cons_succ]
      refine wpAnyH_ready (rs := [18]) (by kernel_rfl) (by simp) ?_
      refine AllReadyH.cons (o := _) rfl (fun K hK => ?_) ?_
      ·
        go_simp
        refine hK.out _ _ ?_ (fun hHeld => ?_)
        · ((try dsimp only); (first | (with_reducible exact HSd.out _ (Below.refl _ _).drew) | (exact HSd.out _ ((Below.refl _ _).drew.alloc (by simp) _)) | assumption | (exact HS9.out) | (exact HS9s.out _)))
        clear hK K
        try simp only [Act.put, List.setIfInBounds_toArray, List.set_cons_zero, List.set_cons_succ]
        refine wpAnyH_ready (rs := [19]) (by kernel_rfl) (by simp) ?_
        refine AllReadyH.cons (o := _) rfl (fun K hK => ?_) ?_
        ·
          ((refine step_append_lies _ (by rfl) _ _ 22 (by rfl) (M + 1) 3 i1 _ 1 8 Tryz.underlying22 Hi.out Hz0.out Hz1.out Hz2.out (by rfl) (by decide) (.slice rA (outF E a).length rc) (outF E a).length (ints (outF E a)) (by rfl) (by exact own_below HO.out ((below_drewN (Below.refl _ _) 1).alloc (by simp) _))
                    ⟨_, 0, none⟩ 1 1 [Value.int .i64 (c : Int)] (by rfl) rfl (by exact int_new _ _ _) (one_int1 _) (by decide) (by unfold maxLen; omega) (by omega) (by simp; omega) _ rfl ?_))
          intro g9 cap9 w9 hown9 hgr9 hat9 hlt9
          obtain ⟨⟨⟨y0, y1⟩, hbx⟩, h9, hk9⟩ := Bls.push (H2.out.below ((below_drewN (Below.refl _ _) 1).alloc (by simp) _)) Ha.out (HA.out 1 _) hown9 hgr9 hat9
          have H9 := hid h9
          have HK9 := hid (HK1.out.trans ((KeepF.below ((below_drewN (Below.refl _ _) 1).alloc (by simp) _)).trans hk9))
          obtain ⟨u0, u1, u2⟩ := hbx.thr
          have hul := hbx.lt
          have HT9 := hk9.2 (G + 1) _ 55 (by decide) (by decide) (HTf.out.below ((below_drewN (Below.refl _ _) 1).alloc (by simp) _) HTf.out.lt)
          have HS9 := hid (And.intro (And.intro u1 u2) (Fb.four (tcells9 HT9 HGM.out)))
          have HS9s := hid (fun u => And.intro (And.intro ((cell_far (p := ⟨M, a, none⟩) (q := ⟨B, 1, none⟩) HBM.out u).trans u1) ((cell_far (p := ⟨M, a, none⟩) (q := ⟨B, 2, none⟩) HBM.out u).trans u2)) (Fb.four ((tcells9 HT9 HGM.out).far (p := ⟨M, a, none⟩) HGM.out u)))
          clear HT9 hown9 hgr9 hat9 hlt9 h9 hk9 hbx
          refine hK.out _ _ ?_ (fun hHeld => ?_)
          · ((try dsimp only); (first | (with_reducible exact HSd.out _ (Below.refl _ _).drew) | (exact HSd.out _ ((Below.refl _ _).drew.alloc (by simp) _)) | assumption | (exact HS9.out) | (exact HS9s.out _)))
          clear hK K
          try simp only [Act.put, List.setIfInBounds_toArray, List.set_cons_zero, List.set_cons_succ]
          refine wpAnyH_take (i := 20) (oi := _) (v := ?_) rfl (by kernel_rfl) (by kernel_rfl) (by kernel_rfl) (fun _ _ _ h => h) (Or.inl ⟨by rfl, ?_⟩) (by assumption) ?_
          rotate_left
          · (intro w hSw; (try dsimp only at hSw); go_simp; try with_reducible rfl)
          try simp only [Act.put, List.setIfInBounds_toArray, List.set_cons_zero, List.set_cons_succ]
          refine wpAnyH_ready (rs := [21]) (by kernel_rfl) (by simp) ?_
          refine AllReadyH.cons (o := _) rfl (fun K hK => ?_) ?_
          ·
            go_simp
            refine hK.out _ _ ?_ (fun hHeld => ?_)
            · ((try dsimp only); (first | (with_reducible exact HSd.out _ (Below.refl _ _).drew) | (exact HSd.out _ ((Below.refl _ _).drew.alloc (by simp) _)) | assumption | (exact HS9.out) | (exact HS9s.out _)))
            clear hK K
            try simp only [Act.put, List.setIfInBounds_toArray, List.set_cons_zero, List.set_cons_succ]
            refine wpAnyH_done (by kernel_rfl) ?_ _
            refine NoPanic.normal ?_
            go_wp2_with fail
            refine bodyPost_end (v := .tuple #[]) (by simp [results, Tryz.results57]) rfl ⟨rfl, H9.out, HK9.out⟩
          exact AllReadyH.nil
        exact AllReadyH.nil
      exact AllReadyH.nil
    exact AllReadyH.nil
  refine AllReadyH.cons (o := _) rfl (fun K hK => ?_) ?_
  ·
    go_simp
    refine hK.out _ _ ?_ (fun hHeld => ?_)
    · ((try dsimp only); (first | (with_reducible exact HSd.out _ (Below.refl _ _).drew) | (exact HSd.out _ ((Below.refl _ _).drew.alloc (by simp) _)) | assumption | (exact HS9.out) | (exact HS9s.out _)))
    clear hK K
    try simp only [Act.put, List.setIfInBounds_toArray, List.set_cons_zero, List.set_cons_succ]
    refine wpAnyH_ready (rs := [11, 18]) (by kernel_rfl) (by simp) ?_
    refine AllReadyH.cons (o := _) rfl (fun K hK => ?_) ?_
    ·
      go_simp
      refine hK.out _ _ ?_ (fun hHeld => ?_)
      · ((try dsimp only); (first | (with_reducible exact HSd.out _ (Below.refl _ _).drew) | (exact HSd.out _ ((Below.refl _ _).drew.alloc (by simp) _)) | assumption | (exact HS9.out) | (exact HS9s.out _)))
      clear hK K
      try simp only [Act.put, List.setIfInBounds_toArray, List.set_cons_zero, List.set_cons_succ]
      refine wpAnyH_ready (rs := [18]) (by kernel_rfl) (by simp) ?_
      refine AllReadyH.cons (o := _) rfl (fun K hK => ?_) ?_
      ·
        go_simp
        refine hK.out _ _ ?_ (fun hHeld => ?_)
        · ((try dsimp only); (first | (with_reducible exact HSd.out _ (Below.refl _ _).drew) | (exact HSd.out _ ((Below.refl _ _).drew.alloc (by simp) _)) | assumption | (exact HS9.out) | (exact HS9s.out _)))
        clear hK K
        try simp only [Act.put, List.setIfInBounds_toArray, List.set_cons_zero, List.set_cons_succ]
        refine wpAnyH_ready (rs := [19]) (by kernel_rfl) (by simp) ?_
        refine AllReadyH.cons (o := _) rfl (fun K hK => ?_) ?_
        ·
          ((refine step_append_lies _ (by rfl) _ _ 22 (by rfl) (M + 1) 3 i1 _ 1 8 Tryz.underlying22 Hi.out Hz0.out Hz1.out Hz2.out (by rfl) (by decide) (.slice rA (outF E a).length rc) (outF E a).length (ints (outF E a)) (by rfl) (by exact own_below HO.out ((below_drewN (Below.refl _ _) 1).alloc (by simp) _))
                    ⟨_, 0, none⟩ 1 1 [Value.int .i64 (c : Int)] (by rfl) rfl (by exact int_new _ _ _) (one_int1 _) (by decide) (by unfold maxLen; omega) (by omega) (by simp; omega) _ rfl ?_))
          intro g9 cap9 w9 hown9 hgr9 hat9 hlt9
          obtain ⟨⟨⟨y0, y1⟩, hbx⟩, h9, hk9⟩ := Bls.push (H2.out.below ((below_drewN (Below.refl _ _) 1).alloc (by simp) _)) Ha.out (HA.out 1 _) hown9 hgr9 hat9
          have H9 := hid h9
          have HK9 := hid (HK1.out.trans ((KeepF.below ((below_drewN (Below.refl _ _) 1).alloc (by simp) _)).trans hk9))
          obtain ⟨u0, u1, u2⟩ := hbx.thr
          have hul := hbx.lt
          have HT9 := hk9.2 (G + 1) _ 55 (by decide) (by decide) (HTf.out.below ((below_drewN (Below.refl _ _) 1).alloc (by simp) _) HTf.out.lt)
          have HS9 := hid (And.intro (And.intro u1 u2) (Fb.four (tcells9 HT9 HGM.out)))
          have HS9s := hid (fun u => And.intro (And.intro ((cell_far (p := ⟨M, a, none⟩) (q := ⟨B, 1, none⟩) HBM.out u).trans u1) ((cell_far (p := ⟨M, a, none⟩) (q := ⟨B, 2, none⟩) HBM.out u).trans u2)) (Fb.four ((tcells9 HT9 HGM.out).far (p := ⟨M, a, none⟩) HGM.out u)))
          clear HT9 hown9 hgr9 hat9 hlt9 h9 hk9 hbx
          refine hK.out _ _ ?_ (fun hHeld => ?_)
          · ((try dsimp only); (first | (with_reducible exact HSd.out _ (Below.refl _ _).drew) | (exact HSd.out _ ((Below.refl _ _).drew.alloc (by simp) _)) | assumption | (exact HS9.out) | (exact HS9s.out _)))
          clear hK K
          try simp only [Act.put, List.setIfInBounds_toArray, List.set_cons_zero, List.set_cons_succ]
          refine wpAnyH_take (i := 20) (oi := _) (v := ?_) rfl (by kernel_rfl) (by kernel_rfl) (by kernel_rfl) (fun _ _ _ h => h) (Or.inl ⟨by rfl, ?_⟩) (by assumption) ?_
          rotate_left
          · (intro w hSw; (try dsimp only at hSw); go_simp; try with_reducible rfl)
          try simp only [Act.put, List.setIfInBounds_toArray, List.set_cons_zero, List.set_cons_succ]
          refine wpAnyH_ready (rs := [21]) (by kernel_rfl) (by simp) ?_
          refine AllReadyH.cons (o := _) rfl (fun K hK => ?_) ?_
          ·
            go_simp
            refine hK.out _ _ ?_ (fun hHeld => ?_)
            · ((try dsimp only); (first | (with_reducible exact HSd.out _ (Below.refl _ _).drew) | (exact HSd.out _ ((Below.refl _ _).drew.alloc (by simp) _)) | assumption | (exact HS9.out) | (exact HS9s.out _)))
            clear hK K
            try simp only [Act.put, List.setIfInBounds_toArray, List.set_cons_zero, List.set_cons_succ]
            refine wpAnyH_done (by kernel_rfl) ?_ _
            refine NoPanic.normal ?_
            go_wp2_with fail
            refine bodyPost_end (v := .tuple #[]) (by simp [results, Tryz.results57]) rfl ⟨rfl, H9.out, HK9.out⟩
          exact AllReadyH.nil
        exact AllReadyH.nil
      exact AllReadyH.nil
    refine AllReadyH.cons (o := _) rfl (fun K hK => ?_) ?_
    ·
      go_simp
      refine hK.out _ _ ?_ (fun hHeld => ?_)
      · ((try dsimp only); (first | (with_reducible exact HSd.out _ (Below.refl _ _).drew) | (exact HSd.out _ ((Below.refl _ _).drew.alloc (by simp) _)) | assumption | (exact HS9.out) | (exact HS9s.out _)))
      clear hK K
      try simp only [Act.put, List.setIfInBounds_toArray, List.set_cons_zero, List.set_cons_succ]
      refine wpAnyH_ready (rs := [11]) (by kernel_rfl) (by simp) ?_
      refine AllReadyH.cons (o := _) rfl (fun K hK => ?_) ?_
      ·
        go_simp
        refine hK.out _ _ ?_ (fun hHeld => ?_)
        · ((try dsimp only); (first | (with_reducible exact HSd.out _ (Below.refl _ _).drew) | (exact HSd.out _ ((Below.refl _ _).drew.alloc (by simp) _)) | assumption | (exact HS9.out) | (exact HS9s.out _)))
        clear hK K
        try simp only [Act.put, List.setIfInBounds_toArray, List.set_cons_zero, List.set_cons_succ]
        refine wpAnyH_ready (rs := [19]) (by kernel_rfl) (by simp) ?_
        refine AllReadyH.cons (o := _) rfl (fun K hK => ?_) ?_
        ·
          ((refine step_append_lies _ (by rfl) _ _ 22 (by rfl) (M + 1) 3 i1 _ 1 8 Tryz.underlying22 Hi.out Hz0.out Hz1.out Hz2.out (by rfl) (by decide) (.slice rA (outF E a).length rc) (outF E a).length (ints (outF E a)) (by rfl) (by exact own_below HO.out ((below_drewN (Below.refl _ _) 1).alloc (by simp) _))
                    ⟨_, 0, none⟩ 1 1 [Value.int .i64 (c : Int)] (by rfl) rfl (by exact int_new _ _ _) (one_int1 _) (by decide) (by unfold maxLen; omega) (by omega) (by simp; omega) _ rfl ?_))
          intro g9 cap9 w9 hown9 hgr9 hat9 hlt9
          obtain ⟨⟨⟨y0, y1⟩, hbx⟩, h9, hk9⟩ := Bls.push (H2.out.below ((below_drewN (Below.refl _ _) 1).alloc (by simp) _)) Ha.out (HA.out 1 _) hown9 hgr9 hat9
          have H9 := hid h9
          have HK9 := hid (HK1.out.trans ((KeepF.below ((below_drewN (Below.refl _ _) 1).alloc (by simp) _)).trans hk9))
          obtain ⟨u0, u1, u2⟩ := hbx.thr
          have hul := hbx.lt
          have HT9 := hk9.2 (G + 1) _ 55 (by decide) (by decide) (HTf.out.below ((below_drewN (Below.refl _ _) 1).alloc (by simp) _) HTf.out.lt)
          have HS9 := hid (And.intro (And.intro u1 u2) (Fb.four (tcells9 HT9 HGM.out)))
          have HS9s := hid (fun u => And.intro (And.intro ((cell_far (p := ⟨M, a, none⟩) (q := ⟨B, 1, none⟩) HBM.out u).trans u1) ((cell_far (p := ⟨M, a, none⟩) (q := ⟨B, 2, none⟩) HBM.out u).trans u2)) (Fb.four ((tcells9 HT9 HGM.out).far (p := ⟨M, a, none⟩) HGM.out u)))
          clear HT9 hown9 hgr9 hat9 hlt9 h9 hk9 hbx
          refine hK.out _ _ ?_ (fun hHeld => ?_)
          · ((try dsimp only); (first | (with_reducible exact HSd.out _ (Below.refl _ _).drew) | (exact HSd.out _ ((Below.refl _ _).drew.alloc (by simp) _)) | assumption | (exact HS9.out) | (exact HS9s.out _)))
          clear hK K
          try simp only [Act.put, List.setIfInBounds_toArray, List.set_cons_zero, List.set_cons_succ]
          refine wpAnyH_take (i := 20) (oi := _) (v := ?_) rfl (by kernel_rfl) (by kernel_rfl) (by kernel_rfl) (fun _ _ _ h => h) (Or.inl ⟨by rfl, ?_⟩) (by assumption) ?_
          rotate_left
          · (intro w hSw; (try dsimp only at hSw); go_simp; try with_reducible rfl)
          try simp only [Act.put, List.setIfInBounds_toArray, List.set_cons_zero, List.set_cons_succ]
          refine wpAnyH_ready (rs := [21]) (by kernel_rfl) (by simp) ?_
          refine AllReadyH.cons (o := _) rfl (fun K hK => ?_) ?_
          ·
            go_simp
            refine hK.out _ _ ?_ (fun hHeld => ?_)
            · ((try dsimp only); (first | (with_reducible exact HSd.out _ (Below.refl _ _).drew) | (exact HSd.out _ ((Below.refl _ _).drew.alloc (by simp) _)) | assumption | (exact HS9.out) | (exact HS9s.out _)))
            clear hK K
            try simp only [Act.put, List.setIfInBounds_toArray, List.set_cons_zero, List.set_cons_succ]
            refine wpAnyH_done (by kernel_rfl) ?_ _
            refine NoPanic.normal ?_
            go_wp2_with fail
            refine bodyPost_end (v := .tuple #[]) (by simp [results, Tryz.results57]) rfl ⟨rfl, H9.out, HK9.out⟩
          exact AllReadyH.nil
        exact AllReadyH.nil
      exact AllReadyH.nil
    exact AllReadyH.nil
  exact AllReadyH.nil
end Go.Proofs.YtmbelhdkaepohaaGreatDoor

namespace Go.Proofs.YtmbelhdkaepohaaGreatDoor
set_option maxRecDepth 20000
set_option linter.unusedVariables false
set_option linter.unusedSimpArgs false
open Go.ChangeShapes Go.WideShapes Go.ChangeAt Go.RowKit

/-- The first place of a name, or -1. -/
def nmI (ns : List ByteArray) (s : ByteArray) : Int := match ns.findIdx? fun x => decide (x = s) with
  | some i => (i : Int)
  | none => -1
theorem nmI_hit {ns : List ByteArray} {s : ByteArray} {k : Nat} (h : ∀ (j : Nat) (x : ByteArray), j < k → ns[j]? = some x → x ≠ s) (hk : ns[k]? = some s) : nmI ns s = k := by
  unfold nmI
  have : ns.findIdx? (fun x => decide (x = s)) = some k := by
    rw [List.findIdx?_eq_some_iff_getElem]
    obtain ⟨h1, h2⟩ := List.getElem?_eq_some_iff.1 hk
    exact ⟨h1, by simp [h2], fun j hj => by simpa using h j _ hj (List.getElem?_eq_getElem (by omega))⟩
  rw [this]
theorem nmI_end {ns : List ByteArray} {s : ByteArray} {n : Nat} (hn : ns.length = n) (h : ∀ (j : Nat) (x : ByteArray), j < n → ns[j]? = some x → x ≠ s) : nmI ns s = -1 := by
  unfold nmI
  have : ns.findIdx? (fun x => decide (x = s)) = none := by
    rw [List.findIdx?_eq_none_iff]
    intro x hx
    obtain ⟨j, hj, rfl⟩ := List.mem_iff_getElem.1 hx
    simpa using h j _ (by omega) (List.getElem?_eq_getElem hj)
  rw [this]
theorem str_ne {a b : ByteArray} (h : a ≠ b) : (a.toList == b.toList) = false := by
  have : a.toList ≠ b.toList := fun e => h (by
    apply list_ext2
    rw [← toList_data, ← toList_data, e])
  simpa using this
set_option maxHeartbeats 1600000 in
theorem blockIs_any (s nm : ByteArray) (A : Option Addr) (n c p : Nat) (w : World) (hp : w.cell? ⟨p, 0, none⟩ = some (.string s)) (hpl : p < w.heap.size) :
    Calls Tryz.prog 107 #[.agg #[.string nm, .slice A n c], .pointer (some ⟨p, 0, none⟩)] w fun e w' => e = .returned (.bool (decide (nm = s))) ∧ Below w.heap.size w w' := by
  have HB := hid ((Below.refl w.heap.size w).alloc (Nat.le_refl _) (.cells #[.string nm, .slice A n c] 95))
  by_cases e : nm = s
  · subst e
    have Hr := hid (show decide (nm = nm) = true by simp)
    go_enter Tryz.func107, Tryz.ntmps107
    go_wp2_with fail
    go_ret
    exact ⟨ret_b Hr.out, HB.out⟩
  · have t1 := str_ne e
    have Hr := hid (show decide (nm = s) = false by simpa using e)
    clear e
    go_enter Tryz.func107, Tryz.ntmps107
    go_wp2_with fail
    go_ret
    exact ⟨ret_b Hr.out, HB.out⟩
set_option maxHeartbeats 1600000 in
theorem idxB_any (A : Option Addr) (n c : Nat) (l : List BH) (s : ByteArray) (p : Nat) (ex : List (Option Nat)) (w : World) (h : EAt w ex A (l.flatMap bhc)) (hl : l.length = n) (hn : n ≤ 1000) (hp : w.cell? ⟨p, 0, none⟩ = some (.string s)) (hpl : p < w.heap.size) :
    Calls Tryz.prog 106 #[.slice A n c, .func (Fn.func 107) #[] #[.pointer (some ⟨p, 0, none⟩)]] w fun e w' => e = .returned (.int .i64 (nmI (l.map BH.name) s)) ∧ Below w.heap.size w w' := by
  have HE := hid h
  have HL := hid hl
  have HP := hid (And.intro hp hpl)
  have HN := hid (show (l.map BH.name).length = n by rw [List.length_map, hl])
  have Hnm := hid (fun (k : Nat) (y : BH) (hy : l[k]? = some y) => show (l.map BH.name)[k]? = some y.name by rw [List.getElem?_map, hy]; rfl)
  clear h hp hpl hl
  generalize hns : l.map BH.name = ns at *
  clear hns
  go_enter Tryz.func106, Tryz.ntmps106
  go_wp2_with fail
  go_loopw [5, 8] (fun _ iv wr => ∃ k : Nat, k ≤ n ∧ iv = .int .i64 k ∧ Hid (∀ (j : Nat) (x : ByteArray), j < k → ns[j]? = some x → x ≠ s) ∧ Hid (Below w.heap.size w wr)) (fun _ iv _ => n - (intOf iv).toNat)
  case atStart => exact ⟨0, by omega, rfl, hid (fun j x h => by omega), hid (Below.refl _ _)⟩
  case round =>
    obtain ⟨k, hk, rfl, hE, hB⟩ := hrel
    by_cases hlt : k < n
    · obtain ⟨y, hy, hym⟩ := get_at HL.out hlt
      obtain ⟨ad, hA, had, hc1, hc2⟩ := BH.cells (HE.out.go (Go2.below hB.out)) hy
      subst hA
      have Hy := hid (Hnm.out k y hy)
      have HC := hid (blockIs_any s y.name y.A y.n y.c p wr ((hB.out.cell (p := ⟨p, 0, none⟩) HP.out.2).trans HP.out.1) (Nat.lt_of_lt_of_le HP.out.2 hB.out.size))
      clear hy hym
      obtain ⟨ynm, yA, yn, yc, yl⟩ := y
      simp only at *
      go_wp2_with fail
      refine HC.out.mono ?_
      rintro e w1 ⟨rfl, hb1⟩
      have HB1 := hid (below_step hB.out hb1)
      clear hb1 hB HC
      cases hd : decide (ynm = s) with
      | true =>
        as_aux_lemma =>
          have Hr := hid (nmI_hit hE.out (by rw [Hy.out]; exact congrArg some (of_decide_eq_true hd)))
          clear hd
          go_wp2_with fail
          go_ret
          exact ⟨ret_i Hr.out, HB1.out⟩
      | false =>
        as_aux_lemma =>
          have Hr := hid (show ∀ (j : Nat) (x : ByteArray), j < k + 1 → ns[j]? = some x → x ≠ s by
            intro j x hj hx
            by_cases e : j = k
            · subst e
              rw [Hy.out] at hx
              rw [← Option.some.inj hx]
              exact of_decide_eq_false hd
            · exact hE.out j x (by omega) hx)
          clear hd
          go_wp2_with fail
          go_roundw
          case rel => exact ⟨k + 1, by omega, by go_num, Hr, HB1⟩
          case measure => simp [intOf]; omega
    · obtain rfl : k = n := by omega
      have Hr := hid (nmI_end HN.out hE.out)
      go_wp2_with fail
      go_ret
      exact ⟨ret_i Hr.out, hB.out⟩
set_option maxHeartbeats 1600000 in
theorem blockIx_any (A : Option Addr) (n c : Nat) (l : List BH) (s : ByteArray) (ex : List (Option Nat)) (w : World) (h : EAt w ex A (l.flatMap bhc)) (hl : l.length = n) (hn : n ≤ 1000) :
    Calls Tryz.prog 83 #[.slice A n c, .string s] w fun e w' => e = .returned (.int .i64 (nmI (l.map BH.name) s)) ∧ Below w.heap.size w w' := by
  have hb := (Below.refl w.heap.size w).alloc (Nat.le_refl _) (.cells #[.string s] 9)
  have HB := hid hb
  have hf := Fb.new w #[.string s] 9
  have HC := hid (idxB_any A n c l s w.heap.size ex _ (h.go (Go2.below hb)) hl hn hf.onec hf.lt)
  clear h hb hf
  go_enter Tryz.func83, Tryz.ntmps83
  go_wp2_with fail
  refine HC.out.mono ?_
  rintro e w1 ⟨rfl, hb1⟩
  have HB1 := hid (below_step HB.out hb1)
  go_wp2_with fail
  go_ret
  exact ⟨rfl, HB1.out⟩
set_option maxHeartbeats 1600000 in
theorem funcIs_any (s nm : ByteArray) (A : Option Addr) (n c p : Nat) (w : World) (hp : w.cell? ⟨p, 0, none⟩ = some (.string s)) (hpl : p < w.heap.size) :
    Calls Tryz.prog 109 #[.agg #[.string nm, .slice A n c], .pointer (some ⟨p, 0, none⟩)] w fun e w' => e = .returned (.bool (decide (nm = s))) ∧ Below w.heap.size w w' := by
  have HB := hid ((Below.refl w.heap.size w).alloc (Nat.le_refl _) (.cells #[.string nm, .slice A n c] 75))
  by_cases e : nm = s
  · subst e
    have Hr := hid (show decide (nm = nm) = true by simp)
    go_enter Tryz.func109, Tryz.ntmps109
    go_wp2_with fail
    go_ret
    exact ⟨ret_b Hr.out, HB.out⟩
  · have t1 := str_ne e
    have Hr := hid (show decide (nm = s) = false by simpa using e)
    clear e
    go_enter Tryz.func109, Tryz.ntmps109
    go_wp2_with fail
    go_ret
    exact ⟨ret_b Hr.out, HB.out⟩
set_option maxHeartbeats 1600000 in
theorem idxF_any (A : Option Addr) (n c : Nat) (l : List FH) (s : ByteArray) (p : Nat) (ex : List (Option Nat)) (w : World) (h : EAt w ex A (l.flatMap fhc)) (hl : l.length = n) (hn : n ≤ 1000) (hp : w.cell? ⟨p, 0, none⟩ = some (.string s)) (hpl : p < w.heap.size) :
    Calls Tryz.prog 108 #[.slice A n c, .func (Fn.func 109) #[] #[.pointer (some ⟨p, 0, none⟩)]] w fun e w' => e = .returned (.int .i64 (nmI (l.map FH.name) s)) ∧ Below w.heap.size w w' := by
  have HE := hid h
  have HL := hid hl
  have HP := hid (And.intro hp hpl)
  have HN := hid (show (l.map FH.name).length = n by rw [List.length_map, hl])
  have Hnm := hid (fun (k : Nat) (y : FH) (hy : l[k]? = some y) => show (l.map FH.name)[k]? = some y.name by rw [List.getElem?_map, hy]; rfl)
  clear h hp hpl hl
  generalize hns : l.map FH.name = ns at *
  clear hns
  go_enter Tryz.func108, Tryz.ntmps108
  go_wp2_with fail
  go_loopw [5, 8] (fun _ iv wr => ∃ k : Nat, k ≤ n ∧ iv = .int .i64 k ∧ Hid (∀ (j : Nat) (x : ByteArray), j < k → ns[j]? = some x → x ≠ s) ∧ Hid (Below w.heap.size w wr)) (fun _ iv _ => n - (intOf iv).toNat)
  case atStart => exact ⟨0, by omega, rfl, hid (fun j x h => by omega), hid (Below.refl _ _)⟩
  case round =>
    obtain ⟨k, hk, rfl, hE, hB⟩ := hrel
    by_cases hlt : k < n
    · obtain ⟨y, hy, hym⟩ := get_at HL.out hlt
      obtain ⟨ad, hA, had, hc1, hc2⟩ := FH.cells (HE.out.go (Go2.below hB.out)) hy
      subst hA
      have Hy := hid (Hnm.out k y hy)
      have HC := hid (funcIs_any s y.name y.A y.n y.c p wr ((hB.out.cell (p := ⟨p, 0, none⟩) HP.out.2).trans HP.out.1) (Nat.lt_of_lt_of_le HP.out.2 hB.out.size))
      clear hy hym
      obtain ⟨ynm, yA, yn, yc, yl⟩ := y
      simp only at *
      go_wp2_with fail
      refine HC.out.mono ?_
      rintro e w1 ⟨rfl, hb1⟩
      have HB1 := hid (below_step hB.out hb1)
      clear hb1 hB HC
      cases hd : decide (ynm = s) with
      | true =>
        as_aux_lemma =>
          have Hr := hid (nmI_hit hE.out (by rw [Hy.out]; exact congrArg some (of_decide_eq_true hd)))
          clear hd
          go_wp2_with fail
          go_ret
          exact ⟨ret_i Hr.out, HB1.out⟩
      | false =>
        as_aux_lemma =>
          have Hr := hid (show ∀ (j : Nat) (x : ByteArray), j < k + 1 → ns[j]? = some x → x ≠ s by
            intro j x hj hx
            by_cases e : j = k
            · subst e
              rw [Hy.out] at hx
              rw [← Option.some.inj hx]
              exact of_decide_eq_false hd
            · exact hE.out j x (by omega) hx)
          clear hd
          go_wp2_with fail
          go_roundw
          case rel => exact ⟨k + 1, by omega, by go_num, Hr, HB1⟩
          case measure => simp [intOf]; omega
    · obtain rfl : k = n := by omega
      have Hr := hid (nmI_end HN.out hE.out)
      go_wp2_with fail
      go_ret
      exact ⟨ret_i Hr.out, hB.out⟩
set_option maxHeartbeats 1600000 in
theorem funcIx_any (A : Option Addr) (n c : Nat) (l : List FH) (s : ByteArray) (ex : List (Option Nat)) (w : World) (h : EAt w ex A (l.flatMap fhc)) (hl : l.length = n) (hn : n ≤ 1000) :
    Calls Tryz.prog 85 #[.slice A n c, .string s] w fun e w' => e = .returned (.int .i64 (nmI (l.map FH.name) s)) ∧ Below w.heap.size w w' := by
  have hb := (Below.refl w.heap.size w).alloc (Nat.le_refl _) (.cells #[.string s] 9)
  have HB := hid hb
  have hf := Fb.new w #[.string s] 9
  have HC := hid (idxF_any A n c l s w.heap.size ex _ (h.go (Go2.below hb)) hl hn hf.onec hf.lt)
  clear h hb hf
  go_enter Tryz.func85, Tryz.ntmps85
  go_wp2_with fail
  refine HC.out.mono ?_
  rintro e w1 ⟨rfl, hb1⟩
  have HB1 := hid (below_step HB.out hb1)
  go_wp2_with fail
  go_ret
  exact ⟨rfl, HB1.out⟩
end Go.Proofs.YtmbelhdkaepohaaGreatDoor

namespace Go.Proofs.YtmbelhdkaepohaaGreatDoor
set_option maxRecDepth 20000
set_option linter.unusedVariables false
set_option linter.unusedSimpArgs false
open Go.ChangeShapes Go.WideShapes Go.ChangeAt Go.RowKit

set_option maxHeartbeats 1600000 in
theorem stmtNode_any (a b c : Int) (w : World) : Calls Tryz.prog 58 #[.int .i64 a, .int .i64 b, .int .i64 c] w fun e w' => e = .returned (.agg #[.int .i64 3, .int .i64 a, .int .i64 b, .int .i64 c]) ∧ Below w.heap.size w w' := by
  go_enter Tryz.func58, Tryz.ntmps58
  go_wp2_with fail
  refine bodyPost_ret (v := .agg #[.int .i64 3, .int .i64 a, .int .i64 b, .int .i64 c]) (by simp [results, Tryz.results58, go_sem]) rfl ⟨rfl, ?_⟩
  exact (Below.refl _ _).alloc (Nat.le_refl _) _
set_option maxHeartbeats 1600000 in
theorem entryNode_any (a : Int) (w : World) : Calls Tryz.prog 86 #[.int .i64 a] w fun e w' => e = .returned (.agg #[.int .i64 1, .int .i64 a, .int .i64 (-1), .int .i64 (-1)]) ∧ Below w.heap.size w w' := by
  go_enter Tryz.func86, Tryz.ntmps86
  go_wp2_with fail
  refine bodyPost_ret (v := .agg #[.int .i64 1, .int .i64 a, .int .i64 (-1), .int .i64 (-1)]) (by simp [results, Tryz.results86, go_sem]) rfl ⟨rfl, ?_⟩
  exact (Below.refl _ _).alloc (Nat.le_refl _) _
set_option maxHeartbeats 1600000 in
theorem exitNode_any (a : Int) (w : World) : Calls Tryz.prog 84 #[.int .i64 a] w fun e w' => e = .returned (.agg #[.int .i64 2, .int .i64 a, .int .i64 (-1), .int .i64 (-1)]) ∧ Below w.heap.size w w' := by
  go_enter Tryz.func84, Tryz.ntmps84
  go_wp2_with fail
  refine bodyPost_ret (v := .agg #[.int .i64 2, .int .i64 a, .int .i64 (-1), .int .i64 (-1)]) (by simp [results, Tryz.results84, go_sem]) rfl ⟨rfl, ?_⟩
  exact (Below.refl _ _).alloc (Nat.le_refl _) _

/-- The edges that begin at a statement's node, and the one by which a call returns. -/
def stE (p : List Fnc) (bs : List Blk) (f b j : Nat) (t : Stm) : List (Nd × Nd) :=
  if t.op == 7 || t.op == 8 then t.ts.map fun s => (⟨3, f, b, j⟩, ⟨3, f, nmI (bs.map Blk.name) s, 0⟩)
  else if t.op == 9 then [(⟨3, f, b, j⟩, ⟨2, f, -1, -1⟩)]
  else if t.op == 3 then [(⟨3, f, b, j⟩, ⟨1, nmI (p.map Fnc.name) (t.ts.getD 0 ByteArray.empty), -1, -1⟩), (⟨2, nmI (p.map Fnc.name) (t.ts.getD 0 ByteArray.empty), -1, -1⟩, ⟨4, f, b, j⟩)]
  else [(⟨3, f, b, j⟩, ⟨3, f, b, (j : Int) + 1⟩)]
def numE (L : List Nd) (e : Nd × Nd) : Nat × Nat := (numN L e.1, numN L e.2)
theorem nmI_bd (ns : List ByteArray) (s : ByteArray) : -1 ≤ nmI ns s ∧ nmI ns s ≤ ns.length := by
  unfold nmI
  cases h : ns.findIdx? (fun x => decide (x = s)) with
  | none => simp
  | some i => have := (List.findIdx?_eq_some_iff_findIdx_eq.1 h).1; simp; omega
/-- The builder, and the box of a node beside it. -/
structure Ls1 (w0 : World) (x : PH) (B MB M N G : Nat) (L : List Nd) (nd : Nd) (E : List (Nat × Nat)) (w : World) : Prop where
  bls : Bls w0 x B MB M N L E w
  nb : Fb w G #[.int .i64 nd.kd, .int .i64 nd.fn, .int .i64 nd.bk, .int .i64 nd.st] 55
theorem Ls1.below {w0 w w' : World} {x : PH} {B MB M N G : Nat} {L : List Nd} {nd : Nd} {E : List (Nat × Nat)} (h : Ls1 w0 x B MB M N G L nd E w) (hb : Below w.heap.size w w') : Ls1 w0 x B MB M N G L nd E w' :=
  ⟨h.bls.below hb, h.nb.below hb h.nb.lt⟩
theorem Ls1.conn {w0 w : World} {x : PH} {B MB M N G : Nat} {L : List Nd} {nd : Nd} {E : List (Nat × Nat)} (h : Ls1 w0 x B MB M N G L nd E w) (hN : 1 ≤ N) (hL : L.length = N) (hE : E.length ≤ 1000000) (f t : Nd) (hf : wfN f) (ht : wfN t) :
    Calls Tryz.prog 57 #[.pointer (some ⟨B, 0, none⟩), .agg #[.int .i64 f.kd, .int .i64 f.fn, .int .i64 f.bk, .int .i64 f.st], .agg #[.int .i64 t.kd, .int .i64 t.fn, .int .i64 t.bk, .int .i64 t.st]] w
      fun e w' => e = .returned (.tuple #[]) ∧ Ls1 w0 x B MB M N G L nd (E ++ [numE L (f, t)]) w' ∧ KeepF w w' :=
  (connect_any w0 x B MB M N L E w h.bls hN hL hE f t hf ht).mono fun _ _ ⟨h1, h2, h3⟩ => ⟨h1, ⟨h2, h3.2 G _ 55 (by decide) (by decide) h.nb⟩, h3⟩
theorem wf_small {k f b s : Int} (h1 : -10 ≤ k ∧ k ≤ 1000000) (h2 : -10 ≤ f ∧ f ≤ 1000000) (h3 : -10 ≤ b ∧ b ≤ 1000000) (h4 : -10 ≤ s ∧ s ≤ 1000000) : wfN ⟨k, f, b, s⟩ := by
  unfold wfN; simp only; omega
/-- The same with the statement's box. -/
structure Ls2 (w0 : World) (x : PH) (B MB M N G H : Nat) (L : List Nd) (nd : Nd) (s : SH) (E : List (Nat × Nat)) (w : World) : Prop where
  ls : Ls1 w0 x B MB M N G L nd E w
  sb : Fb w H #[.int .i64 s.t.op, .string s.t.d, .slice s.A s.n s.c, .slice s.B s.m s.c2] 101
theorem Ls2.below {w0 w w' : World} {x : PH} {B MB M N G H : Nat} {L : List Nd} {nd : Nd} {s : SH} {E : List (Nat × Nat)} (h : Ls2 w0 x B MB M N G H L nd s E w) (hb : Below w.heap.size w w') : Ls2 w0 x B MB M N G H L nd s E w' :=
  ⟨h.ls.below hb, h.sb.below hb h.sb.lt⟩
theorem Ls2.conn {w0 w : World} {x : PH} {B MB M N G H : Nat} {L : List Nd} {nd : Nd} {s : SH} {E : List (Nat × Nat)} (h : Ls2 w0 x B MB M N G H L nd s E w) (hN : 1 ≤ N) (hL : L.length = N) (hE : E.length ≤ 1000000) (f t : Nd) (hf : wfN f) (ht : wfN t) :
    Calls Tryz.prog 57 #[.pointer (some ⟨B, 0, none⟩), .agg #[.int .i64 f.kd, .int .i64 f.fn, .int .i64 f.bk, .int .i64 f.st], .agg #[.int .i64 t.kd, .int .i64 t.fn, .int .i64 t.bk, .int .i64 t.st]] w
      fun e w' => e = .returned (.tuple #[]) ∧ Ls2 w0 x B MB M N G H L nd s (E ++ [numE L (f, t)]) w' ∧ KeepF w w' :=
  (h.ls.conn hN hL hE f t hf ht).mono fun _ _ ⟨h1, h2, h3⟩ => ⟨h1, ⟨h2, h3.2 H _ 101 (by decide) (by decide) h.sb⟩, h3⟩

theorem prog_stm2 {w : World} {ex : List (Option Nat)} {x : PH} (h : PHok w ex x) {f b j : Nat} {F : Fnc} {B : Blk} {t : Stm} (h1 : x.p[f]? = some F) (h2 : F.bs[b]? = some B) (h3 : B.ss[j]? = some t) :
    ∃ (y : FH) (z : BH) (s : SH), x.l[f]? = some y ∧ y ∈ x.l ∧ y.l[b]? = some z ∧ z ∈ y.l ∧ z.l[j]? = some s ∧ s ∈ z.l ∧ s.t = t ∧ y.f = F ∧ z.b = B := by
  unfold PH.p at h1
  rw [List.getElem?_map] at h1
  obtain ⟨y, hy, rfl⟩ := Option.map_eq_some_iff.1 h1
  change (y.l.map BH.b)[b]? = some B at h2
  rw [List.getElem?_map] at h2
  obtain ⟨z, hz, rfl⟩ := Option.map_eq_some_iff.1 h2
  change (z.l.map SH.t)[j]? = some t at h3
  rw [List.getElem?_map] at h3
  obtain ⟨s, hs, rfl⟩ := Option.map_eq_some_iff.1 h3
  exact ⟨y, z, s, hy, List.mem_of_getElem? hy, hz, List.mem_of_getElem? hz, hs, List.mem_of_getElem? hs, rfl, rfl, rfl⟩
theorem ts_snoc {L : List Nd} {E : List (Nat × Nat)} {g : ByteArray → Nd × Nd} {ts : List ByteArray} {k : Nat} {s : ByteArray} (h : ts[k]? = some s) : (E ++ ((ts.take k).map g).map (numE L)) ++ [numE L (g s)] = E ++ ((ts.take (k + 1)).map g).map (numE L) := by
  rw [List.take_add_one, h]; simp

def gE (bs : List Blk) (f b j : Nat) (s : ByteArray) : Nd × Nd := (⟨3, f, b, j⟩, ⟨3, f, nmI (bs.map Blk.name) s, 0⟩)

set_option maxHeartbeats 16000000 in
theorem leaveStmt_any (w0 : World) (x : PH) (ex : List (Option Nat)) (B MB M N : Nat) (L : List Nd) (E : List (Nat × Nat)) (w : World) (h : Bls w0 x B MB M N L E w) (hx : PHok w0 ex x) (hN : 1 ≤ N) (hL : L.length = N) (hE : E.length ≤ 900000)
    (f b j : Nat) (F : Fnc) (Bk : Blk) (t : Stm) (h1 : x.p[f]? = some F) (h2 : F.bs[b]? = some Bk) (h3 : Bk.ss[j]? = some t) (hts : (t.op == 3) = true → t.ts ≠ []) :
    Calls Tryz.prog 59 #[.pointer (some ⟨B, 0, none⟩), .agg #[.int .i64 3, .int .i64 f, .int .i64 b, .int .i64 j]] w
      fun e w' => e = .returned (.tuple #[]) ∧ Bls w0 x B MB M N L (E ++ (stE x.p F.bs f b j t).map (numE L)) w' ∧ KeepF w w' := by
  obtain ⟨y, z, s, hy, hym, hz, hzm, hs, hsm, rfl, rfl, rfl⟩ := prog_stm2 hx h1 h2 h3
  have hb0 := (Below.refl w.heap.size w).alloc (Nat.le_refl _) (.cells #[.int .i64 3, .int .i64 (f : Int), .int .i64 (b : Int), .int .i64 (j : Int)] 55)
  have hL1 : Ls1 w0 x B MB M N w.heap.size L ⟨3, f, b, j⟩ E (w.alloc (.cells #[.int .i64 3, .int .i64 (f : Int), .int .i64 (b : Int), .int .i64 (j : Int)] 55)) := ⟨h.below hb0, Fb.new _ _ _⟩
  have HK0 := hid (KeepF.below hb0)
  have HL1 := hid hL1
  have HPx := hid (fun (v : World) (hv : Below w0.heap.size w0 v) => hx.go (Go2.below hv))
  have hPr := hx.go (Go2.below hL1.bls.bel)
  have Hy := hid hy; have Hz := hid hz; have Hs := hid hs
  have Hym := hid hym; have Hzm := hid hzm; have Hsm := hid hsm
  obtain ⟨ad1, hA1, had1, hc1, hc2⟩ := FH.cells hPr.lies hy
  obtain ⟨ad2, hA2, had2, hd1, hd2⟩ := BH.cells (hPr.all y hym).lies hz
  obtain ⟨ad3, hA3, had3, he1, he2, he3, he4⟩ := SH.cells ((hPr.all y hym).all z hzm).lies hs
  have hxn := hPr.few
  have hyn := (hPr.all y hym).few
  have hzn := ((hPr.all y hym).all z hzm).few
  have hfn : f < x.n := by rw [← hPr.len]; exact (List.getElem?_eq_some_iff.1 hy).1
  have hbn : b < y.n := by rw [← (hPr.all y hym).len]; exact (List.getElem?_eq_some_iff.1 hz).1
  have hjn : j < z.n := by rw [← ((hPr.all y hym).all z hzm).len]; exact (List.getElem?_eq_some_iff.1 hs).1
  have Hbln := hid (hPr.all y hym).len
  have Hpln := hid hPr.len
  have hsm2 := (((hPr.all y hym).all z hzm).all s hsm).targets.few
  have Hsln := hid ((((hPr.all y hym).all z hzm).all s hsm).targets.len)
  have HTs := hid (fun (v : World) (hv : Below w0.heap.size w0 v) => ((((HPx.out v hv).all y Hym.out).all z Hzm.out).all s Hsm.out).targets.lies)
  have HBl := hid (fun (v : World) (hv : Below w0.heap.size w0 v) => ((HPx.out v hv).all y Hym.out).lies)
  have HPl := hid (fun (v : World) (hv : Below w0.heap.size w0 v) => (HPx.out v hv).lies)
  have Hbmap := hid (show y.l.map BH.name = y.f.bs.map Blk.name by show _ = (y.l.map BH.b).map Blk.name; rw [List.map_map]; rfl)
  have Hpmap := hid (show x.l.map FH.name = x.p.map Fnc.name by show _ = (x.l.map FH.f).map Fnc.name; rw [List.map_map]; rfl)
  have Hts := hid hts
  clear h hx hPr hL1 hb0 hy hz hs hym hzm hsm h1 h2 h3 hts
  have hG : ∃ G, w.heap.size = G := ⟨_, rfl⟩
  obtain ⟨G, hG⟩ := hG
  rw [hG] at HL1
  have HGe := hid hG
  clear hG
  generalize hpp : x.p = pp at *
  generalize hyf : y.f = yf at *
  clear hpp hyf
  obtain ⟨xA, xn, xc, xl⟩ := x
  obtain ⟨ynm, yA, yn, yc, yl⟩ := y
  obtain ⟨znm, zA, zn, zc, zl⟩ := z
  simp only at *
  subst hA1
  subst hA2
  subst hA3
  go_enter Tryz.func59, Tryz.ntmps59
  have had1' := had1; have had2' := had2; have had3' := had3
  rw [← add_block ad1 (f * 2)] at had1'
  rw [← add_block ad2 (b * 2)] at had2'
  rw [← add_block ad3 (j * 4)] at had3'
  go_wp2_with fail
  rw [HGe.out] at *
  generalize w.alloc (.cells #[.int .i64 3, .int .i64 (f : Int), .int .i64 (b : Int), .int .i64 (j : Int)] 55) = W at *
  obtain ⟨n0, n1, n2, n3⟩ := Fb.four HL1.out.nb
  obtain ⟨b0, b1, b2⟩ := HL1.out.bls.box.thr
  simp only at n0 n1 n2 n3
  go_quiet (fail)
  clear n0 n1 n2 n3 b0 b1 b2
  have hbw : Below W.heap.size W (W.drewN nq) := below_drewN (Below.refl _ _) nq
  have HL2 := hid (HL1.out.below hbw)
  have HK2 := hid (HK0.out.trans (KeepF.below hbw))
  have Hhc := hid (And.intro (And.intro hc1 hc2) (And.intro (And.intro hd1 hd2) (And.intro (And.intro he1 he2) (And.intro he3 he4))))
  clear hbw HL1 HK0 hc1 hc2 hd1 hd2 he1 he2 he3 he4
  have Hx2 := hid (show (((W.drewN nq).cell? (ad1.add (f * 2)) = some (.string ynm) ∧ (W.drewN nq).cell? ⟨(ad1.add (f * 2)).block, (ad1.add (f * 2)).off + 1, none⟩ = some (.slice (some ad2) yn yc)) ∧ ((W.drewN nq).cell? (ad2.add (b * 2)) = some (.string znm) ∧ (W.drewN nq).cell? ⟨(ad2.add (b * 2)).block, (ad2.add (b * 2)).off + 1, none⟩ = some (.slice (some ad3) zn zc)) ∧
    ((W.drewN nq).cell? (ad3.add (j * 4)) = some (.int .i64 s.t.op) ∧ (W.drewN nq).cell? ⟨(ad3.add (j * 4)).block, (ad3.add (j * 4)).off + 1, none⟩ = some (.string s.t.d)) ∧ ((W.drewN nq).cell? ⟨(ad3.add (j * 4)).block, (ad3.add (j * 4)).off + 2, none⟩ = some (.slice s.A s.n s.c) ∧ (W.drewN nq).cell? ⟨(ad3.add (j * 4)).block, (ad3.add (j * 4)).off + 3, none⟩ = some (.slice s.B s.m s.c2))) ∧
    (ad1.block < (W.drewN nq).heap.size ∧ ad2.block < (W.drewN nq).heap.size ∧ ad3.block < (W.drewN nq).heap.size) from ⟨Hhc.out, had1, had2, had3⟩)
  clear Hhc had1 had2 had3 had1' had2' had3'
  generalize W.drewN nq = X at *
  obtain ⟨⟨⟨hc1, hc2⟩, ⟨hd1, hd2⟩, ⟨he1, he2⟩, he3, he4⟩, had1, had2, had3⟩ := Hx2.out
  have had1' : (ad1.add (f * 2)).block < X.heap.size := by rw [add_block]; exact had1
  have had2' : (ad2.add (b * 2)).block < X.heap.size := by rw [add_block]; exact had2
  have had3' : (ad3.add (j * 4)).block < X.heap.size := by rw [add_block]; exact had3
  obtain ⟨n0, n1, n2, n3⟩ := Fb.four HL2.out.nb
  obtain ⟨b0, b1, b2⟩ := HL2.out.bls.box.thr
  have hnl := HL2.out.nb.lt
  simp only at n0 n1 n2 n3
  go_wp2_with fail
  go_cut [5] (fun a wc => ∃ g : Nat, a = .pointer (some ⟨g, 0, none⟩) ∧ Hid (Fb wc g #[.int .i64 s.t.op, .string s.t.d, .slice s.A s.n s.c, .slice s.B s.m s.c2] 101 ∧ Below X.heap.size X wc))
  case first =>
    have HZ1 := hid (And.intro (Fb.drewN (Fb.new X #[.int .i64 s.t.op, .string s.t.d, .slice s.A s.n s.c, .slice s.B s.m s.c2] 101) 1) (below_drewN ((Below.refl X.heap.size X).alloc (Nat.le_refl _) (.cells #[.int .i64 s.t.op, .string s.t.d, .slice s.A s.n s.c, .slice s.B s.m s.c2] 101)) 1))
    go_region
    go_wp2_with fail
    go_meet
    exact ⟨_, rfl, HZ1⟩
  case rest =>
    clear hc1 hc2 hd1 hd2 he1 he2 he3 he4 had1 had2 had3 had1' had2' had3' n0 n1 n2 n3 b0 b1 b2 hnl Hx2
    obtain ⟨Hb, rfl, HZ⟩ := hcut
    have HL3 := hid (show Ls2 w0 ⟨some ad1, xn, xc, xl⟩ B MB M N G Hb L ⟨3, f, b, j⟩ s E wc from ⟨HL2.out.below HZ.out.2, HZ.out.1⟩)
    have HK3 := hid (HK2.out.trans (KeepF.below HZ.out.2))
    clear HZ HL2 HK2
    have HKb := hid (fun (E : List (Nat × Nat)) (v u : World) (h : Ls2 w0 ⟨some ad1, xn, xc, xl⟩ B MB M N G Hb L ⟨3, f, b, j⟩ s E v) (hb : Below v.heap.size v u) => h.below hb)
    have HNb := hid (fun (E : List (Nat × Nat)) (v : World) (h : Ls2 w0 ⟨some ad1, xn, xc, xl⟩ B MB M N G Hb L ⟨3, f, b, j⟩ s E v) => h.ls.nb)
    have HSb := hid (fun (E : List (Nat × Nat)) (v : World) (h : Ls2 w0 ⟨some ad1, xn, xc, xl⟩ B MB M N G Hb L ⟨3, f, b, j⟩ s E v) => h.sb)
    have HBb := hid (fun (E : List (Nat × Nat)) (v : World) (h : Ls2 w0 ⟨some ad1, xn, xc, xl⟩ B MB M N G Hb L ⟨3, f, b, j⟩ s E v) => h.ls.bls.box)
    have HBl2 := hid (fun (E : List (Nat × Nat)) (v : World) (h : Ls2 w0 ⟨some ad1, xn, xc, xl⟩ B MB M N G Hb L ⟨3, f, b, j⟩ s E v) => HBl.out v h.ls.bls.bel)
    have HPl2 := hid (fun (E : List (Nat × Nat)) (v : World) (h : Ls2 w0 ⟨some ad1, xn, xc, xl⟩ B MB M N G Hb L ⟨3, f, b, j⟩ s E v) => HPl.out v h.ls.bls.bel)
    have HTs2 := hid (fun (E : List (Nat × Nat)) (v : World) (h : Ls2 w0 ⟨some ad1, xn, xc, xl⟩ B MB M N G Hb L ⟨3, f, b, j⟩ s E v) => HTs.out v h.ls.bls.bel)
    have HEn := hid (fun (E : List (Nat × Nat)) (v : World) (h : Ls2 w0 ⟨some ad1, xn, xc, xl⟩ B MB M N G Hb L ⟨3, f, b, j⟩ s E v) => h.ls.bls)
    have HCo := hid (fun (E : List (Nat × Nat)) (v : World) (h : Ls2 w0 ⟨some ad1, xn, xc, xl⟩ B MB M N G Hb L ⟨3, f, b, j⟩ s E v) (hE : E.length ≤ 1000000) (f t : Nd) (hf : wfN f) (ht : wfN t) => h.conn hN hL hE f t hf ht)
    simp only at HNb HSb HBb HTs2 HBl2 HPl2
    clear HBl HPl HTs HPx
    have hst : ∃ st, s.t = st := ⟨_, rfl⟩
    obtain ⟨st, hst⟩ := hst
    obtain ⟨sA, sn, sc, sB, sm, sd, st2⟩ := s
    simp only at *
    subst hst
    obtain ⟨op, dd, us, ts⟩ := st2
    simp only at *
    obtain ⟨s0, s1, s2, s3⟩ := Fb.four (HSb.out _ _ HL3.out)
    have Hwn := hid (wf_small (k := 3) (f := (f : Int)) (b := (b : Int)) (s := (j : Int)) (by omega) (by omega) (by omega) (by omega))
    have HB113 := hid (fun (E : List (Nat × Nat)) (v : World) (h : Ls2 w0 ⟨some ad1, xn, xc, xl⟩ B MB M N G Hb L ⟨3, f, b, j⟩ ⟨sA, sn, sc, sB, sm, sd, ⟨op, dd, us, ts⟩⟩ E v) (nm : ByteArray) => show Calls Tryz.prog 83 #[.slice (some ad2) yn yc, .string nm] v (fun e w' => e = .returned (.int .i64 (nmI (yf.bs.map Blk.name) nm)) ∧ Below v.heap.size v w') by rw [← Hbmap.out]; exact blockIx_any (some ad2) yn yc yl nm ex v (HBl2.out _ _ h) Hbln.out (by omega))
    have HB115 := hid (fun (E : List (Nat × Nat)) (v : World) (h : Ls2 w0 ⟨some ad1, xn, xc, xl⟩ B MB M N G Hb L ⟨3, f, b, j⟩ ⟨sA, sn, sc, sB, sm, sd, ⟨op, dd, us, ts⟩⟩ E v) (nm : ByteArray) => show Calls Tryz.prog 85 #[.slice (some ad1) xn xc, .string nm] v (fun e w' => e = .returned (.int .i64 (nmI (pp.map Fnc.name) nm)) ∧ Below v.heap.size v w') by rw [← Hpmap.out]; exact funcIx_any (some ad1) xn xc xl nm ex v (HPl2.out _ _ h) Hpln.out (by omega))
    have Hbd := hid (fun nm => show -10 ≤ nmI (yf.bs.map Blk.name) nm ∧ nmI (yf.bs.map Blk.name) nm ≤ 1000000 by have := nmI_bd (yf.bs.map Blk.name) nm; rw [← Hbmap.out] at this ⊢; rw [List.length_map, Hbln.out] at this; omega)
    have Hpd := hid (fun nm => show -10 ≤ nmI (pp.map Fnc.name) nm ∧ nmI (pp.map Fnc.name) nm ≤ 1000000 by have := nmI_bd (pp.map Fnc.name) nm; rw [← Hpmap.out] at this ⊢; rw [List.length_map, Hpln.out] at this; omega)
    clear HBl2 HPl2 Hbmap Hpmap Hbln Hpln
    cases h7 : (op == 7) with
    | true =>
      as_aux_lemma =>
        have Hst := hid (show stE pp yf.bs f b j ⟨op, dd, us, ts⟩ = ts.map (gE yf.bs f b j) by unfold stE; simp only; rw [h7]; rfl)
        go_wp2_with fail
        clear s0 s1 s2 s3
        go_loopw [7, 48] (fun _ iv wr => ∃ k : Nat, k ≤ sm ∧ iv = .int .i64 k ∧ Hid (Ls2 w0 ⟨some ad1, xn, xc, xl⟩ B MB M N G Hb L ⟨3, f, b, j⟩ ⟨sA, sn, sc, sB, sm, sd, ⟨op, dd, us, ts⟩⟩ (E ++ ((ts.take k).map (gE yf.bs f b j)).map (numE L)) wr) ∧ Hid (KeepF w wr)) (fun _ iv _ => sm - (intOf iv).toNat)
        case atStart => exact ⟨0, by omega, rfl, hid (by simpa using HL3.out), HK3⟩
        case round =>
          clear HL3 HK3
          obtain ⟨k, hkk, rfl, hL, hk⟩ := hrel
          by_cases hlt : k < sm
          · obtain ⟨nm, hnm, -⟩ := get_at Hsln.out hlt
            obtain ⟨ad4, hA4, had4, hc4⟩ := (HTs2.out _ _ hL.out).one (i := k) (u := .string nm) (by rw [List.getElem?_map, hnm]; rfl)
            subst hA4
            have had4l := had4.1
            have Hnm := hid hnm
            have Hwt := hid (wf_small (k := 3) (f := (f : Int)) (b := nmI (yf.bs.map Blk.name) nm) (s := 0) (by omega) (by omega) (Hbd.out nm) (by omega))
            have HEl := hid (show (E ++ ((ts.take k).map (gE yf.bs f b j)).map (numE L)).length ≤ 1000000 by rw [List.length_append, List.length_map, List.length_map, List.length_take]; omega)
            have Hsn := hid (ts_snoc (L := L) (E := E) (g := gE yf.bs f b j) hnm)
            clear hnm had4
            generalize E ++ ((ts.take k).map (gE yf.bs f b j)).map (numE L) = E1 at *
            go_wp2_with fail
            clear hc4 had4l
            have hcur := HKb.out _ _ _ hL.out (Below.refl _ _).drew
            have hkf := hk.out.trans (KeepF.below (Below.refl _ _).drew)
            obtain ⟨n0, n1, n2, n3⟩ := Fb.four (HNb.out _ _ hcur)
            obtain ⟨s0, s1, s2, s3⟩ := Fb.four (HSb.out _ _ hcur)
            obtain ⟨b0, b1, b2⟩ := (HBb.out _ _ hcur).thr
            have hGl := (HNb.out _ _ hcur).lt
            have hHl := (HSb.out _ _ hcur).lt
            have hBl := (HBb.out _ _ hcur).lt
            go_region_law (
              (go_simp
               first
              | (go_at_call 83
                 refine (HB113.out _ _ hcur nm).mono ?_
                 rintro e wn ⟨rfl, hbk⟩
                 have hcur := HKb.out _ _ _ hcur hbk
                 have hkf := hkf.trans (KeepF.below hbk)
                 obtain ⟨n0, n1, n2, n3⟩ := Fb.four (HNb.out _ _ hcur)
                 obtain ⟨s0, s1, s2, s3⟩ := Fb.four (HSb.out _ _ hcur)
                 obtain ⟨b0, b1, b2⟩ := (HBb.out _ _ hcur).thr
                 have hGl := (HNb.out _ _ hcur).lt
                 have hHl := (HSb.out _ _ hcur).lt
                 have hBl := (HBb.out _ _ hcur).lt
                 clear hbk)
              | (go_at_call 58
                 refine (stmtNode_any _ _ _ _).mono ?_
                 rintro e wn ⟨rfl, hbk⟩
                 have hcur := HKb.out _ _ _ hcur hbk
                 have hkf := hkf.trans (KeepF.below hbk)
                 obtain ⟨n0, n1, n2, n3⟩ := Fb.four (HNb.out _ _ hcur)
                 obtain ⟨s0, s1, s2, s3⟩ := Fb.four (HSb.out _ _ hcur)
                 obtain ⟨b0, b1, b2⟩ := (HBb.out _ _ hcur).thr
                 have hGl := (HNb.out _ _ hcur).lt
                 have hHl := (HSb.out _ _ hcur).lt
                 have hBl := (HBb.out _ _ hcur).lt
                 clear hbk)
              | (go_at_call 57
                 refine (HCo.out _ _ hcur HEl.out ⟨3, f, b, j⟩ ⟨3, f, nmI (yf.bs.map Blk.name) nm, 0⟩ Hwn.out Hwt.out).mono ?_
                 rintro e wn ⟨rfl, hcur, hk77⟩
                 have hkf := hkf.trans hk77
                 obtain ⟨n0, n1, n2, n3⟩ := Fb.four (HNb.out _ _ hcur)
                 obtain ⟨s0, s1, s2, s3⟩ := Fb.four (HSb.out _ _ hcur)
                 obtain ⟨b0, b1, b2⟩ := (HBb.out _ _ hcur).thr
                 have hGl := (HNb.out _ _ hcur).lt
                 have hHl := (HSb.out _ _ hcur).lt
                 have hBl := (HBb.out _ _ hcur).lt
                 clear hk77)))
            all_goals
              clear n0 n1 n2 n3 s0 s1 s2 s3 b0 b1 b2 hGl hHl hBl
              have hcur2 := hid (Hsn.out ▸ hcur)
              have hkf2 := hid hkf
              clear hcur hkf
              go_wp2_with fail
              go_roundw
              case rel => exact ⟨k + 1, by omega, by go_num, hcur2, hkf2⟩
              case measure => simp [intOf]; omega
          · obtain rfl : k = sm := by omega
            have HF := hid (show Bls w0 ⟨some ad1, xn, xc, xl⟩ B MB M N L (E ++ (stE pp yf.bs f b j ⟨op, dd, us, ts⟩).map (numE L)) wr from by
              have := HEn.out _ _ hL.out
              rw [List.take_of_length_le (by rw [Hsln.out]; omega)] at this
              rw [Hst.out]; exact this)
            clear hL
            go_wp2_with fail
            exact bodyPost_end (v := .tuple #[]) (by simp [results, Tryz.results59]) rfl ⟨rfl, HF.out, hk.out⟩
    | false =>
      cases h8 : (op == 8) with
      | true =>
        as_aux_lemma =>
          have Hst := hid (show stE pp yf.bs f b j ⟨op, dd, us, ts⟩ = ts.map (gE yf.bs f b j) by unfold stE; simp only; rw [h7, h8]; rfl)
          go_wp2_with fail
          clear s0 s1 s2 s3
          go_loopw [7, 48] (fun _ iv wr => ∃ k : Nat, k ≤ sm ∧ iv = .int .i64 k ∧ Hid (Ls2 w0 ⟨some ad1, xn, xc, xl⟩ B MB M N G Hb L ⟨3, f, b, j⟩ ⟨sA, sn, sc, sB, sm, sd, ⟨op, dd, us, ts⟩⟩ (E ++ ((ts.take k).map (gE yf.bs f b j)).map (numE L)) wr) ∧ Hid (KeepF w wr)) (fun _ iv _ => sm - (intOf iv).toNat)
          case atStart => exact ⟨0, by omega, rfl, hid (by simpa using HL3.out), HK3⟩
          case round =>
            clear HL3 HK3
            obtain ⟨k, hkk, rfl, hL, hk⟩ := hrel
            by_cases hlt : k < sm
            · obtain ⟨nm, hnm, -⟩ := get_at Hsln.out hlt
              obtain ⟨ad4, hA4, had4, hc4⟩ := (HTs2.out _ _ hL.out).one (i := k) (u := .string nm) (by rw [List.getElem?_map, hnm]; rfl)
              subst hA4
              have had4l := had4.1
              have Hnm := hid hnm
              have Hwt := hid (wf_small (k := 3) (f := (f : Int)) (b := nmI (yf.bs.map Blk.name) nm) (s := 0) (by omega) (by omega) (Hbd.out nm) (by omega))
              have HEl := hid (show (E ++ ((ts.take k).map (gE yf.bs f b j)).map (numE L)).length ≤ 1000000 by rw [List.length_append, List.length_map, List.length_map, List.length_take]; omega)
              have Hsn := hid (ts_snoc (L := L) (E := E) (g := gE yf.bs f b j) hnm)
              clear hnm had4
              generalize E ++ ((ts.take k).map (gE yf.bs f b j)).map (numE L) = E1 at *
              go_wp2_with fail
              clear hc4 had4l
              have hcur := HKb.out _ _ _ hL.out (Below.refl _ _).drew
              have hkf := hk.out.trans (KeepF.below (Below.refl _ _).drew)
              obtain ⟨n0, n1, n2, n3⟩ := Fb.four (HNb.out _ _ hcur)
              obtain ⟨s0, s1, s2, s3⟩ := Fb.four (HSb.out _ _ hcur)
              obtain ⟨b0, b1, b2⟩ := (HBb.out _ _ hcur).thr
              have hGl := (HNb.out _ _ hcur).lt
              have hHl := (HSb.out _ _ hcur).lt
              have hBl := (HBb.out _ _ hcur).lt
              go_region_law (
                (go_simp
                 first
                | (go_at_call 83
                   refine (HB113.out _ _ hcur nm).mono ?_
                   rintro e wn ⟨rfl, hbk⟩
                   have hcur := HKb.out _ _ _ hcur hbk
                   have hkf := hkf.trans (KeepF.below hbk)
                   obtain ⟨n0, n1, n2, n3⟩ := Fb.four (HNb.out _ _ hcur)
                   obtain ⟨s0, s1, s2, s3⟩ := Fb.four (HSb.out _ _ hcur)
                   obtain ⟨b0, b1, b2⟩ := (HBb.out _ _ hcur).thr
                   have hGl := (HNb.out _ _ hcur).lt
                   have hHl := (HSb.out _ _ hcur).lt
                   have hBl := (HBb.out _ _ hcur).lt
                   clear hbk)
                | (go_at_call 58
                   refine (stmtNode_any _ _ _ _).mono ?_
                   rintro e wn ⟨rfl, hbk⟩
                   have hcur := HKb.out _ _ _ hcur hbk
                   have hkf := hkf.trans (KeepF.below hbk)
                   obtain ⟨n0, n1, n2, n3⟩ := Fb.four (HNb.out _ _ hcur)
                   obtain ⟨s0, s1, s2, s3⟩ := Fb.four (HSb.out _ _ hcur)
                   obtain ⟨b0, b1, b2⟩ := (HBb.out _ _ hcur).thr
                   have hGl := (HNb.out _ _ hcur).lt
                   have hHl := (HSb.out _ _ hcur).lt
                   have hBl := (HBb.out _ _ hcur).lt
                   clear hbk)
                | (go_at_call 57
                   refine (HCo.out _ _ hcur HEl.out ⟨3, f, b, j⟩ ⟨3, f, nmI (yf.bs.map Blk.name) nm, 0⟩ Hwn.out Hwt.out).mono ?_
                   rintro e wn ⟨rfl, hcur, hk77⟩
                   have hkf := hkf.trans hk77
                   obtain ⟨n0, n1, n2, n3⟩ := Fb.four (HNb.out _ _ hcur)
                   obtain ⟨s0, s1, s2, s3⟩ := Fb.four (HSb.out _ _ hcur)
                   obtain ⟨b0, b1, b2⟩ := (HBb.out _ _ hcur).thr
                   have hGl := (HNb.out _ _ hcur).lt
                   have hHl := (HSb.out _ _ hcur).lt
                   have hBl := (HBb.out _ _ hcur).lt
                   clear hk77)))
              all_goals
                clear n0 n1 n2 n3 s0 s1 s2 s3 b0 b1 b2 hGl hHl hBl
                have hcur2 := hid (Hsn.out ▸ hcur)
                have hkf2 := hid hkf
                clear hcur hkf
                go_wp2_with fail
                go_roundw
                case rel => exact ⟨k + 1, by omega, by go_num, hcur2, hkf2⟩
                case measure => simp [intOf]; omega
            · obtain rfl : k = sm := by omega
              have HF := hid (show Bls w0 ⟨some ad1, xn, xc, xl⟩ B MB M N L (E ++ (stE pp yf.bs f b j ⟨op, dd, us, ts⟩).map (numE L)) wr from by
                have := HEn.out _ _ hL.out
                rw [List.take_of_length_le (by rw [Hsln.out]; omega)] at this
                rw [Hst.out]; exact this)
              clear hL
              go_wp2_with fail
              exact bodyPost_end (v := .tuple #[]) (by simp [results, Tryz.results59]) rfl ⟨rfl, HF.out, hk.out⟩
      | false =>
        cases h9 : (op == 9) with
        | true =>
          as_aux_lemma =>
            have Hst := hid (show stE pp yf.bs f b j ⟨op, dd, us, ts⟩ = [(⟨3, f, b, j⟩, ⟨2, f, -1, -1⟩)] by unfold stE; simp only; rw [h7, h8, h9]; rfl)
            have hL := HL3
            have hk := HK3
            have hjw : IntKind.i64.wrap ((j : Int) + 1) = (j : Int) + 1 := IntWalk.i64_in _ (by omega)
            go_wp2_with fail
            clear s0 s1 s2 s3 HL3 HK3
            have hcur := HKb.out _ _ _ hL.out (Below.refl _ _).drew
            have hkf := hk.out.trans (KeepF.below (Below.refl _ _).drew)
            obtain ⟨n0, n1, n2, n3⟩ := Fb.four (HNb.out _ _ hcur)
            obtain ⟨s0, s1, s2, s3⟩ := Fb.four (HSb.out _ _ hcur)
            obtain ⟨b0, b1, b2⟩ := (HBb.out _ _ hcur).thr
            have hGl := (HNb.out _ _ hcur).lt
            have hHl := (HSb.out _ _ hcur).lt
            have hBl := (HBb.out _ _ hcur).lt
            go_region_law (
              (go_simp
               first
                | (go_at_call 84
                   refine (exitNode_any _ _).mono ?_
                   rintro e wn ⟨rfl, hbk⟩
                   have hcur := HKb.out _ _ _ hcur hbk
                   have hkf := hkf.trans (KeepF.below hbk)
                   obtain ⟨n0, n1, n2, n3⟩ := Fb.four (HNb.out _ _ hcur)
                   obtain ⟨s0, s1, s2, s3⟩ := Fb.four (HSb.out _ _ hcur)
                   obtain ⟨b0, b1, b2⟩ := (HBb.out _ _ hcur).thr
                   have hGl := (HNb.out _ _ hcur).lt
                   have hHl := (HSb.out _ _ hcur).lt
                   have hBl := (HBb.out _ _ hcur).lt
                   clear hbk)
                | (go_at_call 57
                   refine (HCo.out _ _ hcur (by omega) ⟨3, f, b, j⟩ ⟨2, f, -1, -1⟩ Hwn.out (wf_small (by omega) (by omega) (by omega) (by omega))).mono ?_
                   rintro e wn ⟨rfl, hcur, hk77⟩
                   have hkf := hkf.trans hk77
                   obtain ⟨n0, n1, n2, n3⟩ := Fb.four (HNb.out _ _ hcur)
                   obtain ⟨s0, s1, s2, s3⟩ := Fb.four (HSb.out _ _ hcur)
                   obtain ⟨b0, b1, b2⟩ := (HBb.out _ _ hcur).thr
                   have hGl := (HNb.out _ _ hcur).lt
                   have hHl := (HSb.out _ _ hcur).lt
                   have hBl := (HBb.out _ _ hcur).lt
                   clear hk77)))
            all_goals
              have HF := hid (show Bls w0 ⟨some ad1, xn, xc, xl⟩ B MB M N L (E ++ (stE pp yf.bs f b j ⟨op, dd, us, ts⟩).map (numE L)) _ from by rw [Hst.out]; exact HEn.out _ _ hcur)
              clear n0 n1 n2 n3 s0 s1 s2 s3 b0 b1 b2 hGl hHl hBl
              go_wp2_with fail
              exact bodyPost_end (v := .tuple #[]) (by simp [results, Tryz.results59]) rfl ⟨rfl, HF.out, hkf⟩
        | false =>
          cases h3 : (op == 3) with
          | true =>
            as_aux_lemma =>
              have hne := Hts.out h3
              have hlen0 : 0 < sm := by rw [← Hsln.out]; exact List.length_pos_iff.2 hne
              obtain ⟨nm, hnm, -⟩ := get_at Hsln.out hlen0
              have Hst := hid (show stE pp yf.bs f b j ⟨op, dd, us, ts⟩ = [(⟨3, f, b, j⟩, ⟨1, nmI (pp.map Fnc.name) nm, -1, -1⟩), (⟨2, nmI (pp.map Fnc.name) nm, -1, -1⟩, ⟨4, f, b, j⟩)] by
                unfold stE; simp only; rw [h7, h8, h9, h3, show ts.getD 0 ByteArray.empty = nm by rw [List.getD_eq_getElem?_getD, hnm]; rfl]; rfl)
              obtain ⟨ad4, hA4, had4, hc4⟩ := (HTs2.out _ _ HL3.out).one (i := 0) (u := .string nm) (by rw [List.getElem?_map, hnm]; rfl)
              subst hA4
              rw [show ad4.add 0 = ad4 by unfold Addr.add; simp] at hc4
              have Hw1 := hid (wf_small (k := 1) (f := nmI (pp.map Fnc.name) nm) (b := -1) (s := -1) (by omega) (Hpd.out nm) (by omega) (by omega))
              have Hw2 := hid (wf_small (k := 2) (f := nmI (pp.map Fnc.name) nm) (b := -1) (s := -1) (by omega) (Hpd.out nm) (by omega) (by omega))
              have Hw4 := hid (wf_small (k := 4) (f := (f : Int)) (b := (b : Int)) (s := (j : Int)) (by omega) (by omega) (by omega) (by omega))
              have Hnc := hid (fun (v : World) (h : Ls2 w0 ⟨some ad1, xn, xc, xl⟩ B MB M N G Hb L ⟨3, f, b, j⟩ ⟨sA, sn, sc, some ad4, sm, sd, ⟨op, dd, us, ts⟩⟩ E v) => (show ad4.block < v.heap.size ∧ v.cell? ad4 = some (.string nm) by
                obtain ⟨ad5, hA5, had5, hc5⟩ := (HTs2.out _ _ h).one (i := 0) (u := .string nm) (by rw [List.getElem?_map, hnm]; rfl)
                obtain rfl := Option.some.inj hA5
                rw [show ad4.add 0 = ad4 by unfold Addr.add; simp] at hc5
                exact ⟨had5.1, hc5⟩))
              clear hnm hc4 had4 hne
              have hcIe : ∃ cI, nmI (pp.map Fnc.name) nm = cI := ⟨_, rfl⟩
              obtain ⟨cI, hcIe⟩ := hcIe
              have HB115n := hid (fun (v : World) (h : Ls2 w0 ⟨some ad1, xn, xc, xl⟩ B MB M N G Hb L ⟨3, f, b, j⟩ ⟨sA, sn, sc, some ad4, sm, sd, ⟨op, dd, us, ts⟩⟩ E v) => HB115.out E v h nm)
              rw [hcIe] at Hst Hw1 Hw2 HB115n
              clear hcIe
              have hL := HL3
              have hk := HK3
              clear HL3 HK3
              go_upto_region 15 with fail
              clear s0 s1 s2 s3
              go_cut [8] (fun v wd => v = .int .i64 cI ∧ Hid (Ls2 w0 ⟨some ad1, xn, xc, xl⟩ B MB M N G Hb L ⟨3, f, b, j⟩ ⟨sA, sn, sc, some ad4, sm, sd, ⟨op, dd, us, ts⟩⟩ E wd) ∧ Hid (KeepF w wd))
              case first =>
                have hcur := HKb.out _ _ _ hL.out (Below.refl _ _).drew
                have hkf := hk.out.trans (KeepF.below (Below.refl _ _).drew)
                obtain ⟨n0, n1, n2, n3⟩ := Fb.four (HNb.out _ _ hcur)
                obtain ⟨s0, s1, s2, s3⟩ := Fb.four (HSb.out _ _ hcur)
                obtain ⟨b0, b1, b2⟩ := (HBb.out _ _ hcur).thr
                have hGl := (HNb.out _ _ hcur).lt
                have hHl := (HSb.out _ _ hcur).lt
                have hBl := (HBb.out _ _ hcur).lt
                obtain ⟨hnl, hnc⟩ := Hnc.out _ hcur
                go_region_law (
                  (go_simp
                   first
                  | (go_at_call 85
                     refine (HB115n.out _ hcur).mono ?_
                     rintro e wn ⟨rfl, hbk⟩
                     have hcur := HKb.out _ _ _ hcur hbk
                     have hkf := hkf.trans (KeepF.below hbk)
                     obtain ⟨n0, n1, n2, n3⟩ := Fb.four (HNb.out _ _ hcur)
                     obtain ⟨s0, s1, s2, s3⟩ := Fb.four (HSb.out _ _ hcur)
                     obtain ⟨b0, b1, b2⟩ := (HBb.out _ _ hcur).thr
                     have hGl := (HNb.out _ _ hcur).lt
                     have hHl := (HSb.out _ _ hcur).lt
                     have hBl := (HBb.out _ _ hcur).lt
                     clear hbk)))
                all_goals
                  clear n0 n1 n2 n3 s0 s1 s2 s3 b0 b1 b2 hGl hHl hBl
                  go_wp2_with fail
                  go_meet
                  exact ⟨rfl, hid hcur, hid hkf⟩
              case rest =>
                clear hL hk
                obtain ⟨rfl, hL, hk⟩ := hcut
                go_upto_region 16 with fail
                go_cut [] (fun wd => Hid (Ls2 w0 ⟨some ad1, xn, xc, xl⟩ B MB M N G Hb L ⟨3, f, b, j⟩ ⟨sA, sn, sc, some ad4, sm, sd, ⟨op, dd, us, ts⟩⟩ (E ++ [numE L (⟨3, f, b, j⟩, ⟨1, cI, -1, -1⟩)]) wd) ∧ Hid (KeepF w wd))
                case first =>
                  have hcur := HKb.out _ _ _ hL.out (Below.refl _ _).drew
                  have hkf := hk.out.trans (KeepF.below (Below.refl _ _).drew)
                  obtain ⟨n0, n1, n2, n3⟩ := Fb.four (HNb.out _ _ hcur)
                  obtain ⟨s0, s1, s2, s3⟩ := Fb.four (HSb.out _ _ hcur)
                  obtain ⟨b0, b1, b2⟩ := (HBb.out _ _ hcur).thr
                  have hGl := (HNb.out _ _ hcur).lt
                  have hHl := (HSb.out _ _ hcur).lt
                  have hBl := (HBb.out _ _ hcur).lt
                  go_region_law (
                    (go_simp
                     first
                    | (go_at_call 86
                       refine (entryNode_any _ _).mono ?_
                       rintro e wn ⟨rfl, hbk⟩
                       have hcur := HKb.out _ _ _ hcur hbk
                       have hkf := hkf.trans (KeepF.below hbk)
                       obtain ⟨n0, n1, n2, n3⟩ := Fb.four (HNb.out _ _ hcur)
                       obtain ⟨s0, s1, s2, s3⟩ := Fb.four (HSb.out _ _ hcur)
                       obtain ⟨b0, b1, b2⟩ := (HBb.out _ _ hcur).thr
                       have hGl := (HNb.out _ _ hcur).lt
                       have hHl := (HSb.out _ _ hcur).lt
                       have hBl := (HBb.out _ _ hcur).lt
                       clear hbk)
                    | (go_at_call 57
                       refine (HCo.out _ _ hcur (by omega) ⟨3, f, b, j⟩ ⟨1, cI, -1, -1⟩ Hwn.out Hw1.out).mono ?_
                       rintro e wn ⟨rfl, hcur, hk77⟩
                       have hkf := hkf.trans hk77
                       obtain ⟨n0, n1, n2, n3⟩ := Fb.four (HNb.out _ _ hcur)
                       obtain ⟨s0, s1, s2, s3⟩ := Fb.four (HSb.out _ _ hcur)
                       obtain ⟨b0, b1, b2⟩ := (HBb.out _ _ hcur).thr
                       have hGl := (HNb.out _ _ hcur).lt
                       have hHl := (HSb.out _ _ hcur).lt
                       have hBl := (HBb.out _ _ hcur).lt
                       clear hk77)))
                  all_goals
                    clear n0 n1 n2 n3 s0 s1 s2 s3 b0 b1 b2 hGl hHl hBl
                    go_wp2_with fail
                    go_meet
                    exact ⟨hid hcur, hid hkf⟩
                case rest =>
                  clear hL hk
                  obtain ⟨hL, hk⟩ := hcut
                  have HEl := hid (show (E ++ [numE L (⟨3, f, b, j⟩, ⟨1, cI, -1, -1⟩)]).length ≤ 1000000 by simp; omega)
                  go_upto_region 17 with fail
                  have hcur := HKb.out _ _ _ hL.out (Below.refl _ _).drew
                  have hkf := hk.out.trans (KeepF.below (Below.refl _ _).drew)
                  obtain ⟨n0, n1, n2, n3⟩ := Fb.four (HNb.out _ _ hcur)
                  obtain ⟨s0, s1, s2, s3⟩ := Fb.four (HSb.out _ _ hcur)
                  obtain ⟨b0, b1, b2⟩ := (HBb.out _ _ hcur).thr
                  have hGl := (HNb.out _ _ hcur).lt
                  have hHl := (HSb.out _ _ hcur).lt
                  have hBl := (HBb.out _ _ hcur).lt
                  go_region_law (
                    (go_simp
                     first
                    | (go_at_call 84
                       refine (exitNode_any _ _).mono ?_
                       rintro e wn ⟨rfl, hbk⟩
                       have hcur := HKb.out _ _ _ hcur hbk
                       have hkf := hkf.trans (KeepF.below hbk)
                       obtain ⟨n0, n1, n2, n3⟩ := Fb.four (HNb.out _ _ hcur)
                       obtain ⟨s0, s1, s2, s3⟩ := Fb.four (HSb.out _ _ hcur)
                       obtain ⟨b0, b1, b2⟩ := (HBb.out _ _ hcur).thr
                       have hGl := (HNb.out _ _ hcur).lt
                       have hHl := (HSb.out _ _ hcur).lt
                       have hBl := (HBb.out _ _ hcur).lt
                       clear hbk)
                    | (go_at_call 57
                       refine (HCo.out _ _ hcur HEl.out ⟨2, cI, -1, -1⟩ ⟨4, f, b, j⟩ Hw2.out Hw4.out).mono ?_
                       rintro e wn ⟨rfl, hcur, hk77⟩
                       have hkf := hkf.trans hk77
                       obtain ⟨n0, n1, n2, n3⟩ := Fb.four (HNb.out _ _ hcur)
                       obtain ⟨s0, s1, s2, s3⟩ := Fb.four (HSb.out _ _ hcur)
                       obtain ⟨b0, b1, b2⟩ := (HBb.out _ _ hcur).thr
                       have hGl := (HNb.out _ _ hcur).lt
                       have hHl := (HSb.out _ _ hcur).lt
                       have hBl := (HBb.out _ _ hcur).lt
                       clear hk77)))
                  all_goals
                    have HF := hid (show Bls w0 ⟨some ad1, xn, xc, xl⟩ B MB M N L (E ++ (stE pp yf.bs f b j ⟨op, dd, us, ts⟩).map (numE L)) _ from by
                      rw [Hst.out]; have := HEn.out _ _ hcur; rw [List.append_assoc] at this; exact this)
                    clear n0 n1 n2 n3 s0 s1 s2 s3 b0 b1 b2 hGl hHl hBl
                    go_wp2_with fail
                    exact bodyPost_end (v := .tuple #[]) (by simp [results, Tryz.results59]) rfl ⟨rfl, HF.out, hkf⟩
          | false =>
            as_aux_lemma =>
              have Hst := hid (show stE pp yf.bs f b j ⟨op, dd, us, ts⟩ = [(⟨3, f, b, j⟩, ⟨3, f, b, (j : Int) + 1⟩)] by unfold stE; simp only; rw [h7, h8, h9, h3]; rfl)
              have hL := HL3
              have hk := HK3
              have hjw : IntKind.i64.wrap ((j : Int) + 1) = (j : Int) + 1 := IntWalk.i64_in _ (by omega)
              go_wp2_with fail
              clear s0 s1 s2 s3 HL3 HK3
              have hcur := HKb.out _ _ _ hL.out (Below.refl _ _).drew
              have hkf := hk.out.trans (KeepF.below (Below.refl _ _).drew)
              obtain ⟨n0, n1, n2, n3⟩ := Fb.four (HNb.out _ _ hcur)
              obtain ⟨s0, s1, s2, s3⟩ := Fb.four (HSb.out _ _ hcur)
              obtain ⟨b0, b1, b2⟩ := (HBb.out _ _ hcur).thr
              have hGl := (HNb.out _ _ hcur).lt
              have hHl := (HSb.out _ _ hcur).lt
              have hBl := (HBb.out _ _ hcur).lt
              go_region_law (
                (go_simp
                 first
                  | (go_at_call 58
                     refine (stmtNode_any _ _ _ _).mono ?_
                     rintro e wn ⟨rfl, hbk⟩
                     have hcur := HKb.out _ _ _ hcur hbk
                     have hkf := hkf.trans (KeepF.below hbk)
                     obtain ⟨n0, n1, n2, n3⟩ := Fb.four (HNb.out _ _ hcur)
                     obtain ⟨s0, s1, s2, s3⟩ := Fb.four (HSb.out _ _ hcur)
                     obtain ⟨b0, b1, b2⟩ := (HBb.out _ _ hcur).thr
                     have hGl := (HNb.out _ _ hcur).lt
                     have hHl := (HSb.out _ _ hcur).lt
                     have hBl := (HBb.out _ _ hcur).lt
                     clear hbk)
                  | (go_at_call 57
                     refine (HCo.out _ _ hcur (by omega) ⟨3, f, b, j⟩ ⟨3, f, b, (j : Int) + 1⟩ Hwn.out (wf_small (by omega) (by omega) (by omega) (by omega))).mono ?_
                     rintro e wn ⟨rfl, hcur, hk77⟩
                     have hkf := hkf.trans hk77
                     obtain ⟨n0, n1, n2, n3⟩ := Fb.four (HNb.out _ _ hcur)
                     obtain ⟨s0, s1, s2, s3⟩ := Fb.four (HSb.out _ _ hcur)
                     obtain ⟨b0, b1, b2⟩ := (HBb.out _ _ hcur).thr
                     have hGl := (HNb.out _ _ hcur).lt
                     have hHl := (HSb.out _ _ hcur).lt
                     have hBl := (HBb.out _ _ hcur).lt
                     clear hk77)))
              all_goals
                have HF := hid (show Bls w0 ⟨some ad1, xn, xc, xl⟩ B MB M N L (E ++ (stE pp yf.bs f b j ⟨op, dd, us, ts⟩).map (numE L)) _ from by rw [Hst.out]; exact HEn.out _ _ hcur)
                clear n0 n1 n2 n3 s0 s1 s2 s3 b0 b1 b2 hGl hHl hBl
                go_wp2_with fail
                exact bodyPost_end (v := .tuple #[]) (by simp [results, Tryz.results59]) rfl ⟨rfl, HF.out, hkf⟩

/-- The edges that leave adds. -/
def lvE (p : List Fnc) (n : Nd) : List (Nd × Nd) :=
  if n.kd == 1 then [(n, ⟨3, n.fn, 0, 0⟩)]
  else if n.kd == 3 then (match p[n.fn.toNat]? with | some F => (match F.bs[n.bk.toNat]? with | some b => (match b.ss[n.st.toNat]? with | some t => stE p F.bs n.fn.toNat n.bk.toNat n.st.toNat t | none => []) | none => []) | none => [])
  else if n.kd == 4 then [(n, ⟨3, n.fn, n.bk, n.st + 1⟩)]
  else []
end Go.Proofs.YtmbelhdkaepohaaGreatDoor

namespace Go.Proofs.YtmbelhdkaepohaaGreatDoor
set_option maxRecDepth 20000
set_option linter.unusedVariables false
set_option linter.unusedSimpArgs false
open Go.ChangeShapes Go.WideShapes Go.ChangeAt Go.RowKit

/-- A node of a program. -/
inductive NdOk (p : List Fnc) : Nd → Prop
  | entry (f : Nat) : f ≤ 1000 → NdOk p ⟨1, f, -1, -1⟩
  | exit (f : Nat) : f ≤ 1000 → NdOk p ⟨2, f, -1, -1⟩
  | stmt (f b j : Nat) (F : Fnc) (B : Blk) (t : Stm) : p[f]? = some F → F.bs[b]? = some B → B.ss[j]? = some t → ((t.op == 3) = true → t.ts ≠ []) → NdOk p ⟨3, f, b, j⟩
  | retn (f b j : Nat) : f ≤ 1000 → b ≤ 1000 → j ≤ 1000 → NdOk p ⟨4, f, b, j⟩
theorem lv_stmt {p : List Fnc} {f b j : Nat} {F : Fnc} {B : Blk} {t : Stm} (h1 : p[f]? = some F) (h2 : F.bs[b]? = some B) (h3 : B.ss[j]? = some t) : lvE p ⟨3, f, b, j⟩ = stE p F.bs f b j t := by
  unfold lvE
  simp [h1, h2, h3]
set_option maxHeartbeats 6400000 in
theorem leave_any (w0 : World) (x : PH) (ex : List (Option Nat)) (B MB M N : Nat) (L : List Nd) (E : List (Nat × Nat)) (w : World) (h : Bls w0 x B MB M N L E w) (hx : PHok w0 ex x) (hN : 1 ≤ N) (hL : L.length = N) (hE : E.length ≤ 900000)
    (n : Nd) (hn : NdOk x.p n) :
    Calls Tryz.prog 43 #[.pointer (some ⟨B, 0, none⟩), .agg #[.int .i64 n.kd, .int .i64 n.fn, .int .i64 n.bk, .int .i64 n.st]] w
      fun e w' => e = .returned (.tuple #[]) ∧ Bls w0 x B MB M N L (E ++ (lvE x.p n).map (numE L)) w' ∧ KeepF w w' := by
  have hb0 := (Below.refl w.heap.size w).alloc (Nat.le_refl _) (.cells #[.int .i64 n.kd, .int .i64 n.fn, .int .i64 n.bk, .int .i64 n.st] 55)
  have hL1 : Ls1 w0 x B MB M N w.heap.size L n E (w.alloc (.cells #[.int .i64 n.kd, .int .i64 n.fn, .int .i64 n.bk, .int .i64 n.st] 55)) := ⟨h.below hb0, Fb.new _ _ _⟩
  have HK0 := hid (KeepF.below hb0)
  have HL1 := hid hL1
  have HX := hid hx
  clear h hL1 hb0 hx
  have hG : ∃ G, w.heap.size = G := ⟨_, rfl⟩
  obtain ⟨G, hG⟩ := hG
  rw [hG] at HL1
  have HGe := hid hG
  clear hG
  cases hn with
  | entry f hf =>
    as_aux_lemma =>
      have HCo := hid (fun (E : List (Nat × Nat)) (v : World) (h : Ls1 w0 x B MB M N G L ⟨1, f, -1, -1⟩ E v) (hE : E.length ≤ 1000000) (a t : Nd) (ha : wfN a) (ht : wfN t) => h.conn hN hL hE a t ha ht)
      have HKb := hid (fun (E : List (Nat × Nat)) (v u : World) (h : Ls1 w0 x B MB M N G L ⟨1, f, -1, -1⟩ E v) (hb : Below v.heap.size v u) => h.below hb)
      have HNb := hid (fun (E : List (Nat × Nat)) (v : World) (h : Ls1 w0 x B MB M N G L ⟨1, f, -1, -1⟩ E v) => h.nb)
      have Hst := hid (show (lvE x.p ⟨1, f, -1, -1⟩).map (numE L) = [numE L (⟨1, f, -1, -1⟩, ⟨3, f, 0, 0⟩)] by unfold lvE; rfl)
      simp only at *
      obtain ⟨n0, n1, n2, n3⟩ := Fb.four (HNb.out _ _ HL1.out)
      have hGl := (HNb.out _ _ HL1.out).lt
      go_enter Tryz.func43, Tryz.ntmps43
      rw [← HGe.out] at n0 n1 n2 n3 hGl
      go_wp2_with fail
      clear n0 n1 n2 n3 hGl
      rw [HGe.out]
      generalize w.alloc (.cells #[.int .i64 1, .int .i64 (f : Int), .int .i64 (-1), .int .i64 (-1)] 55) = W at *
      have hcur := HKb.out _ _ _ HL1.out (Below.refl _ _).drew
      have hkf := HK0.out.trans (KeepF.below (Below.refl _ _).drew)
      obtain ⟨n0, n1, n2, n3⟩ := Fb.four (HNb.out _ _ hcur)
      have hGl := (HNb.out _ _ hcur).lt
      clear HL1 HK0
      go_region_law (
        (go_simp
         first
         | (go_at_call 58
            refine (stmtNode_any _ _ _ _).mono ?_
            rintro e wn ⟨rfl, hbk⟩
            have hcur := HKb.out _ _ _ hcur hbk
            have hkf := hkf.trans (KeepF.below hbk)
            obtain ⟨n0, n1, n2, n3⟩ := Fb.four (HNb.out _ _ hcur)
            have hGl := (HNb.out _ _ hcur).lt
            clear hbk)
         | (go_at_call 57
            refine (HCo.out _ _ hcur (by omega) ⟨1, f, -1, -1⟩ ⟨3, f, 0, 0⟩ (wf_small (by omega) (by omega) (by omega) (by omega)) (wf_small (by omega) (by omega) (by omega) (by omega))).mono ?_
            rintro e wn ⟨rfl, hcur, hk77⟩
            have hkf := hkf.trans hk77
            obtain ⟨n0, n1, n2, n3⟩ := Fb.four (HNb.out _ _ hcur)
            have hGl := (HNb.out _ _ hcur).lt
            clear hk77)))
      all_goals
        have HF := hid (show Bls w0 x B MB M N L (E ++ (lvE x.p ⟨1, f, -1, -1⟩).map (numE L)) _ from by rw [Hst.out]; exact hcur.bls)
        clear n0 n1 n2 n3 hGl
        go_wp2_with fail
        exact bodyPost_end (v := .tuple #[]) (by simp [results, Tryz.results43]) rfl ⟨rfl, HF.out, hkf⟩
  | exit f hf =>
    as_aux_lemma =>
      have Hst := hid (show (lvE x.p ⟨2, f, -1, -1⟩).map (numE L) = [] by unfold lvE; rfl)
      obtain ⟨n0, n1, n2, n3⟩ := Fb.four HL1.out.nb
      have hGl := HL1.out.nb.lt
      have HF := hid (show Bls w0 x B MB M N L (E ++ (lvE x.p ⟨2, f, -1, -1⟩).map (numE L)) _ from by rw [Hst.out, List.append_nil]; exact HL1.out.bls)
      simp only at *
      go_enter Tryz.func43, Tryz.ntmps43
      rw [← HGe.out] at n0 n1 n2 n3 hGl
      go_wp2_with fail
      exact bodyPost_end (v := .tuple #[]) (by simp [results, Tryz.results43]) rfl ⟨rfl, HF.out, HK0.out⟩
  | stmt f b j F Bk t h1 h2 h3 hts =>
    as_aux_lemma =>
      have Hst := hid (lv_stmt h1 h2 h3)
      have HC := hid (fun (v : World) (hv : Bls w0 x B MB M N L E v) => leaveStmt_any w0 x ex B MB M N L E v hv HX.out hN hL hE f b j F Bk t h1 h2 h3 hts)
      clear h1 h2 h3 hts
      obtain ⟨n0, n1, n2, n3⟩ := Fb.four HL1.out.nb
      have hGl := HL1.out.nb.lt
      simp only at *
      go_enter Tryz.func43, Tryz.ntmps43
      rw [← HGe.out] at n0 n1 n2 n3 hGl
      go_wp2_with fail
      clear n0 n1 n2 n3 hGl
      refine (HC.out _ HL1.out.bls).mono ?_
      rintro e w2 ⟨rfl, h2, hk2⟩
      have HF := hid (show Bls w0 x B MB M N L (E ++ (lvE x.p ⟨3, f, b, j⟩).map (numE L)) w2 from by rw [Hst.out]; exact h2)
      have HK2 := hid (HK0.out.trans hk2)
      clear h2 hk2 HC HL1
      go_wp2_with fail
      exact bodyPost_end (v := .tuple #[]) (by simp [results, Tryz.results43]) rfl ⟨rfl, HF.out, HK2.out⟩
  | retn f b j hf hb hj =>
    as_aux_lemma =>
      have HCo := hid (fun (E : List (Nat × Nat)) (v : World) (h : Ls1 w0 x B MB M N G L ⟨4, f, b, j⟩ E v) (hE : E.length ≤ 1000000) (a t : Nd) (ha : wfN a) (ht : wfN t) => h.conn hN hL hE a t ha ht)
      have HKb := hid (fun (E : List (Nat × Nat)) (v u : World) (h : Ls1 w0 x B MB M N G L ⟨4, f, b, j⟩ E v) (hb : Below v.heap.size v u) => h.below hb)
      have HNb := hid (fun (E : List (Nat × Nat)) (v : World) (h : Ls1 w0 x B MB M N G L ⟨4, f, b, j⟩ E v) => h.nb)
      have Hst := hid (show (lvE x.p ⟨4, f, b, j⟩).map (numE L) = [numE L (⟨4, f, b, j⟩, ⟨3, f, b, (j : Int) + 1⟩)] by unfold lvE; rfl)
      have hjw : IntKind.i64.wrap ((j : Int) + 1) = (j : Int) + 1 := IntWalk.i64_in _ (by omega)
      simp only at *
      obtain ⟨n0, n1, n2, n3⟩ := Fb.four (HNb.out _ _ HL1.out)
      have hGl := (HNb.out _ _ HL1.out).lt
      go_enter Tryz.func43, Tryz.ntmps43
      rw [← HGe.out] at n0 n1 n2 n3 hGl
      go_wp2_with fail
      clear n0 n1 n2 n3 hGl
      rw [HGe.out]
      generalize w.alloc (.cells #[.int .i64 4, .int .i64 (f : Int), .int .i64 (b : Int), .int .i64 (j : Int)] 55) = W at *
      have hcur := HKb.out _ _ _ HL1.out (Below.refl _ _).drew
      have hkf := HK0.out.trans (KeepF.below (Below.refl _ _).drew)
      obtain ⟨n0, n1, n2, n3⟩ := Fb.four (HNb.out _ _ hcur)
      have hGl := (HNb.out _ _ hcur).lt
      clear HL1 HK0
      go_region_law (
        (go_simp
         first
         | (go_at_call 58
            refine (stmtNode_any _ _ _ _).mono ?_
            rintro e wn ⟨rfl, hbk⟩
            have hcur := HKb.out _ _ _ hcur hbk
            have hkf := hkf.trans (KeepF.below hbk)
            obtain ⟨n0, n1, n2, n3⟩ := Fb.four (HNb.out _ _ hcur)
            have hGl := (HNb.out _ _ hcur).lt
            clear hbk)
         | (go_at_call 57
            refine (HCo.out _ _ hcur (by omega) ⟨4, f, b, j⟩ ⟨3, f, b, (j : Int) + 1⟩ (wf_small (by omega) (by omega) (by omega) (by omega)) (wf_small (by omega) (by omega) (by omega) (by omega))).mono ?_
            rintro e wn ⟨rfl, hcur, hk77⟩
            have hkf := hkf.trans hk77
            obtain ⟨n0, n1, n2, n3⟩ := Fb.four (HNb.out _ _ hcur)
            have hGl := (HNb.out _ _ hcur).lt
            clear hk77)))
      all_goals
        have HF := hid (show Bls w0 x B MB M N L (E ++ (lvE x.p ⟨4, f, b, j⟩).map (numE L)) _ from by rw [Hst.out]; exact hcur.bls)
        clear n0 n1 n2 n3 hGl
        go_wp2_with fail
        exact bodyPost_end (v := .tuple #[]) (by simp [results, Tryz.results43]) rfl ⟨rfl, HF.out, hkf⟩
end Go.Proofs.YtmbelhdkaepohaaGreatDoor

namespace Go.Proofs.YtmbelhdkaepohaaGreatDoor
set_option maxRecDepth 20000
set_option linter.unusedVariables false
set_option linter.unusedSimpArgs false
open Go.ChangeShapes Go.WideShapes Go.ChangeAt Go.RowKit

/-- All edges, in their order. -/
def edgesN (p : List Fnc) : List (Nd × Nd) := (listN p).flatMap (lvE p)
def sumH (h : Nd → Nat) (l : List Nd) : Nat := (l.map h).sum
theorem sumH_append (h : Nd → Nat) (l m : List Nd) : sumH h (l ++ m) = sumH h l + sumH h m := by simp [sumH]
theorem sumH_len (l : List Nd) : sumH (fun _ => 1) l = l.length := by
  induction l with
  | nil => rfl
  | cons x l ih => unfold sumH at *; simp [ih]; omega
theorem flat_sum (p : List Fnc) (l : List Nd) : (l.flatMap (lvE p)).length = sumH (fun n => (lvE p n).length) l := by
  induction l with
  | nil => rfl
  | cons x l ih => rw [List.flatMap_cons, List.length_append, ih]; unfold sumH; simp
theorem sumP_append (f : Int → Nat) (l m : List Stm) : sumP f (l ++ m) = sumP f l + sumP f m := by simp [sumP]
theorem sum_stmts {h : Nd → Nat} {e : Int → Nat} {f b : Nat} {ss : List Stm} (hs : ∀ (j : Nat) (t : Stm), ss[j]? = some t → sumH h (ndS f b j t) = e t.op) : ∀ k, k ≤ ss.length → sumH h ((List.range k).flatMap (ndSs f b ss)) = sumP e (ss.take k) := by
  intro k
  induction k with
  | zero => intro _; rfl
  | succ k ih =>
    intro hk
    have ht : ss[k]? = some ss[k] := List.getElem?_eq_getElem (by omega)
    rw [range_flat, sumH_append, ih (by omega), ndSs_at ht, hs k _ ht, List.take_add_one, ht, sumP_append]
    simp [sumP]
theorem sum_blocks {h : Nd → Nat} {e : Int → Nat} {f : Nat} {bs : List Blk} (hs : ∀ (b : Nat) (B : Blk) (j : Nat) (t : Stm), bs[b]? = some B → B.ss[j]? = some t → sumH h (ndS f b j t) = e t.op) :
    ∀ k, k ≤ bs.length → sumH h ((List.range k).flatMap (ndBs f bs)) = sumP e ((bs.take k).flatMap Blk.ss) := by
  intro k
  induction k with
  | zero => intro _; rfl
  | succ k ih =>
    intro hk
    have ht : bs[k]? = some bs[k] := List.getElem?_eq_getElem (by omega)
    rw [range_flat, sumH_append, ih (by omega), ndBs_at ht, List.take_add_one, ht]
    have := sum_stmts (h := h) (e := e) (f := f) (b := k) (ss := bs[k].ss) (fun j t hj => hs k _ j t ht hj) bs[k].ss.length (Nat.le_refl _)
    unfold ndB
    rw [this, List.take_length, List.flatMap_append, sumP_append, Option.toList_some, List.flatMap_cons, List.flatMap_nil, List.append_nil]
theorem sum_funcs {h : Nd → Nat} {e : Int → Nat} {p : List Fnc} {c : Nat} (hc : ∀ f : Nat, h ⟨1, f, -1, -1⟩ + h ⟨2, f, -1, -1⟩ = c)
    (hs : ∀ (f : Nat) (F : Fnc) (b : Nat) (B : Blk) (j : Nat) (t : Stm), p[f]? = some F → F.bs[b]? = some B → B.ss[j]? = some t → sumH h (ndS f b j t) = e t.op) :
    ∀ k, k ≤ p.length → sumH h (pre1 p k) = k * c + sumP e ((p.take k).flatMap fncS) := by
  intro k
  induction k with
  | zero => intro _; simp [pre1, sumH, sumP]
  | succ k ih =>
    intro hk
    have ht : p[k]? = some p[k] := List.getElem?_eq_getElem (by omega)
    have hp : pre1 p (k + 1) = pre1 p k ++ ndF k p[k] := by unfold pre1; rw [range_flat, ndFs_at ht]
    rw [hp, sumH_append, ih (by omega), List.take_add_one, ht]
    have := sum_blocks (h := h) (e := e) (f := k) (bs := p[k].bs) (fun b B j t hb hj => hs k _ b B j t ht hb hj) p[k].bs.length (Nat.le_refl _)
    rw [List.take_length] at this
    have h2 : sumH h (ndF k p[k]) = c + sumP e (fncS p[k]) := by
      unfold ndF fncS
      rw [sumH_append, show (⟨1, k, -1, -1⟩ : Nd) :: (List.range p[k].bs.length).flatMap (ndBs k p[k].bs) = [(⟨1, k, -1, -1⟩ : Nd)] ++ (List.range p[k].bs.length).flatMap (ndBs k p[k].bs) from rfl, sumH_append, this]
      have := hc k
      unfold sumH
      simp
      omega
    rw [h2, Nat.succ_mul, List.flatMap_append, sumP_append, Option.toList_some, List.flatMap_cons, List.flatMap_nil, List.append_nil]
    omega
theorem check_parts {p : List Fnc} (h : (checkP p).2 = 0) : prgB p = true ∧ fitB p = true ∧ listN p = pre1 p p.length := by
  unfold checkP at h
  by_cases h1 : prgB p = true
  · rw [if_pos h1] at h
    by_cases h2 : ((funcsE p).2 == 0) = true
    · rw [if_pos h2] at h
      by_cases h3 : fitB p = true
      · refine ⟨h1, h3, ?_⟩
        unfold listN pre1 checkP
        rw [if_pos h1, if_pos h2, if_pos h3]
        rfl
      · rw [if_neg h3] at h; simp at h
    · rw [if_neg h2] at h
      rw [h] at h2
      simp at h2
  · rw [if_neg h1] at h; simp at h
theorem stm_ts {t : Stm} (h : stmB t = true) : (t.op = 3 ∨ t.op = 7 → t.ts.length = 1) ∧ (t.op = 8 → t.ts.length = 2) ∧ t.ts.length ≤ 2 ∧ 1 ≤ t.op ∧ t.op ≤ 9 := by
  unfold stmB at h
  simp only [Bool.and_eq_true] at h
  obtain ⟨⟨_, h2⟩, h3⟩ := h
  have hl : t.ts.length ≤ 2 := by
    unfold namesB at h2
    simp only [Bool.and_eq_true, decide_eq_true_eq] at h2
    omega
  unfold okP at h3
  refine ⟨fun ho => ?_, fun ho => ?_, hl, ?_⟩
  · rcases ho with ho | ho <;> (rw [ho] at h3; simp at h3; omega)
  · rw [ho] at h3; simp at h3; omega
  · split at h3
    · omega
    · split at h3
      · omega
      · split at h3
        · omega
        · split at h3
          · omega
          · split at h3
            · omega
            · split at h3
              · omega
              · split at h3
                · omega
                · simp at h3
theorem stE_len {p : List Fnc} {bs : List Blk} {f b j : Nat} {t : Stm} (h : stmB t = true) : (stE p bs f b j t).length + (if t.op == 3 then 1 else 0) = edgO t.op := by
  obtain ⟨h1, h2, h3, h4, h5⟩ := stm_ts h
  unfold stE edgO
  by_cases e7 : t.op = 7
  · have := h1 (.inr e7); simp [e7, this]
  · by_cases e8 : t.op = 8
    · have := h2 e8; simp [e8, this]
    · by_cases e9 : t.op = 9
      · simp [e9]
      · by_cases e3 : t.op = 3
        · simp [e3]
        · simp [e7, e8, e9, e3]
theorem lvE_at {p : List Fnc} {f b j : Nat} {F : Fnc} {B : Blk} {t : Stm} (h1 : p[f]? = some F) (h2 : F.bs[b]? = some B) (h3 : B.ss[j]? = some t) : lvE p ⟨3, f, b, j⟩ = stE p F.bs f b j t := by
  unfold lvE
  simp [h1, h2, h3]
theorem sizes_ok {p : List Fnc} (h : (checkP p).2 = 0) : (listN p).length = (sizesP p).1 ∧ (edgesN p).length = (sizesP p).2 ∧ (listN p).length ≤ 256 ∧ (edgesN p).length ≤ 1024 := by
  obtain ⟨hp, hf, hL⟩ := check_parts h
  obtain ⟨q1, q2, q3⟩ := prg_parts hp
  have hst : ∀ (f : Nat) (F : Fnc) (b : Nat) (B : Blk) (j : Nat) (t : Stm), p[f]? = some F → F.bs[b]? = some B → B.ss[j]? = some t → stmB t = true := fun f F b B j t h1 h2 h3 =>
    (blk_parts ((fnc_parts (q3 F (List.mem_of_getElem? h1))).2.2 B (List.mem_of_getElem? h2))).2.2 t (List.mem_of_getElem? h3)
  have hn : (listN p).length = 2 * p.length + sumP nodO (p.flatMap fncS) := by
    rw [← sumH_len, hL, sum_funcs (h := fun _ => 1) (e := nodO) (c := 2) (fun _ => rfl) (fun f F b B j t h1 h2 h3 => ?_) p.length (Nat.le_refl _), List.take_length]
    · omega
    · rw [sumH_len]; unfold ndS nodO; split <;> rfl
  have he : (edgesN p).length = p.length + sumP edgO (p.flatMap fncS) := by
    unfold edgesN
    rw [flat_sum, hL, sum_funcs (h := fun n => (lvE p n).length) (e := edgO) (c := 1) (fun f => ?_) (fun f F b B j t h1 h2 h3 => ?_) p.length (Nat.le_refl _), List.take_length]
    · omega
    · rfl
    · rw [← stE_len (p := p) (bs := F.bs) (f := f) (b := b) (j := j) (hst f F b B j t h1 h2 h3)]
      unfold ndS
      by_cases e3 : (t.op == 3) = true
      · rw [if_pos e3, if_pos e3]
        unfold sumH
        simp only [List.map_cons, List.map_nil, List.sum_cons, List.sum_nil, lvE_at h1 h2 h3]
        rfl
      · rw [if_neg e3, if_neg e3]
        unfold sumH
        simp only [List.map_cons, List.map_nil, List.sum_cons, List.sum_nil, lvE_at h1 h2 h3]
  have hs : stmtsP p = p.flatMap fncS := by unfold stmtsP; rw [if_pos hp]
  have hne : (stmtsP p).length ≠ 0 := by
    rw [hs]
    intro h0
    have h0 := List.length_eq_zero_iff.1 h0
    rw [List.flatMap_eq_nil_iff] at h0
    have hF : p[0] ∈ p := List.getElem_mem (by omega)
    have h1 := h0 _ hF
    obtain ⟨a1, _, a3⟩ := fnc_parts (q3 _ hF)
    unfold fncS at h1
    rw [List.flatMap_eq_nil_iff] at h1
    have hB : p[0].bs[0] ∈ p[0].bs := List.getElem_mem (by omega)
    have h2 := h1 _ hB
    have := (blk_parts (a3 _ hB)).1
    rw [h2] at this
    simp at this
  have hz : sizesP p = (2 * p.length + sumP nodO (p.flatMap fncS), p.length + sumP edgO (p.flatMap fncS)) := by unfold sizesP; rw [if_neg hne, hs]
  unfold fitB at hf
  rw [hz] at hf ⊢
  simp only [Bool.and_eq_true, decide_eq_true_eq] at hf
  exact ⟨hn, he, by omega, by omega⟩
theorem list_pos {p : List Fnc} (h : (checkP p).2 = 0) : 1 ≤ (listN p).length := by
  obtain ⟨hp, hf, hL⟩ := check_parts h
  obtain ⟨q1, q2, q3⟩ := prg_parts hp
  have hF : p[0]? = some p[0] := List.getElem?_eq_getElem (by omega)
  have : (⟨1, (0 : Nat), -1, -1⟩ : Nd) ∈ listN p := by
    rw [hL]
    unfold pre1
    refine List.mem_flatMap.2 ⟨0, List.mem_range.2 (by omega), ?_⟩
    rw [ndFs_at hF]
    unfold ndF
    simp
  exact List.length_pos_of_mem this
end Go.Proofs.YtmbelhdkaepohaaGreatDoor

namespace Go.Proofs.YtmbelhdkaepohaaGreatDoor
set_option maxRecDepth 20000
set_option linter.unusedVariables false
set_option linter.unusedSimpArgs false
open Go.ChangeShapes Go.WideShapes Go.ChangeAt Go.RowKit

/-- The edges as pairs of numbers. -/
def numsE (p : List Fnc) : List (Nat × Nat) := (edgesN p).map (numE (listN p))
def sucF (p : List Fnc) (a : Nat) : List Int := rowP (listN p).length fun b => decide ((b : Int) ∈ outF (numsE p) a)
def sucL (p : List Fnc) : List (List Int) := rowsF (listN p).length (sucF p)
/-- What the sorted part of the lists holds. -/
def srF (N : Nat) (E : List (Nat × Nat)) (k : Nat) (a : Nat) : List Int := if a < k then rowP N (fun b => decide ((b : Int) ∈ outF E a)) else outF E a
theorem nodes_ok {p : List Fnc} (h : (checkP p).2 = 0) : ∀ n ∈ listN p, NdOk p n ∧ wfN n := by
  obtain ⟨hp, hf, hL⟩ := check_parts h
  obtain ⟨q1, q2, q3⟩ := prg_parts hp
  intro n hn
  rw [hL] at hn
  unfold pre1 at hn
  obtain ⟨f, hf1, hn⟩ := List.mem_flatMap.1 hn
  have hf1 := List.mem_range.1 hf1
  have hF : p[f]? = some p[f] := List.getElem?_eq_getElem hf1
  rw [ndFs_at hF] at hn
  have hfl : f ≤ 1000 := by omega
  obtain ⟨a1, a2, a3⟩ := fnc_parts (q3 _ (List.getElem_mem hf1))
  unfold ndF at hn
  simp only [List.mem_append, List.mem_cons, List.mem_singleton, List.not_mem_nil, or_false] at hn
  rcases hn with (rfl | hn) | rfl
  · exact ⟨.entry f hfl, wf_small (by omega) (by omega) (by omega) (by omega)⟩
  · obtain ⟨b, hb1, hn⟩ := List.mem_flatMap.1 hn
    have hb1 := List.mem_range.1 hb1
    have hB : p[f].bs[b]? = some p[f].bs[b] := List.getElem?_eq_getElem hb1
    rw [ndBs_at hB] at hn
    obtain ⟨c1, c2, c3⟩ := blk_parts (a3 _ (List.getElem_mem hb1))
    unfold ndB at hn
    obtain ⟨j, hj1, hn⟩ := List.mem_flatMap.1 hn
    have hj1 := List.mem_range.1 hj1
    have hS : p[f].bs[b].ss[j]? = some p[f].bs[b].ss[j] := List.getElem?_eq_getElem hj1
    rw [ndSs_at hS] at hn
    have hst := stm_ts (c3 _ (List.getElem_mem hj1))
    have hts : (p[f].bs[b].ss[j].op == 3) = true → p[f].bs[b].ss[j].ts ≠ [] := fun e h0 => by
      have := hst.1 (.inl (by simpa using e))
      rw [h0] at this
      simp at this
    have h3 : NdOk p ⟨3, f, b, j⟩ ∧ wfN ⟨3, f, b, j⟩ := ⟨.stmt f b j _ _ _ hF hB hS hts, wf_small (by omega) (by omega) (by omega) (by omega)⟩
    have h4 : NdOk p ⟨4, f, b, j⟩ ∧ wfN ⟨4, f, b, j⟩ := ⟨.retn f b j hfl (by omega) (by omega), wf_small (by omega) (by omega) (by omega) (by omega)⟩
    unfold ndS at hn
    split at hn
    · simp only [List.mem_cons, List.not_mem_nil, or_false] at hn
      rcases hn with rfl | rfl
      · exact h3
      · exact h4
    · simp only [List.mem_cons, List.not_mem_nil, or_false] at hn
      subst hn
      exact h3
  · exact ⟨.exit f hfl, wf_small (by omega) (by omega) (by omega) (by omega)⟩
theorem drew_size (w : World) : w.drew.heap.size = w.heap.size := rfl
/-- What stands in Build before the builder is made. -/
structure Bw (w : World) (P0 : Nat) (x : PH) (A : Option Addr) (L : List Nd) (v : World) : Prop where
  bel : Below w.heap.size w v
  par : Fb v P0 #[.slice x.A x.n x.c] 49
  res : Fb v (P0 + 1) #[.slice none 0 0, .slice none 0 0, .slice none 0 0] 26
  nds : ∀ ex : List (Option Nat), (∀ k, some k ∈ ex → k < w.heap.size + 2) → EAt v ex A (L.flatMap ndc)
  peq : P0 = w.heap.size
theorem Bw.below {w v v' : World} {P0 : Nat} {x : PH} {A : Option Addr} {L : List Nd} (h : Bw w P0 x A L v) (hb : Below v.heap.size v v') : Bw w P0 x A L v' :=
  ⟨below_step h.bel hb, h.par.below hb h.par.lt, h.res.below hb h.res.lt, fun ex hex => (h.nds ex hex).go (Go2.below hb), h.peq⟩
/-- The builder while its lists are sorted. -/
structure Bms (w0 : World) (x : PH) (B MB M N : Nat) (f : Nat → List Int) (w : World) : Prop where
  box : Fb w B #[.slice x.A x.n x.c, .map (some MB), .slice (some ⟨M, 0, none⟩) N N] 85
  mx : Mx w M N f
  bel : Below w0.heap.size w0 w
  mle : w0.heap.size ≤ M
theorem Bms.below {w0 w w' : World} {x : PH} {B MB M N : Nat} {f : Nat → List Int} (h : Bms w0 x B MB M N f w) (hb : Below w.heap.size w w') : Bms w0 x B MB M N f w' :=
  ⟨h.box.below hb h.box.lt, h.mx.below hb, below_step h.bel hb, h.mle⟩
theorem ints_mem {E : List (Nat × Nat)} {N : Nat} (hE : ∀ e ∈ E, e.2 < N) (a : Nat) : ∀ x ∈ outF E a, 0 ≤ x ∧ x < (N : Int) := by
  intro x hx
  obtain ⟨c, hc, rfl⟩ := outF_mem.1 hx
  have := hE _ hc
  simp only at this
  omega
theorem srF_step {N : Nat} {E : List (Nat × Nat)} {k : Nat} (hE : ∀ e ∈ E, e.2 < N) (a : Nat) : upd (srF N E k) k (Lib.compact (srtI (outF E k))) a = srF N E (k + 1) a := by
  by_cases e : a = k
  · subst e
    rw [upd_at, compact_row (ints_mem hE a)]
    unfold srF
    rw [if_pos (by omega)]
  · rw [upd_ne _ _ e]
    unfold srF
    by_cases e2 : a < k
    · rw [if_pos e2, if_pos (by omega)]
    · rw [if_neg e2, if_neg (by omega)]
theorem srF_at {N : Nat} {E : List (Nat × Nat)} {k : Nat} : srF N E k k = outF E k := by unfold srF; rw [if_neg (by omega)]
theorem srF_zero (N : Nat) (E : List (Nat × Nat)) (a : Nat) : srF N E 0 a = outF E a := by unfold srF; rw [if_neg (by omega)]
theorem slice_own {A : Option Addr} {n c m d : Nat} : (Value.slice A n c).ownBlock = (Value.slice A m d).ownBlock := by cases A <;> rfl
theorem Bms.turn {w0 w w2 : World} {x : PH} {B MB M N : Nat} {E : List (Nat × Nat)} {k n c n2 c2 : Nat} {A : Option Addr} (h : Bms w0 x B MB M N (srF N E k) w) (hE : ∀ e ∈ E, e.2 < N) (hk : k < N) (hc : w.cell? ⟨M, k, none⟩ = some (.slice A n c))
    (hg : w.grownBy w2 (Value.slice A n c).ownBlock) (ho : w2.ownsRow (M + 1) 3 1 (.slice A n2 c2) n2 (ints (Lib.compact (srtI (outF E k))))) (hn2 : (Lib.compact (srtI (outF E k))).length = n2) :
    (w2.cell? ⟨M, k, none⟩ = some (.slice A n c) ∧ w2.frozen? ⟨M, k, none⟩ = false) ∧ Bms w0 x B MB M N (srF N E (k + 1)) (w2.setCell ⟨M, k, none⟩ (.slice A n2 c2)) := by
  obtain ⟨h1, h2, h3⟩ := h.mx.of hk hc
  subst hn2
  have hbM := h.mx.fb h.box (by decide)
  refine ⟨h2 _ hg, ⟨(h.box.grown hg (fb_ne_own h.box h1 (by decide))).far (by simpa using hbM) _, ?_, ?_, h.mle⟩⟩
  · exact (h3 w2 (.slice A (Lib.compact (srtI (outF E k))).length c2) _ hg ho (fun g hg2 => .inl (by rw [← hg2]; exact slice_own))).congr fun a _ => srF_step hE a
  · exact (h.bel.grown hg h.bel.size (fun j hj => by have := (h1.lt j hj).1; have := h.mle; omega)).setCell (by simpa using h.mle) _
theorem numsE_lt {p : List Fnc} {N : Nat} (h : (listN p).length = N) (hN : 1 ≤ N) : ∀ e ∈ numsE p, e.2 < N := by
  intro e he
  obtain ⟨e2, _, rfl⟩ := List.mem_map.1 he
  show numN (listN p) e2.2 < N
  rw [← h]; exact numN_lt (by omega) _
theorem flat_take {p : List Fnc} {L : List Nd} {k : Nat} {y : Nd} (h : L[k]? = some y) : ((L.take k).flatMap (lvE p)).map (numE L) ++ (lvE p y).map (numE L) = ((L.take (k + 1)).flatMap (lvE p)).map (numE L) := by
  rw [List.take_add_one, h]; simp
theorem flat_take_len {p : List Fnc} {L : List Nd} {k m : Nat} (h : (L.flatMap (lvE p)).length ≤ m) : (((L.take k).flatMap (lvE p)).map (numE L)).length ≤ m := by
  rw [List.length_map]
  refine Nat.le_trans ?_ h
  conv => rhs; rw [← List.take_append_drop k L]
  rw [List.flatMap_append, List.length_append]
  omega
theorem mx_nil {w : World} {M N : Nat} (h : Fb w M (Array.replicate N (Value.slice none 0 0)) 22) : Mx w M N (outF []) := by
  refine ⟨List.replicate N (.slice none 0 0), by simp, by rw [List.toArray_replicate]; exact h, fun i v hv => ?_, fun i j u v g _ hu hv hg => ?_⟩
  · obtain rfl := List.eq_of_mem_replicate (List.mem_of_getElem? hv)
    exact World.ownsRow_nil _ _ _ _
  · obtain rfl := List.eq_of_mem_replicate (List.mem_of_getElem? hu)
    simp [Value.ownBlock] at hg
theorem NMp.far {w : World} {MB B t : Nat} {cs : Array Value} {L : List Nd} (h : NMp w MB L) (hf : Fb w B cs t) (o : Nat) (u : Value) : NMp (w.setCell ⟨B, o, none⟩ u) MB L := by
  refine h.kept (setCell_grown w ⟨B, o, none⟩ u) (fun e => ?_)
  injection e with e
  simp only at e
  obtain ⟨es, clock, hm⟩ := h.isMap
  unfold Fb at hf
  rw [← e, hm] at hf
  cases hf
section
variable {w5 wn : World} {x : PH} {MB N : Nat} {L : List Nd}
theorem bl1 (hm : NMp wn MB L) (hb : Below w5.heap.size w5 wn) :
    Bls w5 x (wn.heap.size + 1) MB wn.heap.size N L [] ((wn.alloc (.cells (Array.replicate N (Value.slice none 0 0)) 22)).alloc (.cells #[.slice x.A x.n x.c, .map (some MB), .slice (some ⟨wn.heap.size, 0, none⟩) N N] 85)) :=
  ⟨by have := Fb.new (wn.alloc (.cells (Array.replicate N (Value.slice none 0 0)) 22)) #[.slice x.A x.n x.c, .map (some MB), .slice (some ⟨wn.heap.size, 0, none⟩) N N] 85; rwa [World.size_alloc] at this,
    hm.below (((Below.refl _ _).alloc (Nat.le_refl _) _).alloc (by simp) _), mx_nil ((Fb.new _ _ _).alloc _), (hb.alloc hb.size _).alloc (by simp; have := hb.size; omega) _, hb.size⟩
theorem bl2 (hm : NMp wn MB L) (hb : Below w5.heap.size w5 wn) :
    Bls w5 x wn.heap.size MB (wn.heap.size + 1) N L [] ((wn.alloc (.cells #[.slice x.A x.n x.c, .map (some MB), .slice (some ⟨wn.heap.size + 1, 0, none⟩) N N] 85)).alloc (.cells (Array.replicate N (Value.slice none 0 0)) 22)) :=
  ⟨(Fb.new _ _ _).alloc _, hm.below (((Below.refl _ _).alloc (Nat.le_refl _) _).alloc (by simp) _),
    mx_nil (by have := Fb.new (wn.alloc (.cells #[.slice x.A x.n x.c, .map (some MB), .slice (some ⟨wn.heap.size + 1, 0, none⟩) N N] 85)) (Array.replicate N (Value.slice none 0 0)) 22; rwa [World.size_alloc] at this),
    (hb.alloc hb.size _).alloc (by simp; have := hb.size; omega) _, by have := hb.size; omega⟩
theorem bl3 (hm : NMp wn MB L) (hb : Below w5.heap.size w5 wn) (hk : Below (w5.alloc (.cells (Array.replicate N (Value.slice none 0 0)) 22)).drew.heap.size (w5.alloc (.cells (Array.replicate N (Value.slice none 0 0)) 22)).drew wn) :
    Bls w5 x wn.heap.size MB w5.heap.size N L [] (wn.alloc (.cells #[.slice x.A x.n x.c, .map (some MB), .slice (some ⟨w5.heap.size, 0, none⟩) N N] 85)) :=
  have h1 : Fb (w5.alloc (.cells (Array.replicate N (Value.slice none 0 0)) 22)).drew w5.heap.size (Array.replicate N (Value.slice none 0 0)) 22 := Fb.new w5 _ _
  ⟨Fb.new _ _ _, hm.below ((Below.refl _ _).alloc (Nat.le_refl _) _), mx_nil ((h1.below hk h1.lt).alloc _), hb.alloc hb.size _, Nat.le_refl _⟩
theorem set3 {w : World} {B : Nat} {a b c a' b' c' : Value} {t : Nat} (h : Fb w B #[a, b, c] t) : Fb (((w.setCell ⟨B, 0, none⟩ a').setCell ⟨B, 1, none⟩ b').setCell ⟨B, 2, none⟩ c') B #[a', b', c'] t := by
  have := ((h.set 0 a').set 1 b').set 2 c'
  simpa using this
theorem far3 {w : World} {B g t : Nat} {a' b' c' : Value} {cs : Array Value} (h : Fb w g cs t) (hne : g ≠ B) : Fb (((w.setCell ⟨B, 0, none⟩ a').setCell ⟨B, 1, none⟩ b').setCell ⟨B, 2, none⟩ c') g cs t :=
  ((h.far (p := ⟨B, 0, none⟩) hne _).far (p := ⟨B, 1, none⟩) hne _).far (p := ⟨B, 2, none⟩) hne _
theorem map3 {w : World} {B t : Nat} {a b c a' b' c' : Value} (hm : NMp w MB L) (h : Fb w B #[a, b, c] t) : NMp (((w.setCell ⟨B, 0, none⟩ a').setCell ⟨B, 1, none⟩ b').setCell ⟨B, 2, none⟩ c') MB L :=
  ((hm.far h 0 a').far (h.set 0 a') 1 b').far ((h.set 0 a').set 1 b') 2 c'
theorem bel3 {w : World} {B : Nat} {a' b' c' : Value} (hb : Below w5.heap.size w5 w) (hB : w5.heap.size ≤ B) : Below w5.heap.size w5 (((w.setCell ⟨B, 0, none⟩ a').setCell ⟨B, 1, none⟩ b').setCell ⟨B, 2, none⟩ c') :=
  ((hb.setCell (by simpa using hB) _).setCell (by simpa using hB) _).setCell (by simpa using hB) _
theorem bl4 (hm : NMp wn MB L) (hb : Below w5.heap.size w5 wn)
    (hk : Below ((w5.alloc (.cells (Array.replicate N (Value.slice none 0 0)) 22)).alloc (.cells #[.slice none 0 0, .map none, .slice none 0 0] 85)).drew.heap.size ((w5.alloc (.cells (Array.replicate N (Value.slice none 0 0)) 22)).alloc (.cells #[.slice none 0 0, .map none, .slice none 0 0] 85)).drew wn) :
    Bls w5 x (w5.heap.size + 1) MB w5.heap.size N L [] (((wn.setCell ⟨w5.heap.size + 1, 0, none⟩ (.slice x.A x.n x.c)).setCell ⟨w5.heap.size + 1, 1, none⟩ (.map (some MB))).setCell ⟨w5.heap.size + 1, 2, none⟩ (.slice (some ⟨w5.heap.size, 0, none⟩) N N)) :=
  have h1 : Fb ((w5.alloc (.cells (Array.replicate N (Value.slice none 0 0)) 22)).alloc (.cells #[.slice none 0 0, .map none, .slice none 0 0] 85)).drew w5.heap.size (Array.replicate N (Value.slice none 0 0)) 22 := (Fb.new w5 _ _).alloc _
  have h2 : Fb ((w5.alloc (.cells (Array.replicate N (Value.slice none 0 0)) 22)).alloc (.cells #[.slice none 0 0, .map none, .slice none 0 0] 85)).drew (w5.heap.size + 1) #[.slice none 0 0, .map none, .slice none 0 0] 85 := by
    have := Fb.new (w5.alloc (.cells (Array.replicate N (Value.slice none 0 0)) 22)) #[.slice none 0 0, .map none, .slice none 0 0] 85
    rw [World.size_alloc] at this
    exact this
  ⟨set3 (h2.below hk h2.lt), map3 hm (h2.below hk h2.lt), mx_nil (far3 (h1.below hk h1.lt) (by omega)), bel3 hb (by omega), Nat.le_refl _⟩
theorem bl5 (hm : NMp wn MB L) (hb : Below w5.heap.size w5 wn)
    (hk : Below (w5.alloc (.cells #[.slice none 0 0, .map none, .slice none 0 0] 85)).drew.heap.size (w5.alloc (.cells #[.slice none 0 0, .map none, .slice none 0 0] 85)).drew wn) :
    Bls w5 x w5.heap.size MB wn.heap.size N L [] ((((wn.setCell ⟨w5.heap.size, 0, none⟩ (.slice x.A x.n x.c)).setCell ⟨w5.heap.size, 1, none⟩ (.map (some MB))).setCell ⟨w5.heap.size, 2, none⟩ (.slice (some ⟨wn.heap.size, 0, none⟩) N N)).alloc (.cells (Array.replicate N (Value.slice none 0 0)) 22)) :=
  have h2 : Fb (w5.alloc (.cells #[.slice none 0 0, .map none, .slice none 0 0] 85)).drew w5.heap.size #[.slice none 0 0, .map none, .slice none 0 0] 85 := Fb.new w5 _ _
  have h3 := h2.below hk h2.lt
  have hb3 := bel3 (a' := .slice x.A x.n x.c) (b' := .map (some MB)) (c' := .slice (some ⟨wn.heap.size, 0, none⟩) N N) hb (Nat.le_refl w5.heap.size)
  ⟨(set3 h3).alloc _, (map3 hm h3).below ((Below.refl _ _).alloc (Nat.le_refl _) _),
    mx_nil (by have := Fb.new (((wn.setCell ⟨w5.heap.size, 0, none⟩ (.slice x.A x.n x.c)).setCell ⟨w5.heap.size, 1, none⟩ (.map (some MB))).setCell ⟨w5.heap.size, 2, none⟩ (.slice (some ⟨wn.heap.size, 0, none⟩) N N)) (Array.replicate N (Value.slice none 0 0)) 22; simpa using this),
    hb3.alloc hb3.size _, hb.size⟩
theorem bl6 (hm : NMp wn MB L) (hb : Below w5.heap.size w5 wn)
    (hk : Below ((w5.alloc (.cells #[.slice none 0 0, .map none, .slice none 0 0] 85)).alloc (.cells (Array.replicate N (Value.slice none 0 0)) 22)).drew.heap.size ((w5.alloc (.cells #[.slice none 0 0, .map none, .slice none 0 0] 85)).alloc (.cells (Array.replicate N (Value.slice none 0 0)) 22)).drew wn) :
    Bls w5 x w5.heap.size MB (w5.heap.size + 1) N L [] (((wn.setCell ⟨w5.heap.size, 0, none⟩ (.slice x.A x.n x.c)).setCell ⟨w5.heap.size, 1, none⟩ (.map (some MB))).setCell ⟨w5.heap.size, 2, none⟩ (.slice (some ⟨w5.heap.size + 1, 0, none⟩) N N)) :=
  have h2 : Fb ((w5.alloc (.cells #[.slice none 0 0, .map none, .slice none 0 0] 85)).alloc (.cells (Array.replicate N (Value.slice none 0 0)) 22)).drew w5.heap.size #[.slice none 0 0, .map none, .slice none 0 0] 85 := (Fb.new w5 _ _).alloc _
  have h1 : Fb ((w5.alloc (.cells #[.slice none 0 0, .map none, .slice none 0 0] 85)).alloc (.cells (Array.replicate N (Value.slice none 0 0)) 22)).drew (w5.heap.size + 1) (Array.replicate N (Value.slice none 0 0)) 22 := by
    have := Fb.new (w5.alloc (.cells #[.slice none 0 0, .map none, .slice none 0 0] 85)) (Array.replicate N (Value.slice none 0 0)) 22
    rw [World.size_alloc] at this
    exact this
  ⟨set3 (h2.below hk h2.lt), map3 hm (h2.below hk h2.lt), mx_nil (far3 (h1.below hk h1.lt) (by omega)), bel3 hb (Nat.le_refl _), by omega⟩
end
theorem bld_done {w wr w8 : World} {P0 M N c : Nat} {x : PH} {A : Option Addr} {L : List Nd} {yl : List RH} {y2 : LH} {S P : List (List Int)} {a b d : Value} (hW : Bw w P0 x A L wr) (hb : Below wr.heap.size wr w8) (hM : P0 + 2 ≤ M) (hl : L.length = N) (hN : N ≤ 100000)
    (hS : (⟨some ⟨M, 0, none⟩, N, N, yl⟩ : LH).v = S) (hS2 : ∀ ex : List (Option Nat), (∀ k, some k ∈ ex → k < M) → LHok wr ex ⟨some ⟨M, 0, none⟩, N, N, yl⟩) (hP : y2.v = P) (hP2 : ∀ ex : List (Option Nat), (∀ k, some k ∈ ex → k < wr.drew.heap.size) → LHok w8 ex y2) (hsz : w.heap.size + 2 ≤ wr.heap.size) :
    RetGr w L S P 0 (.returned (.tuple #[.agg #[.slice A N c, .slice (some ⟨M, 0, none⟩) N N, .slice y2.A y2.n y2.c], .int .i64 0])) (((w8.setCell ⟨P0 + 1, 0, none⟩ a).setCell ⟨P0 + 1, 1, none⟩ b).setCell ⟨P0 + 1, 2, none⟩ d) := by
  have hp := hW.peq
  refine ⟨⟨A, N, c, L, ⟨some ⟨M, 0, none⟩, N, N, yl⟩, y2⟩, rfl, rfl, hS, hP, fun ex hex => ?_, ?_⟩
  · have hx : ∀ k, some k ∈ some (P0 + 1) :: ex → k < w.heap.size + 2 := fun k hk => by
      rcases List.mem_cons.1 hk with e | e
      · injection e with e; omega
      · have := hex k e; omega
    have h1 : GHok w8 (some (P0 + 1) :: ex) ⟨A, N, c, L, ⟨some ⟨M, 0, none⟩, N, N, yl⟩, y2⟩ :=
      ⟨(hW.below hb).nds _ hx, hl, by show N ≤ _; omega, (hS2 _ (fun k hk => by have := hx k hk; omega)).below hb, hP2 _ (fun k hk => by have := hx k hk; show k < wr.heap.size; omega)⟩
    have hs : ∀ (u : World) (o : Nat) (z : Value), Go2 u (some (P0 + 1) :: ex) (u.setCell ⟨P0 + 1, o, none⟩ z) (some (P0 + 1) :: ex) := fun u o z => Go2.same (row := some (P0 + 1)) (setCell_grown u ⟨P0 + 1, o, none⟩ z) (.inr (by simp))
    exact (((h1.go (hs _ 0 a)).go (hs _ 1 b)).go (hs _ 2 d)).go (Go2.less _ (fun k hk => by simp [hk]))
  · have hbw := (hW.below hb).bel
    exact ((hbw.setCell (by simp; omega) _).setCell (by simp; omega) _).setCell (by simp; omega) _
set_option maxHeartbeats 16000000 in
theorem build_yes (x : PH) (ex : List (Option Nat)) (w : World) (h : PHok w ex x) (hs : Shp w) (hc : (checkP x.p).2 = 0) :
    Calls Tryz.prog 22 #[.agg #[.slice x.A x.n x.c]] w (RetGr w (listN x.p) (sucL x.p) (revL (listN x.p).length (sucL x.p)) 0) := by
  obtain ⟨z1, z2, z3, z4⟩ := sizes_ok hc
  have Hno := hid (nodes_ok hc)
  have Hnd := hid (list_nodup x.p)
  have HEl := hid z4
  have Hnl := hid (numsE_lt (p := x.p) rfl (list_pos hc))
  have hN1 := list_pos hc
  have hb0 : Below w.heap.size w ((w.alloc (.cells #[.slice x.A x.n x.c] 49)).alloc (.cells #[.slice none 0 0, .slice none 0 0, .slice none 0 0] 26)) := ((Below.refl _ _).alloc (Nat.le_refl _) _).alloc (by simp) _
  have HB0 := hid hb0
  have HP0 := hid ((Fb.new w #[.slice x.A x.n x.c] 49).alloc (.cells #[.slice none 0 0, .slice none 0 0, .slice none 0 0] 26))
  have HR0 := hid (show Fb ((w.alloc (.cells #[.slice x.A x.n x.c] 49)).alloc (.cells #[.slice none 0 0, .slice none 0 0, .slice none 0 0] 26)) (w.heap.size + 1) #[.slice none 0 0, .slice none 0 0, .slice none 0 0] 26 by
    have := Fb.new (w.alloc (.cells #[.slice x.A x.n x.c] 49)) #[.slice none 0 0, .slice none 0 0, .slice none 0 0] 26; rwa [World.size_alloc] at this)
  have HX := hid (fun (v : World) (hb : Below w.heap.size w v) => h.go (Go2.below hb))
  have HS := hid (fun (v : World) (hb : Below w.heap.size w v) => hs.keep (hb.block 0 hs.pos0))
  have HCk := hid (fun (v : World) (hb : Below w.heap.size w v) => check_any x ex v (HX.out v hb) (HS.out v hb))
  have HLs := hid (fun (v : World) (hb : Below w.heap.size w v) => list_any x ex v (HX.out v hb) (HS.out v hb))
  have hq : ∃ q, checkP x.p = q := ⟨_, rfl⟩
  obtain ⟨⟨⟨qa, qb, qc, qd⟩, qe⟩, hq⟩ := hq
  rw [hq] at hc HCk
  simp only at hc
  subst hc
  have Hsl := hid (show sucL x.p = rowsF (listN x.p).length (srF (listN x.p).length (numsE x.p) (listN x.p).length) by
    unfold sucL rowsF
    refine List.map_congr_left fun a ha => ?_
    unfold sucF srF
    rw [if_pos (List.mem_range.1 ha)])
  have HNe := hid (show (edgesN x.p).map (numE (listN x.p)) = numsE x.p from rfl)
  have HLe := hid (show (listN x.p).flatMap (lvE x.p) = edgesN x.p from rfl)
  clear h hs hb0 z1 z2 z4 hq
  generalize listN x.p = L at *
  generalize hln : L.length = N at *
  have Hln := hid hln
  clear hln
  go_enter Tryz.func22, Tryz.ntmps22
  go_wp2_with fail
  have hG : ∃ G, w.heap.size = G := ⟨_, rfl⟩
  obtain ⟨G, hG⟩ := hG
  have HGe := hid hG
  rw [hG] at HP0 HR0 ⊢
  clear hG
  generalize (w.alloc (.cells #[.slice x.A x.n x.c] 49)).alloc (.cells #[.slice none 0 0, .slice none 0 0, .slice none 0 0] 26) = w1 at *
  refine (HCk.out _ HB0.out).mono ?_
  rintro e w2 ⟨rfl, hb2⟩
  have ha := (Below.refl w2.heap.size w2).alloc (Nat.le_refl _) (.cells #[.int .i64 qa, .int .i64 qb, .int .i64 qc, .int .i64 qd] 55)
  have hb3 := below_step hb2 ha
  have HB3 := hid (below_step HB0.out hb3)
  have HP3 := hid (HP0.out.below hb3 HP0.out.lt)
  have HR3 := hid (HR0.out.below hb3 HR0.out.lt)
  have p0 := HP3.out.onec
  have hpl := HP3.out.lt
  have hG1 : w2.heap.size ≠ G := by have := HP0.out.lt; have := hb2.size; omega
  clear ha hb2 hb3 HB0 HP0 HR0 HCk
  simp only
  go_wp2_with fail
  clear p0 hpl hG1
  generalize w2.alloc (.cells #[.int .i64 qa, .int .i64 qb, .int .i64 qc, .int .i64 qd] 55) = w3 at *
  have hsz3 : G + 2 ≤ w3.heap.size := HR3.out.lt
  refine (HLs.out _ HB3.out).mono ?_
  rintro e w5 ⟨A, c, rfl, hE, hLl, hb5⟩
  have HW5 := hid (show Bw w G x A L w5 from ⟨below_step HB3.out hb5, HP3.out.below hb5 HP3.out.lt, HR3.out.below hb5 HR3.out.lt, fun ex hex => hE ex (fun k hk => by have := hex k hk; have := HGe.out; omega), HGe.out.symm⟩)
  clear hE hLl hb5 hsz3 HB3 HP3 HR3
  rw [Hln.out]
  have p0 := HW5.out.par.onec
  have hpl := HW5.out.par.lt
  go_wp2_with fail
  have hrow := run_mkrows N (by omega)
  go_cut [7] (fun a wd => ∃ (B MB M : Nat), a = .pointer (some ⟨B, 0, none⟩) ∧ Hid (Bls w5 x B MB M N L [] wd))
  case first =>
    have HN44 := hid (fun (v : World) (hb : Below w5.heap.size w5 v) => numbers_any A N c L v ((HW5.out.below hb).nds [] (by simp)) Hln.out (by omega) Hnd.out (fun y hy => (Hno.out y hy).2))
    have HPb := hid (fun (v : World) (hb : Below w5.heap.size w5 v) => And.intro (HW5.out.below hb).par.onec (HW5.out.below hb).par.lt)
    have hcur : Below w5.heap.size w5 w5.drew := (Below.refl _ _).drew
    go_region_law (
      (go_simp
       go_at_call 42
       refine (HN44.out _ (by first | exact hcur | exact hcur.alloc (by simp) _ | exact (hcur.alloc (by simp) _).alloc (by simp) _)).mono ?_
       rintro e wn ⟨MB, rfl, hm, hmb, hbk⟩
       have HM := hid hm
       have HBk := hid hbk
       have hcw : Below w5.heap.size w5 wn := by first | exact below_step hcur hbk | exact below_step (hcur.alloc (by simp) _) hbk | exact below_step ((hcur.alloc (by simp) _).alloc (by simp) _) hbk
       obtain ⟨p0, hpl⟩ := HPb.out wn hcw
       have HCw := hid hcw
       clear hcw
       obtain ⟨hcc, hff⟩ := bcell hbk
       have hzz := hbk.size
       try simp only [drew_size, World.size_alloc] at hzz hcc hff
       try (have hl5 : w5.heap.size < wn.heap.size := by omega)
       try (have hl6 : w5.heap.size + 1 < wn.heap.size := by omega)
       clear hm hbk hmb))
    all_goals
      clear hcc hff hzz p0 hpl hcur hrow
      go_wp2_with fail
      go_meet
      first
      | exact ⟨_, MB, _, rfl, hid (bl1 HM.out HCw.out)⟩
      | exact ⟨_, MB, _, rfl, hid (bl2 HM.out HCw.out)⟩
      | exact ⟨_, MB, _, rfl, hid (bl3 HM.out HCw.out HBk.out)⟩
      | exact ⟨_, MB, _, rfl, hid (bl4 HM.out HCw.out HBk.out)⟩
      | exact ⟨_, MB, _, rfl, hid (bl5 HM.out HCw.out HBk.out)⟩
      | exact ⟨_, MB, _, rfl, hid (bl6 HM.out HCw.out HBk.out)⟩
  case rest =>
    obtain ⟨B, MB, M, rfl, HL⟩ := hcut
    have HX5 := hid (HX.out w5 HW5.out.bel)
    clear p0 hpl hrow HX HS HLs
    go_wp2_with fail
    go_loopw [9, 32] (fun _ iv wr => ∃ k : Nat, k ≤ N ∧ iv = .int .i64 k ∧ Hid (Bls w5 x B MB M N L (((L.take k).flatMap (lvE x.p)).map (numE L)) wr)) (fun _ iv _ => N - (intOf iv).toNat)
    case atStart => exact ⟨0, by omega, rfl, hid (by simpa using HL.out)⟩
    case round =>
      clear HL
      obtain ⟨k, hk, rfl, hL⟩ := hrel
      by_cases hlt : k < N
      · obtain ⟨y, hy, hym⟩ := get_at Hln.out hlt
        obtain ⟨ad, hA, had, hc1, hc2, hc3, hc4⟩ := Nd.cells ((HW5.out.below hL.out.bel).nds [] (by simp)) hy
        subst hA
        have Hst := hid (flat_take (p := x.p) hy)
        have Hel := hid (flat_take_len (p := x.p) (L := L) (k := k) (m := 900000) (by rw [HLe.out]; have := HEl.out; omega))
        have Hok := hid ((Hno.out y hym).1)
        have ha := (Below.refl wr.heap.size wr).alloc (Nat.le_refl _) (.cells #[.int .i64 y.kd, .int .i64 y.fn, .int .i64 y.bk, .int .i64 y.st] 55)
        have HLa := hid (hL.out.below ha)
        have HF := hid (Fb.new wr #[.int .i64 y.kd, .int .i64 y.fn, .int .i64 y.bk, .int .i64 y.st] 55)
        have HC := hid (leave_any w5 x ex B MB M N L _ _ HLa.out HX5.out hN1 Hln.out Hel.out y Hok.out)
        clear hy hym ha HLa hL
        generalize hEk : ((L.take k).flatMap (lvE x.p)).map (numE L) = Ek at *
        clear hEk
        obtain ⟨yk, yf, yb, ys⟩ := y
        simp only at *
        obtain ⟨g0, g1, g2, g3⟩ := Fb.four HF.out
        as_aux_lemma =>
          go_wp2_with fail
          refine HC.out.mono ?_
          rintro e w6 ⟨rfl, h6, -⟩
          have H6 := hid (Hst.out ▸ h6)
          clear h6 HC g0 g1 g2 g3 hc1 hc2 hc3 hc4 had
          go_wp2_with fail
          go_roundw
          case rel => exact ⟨k + 1, by omega, by go_num, H6⟩
          case measure => simp [intOf]; omega
      · obtain rfl : k = N := by omega
        have HL2 := hid (show Bls w5 x B MB M k L (numsE x.p) wr from by
          have := hL.out
          rw [List.take_of_length_le (by rw [Hln.out]; omega), HLe.out, HNe.out] at this
          exact this)
        have HEl2 := hid (show (numsE x.p).length ≤ 1024 by rw [← HNe.out, List.length_map]; exact HEl.out)
        have HB2 := hid (show Bms w5 x B MB M k (srF k (numsE x.p) 0) wr from ⟨HL2.out.box, HL2.out.mx.congr (fun a _ => (srF_zero k (numsE x.p) a).symm), HL2.out.bel, HL2.out.mle⟩)
        clear hL HL2 HNe HLe HEl
        generalize numsE x.p = E at *
        obtain ⟨b0, b1, b2⟩ := HB2.out.box.thr
        have hbl := HB2.out.box.lt
        go_wp2_with fail
        clear b0 b1 b2 hbl
        go_loopw [10, 11, 42] (fun _ _ iv wr => ∃ j : Nat, j ≤ k ∧ iv = .int .i64 j ∧ Hid (Bms w5 x B MB M k (srF k E j) wr)) (fun _ _ iv _ => k - (intOf iv).toNat)
        case atStart => exact ⟨0, by omega, rfl, HB2⟩
        case round =>
          clear HB2
          obtain ⟨j, hj, rfl, hM⟩ := hrel
          by_cases hlt2 : j < k
          · obtain ⟨rv, hown, hcell, hfr, ⟨rA, rc, hrv⟩, -, -⟩ := hM.out.mx.at hlt2
            have hlen := outF_len E j
            have hE2 := HEl2.out
            rw [srF_at] at hown hrv
            subst hrv
            have HO := hid hown
            have Hcell := hid hcell
            have HSo := hid (sort_own hown rfl (by omega))
            have hMl := hM.out.mx.lt
            clear hown hfr
            as_aux_lemma =>
              go_wp2_with fail
              refine HSo.out.mono ?_
              rintro e w7 ⟨rfl, ho7, hg7⟩
              have HBx7 := hid (hM.out.box.grown hg7 (fb_ne_own hM.out.box HO.out (by decide)))
              have HG7 := hid hg7
              have ho7d := own_below ho7 (Below.refl w7.heap.size w7).drew
              have HCo := hid (compact_own ho7d (by rw [srtI_len]) (by omega))
              have hMl7 : M < w7.heap.size := Nat.lt_of_lt_of_le hMl hg7.size
              obtain ⟨b0, b1, b2⟩ := HBx7.out.thr
              have hbl := HBx7.out.lt
              clear ho7 hg7 ho7d HSo hcell
              go_wp2_with fail
              go_region_law (
                (go_simp
                 go_at_call 44
                 refine HCo.out.mono ?_
                 rintro e w8 ⟨rfl, ho8, hg8⟩
                 have hgt : wr.grownBy w8 (Value.slice rA (outF E j).length rc).ownBlock := (HG7.out.trans (grown_drewN w7 1 _)).trans hg8
                 obtain ⟨⟨y0, y1⟩, h8⟩ := Bms.turn hM.out Hnl.out hlt2 Hcell.out hgt ho8 rfl
                 have H8 := hid h8
                 have hbx8 := hM.out.box.grown hgt (fb_ne_own hM.out.box HO.out (by decide))
                 obtain ⟨b0, b1, b2⟩ := hbx8.thr
                 have hbl8 := hbx8.lt
                 clear ho8 hg8 hgt h8 hbx8))
              all_goals
                go_wp2_with fail
                go_roundw
                case rel => exact ⟨j + 1, by omega, by go_num, H8⟩
                case measure => simp [intOf]; omega
          · obtain rfl : j = k := by omega
            obtain ⟨yL, hy1, hy2, hy3, hy4, hy5⟩ := hM.out.mx.lists (by omega)
            obtain ⟨yA, yn, yc, yl⟩ := yL
            simp only at hy1 hy2 hy3
            subst hy1
            subst hy2
            subst hy3
            have HWr := hid (HW5.out.below hM.out.bel)
            have HMle := hid (show G + 2 ≤ M by have := hM.out.mle; have h2 : G + 1 < w5.heap.size := HW5.out.res.lt; omega)
            have Hy4 := hid (show (⟨some ⟨M, 0, none⟩, yc, yc, yl⟩ : LH).v = sucL x.p by rw [hy4, Hsl.out])
            have Hy5 := hid hy5
            have HRv := hid (fun (v : World) (hb : Below wr.heap.size wr v) => reversed_any ⟨some ⟨M, 0, none⟩, yc, yc, yl⟩ [] v ((hy5 [] (by simp)).below hb) (by show yc ≤ _; omega) (by
              rw [hy4]
              intro l hl
              unfold rowsF at hl
              obtain ⟨a, ha, rfl⟩ := List.mem_map.1 hl
              unfold srF
              rw [if_pos (List.mem_range.1 ha)]
              exact rowP_ris _ _))
            rw [Hy4.out] at HRv
            simp only at HRv
            have HBx := hid (fun (v : World) (hb : Below wr.heap.size wr v) => And.intro (hM.out.below hb).box.thr (hM.out.below hb).box.lt)
            have HRs := hid (fun (v : World) (hb : Below wr.heap.size wr v) => And.intro (And.intro (HWr.out.below hb).res.thr (HWr.out.below hb).res.thrz) (HWr.out.below hb).res.lt)
            have Hszw := hid (show w.heap.size + 2 ≤ wr.heap.size by have := HWr.out.res.lt; have := HGe.out; omega)
            clear hy4 hy5 hM HW5 Hsl HX5 Hnd Hno Hnl HEl2
            have hcur : Below wr.heap.size wr wr.drew := (Below.refl _ _).drew
            obtain ⟨⟨b0, b1, b2⟩, hbl⟩ := HBx.out _ hcur
            obtain ⟨⟨⟨r0, r1, r2⟩, z0, z1, z2⟩, hrl⟩ := HRs.out _ hcur
            as_aux_lemma =>
              go_wp2_with fail
              go_region_law (
                (go_simp
                 go_at_call 32
                 refine (HRv.out _ hcur).mono ?_
                 rintro e w8 ⟨y2, rfl, hv2, hok2, hbk⟩
                 have hcur := below_step hcur hbk
                 have Hv2 := hid hv2
                 have Hok2 := hid hok2
                 have Hcur := hid hcur
                 obtain ⟨⟨b0, b1, b2⟩, hbl⟩ := HBx.out _ hcur
                 obtain ⟨⟨⟨r0, r1, r2⟩, z0, z1, z2⟩, hrl⟩ := HRs.out _ hcur
                 clear hv2 hok2 hbk))
              all_goals
                clear hcur
                go_wp2_with fail
                refine bodyPost_ret (v := .tuple #[.agg #[.slice A yc c, .slice (some ⟨M, 0, none⟩) yc yc, .slice y2.A y2.n y2.c], .int .i64 0]) (by simp [results, Tryz.results22, go_sem, r0, r1, r2, z0, z1, z2, hrl]) rfl ?_
                exact bld_done HWr.out Hcur.out HMle.out Hln.out (by omega) Hy4.out Hy5.out Hv2.out Hok2.out Hszw.out
end Go.Proofs.YtmbelhdkaepohaaGreatDoor

namespace Go.Proofs.YtmbelhdkaepohaaGreatDoor
set_option maxRecDepth 100000
set_option linter.unusedVariables false
set_option linter.unusedSimpArgs false
open Go.ChangeShapes Go.WideShapes Go.ChangeAt Go.RowKit

def s8T : ByteArray := ⟨#[102, 117, 110, 99, 32, 109, 59, 32, 98, 108, 111, 99, 107, 32, 98, 59, 32, 98, 114, 97, 110, 99, 104, 32, 120, 32, 98, 32, 98, 59, 32, 101, 110, 100]⟩
def s8P : List Fnc := [⟨⟨#[109]⟩, [⟨⟨#[98]⟩, [⟨8, noB, [⟨#[120]⟩], [⟨#[98]⟩, ⟨#[98]⟩]⟩]⟩]⟩]
theorem s8_parse : parseS s8T = (s8P, 0, 0, 0) := by kernel_rfl
theorem s8_ok : (checkP s8P).2 = 0 := by kernel_rfl
theorem s8_S : sucL s8P = [[1], [1], []] := by kernel_rfl
theorem s8_P : revL (listN s8P).length (sucL s8P) = [[], [0, 1], []] := by kernel_rfl
theorem s8_N : (listN s8P).length = 3 := by kernel_rfl
theorem s8_E : edgN 3 [[1], [1], []] [[], [0, 1], []] = 2 := by kernel_rfl
theorem LH.three {x : LH} {a b c : List Int} (h : x.v = [a, b, c]) : ∃ r0 r1 r2 : RH, x.l = [r0, r1, r2] ∧ r0.l = a ∧ r1.l = b ∧ r2.l = c := by
  unfold LH.v at h
  rcases hl : x.l with _ | ⟨r0, _ | ⟨r1, _ | ⟨r2, _ | ⟨r3, l⟩⟩⟩⟩ <;> rw [hl] at h <;> simp at h
  exact ⟨r0, r1, r2, rfl, h.1, h.2.1, h.2.2⟩
theorem lit_row (w : World) (cs : Array Value) (l : List Int) (n : Nat) (hc : cs = (ints l).toArray) (hn : l.length = n) (hf : n ≤ 1000) : RHok (w.alloc (.cells cs 3)) [] ⟨some ⟨w.heap.size, 0, none⟩, n, n, l⟩ :=
  ⟨EAt.fb (Fb.new w cs 3) (by simp) (fun j u hu => by subst hc; simpa using hu), hn, by show n ≤ _; omega⟩
theorem LHok.cell_of {w : World} {ex : List (Option Nat)} {x : LH} (h : LHok w ex x) {ad : Addr} (hA : x.A = some ad) {i : Nat} {y : RH} (hi : x.l[i]? = some y) : w.cell? (ad.add i) = some (.slice y.A y.n y.c) ∧ ad.block < w.heap.size := by
  obtain ⟨ad2, h1, h2, h3⟩ := h.cell hi
  obtain rfl := Option.some.inj (hA.symm.trans h1)
  exact ⟨h3, h2⟩
theorem add_zero2 (ad : Addr) : ad.add 0 = ad := by unfold Addr.add; simp
theorem lit_row2 (w : World) (cs : Array Value) (l : List Int) (n b : Nat) (hb : b = w.heap.size) (hc : cs = (ints l).toArray) (hn : l.length = n) (hf : n ≤ 1000) : RHok (w.alloc (.cells cs 3)) [] ⟨some ⟨b, 0, none⟩, n, n, l⟩ := by subst hb; exact lit_row w cs l n hc hn hf
/-- What stands while the examples are asked. -/
structure Sw (w : World) (G : Nat) (y : GH) (v : World) : Prop where
  bel : Below w.heap.size w v
  box : Fb v G #[.slice y.A y.n y.c, .slice y.S.A y.S.n y.S.c, .slice y.P.A y.P.n y.P.c] 26
  g : GHok v [] y
theorem Sw.below {w v v' : World} {G : Nat} {y : GH} (h : Sw w G y v) (hb : Below v.heap.size v v') : Sw w G y v' := ⟨below_step h.bel hb, h.box.below hb h.box.lt, h.g.below hb⟩
set_option maxHeartbeats 6400000 in
theorem sane8_any (w : World) (hsh : Shp w) : Calls Tryz.prog 9 #[] w fun e w' => e = .returned (.bool true) ∧ Below w.heap.size w w' := by
  have hs : s8T.size ≤ maxLen := by have : s8T.size ≤ 100 := by decide
                                    unfold maxLen; omega
  have Hs := hid hs
  have HS := hid hsh
  clear hs hsh
  go_enter Tryz.func9, Tryz.ntmps9
  go_wp2_with fail
  refine (refParse_any s8T _ Hs.out).mono ?_
  rw [← parse_same, s8_parse]
  rintro e w1 ⟨x, rfl, hx, hp, hb⟩
  have ha := (Below.refl w1.heap.size w1).alloc (Nat.le_refl _) (.cells #[.slice x.A x.n x.c] 49)
  have hb2 := below_step hb ha
  have HX := hid (PHok.below (hp [] (by simp)) ha)
  have HB1 := hid hb2
  have HS1 := hid (HS.out.keep (hb2.block 0 HS.out.pos0))
  have HM1 := hid (Fb.new w1 #[.slice x.A x.n x.c] 49)
  have HBd := hid (fun (v : World) (h : PHok v [] x) (hs : Shp v) => build_yes x [] v h hs (by rw [hx]; exact s8_ok))
  have e1 : listN x.p = listN s8P := by rw [hx]
  have e2 : sucL x.p = sucL s8P := by rw [hx]
  rw [e1, e2, s8_S, show revL (listN s8P).length [[1], [1], []] = [[], [0, 1], []] from by rw [← s8_S]; exact s8_P] at HBd
  clear hb ha hb2 hp hx HS e1 e2
  have b0 := HM1.out.onec
  have hl := HM1.out.lt
  simp only
  go_wp2_with fail
  clear b0 hl
  refine (HBd.out _ HX.out HS1.out).mono ?_
  rintro e w2 ⟨y, rfl, hyn, hyS, hyP, hyok, hb⟩
  have ha := (Below.refl w2.heap.size w2).alloc (Nat.le_refl _) (.cells #[.slice y.A y.n y.c, .slice y.S.A y.S.n y.S.c, .slice y.P.A y.P.n y.P.c] 26)
  have HW := hid (show Sw w w2.heap.size y (w2.alloc (.cells #[.slice y.A y.n y.c, .slice y.S.A y.S.n y.S.c, .slice y.P.A y.P.n y.P.c] 26)) from ⟨below_step HB1.out (below_step hb ha), Fb.new _ _ _, (hyok [] (by simp)).below ha⟩)
  have hn3 : y.n = 3 := by rw [← (hyok [] (by simp)).len, hyn]; exact s8_N
  obtain ⟨r0, r1, r2, hr, hr0, hr1, hr2⟩ := LH.three hyS
  obtain ⟨q0, q1, q2, hq, hq0, hq1, hq2⟩ := LH.three hyP
  have hsn : y.S.n = 3 := by rw [← (hyok [] (by simp)).s.len, hr]; rfl
  have hpn : y.P.n = 3 := by rw [← (hyok [] (by simp)).p.len, hq]; rfl
  obtain ⟨adS, hAS, -, -⟩ := (hyok [] (by simp)).s.cell (i := 0) (y := r0) (by rw [hr]; rfl)
  obtain ⟨adP, hAP, -, -⟩ := (hyok [] (by simp)).p.cell (i := 1) (y := q1) (by rw [hq]; rfl)
  have hl2 : r2.n = 0 := by rw [← ((hyok [] (by simp)).s.all r2 (by rw [hr]; simp)).len, hr2]; rfl
  have HF := hid (fun (v : World) (h : Sw w w2.heap.size y v) => show ((v.cell? ⟨w2.heap.size, 0, none⟩ = some (.slice y.A 3 y.c) ∧ v.cell? ⟨w2.heap.size, 1, none⟩ = some (.slice (some adS) 3 y.S.c) ∧ v.cell? ⟨w2.heap.size, 2, none⟩ = some (.slice (some adP) 3 y.P.c)) ∧
    (v.cell? adS = some (.slice r0.A r0.n r0.c) ∧ v.cell? ⟨adS.block, adS.off + 1, none⟩ = some (.slice r1.A r1.n r1.c) ∧ v.cell? ⟨adS.block, adS.off + 2, none⟩ = some (.slice r2.A 0 r2.c) ∧ v.cell? ⟨adP.block, adP.off + 1, none⟩ = some (.slice q1.A q1.n q1.c))) ∧ (w2.heap.size < v.heap.size ∧ adS.block < v.heap.size ∧ adP.block < v.heap.size) from by
    obtain ⟨c0, c1, c2⟩ := h.box.thr
    rw [hn3] at c0
    rw [hAS, hsn] at c1
    rw [hAP, hpn] at c2
    obtain ⟨d0, e0⟩ := h.g.s.cell_of hAS (i := 0) (y := r0) (by rw [hr]; rfl)
    obtain ⟨d1, -⟩ := h.g.s.cell_of hAS (i := 1) (y := r1) (by rw [hr]; rfl)
    obtain ⟨d2, -⟩ := h.g.s.cell_of hAS (i := 2) (y := r2) (by rw [hr]; rfl)
    obtain ⟨d3, e3⟩ := h.g.p.cell_of hAP (i := 1) (y := q1) (by rw [hq]; rfl)
    rw [add_zero2] at d0
    rw [hl2] at d2
    exact ⟨⟨⟨c0, c1, c2⟩, d0, d1, d2, d3⟩, h.box.lt, e0, e3⟩)
  have HR0 := hid (fun (v : World) (h : Sw w w2.heap.size y v) => h.g.s.all r0 (by rw [hr]; simp))
  have HR1 := hid (fun (v : World) (h : Sw w w2.heap.size y v) => h.g.s.all r1 (by rw [hr]; simp))
  have HQ1 := hid (fun (v : World) (h : Sw w w2.heap.size y v) => h.g.p.all q1 (by rw [hq]; simp))
  have HEd := hid (fun (v : World) (h : Sw w w2.heap.size y v) => edges_any y [] v h.g)
  rw [hyS, hyP, hn3, s8_E] at HEd
  unfold GH.a at HEd
  rw [hn3, hAS, hsn, hAP, hpn] at HEd
  have HK := hid (fun (v u : World) (h : Sw w w2.heap.size y v) (hb : Below v.heap.size v u) => h.below hb)
  have E0 := hid (show eqD r0.l [1] = true by rw [hr0]; rfl)
  have E1 := hid (show eqD r1.l [1] = true by rw [hr1]; rfl)
  have E2 := hid (show eqD q1.l [0, 1] = true by rw [hq1]; rfl)
  have HBw := hid (fun (v : World) (h : Sw w w2.heap.size y v) => h.bel)
  unfold GH.a
  rw [hn3, hAS, hsn, hAP, hpn]
  rw [hn3, hAS, hsn, hAP, hpn] at HW
  clear hb ha hyok hyn hyS hyP hr hq HB1 HX HS1 HM1 HBd hr0 hr1 hr2 hq0 hq1 hq2 hl2 hAS hAP hn3 hsn hpn
  simp only
  obtain ⟨⟨⟨c0, c1, c2⟩, d0, d1, d2, d3⟩, g0, g1, g2⟩ := HF.out _ HW.out
  go_wp2_with fail
  clear c0 c1 c2 d0 d1 d2 d3 g0 g1 g2
  refine (refInts_any r0 ⟨some ⟨w2.heap.size + 1, 0, none⟩, 1, 1, [1]⟩ [] [] _ (HR0.out _ (HK.out _ _ HW.out ((Below.refl _ _).alloc (Nat.le_refl _) _))) (lit_row2 _ _ _ _ _ (by rw [World.size_alloc]) rfl rfl (by omega))).mono ?_
  rw [E0.out]
  rintro e w' ⟨rfl, q, rfl⟩
  have HW1 := hid (HK.out _ _ (HK.out _ _ HW.out ((Below.refl _ _).alloc (Nat.le_refl _) (.cells (ints [1]).toArray 3))) (below_drewN (Below.refl _ _) q))
  clear HW
  generalize ((w2.alloc (.cells #[.slice y.A 3 y.c, .slice (some adS) 3 y.S.c, .slice (some adP) 3 y.P.c] 26)).alloc (.cells (ints [1]).toArray 3)).drewN q = V1 at HW1 ⊢
  obtain ⟨⟨⟨c0, c1, c2⟩, d0, d1, d2, d3⟩, g0, g1, g2⟩ := HF.out _ HW1.out
  go_wp2_with fail
  clear c0 c1 c2 d0 d1 d2 d3 g0 g1 g2
  refine (refInts_any r1 ⟨some ⟨V1.heap.size, 0, none⟩, 1, 1, [1]⟩ [] [] _ (HR1.out _ (HK.out _ _ HW1.out ((Below.refl _ _).alloc (Nat.le_refl _) _))) (lit_row2 _ _ _ _ _ (by rfl) rfl rfl (by omega))).mono ?_
  rw [E1.out]
  rintro e w' ⟨rfl, q, rfl⟩
  have HW2 := hid (HK.out _ _ (HK.out _ _ HW1.out ((Below.refl _ _).alloc (Nat.le_refl _) (.cells (ints [1]).toArray 3))) (below_drewN (Below.refl _ _) q))
  clear HW1
  generalize ((V1).alloc (.cells (ints [1]).toArray 3)).drewN q = V2 at HW2 ⊢
  obtain ⟨⟨⟨c0, c1, c2⟩, d0, d1, d2, d3⟩, g0, g1, g2⟩ := HF.out _ HW2.out
  go_wp2_with fail
  clear c0 c1 c2 d0 d1 d2 d3 g0 g1 g2
  refine (refInts_any q1 ⟨some ⟨V2.heap.size, 0, none⟩, 2, 2, [0, 1]⟩ [] [] _ (HQ1.out _ (HK.out _ _ HW2.out ((Below.refl _ _).alloc (Nat.le_refl _) _))) (lit_row2 _ _ _ _ _ (by rfl) rfl rfl (by omega))).mono ?_
  rw [E2.out]
  rintro e w' ⟨rfl, q, rfl⟩
  have HW3 := hid (HK.out _ _ (HK.out _ _ HW2.out ((Below.refl _ _).alloc (Nat.le_refl _) (.cells (ints [0, 1]).toArray 3))) (below_drewN (Below.refl _ _) q))
  clear HW2
  generalize ((V2).alloc (.cells (ints [0, 1]).toArray 3)).drewN q = V3 at HW3 ⊢
  obtain ⟨⟨⟨c0, c1, c2⟩, d0, d1, d2, d3⟩, g0, g1, g2⟩ := HF.out _ HW3.out
  go_wp2_with fail
  clear c0 c1 c2 d0 d1 d2 d3 g0 g1 g2
  refine (HEd.out _ HW3.out).mono ?_
  rintro e w' ⟨rfl, hb⟩
  have HB := hid (below_step (HBw.out _ HW3.out) hb)
  go_wp2_with fail
  refine bodyPost_ret (v := .bool true) (by simp [results, Tryz.results9, go_sem]) rfl ?_
  exact ⟨rfl, HB.out⟩
end Go.Proofs.YtmbelhdkaepohaaGreatDoor
