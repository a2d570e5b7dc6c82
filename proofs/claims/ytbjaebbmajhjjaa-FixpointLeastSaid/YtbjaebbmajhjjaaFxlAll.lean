/- FixpointLeast holds for every input: the result of Solve is a solution, its rounds are bounded, and it is contained in every list of values above the system. No condition: every list of numbers, in whatever memory, on every schedule. -/
import Derived.Test.YtbjaebbmajhjjaaFxlAlla
import Derived.Test.YtbjaebbmajhjjaaEq2
import Derived.Deep.DeepCutAuto
import Derived.Test.YtbjaebbmajhjjaaDEq
import Derived.Test.YtbjaebbmajhjjaaDMem
import Derived.Test.YtbjaebbmajhjjaaDev
import Derived.Test.YtbjaebbmajhjjaaSgs
import Derived.Deep.AppendLies
import Derived.Test.YtbjaebbmajhjjaaClb
import Derived.Deep.RegionHeld3
import Derived.Deep.RegionLaw
import Derived.Test.YtbjaebbmajhjjaaRgg
import Derived.Test.YtbjaebbmajhjjaaPut
import Derived.Test.YtbjaebbmajhjjaaMake
import Derived.Test.YtbjaebbmajhjjaaSame
import Derived.Test.YtbjaebbmajhjjaaGen
import Derived.Test.YtbjaebbmajhjjaaValid
import Derived.Test.YtbjaebbmajhjjaaQb
import Derived.Test.YtbjaebbmajhjjaaMembers
import Derived.Lib.SmallJoins
import Derived.ShutString
import Derived.ChangeOld
namespace Go.Proofs.Ytbjaebbmajhjjaa
set_option maxRecDepth 20000
set_option linter.unusedVariables false
set_option linter.unusedSimpArgs false
open Go.ChangeShapes Go.WideShapes Go.ChangeAt Go.RowKit

/-- Which values differ. -/
def difB (N : Nat) (a b : List (List Nat)) : List Bool := (List.range N).map fun k => !decide (at0 a k = at0 b k)
theorem difB_get {N k : Nat} (h : k < N) (a b : List (List Nat)) : (difB N a b)[k]? = some (!decide (at0 a k = at0 b k)) := by
  unfold difB; rw [List.getElem?_map, List.getElem?_range h]; rfl
theorem difB_any {p : PW} {N : Nat} (hn : p.n = N) {a b : List (List Nat)} (ha : p.Vals a) (hb : p.Vals b) : (difB N a b).any id = true ↔ a ≠ b := by
  rw [List.any_eq_true]
  constructor
  · rintro ⟨c, hc, h1⟩ e
    obtain ⟨k, _, rfl⟩ := List.mem_map.1 hc
    subst e
    simp at h1
  · intro hne
    obtain ⟨m, hm, h⟩ := differ_at ha hb hne
    exact ⟨_, List.mem_map.2 ⟨m, List.mem_range.2 (by omega), rfl⟩, by simpa using h⟩
theorem advs_eq {p : PW} {N : Nat} (hp : p.Ok) (hi : p.In) (hn : p.n = N) (K : Nat) : (List.range N).map (p.adv (p.round (K + 1)) fun m => (difB N (p.round (K + 1)) (p.round K)).getD m false) = p.round (K + 2) := by
  have := p.adv_round hp hi K (fun m => (difB N (p.round (K + 1)) (p.round K)).getD m false) (fun m hm => by
    show (difB N (p.round (K + 1)) (p.round K)).getD m false = true ↔ _
    rw [List.getD_eq_getElem?_getD, difB_get (by omega)]
    simp only [Option.getD_some, Bool.not_eq_true', decide_eq_false_iff_not]
    exact ⟨fun h e => h e.symm, fun h e => h e.symm⟩)
  rw [← this]
  unfold PW.advs
  rw [hn]
/-- While the rounds go on: the box of the web, the values, the next ones, what has changed. -/
structure Lst0 (w0 : World) (v N gv gn gc : Nat) (x : WB) (lv ln : List ZH) (cs : List Bool) (u : World) : Prop where
  wx : Fb u w0.heap.size #[.int .i64 v, .slice x.B.A x.B.n x.B.c, .slice x.I.A x.I.n x.I.c] 68
  rv : VRow u gv N lv
  rn : VRow u gn N ln
  bc : BRow u gc N cs
  wk : WBok u [some gn, some gv] x
  bel : Below w0.heap.size w0 u
  nvn : gv ≠ gn
  hv : w0.heap.size < gv
  hn : w0.heap.size < gn
  okv : ∀ z ∈ lv, z.W = v ∧ Bs.Fit v z.ws
  okn : ∀ z ∈ ln, z.W = v ∧ Bs.Fit v z.ws
theorem bc_ne_row {u : World} {g N gc N' : Nat} {l : List ZH} {cs : List Bool} (h : VRow u g N l) (hc : BRow u gc N' cs) : gc ≠ g := by
  intro e
  have h1 := h.fb
  have h2 := hc.fb
  unfold Fb at h1 h2
  rw [e, h1] at h2
  injection h2 with h2
  injection h2 with _ h2
  exact absurd h2 (by decide)
/-- A round. -/
theorem Lst0.turn {w0 u u' : World} {v N gv gn gc gd : Nat} {x : WB} {lv ln l : List ZH} {cs ds : List Bool} (h : Lst0 w0 v N gv gn gc x lv ln cs u) (hg : u.grownBy u' (some gv)) (h1 : VRow u' gn N ln) (h2 : VRow u' gv N l) (h3 : BRow u' gd N ds) (ho : ∀ z ∈ l, z.W = v ∧ Bs.Fit v z.ws) :
    Lst0 w0 v N gn gv gd x ln l ds u' := by
  have hv := h.hv
  exact ⟨h.wx.grown hg (by intro e; have := Option.some.inj e; omega), h1, h2, h3, (h.wk.go (Go2.same hg (.inr (by simp)))).go (Go2.less u' (by intro k hk; simp only [List.mem_cons, List.not_mem_nil, or_false] at hk ⊢; exact hk.symm)),
    h.bel.grown hg h.bel.size (fun k hk => by have := Option.some.inj hk; omega), h.nvn.symm, h.hn, h.hv, h.okn, ho⟩
/-- What comes back: the least solution, in a row of its own, and the number of the round. -/
def RetLast (w : World) (v N : Nat) (p : PW) (e : Ending) (w' : World) : Prop :=
  ∃ (K g : Nat) (l : List ZH), p.Last K ∧ e = .returned (.tuple #[.slice (some ⟨g, 0, none⟩) N N, .int .i64 K]) ∧ w.heap.size ≤ g ∧ VRow w' g N l ∧ (∀ z ∈ l, z.W = v ∧ Bs.Fit v z.ws) ∧ l.map ZH.ws = p.round K ∧ Below w.heap.size w w'
end Go.Proofs.Ytbjaebbmajhjjaa

namespace Go.Proofs.Ytbjaebbmajhjjaa
set_option maxRecDepth 20000
set_option linter.unusedVariables false
set_option linter.unusedSimpArgs false
open Go.ChangeShapes Go.WideShapes Go.ChangeAt Go.RowKit

theorem WBok.far0 {w u : World} {x : WB} {ex : List (Option Nat)} (h : WBok w [] x) (hb : Below w.heap.size w u) (he : ∀ k, some k ∈ ex → w.heap.size ≤ k) : WBok u ex x := h.ext hb fun k hk hm => by have := he k hm; omega
theorem emp_round {p : PW} {v N : Nat} (h : PWok p v N) : (List.range N).map (fun _ => Bs.emp v) = p.round 0 := by
  show _ = (List.range p.n).map fun _ => Bs.emp p.v
  rw [h.n, h.v]
theorem Lst0.below {w0 u u' : World} {v N gv gn gc : Nat} {x : WB} {lv ln : List ZH} {cs : List Bool} (h : Lst0 w0 v N gv gn gc x lv ln cs u) (hb : Below u.heap.size u u') : Lst0 w0 v N gv gn gc x lv ln cs u' :=
  ⟨h.wx.below hb h.wx.lt, h.rv.below hb, h.rn.below hb, h.bc.below hb, h.wk.below hb, below_step h.bel hb, h.nvn, h.hv, h.hn, h.okv, h.okn⟩
theorem Lst0.note {w0 u : World} {v N gv gn gc : Nat} {x : WB} {lv ln : List ZH} {cs : List Bool} (h : Lst0 w0 v N gv gn gc x lv ln cs u) (hx : WBok w0 [] x) (hg : w0.heap.size < gc) (k : Nat) (b : Bool) :
    Lst0 w0 v N gv gn gc x lv ln (cs.set k b) (u.setCell ⟨gc, k, none⟩ (.bool b)) := by
  have hv := h.hv
  have hn := h.hn
  have hb := h.bel.setCell (p := ⟨gc, k, none⟩) (by simp; omega) (.bool b)
  exact ⟨h.wx.far (by simp; omega) _, h.rv.bools h.bc (bc_ne_row h.rv h.bc).symm _ _, h.rn.bools h.bc (bc_ne_row h.rn h.bc).symm _ _, h.bc.put k b, hx.far0 hb (fun i hi => by
    simp only [List.mem_cons, Option.some.injEq, List.not_mem_nil, or_false] at hi
    rcases hi with rfl | rfl <;> omega), hb, h.nvn, hv, hn, h.okv, h.okn⟩
set_option maxHeartbeats 12800000 in
theorem lastRound_any (x : WB) (v N : Nat) (w : World) (hx : WBok w [] x) (ho : WOk x v N) :
    Calls Try.prog 55 #[x.a] w (RetLast w v N x.pw) := by
  have hN := ho.n256
  have hv := ho.v256
  have hp := ho.pw hx
  have Hp := hid hp
  have Hx := hid hx
  have Ho := hid ho
  have hW := ho.w
  have hbn := ho.bn
  have hin := ho.inn
  have Hemp := hid (show emptyR v = ((v : Int), Bs.emp v, 0) by unfold emptyR; rw [if_neg (by omega), Int.toNat_natCast])
  clear hx ho hp
  generalize hP : x.pw = p at *
  have HP := hid hP
  clear hP
  obtain ⟨XW, ⟨BA, bn, bc, bl⟩, ⟨IA, inn, ic, il⟩⟩ := x
  unfold WB.a at *
  simp only at *
  subst XW
  subst bn
  subst inn
  have hmk := run_mksets N (by omega)
  have H0 := hid (show Rss w v N (w.heap.size + 1) (.slice BA N bc) (.slice IA N ic) (List.replicate N z0) ((w.alloc (.cells #[.int .i64 v, .slice BA N bc, .slice IA N ic] 68)).alloc (.cells ((List.replicate N z0).flatMap ZH.cs).toArray 41)) from by
    have hb := (Below.refl w.heap.size w).alloc (Nat.le_refl _) (.cells #[.int .i64 v, .slice BA N bc, .slice IA N ic] 68)
    have hr := VRow.new (w.alloc (.cells #[.int .i64 v, .slice BA N bc, .slice IA N ic] 68)) N
    rw [World.size_alloc] at hr
    exact ⟨(Fb.new w _ _).alloc _, hr, by omega, hb.alloc hb.size _⟩)
  have H0' := hid (show Done v 0 (fun _ => Bs.emp v) (List.replicate N z0) from fun i hi => by omega)
  generalize hl0 : List.replicate N z0 = l0 at *
  clear hl0
  go_enter Try.func55, Try.ntmps55
  go_wp2_with fail
  clear hmk
  generalize (w.alloc (.cells #[.int .i64 v, .slice BA N bc, .slice IA N ic] 68)).alloc (.cells (l0.flatMap ZH.cs).toArray 41) = w1 at *
  generalize hg1 : w.heap.size + 1 = g at *
  have Hg := hid hg1
  clear hg1
  go_loopw [5, 16, 19, 20, 21, 22, 23, 24, 25, 26, 27] (fun _ iv _ _ _ _ _ _ _ _ _ wr => ∃ (k : Nat) (l : List ZH), k ≤ N ∧ iv = .int .i64 k ∧ Hid (Rss w v N g (.slice BA N bc) (.slice IA N ic) l wr) ∧ Hid (Done v k (fun _ => Bs.emp v) l)) (fun _ iv _ _ _ _ _ _ _ _ _ _ => N - (intOf iv).toNat)
  case atStart => exact ⟨0, l0, by omega, rfl, H0, H0'⟩
  case round =>
    clear H0 H0'
    obtain ⟨k, l, hk, rfl, HI, HD⟩ := hrel
    by_cases hlt : k < N
    · obtain ⟨q0, q1, q2⟩ := HI.out.wx.three
      go_wp2_with fail
      refine (devEmpty_any v wr).mono ?_
      rw [Hemp.out]
      rintro e w5 ⟨A, n, c, rfl, ha, hb⟩
      clear q0 q1 q2
      have HI5 := hid (HI.out.below hb)
      have Hfin := hid (HI5.out.put (k := k) hlt (z := ⟨v, A, n, c, Bs.emp v⟩) ha)
      have HD5 := hid (HD.out.put (k := k) (by rw [HI.out.row.len]; exact hlt) (z := ⟨v, A, n, c, Bs.emp v⟩) rfl rfl (Bs.fit_emp v))
      simp only at Hfin
      obtain ⟨y, hy, -⟩ := get_at HI5.out.row.len hlt
      obtain ⟨p0, p1⟩ := HI5.out.row.cells hy
      have f0 := HI5.out.row.fb.frozen (k * 2)
      have f1 := HI5.out.row.fb.frozen (k * 2 + 1)
      have hpl := HI5.out.row.lt
      clear ha hb hy
      go_wp2_with fail
      go_roundw
      case rel => exact ⟨k + 1, l.set k ⟨v, A, n, c, Bs.emp v⟩, by omega, by go_num, Hfin, HD5⟩
      case measure => simp [intOf]; omega
    · obtain rfl : k = N := by omega
      obtain ⟨hok, hvs⟩ := HD.out.all HI.out.row.len
      rw [emp_round Hp.out] at hvs
      have hR := rightSides_any ⟨v, ⟨BA, k, bc, bl⟩, ⟨IA, k, ic, il⟩⟩ ⟨some ⟨g, 0, none⟩, k, k, l⟩ v k [] [] wr (Hx.out.below HI.out.bel) (HI.out.row.zl (by omega)) Ho.out ⟨rfl, hok⟩
      rw [HP.out, show ZL.vs ⟨some ⟨g, 0, none⟩, k, k, l⟩ = p.round 0 from hvs] at hR
      have HR := hid hR
      have Hok := hid hok
      have Hvs := hid hvs
      have hmk := run_mkbools k (by omega)
      clear hR hok hvs
      unfold WB.a at HR
      simp only at HR
      obtain ⟨q0, q1, q2⟩ := HI.out.wx.three
      go_wp2_with fail
      refine HR.out.mono ?_
      rintro e w2 ⟨g2, l2, rfl, hg2, hrow2, hok2, hvs2, hb2⟩
      have HI2 := hid (HI.out.below hb2)
      have Hrow2 := hid hrow2
      have Hok2 := hid hok2
      have Hvs2 := hid (show l2.map ZH.ws = p.round 1 from hvs2)
      have hgl := HI.out.row.lt
      clear q0 q1 q2 hrow2 hok2 hvs2 hb2
      obtain ⟨q0, q1, q2⟩ := HI2.out.wx.three
      have HL := hid (show Lst0 w v k g g2 w2.heap.size ⟨v, ⟨BA, k, bc, bl⟩, ⟨IA, k, ic, il⟩⟩ l l2 (List.replicate k false) (w2.alloc (.cells ((List.replicate k false).map Value.bool).toArray 4)) from by
        have hb := (Below.refl w2.heap.size w2).alloc (Nat.le_refl _) (.cells ((List.replicate k false).map Value.bool).toArray 4)
        have hgb := HI.out.gb
        have hbl := HI.out.bel.size
        have hbb := below_step HI2.out.bel hb
        exact ⟨HI2.out.wx.below hb HI2.out.wx.lt, HI2.out.row.below hb, Hrow2.out.below hb, BRow.new w2 k, Hx.out.far0 hbb (fun i hi => by
          simp only [List.mem_cons, Option.some.injEq, List.not_mem_nil, or_false] at hi
          rcases hi with rfl | rfl
          · omega
          · omega), hbb, by omega, hgb, by omega, Hok.out, Hok2.out⟩)
      have HE0 := hid (show ∀ i, i < 0 → (List.replicate k false)[i]? = some (!decide (at0 (p.round 1) i = at0 (p.round 0) i)) from fun i hi => by omega)
      generalize hcs : List.replicate k false = cs0 at *
      clear hcs
      go_wp2_with fail
      clear hmk q0 q1 q2 HR HI HI2 HD
      generalize w2.alloc (.cells (cs0.map Value.bool).toArray 4) = w3 at *
      have Hg3 := hid (show w.heap.size < w2.heap.size from by have := HL.out.hv; have := hgl; have := Hrow2.out.lt; have := HL.out.hn; omega)
      generalize hg3 : w2.heap.size = g3 at *
      clear hg3 hg2 hgl
      go_loopw [8, 38] (fun _ iv wr => ∃ (i : Nat) (cs : List Bool), i ≤ k ∧ iv = .int .i64 i ∧ Hid (Lst0 w v k g g2 g3 ⟨v, ⟨BA, k, bc, bl⟩, ⟨IA, k, ic, il⟩⟩ l l2 cs wr) ∧ Hid (∀ j, j < i → cs[j]? = some (!decide (at0 (p.round 1) j = at0 (p.round 0) j)))) (fun _ iv _ => k - (intOf iv).toNat)
      case atStart => exact ⟨0, cs0, by omega, rfl, HL, HE0⟩
      case round =>
        clear HL HE0
        obtain ⟨i, cs, hi, rfl, HI, HE⟩ := hrel
        by_cases hlt : i < k
        · have HId := hid (HI.out.below (Below.refl _ _).drew)
          obtain ⟨z, hz, hzm⟩ := get_at HId.out.rv.len hlt
          obtain ⟨y, hy, hym⟩ := get_at HId.out.rn.len hlt
          obtain ⟨p0, p1⟩ := HId.out.rv.cells hz
          obtain ⟨r0, r1⟩ := HId.out.rn.cells hy
          obtain ⟨hzW, hzf⟩ := Hok.out z hzm
          obtain ⟨hyW, hyf⟩ := Hok2.out y hym
          have hzA := HId.out.rv.all z hzm
          have hyA := HId.out.rn.all y hym
          have hvl := HId.out.rv.lt
          have hnl := HId.out.rn.lt
          have hz0 : at0 (p.round 0) i = z.ws := by rw [← Hvs.out]; exact at0_get (by rw [List.getElem?_map, hz]; rfl)
          have hy0 : at0 (p.round 1) i = y.ws := by rw [← Hvs2.out]; exact at0_get (by rw [List.getElem?_map, hy]; rfl)
          have hzn : z.n ≤ maxLen := by
            have h1 := hzA.len
            have h2 := hzf.len
            rw [← h1, h2]
            unfold Bs.nw maxLen
            omega
          have hEq : equalB v z.ws v y.ws = decide (at0 (p.round 1) i = at0 (p.round 0) i) := by
            unfold equalB sameB
            rw [Bs.valid_of_fit hzf hv, Bs.valid_of_fit hyf hv, hz0, hy0]
            simp only [decide_true, Bool.true_and]
            exact decide_eq_decide.2 ⟨fun h => h.symm, fun h => h.symm⟩
          have HC := hid (devEqual_any v v z.A y.A z.n z.c y.n y.c z.ws y.ws wr.drew hzA hyA hzn)
          rw [hEq] at HC
          obtain ⟨b0, hb0, -⟩ := get_at HId.out.bc.len hlt
          have hbk := HId.out.bc.cell hb0
          have n0 : (0 : Int) ≤ i := by omega
          have n1 : (i : Int) < k := by omega
          have n2 : (i : Int).toNat = i := by omega
          have HE2 := hid (show ∀ j, j < i + 1 → (cs.set i (!decide (at0 (p.round 1) i = at0 (p.round 0) i)))[j]? = some (!decide (at0 (p.round 1) j = at0 (p.round 0) j)) from fun j hj => by
            by_cases e : j = i
            · subst e
              rw [List.getElem?_set_self (by rw [HId.out.bc.len]; exact hlt)]
            · rw [List.getElem?_set_ne (by omega)]
              exact HE.out j (by omega))
          generalize hbb : decide (at0 (p.round 1) i = at0 (p.round 0) i) = bb at *
          obtain ⟨ZW, ZA, zn, zc, zs⟩ := z
          obtain ⟨YW, YA, yn, yc, ys⟩ := y
          simp only at *
          subst hzW
          subst hyW
          clear hzm hzA hzf hym hyA hyf hzn hEq hb0 hbb HE hz0 hy0 hz hy HI
          go_wp2_with fail
          go_region_with (first
            | (go_at_call 57
               go_must (
               refine HC.out.mono ?_
               rintro e w6 ⟨rfl, hb6⟩
               have HI6 := hid (HId.out.below hb6)
               have Hfin := hid (HI6.out.note Hx.out Hg3.out i (!bb))
               have hb60 := hb6.cell (p := ⟨g3, i, none⟩) HId.out.bc.fb.lt
               have hbk6 := hb60.trans hbk
               have f60 := HI6.out.bc.fb.frozen i
               have hl6 := HI6.out.bc.fb.lt
               clear hb60 hb6)))
          all_goals
            go_wp2_with fail
            go_roundw
            case rel => exact ⟨i + 1, cs.set i (!bb), by omega, by go_num, Hfin, HE2⟩
            case measure => simp [intOf]; omega
        · obtain rfl : i = k := by omega
          have hcs : cs = difB i (p.round 1) (p.round 0) := by
            apply List.ext_getElem?
            intro j
            by_cases hj : j < i
            · rw [HE.out j hj, difB_get hj]
            · rw [List.getElem?_eq_none (by rw [HI.out.bc.len]; omega), List.getElem?_eq_none (by unfold difB; simp; omega)]
          subst hcs
          have Hlr := hid (fun (K : Nat) => advs_eq Hp.out.ok Hp.out.inn Hp.out.n K)
          have Hpv := hid (fun (K : Nat) => PW.round_vals Hp.out.ok K)
          have HI' := hid (show Lst0 w v i g g2 g3 ⟨v, ⟨BA, i, bc, bl⟩, ⟨IA, i, ic, il⟩⟩ l l2 (difB i (p.round (0 + 1)) (p.round 0)) wr from HI.out)
          have HV0 := hid (show l.map ZH.ws = p.round 0 ∧ l2.map ZH.ws = p.round (0 + 1) from ⟨Hvs.out, Hvs2.out⟩)
          have HB0 := hid (show ∀ j, j < 0 → p.round (j + 1) ≠ p.round j from fun j hj => by omega)
          have Hbd := hid (fun (K : Nat) (hb : ∀ j, j < K → p.round (j + 1) ≠ p.round j) => show K ≤ i * v from by
            have h1 := PW.left_round Hp.out.ok Hp.out.inn hb
            rw [Hp.out.n, Hp.out.v] at h1
            omega)
          have hiv : i * v ≤ 65536 := Nat.mul_le_mul hN hv
          clear HE Hok Hok2 Hemp
          go_wp2_with fail
          go_loopw [4, 6, 7, 9] (fun a b c nv wr => ∃ (K gv gn gc : Nat) (lv ln : List ZH), a = .slice (some ⟨gv, 0, none⟩) i i ∧ b = .slice (some ⟨gn, 0, none⟩) i i ∧ c = .slice (some ⟨gc, 0, none⟩) i i ∧ nv = .int .i64 K ∧ Hid (Lst0 w v i gv gn gc ⟨v, ⟨BA, i, bc, bl⟩, ⟨IA, i, ic, il⟩⟩ lv ln (difB i (p.round (K + 1)) (p.round K)) wr) ∧ Hid (lv.map ZH.ws = p.round K ∧ ln.map ZH.ws = p.round (K + 1)) ∧ Hid (∀ j, j < K → p.round (j + 1) ≠ p.round j)) (fun _ _ _ nv _ => i * v + 1 - (intOf nv).toNat)
          case atStart => exact ⟨0, g, g2, g3, l, l2, rfl, rfl, rfl, rfl, HI', HV0, HB0⟩
          case round =>
            clear HI HI' HV0 HB0 Hvs Hvs2
            obtain ⟨K, gv, gn, gc, lv, ln, rfl, rfl, rfl, rfl, HI, HV, HB⟩ := hrel
            have hKb := Hbd.out K HB.out
            have HCt := hid (containsB_any gc i _ wr HI.out.bc (by omega))
            cases hc : (difB i (p.round (K + 1)) (p.round K)).any id with
            | true =>
              rw [hc] at HCt
              have hne := (difB_any Hp.out.n (Hpv.out (K + 1)) (Hpv.out K)).1 hc
              have HB2 := hid (show ∀ j, j < K + 1 → p.round (j + 1) ≠ p.round j from fun j hj => by
                by_cases e : j = K
                · subst e; exact hne
                · exact HB.out j (by omega))
              have hKb2 := Hbd.out (K + 1) HB2.out
              have hA := advance_any ⟨v, ⟨BA, i, bc, bl⟩, ⟨IA, i, ic, il⟩⟩ ln lv (difB i (p.round (K + 1)) (p.round K)) v i gn gv gc wr (HI.out.wk.go (Go2.less wr (by intro k hk; simp only [List.mem_cons, List.not_mem_nil, or_false] at hk ⊢; exact .inr hk))) Ho.out HI.out.rn HI.out.okn HI.out.rv HI.out.bc HI.out.nvn.symm (bc_ne_row HI.out.rv HI.out.bc)
              rw [HP.out, HV.out.2] at hA
              have HA := hid hA
              unfold WB.a at HA
              simp only at HA
              obtain ⟨q0, q1, q2⟩ := HI.out.wx.three
              clear hc hne hA
              go_wp2_with fail
              refine HCt.out.mono ?_
              rintro e w7 ⟨rfl, rfl⟩
              go_wp2_with fail
              refine HA.out.mono ?_
              rintro e w8 ⟨gd, l9, ds9, rfl, hgd, h1, h2, h3, ⟨h4, h5⟩, h6, h7⟩
              have h5' := h5.trans (Hlr.out K)
              have hf : ∀ m, m < i → p.adv (p.round (K + 1)) (fun m => (difB i (p.round (K + 1)) (p.round K)).getD m false) m = at0 (p.round (K + 2)) m := fun m hm => by rw [← Hlr.out K, at0_map hm]
              have h6' : ds9 = difB i (p.round (K + 1 + 1)) (p.round (K + 1)) := by
                rw [h6, HV.out.2]
                show _ = (List.range i).map fun k => !decide (at0 (p.round (K + 2)) k = at0 (p.round (K + 1)) k)
                apply List.map_congr_left
                intro m hm
                rw [hf m (List.mem_range.1 hm)]
              clear hf
              subst h6'
              have HI8 := hid (HI.out.turn h7 h1 h2 h3 h4)
              have HV8 := hid (show ln.map ZH.ws = p.round (K + 1) ∧ l9.map ZH.ws = p.round (K + 1 + 1) from ⟨HV.out.2, h5'⟩)
              clear h1 h2 h3 h4 h5 h5' h6 h7 q0 q1 q2
              go_wp2_with fail
              go_roundw
              case rel => exact ⟨K + 1, gn, gv, gd, ln, l9, rfl, rfl, rfl, by go_num, HI8, HV8, HB2⟩
              case measure => simp [intOf]; omega
            | false =>
              rw [hc] at HCt
              have heq : p.round (K + 1) = p.round K := Classical.byContradiction fun hne => by
                have := (difB_any Hp.out.n (Hpv.out (K + 1)) (Hpv.out K)).2 hne
                rw [hc] at this
                cases this
              have Hr := hid (show RetLast w v i p (.returned (.tuple #[.slice (some ⟨gv, 0, none⟩) i i, .int .i64 K])) wr from ⟨K, gv, lv, ⟨heq, HB.out⟩, rfl, by have := HI.out.hv; omega, HI.out.rv, HI.out.okv, HV.out.1, HI.out.bel⟩)
              clear hc heq
              go_wp2_with fail
              refine HCt.out.mono ?_
              rintro e w7 ⟨rfl, rfl⟩
              go_wp2_with fail
              exact bodyPost_ret (v := .tuple #[.slice (some ⟨gv, 0, none⟩) i i, .int .i64 K]) (by simp [results, Try.results55, go_sem]) rfl Hr.out
end Go.Proofs.Ytbjaebbmajhjjaa

namespace Go.Proofs.Ytbjaebbmajhjjaa
set_option maxRecDepth 20000
set_option linter.unusedVariables false
set_option linter.unusedSimpArgs false
open Go.ChangeShapes Go.WideShapes Go.ChangeAt Go.RowKit

/-- The web of a system passes linked. -/
theorem WLk.of {x : WB} {s : SY} {v N : Nat} (ho : WOk x v N) (hs : SOk s v N) (hp : x.pw = s.pw) : WLk x N := by
  have e1 : x.I.l.map AL.pa = s.D.l.map fun r => r.l.map s.arc := congrArg PW.arcs hp
  have a1 : (x.I.l.map AL.pa).map (fun l => l.map fun p => (p.1 : Int)) = x.I.l.map fun r => r.l.map AH.m := by
    rw [List.map_map]
    apply List.map_congr_left
    intro r hr
    show (r.l.map AH.pa).map _ = _
    rw [List.map_map]
    apply List.map_congr_left
    intro a ha
    show ((a.m.toNat : Nat) : Int) = a.m
    have := ((ho.arcs r hr).2 a ha).1
    omega
  have a2 : (s.D.l.map fun r => r.l.map s.arc).map (fun l => l.map fun p => (p.1 : Int)) = s.D.v := by
    rw [List.map_map]
    unfold LH.v
    apply List.map_congr_left
    intro r hr
    show (r.l.map s.arc).map _ = _
    rw [List.map_map]
    have : r.l.map ((fun p : Nat × Pf => (p.1 : Int)) ∘ s.arc) = r.l.map id := by
      apply List.map_congr_left
      intro a ha
      show ((a.toNat : Nat) : Int) = a
      have := (hs.d r hr).2 a ha
      omega
    rw [this, List.map_id]
  have e : (x.I.l.map fun r => r.l.map AH.m) = s.D.v := by rw [← a1, e1, a2]
  refine ⟨hs.n1, fun r hr => ?_, by rw [e]; exact hs.tt⟩
  have hm : r.l.map AH.m ∈ s.D.v := by rw [← e]; exact List.mem_map.2 ⟨r, hr, rfl⟩
  obtain ⟨y, hy, h⟩ := List.mem_map.1 hm
  rw [← h]
  exact hs.d y hy
/-- The least solution came back. -/
def RetSol (w : World) (v N : Nat) (p : PW) (e : Ending) (w' : World) : Prop :=
  ∃ (K g : Nat) (l : List ZH), p.Last K ∧ e = .returned (.tuple #[.slice (some ⟨g, 0, none⟩) N N, .int .i64 K, .int .i64 0]) ∧ w.heap.size ≤ g ∧ VRow w' g N l ∧ (∀ z ∈ l, z.W = v ∧ Bs.Fit v z.ws) ∧ l.map ZH.ws = p.round K ∧ Below w.heap.size w w'
def RetSolW (w : World) (v N : Nat) (p : PW) (e : Ending) (w' : World) : Prop :=
  ∃ (K g : Nat) (l : List ZH), p.Last K ∧ e = .returned (.tuple #[.slice (some ⟨g, 0, none⟩) N N, .int .i64 0]) ∧ w.heap.size ≤ g ∧ VRow w' g N l ∧ (∀ z ∈ l, z.W = v ∧ Bs.Fit v z.ws) ∧ l.map ZH.ws = p.round K ∧ Below w.heap.size w w'
theorem webC (s : SY) (v N : Nat) (ex : List (Option Nat)) (w : World) (h : SYok w ex s) (ho : SOk s v N) :
    Calls Try.prog 54 #[.agg #[.int .i64 s.W, .slice s.D.A s.D.n s.D.c, .slice s.T.A s.T.n s.T.c, .slice s.B.A s.B.n s.B.c]] w fun e w' => ∃ (BA : Option Addr) (bc : Nat) (bl : List ZH) (IA : Option Addr) (ic : Nat) (il : List AL), e = .returned (.tuple #[.agg #[.int .i64 v, .slice BA N bc, .slice IA N ic], .int .i64 0]) ∧ WBok w' [] ⟨v, ⟨BA, N, bc, bl⟩, ⟨IA, N, ic, il⟩⟩ ∧ WOk ⟨v, ⟨BA, N, bc, bl⟩, ⟨IA, N, ic, il⟩⟩ v N ∧ (⟨v, ⟨BA, N, bc, bl⟩, ⟨IA, N, ic, il⟩⟩ : WB).pw = s.pw ∧ Below w.heap.size w w' := by
  refine (web_any [] s v N ex w h ho (by simp)).mono ?_
  rintro e w' ⟨⟨XW, ⟨BA, bn, bc, bl⟩, ⟨IA, inn, ic, il⟩⟩, rfl, hx, hox, hpw, hb⟩
  have h1 := hox.w
  have h2 := hox.bn
  have h3 := hox.inn
  simp only at h1 h2 h3
  subst h1
  subst h2
  subst h3
  exact ⟨BA, bc, bl, IA, ic, il, rfl, hx, hox, hpw, hb⟩
set_option maxHeartbeats 3200000 in
theorem solve_any (s : SY) (v N : Nat) (ex : List (Option Nat)) (w : World) (h : SYok w ex s) (ho : SOk s v N) :
    Calls Try.prog 21 #[s.a] w (RetSol w v N s.pw) := by
  have Hb0 := hid ((Below.refl w.heap.size w).alloc (Nat.le_refl _) (.cells s.box 27))
  have HC := hid (fun (u : World) (hu : Below w.heap.size w u) => webC s v N ex u (h.below hu) ho)
  have Hbx := hid (Fb.new w s.box 27)
  clear h ho
  generalize s.pw = p at *
  unfold SY.a at *
  unfold SY.box at *
  go_enter Try.func21, Try.ntmps21
  go_wp2_with fail
  refine (HC.out _ Hb0.out).mono ?_
  rintro e w2 ⟨BA, bc, bl, IA, ic, il, rfl, hx, hox, hpw, hb2⟩
  have hba := (Below.refl w2.heap.size w2).alloc (Nat.le_refl _) (.cells #[.int .i64 v, .slice BA N bc, .slice IA N ic] 68)
  have HR := hid (lastRound_any ⟨v, ⟨BA, N, bc, bl⟩, ⟨IA, N, ic, il⟩⟩ v N _ (hx.below hba) hox)
  have Hb2 := hid (below_step (below_step Hb0.out hb2) hba)
  rw [hpw] at HR
  unfold WB.a at HR
  simp only at HR
  clear hx hox hpw hb2 hba Hb0 HC Hbx
  go_wp2_with fail
  refine HR.out.mono ?_
  rintro e w3 ⟨K, g, l, hK, rfl, hg, hrow, hok, hvs, hb3⟩
  have Hr := hid (show RetSol w v N p (.returned (.tuple #[.slice (some ⟨g, 0, none⟩) N N, .int .i64 K, .int .i64 0])) w3 from ⟨K, g, l, hK, rfl, by have := Hb2.out.size; omega, hrow, hok, hvs, below_step Hb2.out hb3⟩)
  clear hK hg hrow hok hvs hb3 HR
  go_wp2_with fail
  exact bodyPost_ret (v := .tuple #[.slice (some ⟨g, 0, none⟩) N N, .int .i64 K, .int .i64 0]) (by simp [results, Try.results21, go_sem]) rfl Hr.out
set_option maxHeartbeats 3200000 in
theorem solveWeb_any (x : WB) (v N : Nat) (ex : List (Option Nat)) (w : World) (h : WBok w ex x) (ho : WOk x v N) (hk : WLk x N) :
    Calls Try.prog 39 #[x.a] w (RetSolW w v N x.pw) := by
  have h := h.go (Go2.less w (ex' := []) (by simp))
  have hW := ho.w
  have hbn := ho.bn
  have hin := ho.inn
  have HV := hid (fun (u : World) (hu : Below w.heap.size w u) => validWeb_any x v N [] u (h.below hu) ho hk)
  have HR := hid (fun (u : World) (hu : Below w.heap.size w u) => lastRound_any x v N u (h.below hu) ho)
  clear h ho hk
  generalize x.pw = p at *
  obtain ⟨XW, ⟨BA, bn, bc, bl⟩, ⟨IA, inn, ic, il⟩⟩ := x
  simp only at hW hbn hin
  subst hW
  have hbn := hbn.symm
  subst hbn
  have hin := hin.symm
  subst hin
  unfold WB.a at *
  simp only at *
  have Hb0 := hid ((Below.refl w.heap.size w).alloc (Nat.le_refl _) (.cells #[.int .i64 v, .slice BA N bc, .slice IA N ic] 68))
  have Hbx := hid (Fb.new w #[.int .i64 v, .slice BA N bc, .slice IA N ic] 68)
  go_enter Try.func39, Try.ntmps39
  go_wp2_with fail
  refine (HV.out _ Hb0.out).mono ?_
  rintro e w2 ⟨rfl, hb2⟩
  have Hb2 := hid (below_step Hb0.out hb2)
  have Hbx2 := hid (Hbx.out.below hb2 Hbx.out.lt)
  clear hb2 Hb0 Hbx HV
  obtain ⟨c0, c1, c2⟩ := Hbx2.out.three
  go_wp2_with fail
  refine (HR.out _ Hb2.out).mono ?_
  rintro e w3 ⟨K, g, l, hK, rfl, hg, hrow, hok, hvs, hb3⟩
  have Hr := hid (show RetSolW w v N p (.returned (.tuple #[.slice (some ⟨g, 0, none⟩) N N, .int .i64 0])) w3 from ⟨K, g, l, hK, rfl, by have := Hb2.out.size; omega, hrow, hok, hvs, below_step Hb2.out hb3⟩)
  clear hK hg hrow hok hvs hb3 HR c0 c1 c2
  go_wp2_with fail
  exact bodyPost_ret (v := .tuple #[.slice (some ⟨g, 0, none⟩) N N, .int .i64 0]) (by simp [results, Try.results39, go_sem]) rfl Hr.out
end Go.Proofs.Ytbjaebbmajhjjaa

namespace Go.Proofs.Ytbjaebbmajhjjaa
set_option maxRecDepth 20000
set_option linter.unusedVariables false
set_option linter.unusedSimpArgs false
open Go.ChangeShapes Go.WideShapes Go.ChangeAt Go.RowKit

/-- The first error of a list of values. -/
def chkV (N : Nat) (W : Int) (n : Nat) (l : List ZH) : Int :=
  if decide (n = N) = false then 1 else if (l.all fun z => Bs.validB z.W z.ws) = false then 1 else if (l.all fun z => decide (z.W = W)) = false then 2 else 0
def widE (W : Int) (l : List ZH) : Int := if (l.all fun z => decide (z.W = W)) = true then 0 else 2
theorem widE_snoc (W : Int) (l : List ZH) (k : Nat) (z : ZH) (h : l[k]? = some z) : widE W (l.take (k + 1)) = if z.W = W then widE W (l.take k) else 2 := by
  unfold widE
  rw [List.take_add_one, h, List.all_append]
  by_cases e : z.W = W
  · simp [e]
  · simp [e]
theorem ret_e {a b : Int} (h : a = b) : Ending.returned (.int .i64 b) = Ending.returned (.int .i64 a) := by rw [h]
set_option maxHeartbeats 6400000 in
theorem checkValues_any (s : SY) (y : ZL) (ex ex' : List (Option Nat)) (w : World) (h : SYok w ex s) (hy : ZLok w ex' y) :
    Calls Try.prog 92 #[s.a, .slice y.A y.n y.c] w fun e w' => e = .returned (.int .i64 (chkV s.D.n s.W y.n y.l)) ∧ Below w.heap.size w w' := by
  have hdn := h.d.few
  have hyn := hy.few
  have HY := hid hy
  have HL := hid hy.len
  clear h hy
  obtain ⟨W, ⟨DA, dn, dc, dl⟩, ⟨TA, tn, tc, tl⟩, ⟨BA, bn, bc, bl⟩⟩ := s
  obtain ⟨A, n, c, l⟩ := y
  unfold SY.a
  simp only at *
  have HB0 := hid ((Below.refl w.heap.size w).alloc (Nat.le_refl _) (.cells #[.int .i64 W, .slice DA dn dc, .slice TA tn tc, .slice BA bn bc] 27))
  have HG := hid (Fb.new w #[.int .i64 W, .slice DA dn dc, .slice TA tn tc, .slice BA bn bc] 27)
  go_enter Try.func92, Try.ntmps92
  by_cases h1 : n = dn
  · subst h1
    have t1 : ((n : Int) != (n : Int)) = false := by simp
    have Hd := hid (show chkV n W n l = if (l.all fun z => Bs.validB z.W z.ws) = false then 1 else widE W l by
      unfold chkV widE
      simp only [decide_true, Bool.true_eq_false, if_false]
      cases (l.all fun z => decide (z.W = W)) <;> simp)
    generalize chkV n W n l = R at *
    go_wp2_with fail
    clear t1
    generalize w.alloc (.cells #[.int .i64 W, .slice DA n dc, .slice TA tn tc, .slice BA bn bc] 27) = w0 at *
    go_loopw [5, 7, 16] (fun ev _ iv wr => ∃ k : Nat, k ≤ n ∧ iv = .int .i64 k ∧ ev = .int .i64 (widE W (l.take k)) ∧ Hid (Below w.heap.size w wr ∧ Fb wr w.heap.size #[.int .i64 W, .slice DA n dc, .slice TA tn tc, .slice BA bn bc] 27) ∧ Hid (∀ z ∈ l.take k, Bs.validB z.W z.ws = true)) (fun _ _ iv _ => n - (intOf iv).toNat)
    case atStart => exact ⟨0, by omega, rfl, rfl, hid ⟨HB0.out, HG.out⟩, hid (by simp)⟩
    case round =>
      obtain ⟨k, hk, rfl, rfl, HB, hE⟩ := hrel
      by_cases hlt : k < n
      · obtain ⟨y, hy, hym⟩ := get_at HL.out hlt
        have HYr := hid (HY.out.below HB.out.1)
        obtain ⟨ad, hA, had, c0, c1⟩ := HYr.out.cell hy
        simp only at hA
        subst hA
        have HYa := hid ((HYr.out.all y hym).arg.alloc (.cells #[.int .i64 y.W, .slice y.A y.n y.c] 41))
        have Hw := hid (widE_snoc W l k y hy)
        have Hno := hid (fun hp : Bs.validB y.W y.ws = false => show R = 1 by rw [Hd.out, if_pos (all_no (p := fun z => Bs.validB z.W z.ws) hy hp)])
        have Hyes := hid (fun hp : Bs.validB y.W y.ws = true => all_take (p := fun z => Bs.validB z.W z.ws) hE.out hy hp)
        clear hy hym HYr
        obtain ⟨V, yA, yn, yc, ys⟩ := y
        simp only at *
        have hba := (Below.refl wr.heap.size wr).alloc (Nat.le_refl _) (.cells #[.int .i64 V, .slice yA yn yc] 41)
        have HB1 := hid (show Below w.heap.size w (wr.alloc (.cells #[.int .i64 V, .slice yA yn yc] 41)) from below_step HB.out.1 hba)
        have HG1 := hid (HB.out.2.below hba HB.out.2.lt)
        have Hbx := hid (Fb.new wr #[.int .i64 V, .slice yA yn yc] 41)
        clear hba
        go_wp2_with fail
        clear c0 c1
        refine (devValid_any V yA yn yc ys _ HYa.out).mono ?_
        generalize wr.alloc (.cells #[.int .i64 V, .slice yA yn yc] 41) = wv at *
        generalize wr.heap.size = gv at *
        cases hv : Bs.validB V ys with
        | false =>
          rintro e w1 ⟨rfl, hb1⟩
          have Hr := hid (Hno.out hv)
          have Hb := hid (below_step HB1.out hb1)
          clear hv hb1 Hno Hyes
          go_wp2_with fail
          go_ret
          exact ⟨ret_e Hr.out, Hb.out⟩
        | true =>
          rintro e w1 ⟨rfl, hb1⟩
          have HG2 := hid (HG1.out.below hb1 HG1.out.lt)
          have Hb := hid (show Below w.heap.size w w1 ∧ Fb w1 w.heap.size #[.int .i64 W, .slice DA n dc, .slice TA tn tc, .slice BA bn bc] 27 from ⟨below_step HB1.out hb1, HG2.out⟩)
          obtain ⟨d0, d1⟩ := (Hbx.out.below hb1 Hbx.out.lt).two
          obtain ⟨s0, s1, s2, s3⟩ := HG2.out.four
          have Hr := hid (Hyes.out hv)
          clear hv hb1 d1 s1 s2 s3 Hno Hyes
          by_cases h2 : V = W
          · have t2 : (V != W) = false := by simp [h2]
            rw [if_pos h2] at Hw
            clear h2
            go_wp2_with fail
            go_roundw
            case rel => exact ⟨k + 1, by omega, by go_num, by rw [Hw.out], Hb, Hr⟩
            case measure => simp [intOf]; omega
          · have t2 : (V != W) = true := by simp [h2]
            rw [if_neg h2] at Hw
            clear h2
            go_wp2_with fail
            go_roundw
            case rel => exact ⟨k + 1, by omega, by go_num, by rw [Hw.out], Hb, Hr⟩
            case measure => simp [intOf]; omega
      · obtain rfl : k = n := by omega
        have Hr := hid (show R = widE W (l.take k) by
          rw [Hd.out, if_neg (by rw [all_yes (p := fun z => Bs.validB z.W z.ws) HL.out hE.out]; decide), List.take_of_length_le (by rw [HL.out]; exact Nat.le_refl _)])
        go_wp2_with fail
        go_ret
        exact ⟨ret_e Hr.out, HB.out.1⟩
  · have t1 : ((n : Int) != (dn : Int)) = true := by simp; omega
    have Hr := hid (show chkV dn W n l = 1 by unfold chkV; simp [h1])
    clear h1
    go_wp2_with fail
    go_ret
    exact ⟨ret_e Hr.out, HB0.out⟩
end Go.Proofs.Ytbjaebbmajhjjaa

namespace Go.Proofs.Ytbjaebbmajhjjaa
set_option maxRecDepth 20000
set_option linter.unusedVariables false
set_option linter.unusedSimpArgs false
open Go.ChangeShapes Go.WideShapes Go.ChangeAt Go.RowKit

/-- While a right side is computed. -/
structure Rtw (w0 : World) (s : SY) (v b : Nat) (A : Option Addr) (n c : Nat) (zs : List Nat) (u : World) : Prop where
  sx : Fb u w0.heap.size s.box 27
  rx : Fb u (w0.heap.size + 1) #[.int .i64 0, .slice none 0 0] 41
  bx : Fb u b #[.int .i64 v, .slice A n c] 41
  hb : w0.heap.size + 1 < b
  pv : Arg u A n zs
  ft : Bs.Fit v zs
  bel : Below w0.heap.size w0 u
section
variable {w0 u u' : World} {s : SY} {v b : Nat} {A : Option Addr} {n c : Nat} {zs : List Nat}
theorem Rtw.below (h : Rtw w0 s v b A n c zs u) (hb : Below u.heap.size u u') : Rtw w0 s v b A n c zs u' := ⟨h.sx.below hb h.sx.lt, h.rx.below hb h.rx.lt, h.bx.below hb h.bx.lt, h.hb, h.pv.below hb, h.ft, below_step h.bel hb⟩
theorem Rtw.put (h : Rtw w0 s v b A n c zs u) {A2 : Option Addr} {n2 c2 : Nat} {zs2 : List Nat} (ha : Arg u A2 n2 zs2) (hf : Bs.Fit v zs2) : Rtw w0 s v b A2 n2 c2 zs2 ((u.setCell ⟨b, 0, none⟩ (.int .i64 v)).setCell ⟨b, 1, none⟩ (.slice A2 n2 c2)) := by
  have hb := h.hb
  exact ⟨(h.sx.far (by simp; omega) _).far (by simp; omega) _, (h.rx.far (by simp; omega) _).far (by simp; omega) _, (h.bx.set 0 _).set 1 _, hb, Arg.store ha (show Box u b v A n c from h.bx) v A2 n2 c2, hf, (h.bel.setCell (by simp; omega) _).setCell (by simp; omega) _⟩
end
theorem Rtw.one {w0 u : World} {s : SY} {v b : Nat} {A : Option Addr} {n c : Nat} {zs : List Nat} (h : Rtw w0 s v b A n c zs u) {pb : Nat} (hb : Fb u pb #[.int .i64 0, .slice none 0 0] 41) (hg : b < pb) {A2 : Option Addr} {n2 c2 : Nat} {zs2 : List Nat} (ha : Arg u A2 n2 zs2) :
    Rtw w0 s v b A n c zs ((u.setCell ⟨pb, 0, none⟩ (.int .i64 v)).setCell ⟨pb, 1, none⟩ (.slice A2 n2 c2)) ∧ Fb ((u.setCell ⟨pb, 0, none⟩ (.int .i64 v)).setCell ⟨pb, 1, none⟩ (.slice A2 n2 c2)) pb #[.int .i64 v, .slice A2 n2 c2] 41 ∧ Arg ((u.setCell ⟨pb, 0, none⟩ (.int .i64 v)).setCell ⟨pb, 1, none⟩ (.slice A2 n2 c2)) A2 n2 zs2 := by
  have hb1 := h.hb
  exact ⟨⟨(h.sx.far (by simp; omega) _).far (by simp; omega) _, (h.rx.far (by simp; omega) _).far (by simp; omega) _, (h.bx.far (by simp; omega) _).far (by simp; omega) _, hb1, Arg.store h.pv (show Box u pb 0 none 0 0 from hb) v A2 n2 c2, h.ft, (h.bel.setCell (by simp; omega) _).setCell (by simp; omega) _⟩, (hb.set 0 _).set 1 _, Arg.store ha (show Box u pb 0 none 0 0 from hb) v A2 n2 c2⟩
theorem Rtw.two {w0 u : World} {s : SY} {v b : Nat} {A : Option Addr} {n c : Nat} {zs : List Nat} (h : Rtw w0 s v b A n c zs u) {A2 : Option Addr} {n2 c2 : Nat} {zs2 : List Nat} (ha : Arg u A2 n2 zs2) :
    Rtw w0 s v b A n c zs (u.alloc (.cells #[.int .i64 v, .slice A2 n2 c2] 41)) ∧ Fb (u.alloc (.cells #[.int .i64 v, .slice A2 n2 c2] 41)) u.heap.size #[.int .i64 v, .slice A2 n2 c2] 41 ∧ Arg (u.alloc (.cells #[.int .i64 v, .slice A2 n2 c2] 41)) A2 n2 zs2 := by
  have hba := (Below.refl u.heap.size u).alloc (Nat.le_refl _) (.cells #[.int .i64 v, .slice A2 n2 c2] 41)
  exact ⟨h.below hba, Fb.new _ _ _, ha.below hba⟩
theorem chkV_ok {v N : Nat} {y : ZL} {w : World} {ex : List (Option Nat)} (hv : v ≤ 256) (h : VOk y v N) : chkV N v y.n y.l = 0 := by
  unfold chkV
  rw [h.n]
  have h1 : (y.l.all fun z => Bs.validB z.W z.ws) = true := by
    rw [List.all_eq_true]; intro z hz; obtain ⟨a, b⟩ := h.all z hz; rw [a]; exact Bs.valid_of_fit b hv
  have h2 : (y.l.all fun z => decide (z.W = (v : Int))) = true := by
    rw [List.all_eq_true]; intro z hz; obtain ⟨a, b⟩ := h.all z hz; simpa using a
  rw [h1, h2]; simp
/-- The right side came back. -/
def RetRt (w : World) (v : Nat) (zs : List Nat) (e : Ending) (w' : World) : Prop :=
  ∃ (A : Option Addr) (n c : Nat), e = .returned (.tuple #[.agg #[.int .i64 v, .slice A n c], .int .i64 0]) ∧ Arg w' A n zs ∧ Bs.Fit v zs ∧ Below w.heap.size w w'
theorem SOk.valid2 {s : SY} {v N : Nat} {w : World} {ex : List (Option Nat)} (h : SOk s v N) (hs : SYok w ex s) : sysB s = true := by
  have hl : s.D.v.length = N := by rw [LH.vlen, hs.d.len, h.dn]
  have h1 : linkB s.D.v = true := by
    unfold linkB
    rw [hl]
    simp only [Bool.and_eq_true, decide_eq_true_eq, List.all_eq_true]
    refine ⟨⟨⟨h.n1, h.n256⟩, fun l hm => ?_⟩, h.tt⟩
    obtain ⟨y, hy, rfl⟩ := List.mem_map.1 hm
    exact risB_iff.2 (h.d y hy)
  unfold sysB
  rw [h1]
  simp only [Bool.and_eq_true, decide_eq_true_eq, List.all_eq_true, h.tn, h.dn, h.bn, true_and, and_true]
  refine ⟨fun z hz => ?_, fun f hf => ?_⟩
  · obtain ⟨a, b⟩ := h.b z hz
    unfold zfitB
    rw [a, h.w, Bs.valid_of_fit b h.v256]; simp
  · have := h.t f hf
    unfold ffitB FH.vB
    rw [this.w1, this.w2, h.w, this.ok]; simp
set_option maxHeartbeats 12800000 in
theorem right_any (s : SY) (y : ZL) (v N k : Nat) (ex ex' : List (Option Nat)) (w : World) (h : SYok w ex s) (hy : ZLok w ex' y) (ho : SOk s v N) (hvo : VOk y v N) (hk : k < N) :
    Calls Try.prog 58 #[s.a, .slice y.A y.n y.c, .int .i64 k] w (RetRt w v (s.pw.right y.vs k)) := by
  have hv := ho.v256
  have hN := ho.n256
  have hN1 := ho.n1
  obtain ⟨r, hr, hrm⟩ := get_at (show s.D.l.length = N by rw [h.d.len, ho.dn]) hk
  obtain ⟨z, hz, hzm⟩ := get_at (show s.B.l.length = N by rw [h.b.len, ho.bn]) hk
  obtain ⟨hzW, hzf⟩ := ho.b z hzm
  have hrl := (h.d.all r hrm).len
  have Hgoal := hid (show s.pw.right y.vs k = side v y.vs z.ws ((r.l.take r.n).map s.arc) by
    unfold PW.right
    rw [show s.pw.v = v by show s.W.toNat = v; rw [ho.w]; simp, show at0 s.pw.bd k = z.ws from at0_get (by show (s.B.l.map ZH.ws)[k]? = _; rw [List.getElem?_map, hz]; rfl),
      show s.pw.arcs.getD k [] = r.l.map s.arc by show (s.D.l.map fun r => r.l.map s.arc).getD k [] = _; rw [List.getD_eq_getElem?_getD, List.getElem?_map, hr]; rfl, List.take_of_length_le (by rw [hrl]; exact Nat.le_refl _)])
  have HV := hid (fun (u : World) (hu : Below w.heap.size w u) => (validS_any s ex u (h.below hu)).mono (fun e w' (hr : e = .returned (.bool (sysB s)) ∧ Below u.heap.size u w') => show e = .returned (.bool true) ∧ Below u.heap.size u w' by rw [ho.valid2 h] at hr; exact hr))
  have HCk := hid (fun (u : World) (hu : Below w.heap.size w u) => (checkValues_any s y ex ex' u (h.below hu) (hy.below hu)).mono (fun e w' (hr : e = .returned (.int .i64 (chkV s.D.n s.W y.n y.l)) ∧ Below u.heap.size u w') => show e = .returned (.int .i64 0) ∧ Below u.heap.size u w' by rw [ho.dn, ho.w, chkV_ok (w := w) (ex := ex) hv hvo] at hr; exact hr))
  have Hs := hid h
  have Hy := hid hy
  have Ho := hid ho
  have Hvo := hid hvo
  have hW := ho.w
  have hdn := ho.dn
  have htn := ho.tn
  have hbn := ho.bn
  have hyn := hvo.n
  have Har := hid (fun (m : Nat) (f : FH) (hm : s.T.l[m]? = some f) => SY.arc_at hm)
  have Hza := hid ((h.b.all z hzm).arg)
  have hzn : z.n ≤ 100 := by rw [← (h.b.all z hzm).len, hzf.len]; unfold Bs.nw; omega
  have Hzf := hid hzf
  have Hris := hid (ho.d r hrm)
  have Hr := hid hr; have Hz := hid hz; have Hrm := hid hrm
  generalize s.arc = arc at *
  generalize s.pw.right y.vs k = G at *
  have Hvs := hid (fun (i : Nat) (t : ZH) (h : y.l[i]? = some t) => show at0 y.vs i = t.ws from ZL.vs_at h)
  generalize y.vs = vs at *
  clear h hy ho hvo hr hz hrm hzm hzf
  obtain ⟨W, ⟨DA, dn, dc, dl⟩, ⟨TA, tn, tc, tl⟩, ⟨BA, bn, bc, bl⟩⟩ := s
  obtain ⟨YA, yn, yc, yl⟩ := y
  simp only at hW hdn htn hbn hyn hrl
  subst hW
  have hdn := hdn.symm
  subst hdn
  have htn := htn.symm
  subst htn
  have hbn := hbn.symm
  subst hbn
  have hyn := hyn.symm
  subst hyn
  obtain ⟨adr, hA, -, -⟩ := Hs.out.d.cell Hr.out
  obtain ⟨adb, hA3, -⟩ := Hs.out.b.cell Hz.out
  obtain ⟨x0, hx0, -⟩ := get_at (show tl.length = N from Hs.out.t.len) hN1
  obtain ⟨adt, hA2, -⟩ := Hs.out.t.cell hx0
  clear hx0 x0
  obtain ⟨x0, hx0, -⟩ := get_at (show yl.length = N from Hy.out.len) hN1
  obtain ⟨ady, hA4, -⟩ := Hy.out.cell hx0
  clear hx0 x0
  simp only at hA hA2 hA3 hA4
  subst hA
  subst hA2
  subst hA3
  subst hA4
  unfold SY.a at *
  simp only at *
  have Hb1 := hid (((Below.refl w.heap.size w).alloc (Nat.le_refl _) (.cells #[.int .i64 v, .slice (some adr) N dc, .slice (some adt) N tc, .slice (some adb) N bc] 27)).alloc (by simp) (.cells #[.int .i64 0, .slice none 0 0] 41))
  have Hsx := hid ((Fb.new w #[.int .i64 v, .slice (some adr) N dc, .slice (some adt) N tc, .slice (some adb) N bc] 27).alloc (.cells #[.int .i64 0, .slice none 0 0] 41))
  have Hrx := hid (show Fb ((w.alloc (.cells #[.int .i64 v, .slice (some adr) N dc, .slice (some adt) N tc, .slice (some adb) N bc] 27)).alloc (.cells #[.int .i64 0, .slice none 0 0] 41)) (w.heap.size + 1) #[.int .i64 0, .slice none 0 0] 41 from by
    have := Fb.new (w.alloc (.cells #[.int .i64 v, .slice (some adr) N dc, .slice (some adt) N tc, .slice (some adb) N bc] 27)) #[.int .i64 0, .slice none 0 0] 41
    rwa [World.size_alloc] at this)
  go_enter Try.func58, Try.ntmps58
  go_wp2_with fail
  refine (HV.out _ Hb1.out).mono ?_
  generalize (w.alloc (.cells #[.int .i64 v, .slice (some adr) N dc, .slice (some adt) N tc, .slice (some adb) N bc] 27)).alloc (.cells #[.int .i64 0, .slice none 0 0] 41) = wa at *
  rintro e w2 ⟨rfl, hb2⟩
  have Hb2 := hid (below_step Hb1.out hb2)
  have Hsx2 := hid (Hsx.out.below hb2 Hsx.out.lt)
  have Hrx2 := hid (Hrx.out.below hb2 Hrx.out.lt)
  clear hb2 Hb1 Hsx Hrx HV
  obtain ⟨c0, c1, c2, c3⟩ := Hsx2.out.four
  have k0 : (0 : Int) ≤ k := by omega
  have k1 : (k : Int) < N := by omega
  have k2 : (k : Int).toNat = k := by omega
  go_wp2_with fail
  refine (HCk.out _ Hb2.out).mono ?_
  rintro e w3 ⟨rfl, hb3⟩
  have Hb3 := hid (below_step Hb2.out hb3)
  have Hsx3 := hid (Hsx2.out.below hb3 Hsx2.out.lt)
  have Hrx3 := hid (Hrx2.out.below hb3 Hrx2.out.lt)
  clear hb3 Hb2 Hsx2 Hrx2 HCk c0 c1 c2 c3
  obtain ⟨c0, c1, c2, c3⟩ := Hsx3.out.four
  obtain ⟨ad9, hA9, had9, z0, z1⟩ := (Hs.out.b.below Hb3.out).cell Hz.out
  obtain rfl := Option.some.inj hA9
  go_wp2_with fail
  refine (copiedSet_any v z.A z.n z.c z.ws _ (Hza.out.below Hb3.out) hzn).mono ?_
  rintro e w4 ⟨A4, c4, rfl, hna, hb4⟩
  have HI0 := hid (show Rtw w ⟨v, ⟨some adr, N, dc, dl⟩, ⟨some adt, N, tc, tl⟩, ⟨some adb, N, bc, bl⟩⟩ v w4.heap.size A4 z.n c4 (side v vs z.ws ((r.l.take 0).map arc)) (w4.alloc (.cells #[.int .i64 v, .slice A4 z.n c4] 41)) from by
    have ha := hna.arg Hza.out.len Hza.out.ok
    have hba := (Below.refl w4.heap.size w4).alloc (Nat.le_refl _) (.cells #[.int .i64 v, .slice A4 z.n c4] 41)
    exact ⟨(Hsx3.out.below hb4 Hsx3.out.lt).below hba (by have := hb4.size; have := Hsx3.out.lt; omega), (Hrx3.out.below hb4 Hrx3.out.lt).below hba (by have := hb4.size; have := Hrx3.out.lt; omega), Fb.new _ _ _, by have := hb4.size; have := Hrx3.out.lt; omega, ha.below hba, Hzf.out, below_step (below_step Hb3.out hb4) hba⟩)
  clear hna hb4 c0 c1 c2 c3 z0 z1 Hb3 Hsx3 Hrx3 had9
  go_upto_region 9 with fail
  generalize w4.alloc (.cells #[.int .i64 v, .slice A4 z.n c4] 41) = w5 at *
  generalize w4.heap.size = bR at *
  obtain ⟨c0, c1, c2, c3⟩ := (show Fb w5 w.heap.size #[.int .i64 v, .slice (some adr) N dc, .slice (some adt) N tc, .slice (some adb) N bc] _ from HI0.out.sx).four
  obtain ⟨ad9, hA9, had9, hcr⟩ := (Hs.out.d.below HI0.out.bel).cell Hr.out
  obtain rfl := Option.some.inj hA9
  obtain ⟨rA, rn, rc, rl⟩ := r
  simp only at hcr hrl
  have Hrok := hid (Hs.out.d.all _ Hrm.out)
  have hrn : rn ≤ 256 := by
    have h2 := ris_len Hris.out
    simp only at h2
    omega
  go_wp2_with fail
  clear c0 c1 c2 c3 hcr had9 k0 k1 k2 hzW
  have HG : Hid (G = side v vs z.ws ((rl.take rn).map arc)) := Hgoal
  clear Hgoal
  go_loopw [11, 12, 13, 47] (fun _ _ _ jv wr => ∃ (j : Nat) (A : Option Addr) (n c : Nat), j ≤ rn ∧ jv = .int .i64 j ∧ Hid (Rtw w ⟨v, ⟨some adr, N, dc, dl⟩, ⟨some adt, N, tc, tl⟩, ⟨some adb, N, bc, bl⟩⟩ v bR A n c (side v vs z.ws ((rl.take j).map arc)) wr)) (fun _ _ _ jv _ => rn - (intOf jv).toNat)
  case atStart => exact ⟨0, A4, z.n, c4, by omega, rfl, HI0⟩
  case round =>
    clear HI0
    obtain ⟨j, A, n, c, hj, rfl, HI⟩ := hrel
    by_cases hlt : j < rn
    · obtain ⟨m0, hm, hmm⟩ := get_at hrl hlt
      have hmr := Hris.out.2 m0 hmm
      obtain ⟨m, rfl⟩ := Int.eq_ofNat_of_zero_le hmr.1
      have hmN : m < N := by omega
      obtain ⟨ad9, hA, had9, hcm⟩ := (Hrok.out.below HI.out.bel).cell hm
      simp only at hA
      subst hA
      obtain ⟨f, hf, hfm⟩ := get_at (show tl.length = N from Hs.out.t.len) hmN
      obtain ⟨t, ht, htm⟩ := get_at (show yl.length = N from Hy.out.len) hmN
      obtain ⟨htW, htf⟩ := Hvo.out.all t htm
      have hfo := Ho.out.t f hfm
      have HE := hid (show side v vs z.ws ((rl.take (j + 1)).map arc) = orR v (side v vs z.ws ((rl.take j).map arc)) (valR f.G.ws t.ws (folB v f.K.ws f.cs) v) by
        rw [List.take_add_one, hm, List.map_append]
        refine (side_snoc _ _ _ _ _).trans ?_
        rw [Har.out m f hf, Hvs.out m t ht]
        rfl)
      have Hfm := hid hfm; have Htm := hid htm; have Hft := hid hf; have Htt := hid ht; have Htf := hid htf; have Hfo := hid hfo
      have hz1 := HI.out.bx.lt
      have n0 : (0 : Int) ≤ j := by omega
      have n1 : (j : Int) < rn := by omega
      have n2 : (j : Int).toNat = j := by omega
      clear hm hmm hmr hf ht hfm htm htf hfo
      generalize side v vs z.ws ((rl.take j).map arc) = zs at *
      generalize hzs2 : side v vs z.ws ((rl.take (j + 1)).map arc) = zs2 at *
      have Hzs2 := hid hzs2
      clear hzs2
      obtain ⟨⟨GW, GA, gn, gc, gs⟩, ⟨KW, KA, kn, kc, ks⟩, C, kq, q, cs⟩ := f
      obtain ⟨TW, TA2, tn, tc2, ts⟩ := t
      have hw1 := Hfo.out.w1
      have hw2 := Hfo.out.w2
      simp only at hw1 hw2 htW
      subst hw1
      subst hw2
      subst htW
      have Happ := hid (show applyR v gs v ks cs v ts = ((v : Int), valR gs ts (folB v ks cs) v, 0) by
        unfold applyR
        have h1 := Hfo.out.ok
        simp only at h1
        rw [if_neg (by simp [h1, Bs.valid_of_fit Htf.out hv]), if_neg (by simp), Int.toNat_natCast])
      have Hap := hid (fun (u : World) (hu : Below w.heap.size w u) => devApply_any v v v GA KA C TA2 gn gc kn kc kq q tn tc2 gs ks ts cs u ((Hs.out.t.all _ Hfm.out).below hu).arg.gen ((Hs.out.t.all _ Hfm.out).below hu).arg.kill ((Hs.out.t.all _ Hfm.out).below hu).arg.cops ((Hy.out.all _ Htm.out).below hu).arg)
      rw [Happ.out] at Hap
      simp only at HE
      have Hvf := hid (show Bs.Fit v (valR gs ts (folB v ks cs) v) from fit_valR _ _ _ _)
      generalize valR gs ts (folB v ks cs) v = zp at *
      have HC := hid (fun (u : World) (hu : Rtw w ⟨v, ⟨some adr, N, dc, dl⟩, ⟨some adt, N, tc, tl⟩, ⟨some adb, N, bc, bl⟩⟩ v bR A n c zs u) => And.intro (show Fb u w.heap.size #[.int .i64 v, .slice (some adr) N dc, .slice (some adt) N tc, .slice (some adb) N bc] _ from hu.sx).four (And.intro ((Hs.out.t.below hu.bel).cell Hft.out) ((Hy.out.below hu.bel).cell Htt.out)))
      go_upto_region 12 with fail
      clear n0 n1 n2 hcm had9
      have HId := hid (HI.out.below (Below.refl _ _).drew)
      have Ha := hid (HId.out.below ((Below.refl _ _).alloc (Nat.le_refl _) (.cells #[.int .i64 0, .slice none 0 0] 41)))
      go_cut [12, 13] (fun a b wd => ∃ (pb : Nat) (A2 : Option Addr) (n2 c2 : Nat), a = .pointer (some ⟨pb, 0, none⟩) ∧ b = .int .i64 0 ∧ Hid (Rtw w ⟨v, ⟨some adr, N, dc, dl⟩, ⟨some adt, N, tc, tl⟩, ⟨some adb, N, bc, bl⟩⟩ v bR A n c zs wd ∧ Fb wd pb #[.int .i64 v, .slice A2 n2 c2] 41 ∧ Arg wd A2 n2 zp))
      case first =>
        have k0 : (0 : Int) ≤ m := by omega
        have k1 : (m : Int) < N := by omega
        have k2 : (m : Int).toNat = m := by omega
        obtain ⟨⟨c0, c1, c2, c3⟩, ⟨adt9, e9, hlt9, g0, g1, g2, g3, g4⟩, ⟨ady9, e8, hlt8, y0, y1⟩⟩ := HC.out _ HId.out
        obtain rfl := Option.some.inj e9
        obtain rfl := Option.some.inj e8
        obtain ⟨⟨a0, a1, a2, a3⟩, ⟨adt9, e9, hlt9a, i0, i1, i2, i3, i4⟩, ⟨ady9, e8, hlt8a, x0, x1⟩⟩ := HC.out _ Ha.out
        obtain rfl := Option.some.inj e9
        obtain rfl := Option.some.inj e8
        have b2 : (wr.alloc (.cells #[.int .i64 0, .slice none 0 0] 41)).cell? ⟨w.heap.size, 2, none⟩ = some (.slice (some adt) N tc) := a2
        have j0 : (wr.alloc (.cells #[.int .i64 0, .slice none 0 0] 41)).cell? (adt.add (m * 5)) = some (.int .i64 v) := i0
        have j1 : (wr.alloc (.cells #[.int .i64 0, .slice none 0 0] 41)).cell? ⟨(adt.add (m * 5)).block, (adt.add (m * 5)).off + 1, none⟩ = some (.slice GA gn gc) := i1
        have j2 : (wr.alloc (.cells #[.int .i64 0, .slice none 0 0] 41)).cell? ⟨(adt.add (m * 5)).block, (adt.add (m * 5)).off + 2, none⟩ = some (.int .i64 v) := i2
        have j3 : (wr.alloc (.cells #[.int .i64 0, .slice none 0 0] 41)).cell? ⟨(adt.add (m * 5)).block, (adt.add (m * 5)).off + 3, none⟩ = some (.slice KA kn kc) := i3
        have j4 : (wr.alloc (.cells #[.int .i64 0, .slice none 0 0] 41)).cell? ⟨(adt.add (m * 5)).block, (adt.add (m * 5)).off + 4, none⟩ = some (.slice C kq q) := i4
        have l0 : (wr.alloc (.cells #[.int .i64 0, .slice none 0 0] 41)).cell? (ady.add (m * 2)) = some (.int .i64 v) := x0
        have l1 : (wr.alloc (.cells #[.int .i64 0, .slice none 0 0] 41)).cell? ⟨(ady.add (m * 2)).block, (ady.add (m * 2)).off + 1, none⟩ = some (.slice TA2 tn tc2) := x1
        clear a0 a1 a3 c0 c1 c3
        go_region_law (
          (go_simp
           go_at_call 93
           refine (Hap.out _ (by first | exact HId.out.bel | exact Ha.out.bel)).mono ?_
           rintro e u2 ⟨A2, n2, c2', rfl, ha2, hb2⟩
           have HA2 := hid ha2
           have H2 := hid (Rtw.below (by first | exact HId.out | exact Ha.out) hb2)
           try (have hbx : Fb u2 wr.heap.size #[.int .i64 0, .slice none 0 0] 41 := (Fb.new wr.drew _ _).below hb2 (by simp)
                have z0 := hbx.cell 0
                have z1 := hbx.cell 1
                have f0 := hbx.frozen 0
                have f1 := hbx.frozen 1
                have hbl := hbx.lt)
           clear ha2 hb2))
        all_goals
          go_wp2_with fail
          go_meet
          first
          | exact ⟨_, A2, n2, c2', rfl, rfl, hid (H2.out.one hbx hz1 HA2.out)⟩
          | exact ⟨_, A2, n2, c2', rfl, rfl, hid (H2.out.two HA2.out)⟩
      case rest =>
        obtain ⟨pb, A2, n2, c2, rfl, rfl, HP⟩ := hcut
        clear HC HId Ha Hap HI
        obtain ⟨p0, p1⟩ := HP.out.2.1.two
        obtain ⟨q0, q1⟩ := HP.out.1.bx.two
        have Hun := hid (mixR_or hv HP.out.1.ft Hvf.out)
        go_wp2_with fail
        refine (devUnion_any v v A A2 n c n2 c2 zs zp _ HP.out.1.pv HP.out.2.2).mono ?_
        rw [Hun.out]
        rintro e w6 ⟨A3, n3, c3, rfl, ha3, hb3⟩
        have H6 := hid (HP.out.1.below hb3)
        have Hfin := hid (H6.out.put (c2 := c3) ha3 (fit_orR v zs zp))
        clear p0 p1 q0 q1 ha3 hb3
        obtain ⟨q0, q1⟩ := H6.out.bx.two
        have f0 := H6.out.bx.frozen 0
        have f1 := H6.out.bx.frozen 1
        have hbl := H6.out.bx.lt
        have HF := hid (show Rtw w ⟨v, ⟨some adr, N, dc, dl⟩, ⟨some adt, N, tc, tl⟩, ⟨some adb, N, bc, bl⟩⟩ v bR A3 n3 c3 zs2 ((w6.setCell ⟨bR, 0, none⟩ (.int .i64 v)).setCell ⟨bR, 1, none⟩ (.slice A3 n3 c3)) from by rw [HE.out]; exact Hfin.out)
        rw [← Hzs2.out] at HF
        clear Hfin
        go_wp2_with fail
        go_roundw
        case rel => exact ⟨j + 1, A3, n3, c3, by omega, by go_num, HF⟩
        case measure => simp [intOf]; omega
    · obtain rfl : j = rn := by omega
      obtain ⟨x0, x1⟩ := HI.out.bx.two
      obtain ⟨r0, r1⟩ := HI.out.rx.two
      have f0 := HI.out.rx.frozen 0
      have f1 := HI.out.rx.frozen 1
      have hlr := HI.out.rx.lt
      have Hr9 := hid (show RetRt w v G (.returned (.tuple #[.agg #[.int .i64 v, .slice A n c], .int .i64 0])) ((wr.setCell ⟨w.heap.size + 1, 0, none⟩ (.int .i64 v)).setCell ⟨w.heap.size + 1, 1, none⟩ (.slice A n c)) from by
        rw [HG.out]
        exact ⟨A, n, c, rfl, Arg.store HI.out.pv (show Box wr (w.heap.size + 1) 0 none 0 0 from HI.out.rx) v A n c, HI.out.ft, (HI.out.bel.setCell (by simp) _).setCell (by simp) _⟩)
      go_wp2_with fail
      refine bodyPost_ret (v := .tuple #[.agg #[.int .i64 v, .slice A n c], .int .i64 0]) (by simp [results, Try.results58, go_sem, x0, x1, r0, r1]) rfl ?_
      exact Hr9.out
end Go.Proofs.Ytbjaebbmajhjjaa

namespace Go.Proofs.Ytbjaebbmajhjjaa
set_option maxRecDepth 20000
set_option linter.unusedVariables false
set_option linter.unusedSimpArgs false
open Go.ChangeShapes Go.WideShapes Go.ChangeAt Go.RowKit

/-- The right sides came back. -/
def RetNext (w : World) (v N : Nat) (vals : List (List Nat)) (e : Ending) (w' : World) : Prop :=
  ∃ (g : Nat) (l : List ZH), e = .returned (.tuple #[.slice (some ⟨g, 0, none⟩) N N, .int .i64 0]) ∧ w.heap.size ≤ g ∧ VRow w' g N l ∧ (∀ z ∈ l, z.W = v ∧ Bs.Fit v z.ws) ∧ l.map ZH.ws = vals ∧ Below w.heap.size w w'
set_option maxHeartbeats 3200000 in
theorem next2_any (s : SY) (y : ZL) (v N : Nat) (ex ex' : List (Option Nat)) (w : World) (h : SYok w ex s) (hy : ZLok w ex' y) (ho : SOk s v N) (hvo : VOk y v N) :
    Calls Try.prog 24 #[s.a, .slice y.A y.n y.c] w (RetNext w v N (s.pw.rights y.vs)) := by
  have hN1 := ho.n1
  have hyn := hvo.n
  have Hb0 := hid ((Below.refl w.heap.size w).alloc (Nat.le_refl _) (.cells s.box 27))
  have HC := hid (fun (u : World) (hu : Below w.heap.size w u) => webC s v N ex u (h.below hu) ho)
  have HRt := hid (fun (u : World) (hu : Below w.heap.size w u) => right_any s y v N 0 ex ex' u (h.below hu) (hy.below hu) ho hvo (by omega))
  have HY := hid (fun (u : World) (hu : Below w.heap.size w u) => hy.below hu)
  have Hvo := hid hvo
  have Hbx := hid (Fb.new w s.box 27)
  clear h ho hy hvo
  generalize hq : s.pw.right y.vs 0 = r0 at *
  clear hq
  generalize s.pw = p at *
  unfold SY.a at *
  unfold SY.box at *
  obtain ⟨YA, yn, yc, yl⟩ := y
  simp only at hyn
  have hyn := hyn.symm
  subst hyn
  simp only at *
  go_enter Try.func24, Try.ntmps24
  go_wp2_with fail
  refine (HRt.out _ Hb0.out).mono ?_
  rintro e w2 ⟨A, n, c, rfl, ha, hf, hb2⟩
  have hba := (Below.refl w2.heap.size w2).alloc (Nat.le_refl _) (.cells #[.int .i64 v, .slice A n c] 41)
  have Hb2 := hid (below_step (below_step Hb0.out hb2) hba)
  have Hbx2 := hid ((Hbx.out.below hb2 Hbx.out.lt).below hba (by have := hb2.size; have := Hbx.out.lt; omega))
  clear ha hf hb2 hba HRt Hbx Hb0
  obtain ⟨c0, c1, c2, c3⟩ := Hbx2.out.four
  go_wp2_with fail
  refine (HC.out _ Hb2.out).mono ?_
  rintro e w3 ⟨BA, bc, bl, IA, ic, il, rfl, hx, hox, hpw, hb3⟩
  have hba := (Below.refl w3.heap.size w3).alloc (Nat.le_refl _) (.cells #[.int .i64 v, .slice BA N bc, .slice IA N ic] 68)
  have Hb3 := hid (below_step (below_step Hb2.out hb3) hba)
  have HR := hid (rightSides_any ⟨v, ⟨BA, N, bc, bl⟩, ⟨IA, N, ic, il⟩⟩ ⟨YA, N, yc, yl⟩ v N [] ex' _ (hx.below hba) (HY.out _ Hb3.out) hox Hvo.out)
  rw [hpw] at HR
  unfold WB.a at HR
  simp only at HR
  clear hx hox hpw hb3 hba HC c0 c1 c2 c3 Hbx2
  go_wp2_with fail
  refine HR.out.mono ?_
  rintro e w4 ⟨g, l, rfl, hg, hrow, hok, hvs, hb4⟩
  have Hr := hid (show RetNext w v N (p.rights (ZL.vs ⟨YA, N, yc, yl⟩)) (.returned (.tuple #[.slice (some ⟨g, 0, none⟩) N N, .int .i64 0])) w4 from ⟨g, l, rfl, by have := Hb3.out.size; omega, hrow, hok, hvs, below_step Hb3.out hb4⟩)
  clear hg hrow hok hvs hb4 HR
  go_wp2_with fail
  exact bodyPost_ret (v := .tuple #[.slice (some ⟨g, 0, none⟩) N N, .int .i64 0]) (by simp [results, Try.results24, go_sem]) rfl Hr.out
end Go.Proofs.Ytbjaebbmajhjjaa

namespace Go.Proofs.Ytbjaebbmajhjjaa
set_option maxRecDepth 20000
set_option linter.unusedVariables false
set_option linter.unusedSimpArgs false
open Go.ChangeShapes Go.WideShapes Go.ChangeAt Go.RowKit

theorem allz_no {P : ZH → ZH → Bool} {l m : List ZH} {k : Nat} {a b : ZH} (ha : l[k]? = some a) (hb : m[k]? = some b) (h : P a b = false) : (l.zip m).all (fun p => P p.1 p.2) = false := by
  rw [List.all_eq_false]
  refine ⟨(a, b), ?_, by rw [h]; decide⟩
  refine List.mem_of_getElem? (i := k) ?_
  rw [List.getElem?_zip_eq_some]
  exact ⟨ha, hb⟩
set_option maxHeartbeats 3200000 in
theorem equalFnE_any (P : ZH → ZH → Bool) (x y : ZL) (ex ex' : List (Option Nat)) (w : World) (hx : ZLok w ex x) (hy : ZLok w ex' y) (hn : x.n = y.n)
    (hfn : ∀ (a b : ZH) (u : World), a ∈ x.l → b ∈ y.l → Below w.heap.size w u → Calls Try.prog 57 #[.agg #[.int .i64 a.W, .slice a.A a.n a.c], .agg #[.int .i64 b.W, .slice b.A b.n b.c]] u fun e w' => e = .returned (.bool (P a b)) ∧ Below u.heap.size u w') :
    Calls Try.prog 56 #[.slice x.A x.n x.c, .slice y.A y.n y.c, .func (Fn.func 57) #[] #[]] w fun e w' => e = .returned (.bool ((x.l.zip y.l).all fun p => P p.1 p.2)) ∧ Below w.heap.size w w' := by
  have hfew := hx.few
  have HX := hid hx
  have HY := hid hy
  have Hfn := hid hfn
  clear hx hy hfn
  obtain ⟨A, n, c, l⟩ := x
  obtain ⟨B, m, d, k⟩ := y
  simp only at hn hfew
  have hn := hn.symm
  subst hn
  have HL := hid (show l.length = m from HX.out.len)
  have HM := hid (show k.length = m from HY.out.len)
  simp only at *
  generalize hR : ((l.zip k).all fun p => P p.1 p.2) = R at *
  have HR := hid hR
  clear hR
  go_enter Try.func56, Try.ntmps56
  go_wp2_with fail
  go_loopw [7, 8, 9, 17] (fun _ _ _ iv wr => ∃ j : Nat, j ≤ m ∧ iv = .int .i64 j ∧ Hid (Below w.heap.size w wr) ∧ Hid (∀ i a b, i < j → l[i]? = some a → k[i]? = some b → P a b = true)) (fun _ _ _ iv _ => m - (intOf iv).toNat)
  case atStart => exact ⟨0, by omega, rfl, hid (Below.refl _ _), hid (fun i a b hi => by omega)⟩
  case round =>
    obtain ⟨j, hj, rfl, HB, HE⟩ := hrel
    by_cases hlt : j < m
    · obtain ⟨a, ha, ham⟩ := get_at HL.out hlt
      obtain ⟨b, hb, hbm⟩ := get_at HM.out hlt
      obtain ⟨ad, hA, had, c0, c1⟩ := (HX.out.below HB.out).cell ha
      simp only at hA
      subst hA
      have hba := (Below.refl wr.heap.size wr).alloc (Nat.le_refl _) (.cells #[.int .i64 a.W, .slice a.A a.n a.c] 41)
      have HB2 := hid (below_step HB.out hba)
      obtain ⟨ad2, hA2, had2, d0, d1⟩ := (HY.out.below HB2.out).cell hb
      simp only at hA2
      subst hA2
      have HB3 := hid (HB2.out.alloc HB2.out.size (.cells #[.int .i64 b.W, .slice b.A b.n b.c] 41))
      have n0 : (0 : Int) ≤ j := by omega
      have n1 : (j : Int) < m := by omega
      have n2 : (j : Int).toNat = j := by omega
      have HC := hid (Hfn.out a b _ ham hbm HB3.out)
      have Ha := hid ha
      have Hb := hid hb
      clear hba ha hb ham hbm
      go_wp2_with fail
      refine HC.out.mono ?_
      rintro e w5 ⟨rfl, hb5⟩
      have HB5 := hid (below_step HB3.out hb5)
      cases hp : P a b with
      | true =>
        have HE5 := hid (show ∀ i a b, i < j + 1 → l[i]? = some a → k[i]? = some b → P a b = true from fun i a' b' hi h1 h2 => by
          by_cases e : i = j
          · subst e
            rw [Ha.out] at h1
            rw [Hb.out] at h2
            obtain rfl := Option.some.inj h1
            obtain rfl := Option.some.inj h2
            exact hp
          · exact HE.out i a' b' (by omega) h1 h2)
        clear c0 c1 d0 d1 n0 n1 n2 hb5 hp HC
        go_wp2_with fail
        go_roundw
        case rel => exact ⟨j + 1, by omega, by go_num, HB5, HE5⟩
        case measure => simp [intOf]; omega
      | false =>
        have Hr := hid (show R = false by rw [← HR.out]; exact allz_no Ha.out Hb.out hp)
        clear c0 c1 d0 d1 n0 n1 n2 hb5 hp HC
        go_wp2_with fail
        go_ret
        exact ⟨ret_b Hr.out, HB5.out⟩
    · obtain rfl : j = m := by omega
      have Hr := hid (show R = true by
        rw [← HR.out, List.all_eq_true]
        rintro ⟨a, b⟩ hm
        obtain ⟨i, hi, e⟩ := List.mem_iff_getElem.1 hm
        have h1 := List.getElem?_eq_getElem hi
        rw [e, List.getElem?_zip_eq_some] at h1
        exact HE.out i a b (by have := (List.getElem?_eq_some_iff.1 h1.1).1; rw [HL.out] at this; exact this) h1.1 h1.2)
      go_wp2_with fail
      go_ret
      exact ⟨ret_b Hr.out, HB.out⟩
set_option maxHeartbeats 3200000 in
theorem equalFnS_any (P : ZH → ZH → Bool) (x y : ZL) (ex ex' : List (Option Nat)) (w : World) (hx : ZLok w ex x) (hy : ZLok w ex' y) (hn : x.n = y.n)
    (hfn : ∀ (a b : ZH) (u : World), a ∈ x.l → b ∈ y.l → Below w.heap.size w u → Calls Try.prog 27 #[.agg #[.int .i64 a.W, .slice a.A a.n a.c], .agg #[.int .i64 b.W, .slice b.A b.n b.c]] u fun e w' => e = .returned (.bool (P a b)) ∧ Below u.heap.size u w') :
    Calls Try.prog 56 #[.slice x.A x.n x.c, .slice y.A y.n y.c, .func (Fn.func 27) #[] #[]] w fun e w' => e = .returned (.bool ((x.l.zip y.l).all fun p => P p.1 p.2)) ∧ Below w.heap.size w w' := by
  have hfew := hx.few
  have HX := hid hx
  have HY := hid hy
  have Hfn := hid hfn
  clear hx hy hfn
  obtain ⟨A, n, c, l⟩ := x
  obtain ⟨B, m, d, k⟩ := y
  simp only at hn hfew
  have hn := hn.symm
  subst hn
  have HL := hid (show l.length = m from HX.out.len)
  have HM := hid (show k.length = m from HY.out.len)
  simp only at *
  generalize hR : ((l.zip k).all fun p => P p.1 p.2) = R at *
  have HR := hid hR
  clear hR
  go_enter Try.func56, Try.ntmps56
  go_wp2_with fail
  go_loopw [7, 8, 9, 17] (fun _ _ _ iv wr => ∃ j : Nat, j ≤ m ∧ iv = .int .i64 j ∧ Hid (Below w.heap.size w wr) ∧ Hid (∀ i a b, i < j → l[i]? = some a → k[i]? = some b → P a b = true)) (fun _ _ _ iv _ => m - (intOf iv).toNat)
  case atStart => exact ⟨0, by omega, rfl, hid (Below.refl _ _), hid (fun i a b hi => by omega)⟩
  case round =>
    obtain ⟨j, hj, rfl, HB, HE⟩ := hrel
    by_cases hlt : j < m
    · obtain ⟨a, ha, ham⟩ := get_at HL.out hlt
      obtain ⟨b, hb, hbm⟩ := get_at HM.out hlt
      obtain ⟨ad, hA, had, c0, c1⟩ := (HX.out.below HB.out).cell ha
      simp only at hA
      subst hA
      have hba := (Below.refl wr.heap.size wr).alloc (Nat.le_refl _) (.cells #[.int .i64 a.W, .slice a.A a.n a.c] 41)
      have HB2 := hid (below_step HB.out hba)
      obtain ⟨ad2, hA2, had2, d0, d1⟩ := (HY.out.below HB2.out).cell hb
      simp only at hA2
      subst hA2
      have HB3 := hid (HB2.out.alloc HB2.out.size (.cells #[.int .i64 b.W, .slice b.A b.n b.c] 41))
      have n0 : (0 : Int) ≤ j := by omega
      have n1 : (j : Int) < m := by omega
      have n2 : (j : Int).toNat = j := by omega
      have HC := hid (Hfn.out a b _ ham hbm HB3.out)
      have Ha := hid ha
      have Hb := hid hb
      clear hba ha hb ham hbm
      go_wp2_with fail
      refine HC.out.mono ?_
      rintro e w5 ⟨rfl, hb5⟩
      have HB5 := hid (below_step HB3.out hb5)
      cases hp : P a b with
      | true =>
        have HE5 := hid (show ∀ i a b, i < j + 1 → l[i]? = some a → k[i]? = some b → P a b = true from fun i a' b' hi h1 h2 => by
          by_cases e : i = j
          · subst e
            rw [Ha.out] at h1
            rw [Hb.out] at h2
            obtain rfl := Option.some.inj h1
            obtain rfl := Option.some.inj h2
            exact hp
          · exact HE.out i a' b' (by omega) h1 h2)
        clear c0 c1 d0 d1 n0 n1 n2 hb5 hp HC
        go_wp2_with fail
        go_roundw
        case rel => exact ⟨j + 1, by omega, by go_num, HB5, HE5⟩
        case measure => simp [intOf]; omega
      | false =>
        have Hr := hid (show R = false by rw [← HR.out]; exact allz_no Ha.out Hb.out hp)
        clear c0 c1 d0 d1 n0 n1 n2 hb5 hp HC
        go_wp2_with fail
        go_ret
        exact ⟨ret_b Hr.out, HB5.out⟩
    · obtain rfl : j = m := by omega
      have Hr := hid (show R = true by
        rw [← HR.out, List.all_eq_true]
        rintro ⟨a, b⟩ hm
        obtain ⟨i, hi, e⟩ := List.mem_iff_getElem.1 hm
        have h1 := List.getElem?_eq_getElem hi
        rw [e, List.getElem?_zip_eq_some] at h1
        exact HE.out i a b (by have := (List.getElem?_eq_some_iff.1 h1.1).1; rw [HL.out] at this; exact this) h1.1 h1.2)
      go_wp2_with fail
      go_ret
      exact ⟨ret_b Hr.out, HB.out⟩
end Go.Proofs.Ytbjaebbmajhjjaa

namespace Go.Proofs.Ytbjaebbmajhjjaa
set_option maxRecDepth 20000
set_option linter.unusedVariables false
set_option linter.unusedSimpArgs false
open Go.ChangeShapes Go.WideShapes Go.ChangeAt Go.RowKit

def eqZ (a b : ZH) : Bool := equalB a.W a.ws b.W b.ws
def suZ (a b : ZH) : Bool := subsetB a.W a.ws b.W b.ws
theorem zip_eq {v N : Nat} (hv : v ≤ 256) {l m : List ZH} (hl : l.length = N) (hm : m.length = N) (h1 : ∀ z ∈ l, z.W = v ∧ Bs.Fit v z.ws) (h2 : ∀ z ∈ m, z.W = v ∧ Bs.Fit v z.ws) : (l.zip m).all (fun p => eqZ p.1 p.2) = decide (l.map ZH.ws = m.map ZH.ws) := by
  have key : ∀ (a b : ZH), (a.W = v ∧ Bs.Fit v a.ws) → (b.W = v ∧ Bs.Fit v b.ws) → eqZ a b = decide (a.ws = b.ws) := fun a b ha hb => by
    unfold eqZ equalB sameB
    rw [ha.1, hb.1, Bs.valid_of_fit ha.2 hv, Bs.valid_of_fit hb.2 hv]
    simp
  have len : l.length = m.length := by omega
  clear hl hm
  induction l generalizing m with
  | nil => cases m with
    | nil => simp
    | cons b m => simp at len
  | cons a l ih => cases m with
    | nil => simp at len
    | cons b m =>
      rw [List.zip_cons_cons, List.all_cons, ih (fun z hz => h1 z (List.mem_cons_of_mem _ hz)) (fun z hz => h2 z (List.mem_cons_of_mem _ hz)) (by simpa using len), key a b (h1 a List.mem_cons_self) (h2 b List.mem_cons_self), List.map_cons, List.map_cons, ← Bool.decide_and]
      congr 1
      simp
theorem zl_vrow {w : World} {g N : Nat} {l : List ZH} (h : VRow w g N l) (hN : N ≤ 256) : ZLok w [] ⟨some ⟨g, 0, none⟩, N, N, l⟩ := h.zl (by omega)
set_option maxHeartbeats 3200000 in
theorem isSolution_any (s : SY) (y : ZL) (v N : Nat) (ex ex' : List (Option Nat)) (w : World) (h : SYok w ex s) (hy : ZLok w ex' y) (ho : SOk s v N) (hvo : VOk y v N) :
    Calls Try.prog 22 #[s.a, .slice y.A y.n y.c] w fun e w' => e = .returned (.bool (decide (s.pw.rights y.vs = y.vs))) ∧ Below w.heap.size w w' := by
  have hv := ho.v256
  have hN := ho.n256
  have hyn := hvo.n
  have Hb0 := hid ((Below.refl w.heap.size w).alloc (Nat.le_refl _) (.cells s.box 27))
  have HNx := hid (fun (u : World) (hu : Below w.heap.size w u) => next2_any s y v N ex ex' u (h.below hu) (hy.below hu) ho hvo)
  have HY := hid (fun (u : World) (hu : Below w.heap.size w u) => hy.below hu)
  have Hvo := hid hvo
  clear h ho hy hvo
  generalize hq : s.pw.rights y.vs = vals at *
  clear hq
  unfold SY.a at *
  unfold SY.box at *
  obtain ⟨YA, yn, yc, yl⟩ := y
  simp only at hyn
  have hyn := hyn.symm
  subst hyn
  simp only at *
  go_enter Try.func22, Try.ntmps22
  go_wp2_with fail
  refine (HNx.out _ Hb0.out).mono ?_
  rintro e w2 ⟨g, l, rfl, hg, hrow, hok, hvs, hb2⟩
  have Hb2 := hid (below_step Hb0.out hb2)
  have HE := hid (equalFnE_any eqZ ⟨some ⟨g, 0, none⟩, N, N, l⟩ ⟨YA, N, yc, yl⟩ [] ex' w2 (zl_vrow hrow hN) (HY.out _ Hb2.out) rfl (fun a b u ha hb hu => by
    have hfa := (hok a ha).2
    have hA := ((zl_vrow hrow hN).below hu).all a ha
    have hB := ((HY.out _ Hb2.out).below hu).all b hb
    refine devEqual_any a.W b.W a.A b.A a.n a.c b.n b.c a.ws b.ws u hA.arg hB.arg ?_
    rw [← hA.len, hfa.len]
    unfold Bs.nw maxLen; omega))
  rw [show ((⟨some ⟨g, 0, none⟩, N, N, l⟩ : ZL).l.zip (⟨YA, N, yc, yl⟩ : ZL).l).all (fun p => eqZ p.1 p.2) = decide (vals = ZL.vs ⟨YA, N, yc, yl⟩) by
    rw [zip_eq hv (l := l) (m := yl) hrow.len (HY.out _ Hb2.out).len hok Hvo.out.all, hvs]; rfl] at HE
  simp only at HE
  clear hg hrow hok hvs hb2 HNx Hb0
  go_wp2_with fail
  refine HE.out.mono ?_
  rintro e w3 ⟨rfl, hb3⟩
  have Hb3 := hid (below_step Hb2.out hb3)
  clear hb3 HE
  go_wp2_with fail
  go_ret
  exact ⟨rfl, Hb3.out⟩
end Go.Proofs.Ytbjaebbmajhjjaa

namespace Go.Proofs.Ytbjaebbmajhjjaa
set_option maxRecDepth 20000
set_option linter.unusedVariables false
set_option linter.unusedSimpArgs false
open Go.ChangeShapes Go.WideShapes Go.ChangeAt Go.RowKit

theorem su_nil {ws : List Nat} (k : Nat) : (∀ i, i < k → Bs.bit ws i = false) → memsTo ws k = [] := by
  induction k with
  | zero => intro _; rfl
  | succ k ih =>
    intro h
    unfold memsTo
    rw [if_neg (by simp [h k (by omega)])]
    exact ih fun i hi => h i (by omega)
theorem su_yes {v : Nat} {a b : List Nat} (hv : v ≤ 256) (ha : Bs.Fit v a) (hb : Bs.Fit v b) (h : ∀ i, i < v → Bs.bit a i = true → Bs.bit b i = true) : subsetB v a v b = true := by
  have hm : mixR (flag true false false) (v : Int) a (v : Int) b = ((v : Int), Bs.ofP v (fun i => flag true false false (Bs.bit a i) (Bs.bit b i)) v, 0) := by
    unfold mixR
    rw [if_neg (by simp [Bs.valid_of_fit ha hv, Bs.valid_of_fit hb hv]), if_neg (by simp), Int.toNat_natCast]
  unfold subsetB
  rw [hm]
  have hn : memsTo (Bs.ofP v (fun i => flag true false false (Bs.bit a i) (Bs.bit b i)) v) v = [] := su_nil v fun i hi => by
    rw [Bs.bit_ofP _ _ _ (Nat.le_refl _)]
    simp only [hi, decide_true, Bool.true_and]
    cases h1 : Bs.bit a i with
    | false => cases Bs.bit b i <;> rfl
    | true => rw [h i hi h1]; rfl
  unfold memsB
  simp only [Int.toNat_natCast, hn]
  split <;> simp
theorem zip_su {v N : Nat} (hv : v ≤ 256) {l m : List ZH} (hl : l.length = N) (hm : m.length = N) (h1 : ∀ z ∈ l, z.W = v ∧ Bs.Fit v z.ws) (h2 : ∀ z ∈ m, z.W = v ∧ Bs.Fit v z.ws)
    (h : ∀ k, k < N → ∀ i, i < v → Bs.bit (at0 (l.map ZH.ws) k) i = true → Bs.bit (at0 (m.map ZH.ws) k) i = true) : (l.zip m).all (fun p => suZ p.1 p.2) = true := by
  rw [List.all_eq_true]
  rintro ⟨a, b⟩ hp
  obtain ⟨k, hk⟩ := List.mem_iff_getElem?.1 hp
  obtain ⟨ha, hb⟩ := List.getElem?_zip_eq_some.1 hk
  simp only at ha hb
  have hkN : k < N := by rw [← hl]; exact (List.getElem?_eq_some_iff.1 ha).1
  obtain ⟨e1, f1⟩ := h1 a (List.mem_of_getElem? ha)
  obtain ⟨e2, f2⟩ := h2 b (List.mem_of_getElem? hb)
  have := h k hkN
  rw [show at0 (l.map ZH.ws) k = a.ws from at0_get (by rw [List.getElem?_map, ha]; rfl), show at0 (m.map ZH.ws) k = b.ws from at0_get (by rw [List.getElem?_map, hb]; rfl)] at this
  show subsetB a.W a.ws b.W b.ws = true
  rw [e1, e2]
  exact su_yes hv f1 f2 this
set_option maxHeartbeats 3200000 in
theorem isAbove_yes (s : SY) (y : ZL) (v N : Nat) (ex ex' : List (Option Nat)) (w : World) (h : SYok w ex s) (hy : ZLok w ex' y) (ho : SOk s v N) (hvo : VOk y v N) (hle : LeV s.pw (s.pw.rights y.vs) y.vs) :
    Calls Try.prog 26 #[s.a, .slice y.A y.n y.c] w fun e w' => e = .returned (.bool true) ∧ Below w.heap.size w w' := by
  have hv := ho.v256
  have hN := ho.n256
  have hyn := hvo.n
  have Hb0 := hid ((Below.refl w.heap.size w).alloc (Nat.le_refl _) (.cells s.box 27))
  have HNx := hid (fun (u : World) (hu : Below w.heap.size w u) => next2_any s y v N ex ex' u (h.below hu) (hy.below hu) ho hvo)
  have HY := hid (fun (u : World) (hu : Below w.heap.size w u) => hy.below hu)
  have Hvo := hid hvo
  have hpn : s.pw.n = N := by show (s.D.l.map _).length = N; rw [List.length_map, h.d.len, ho.dn]
  have hpv : s.pw.v = v := by show s.W.toNat = v; rw [ho.w]; simp
  have Hle := hid (fun k (hk : k < N) i (hi : i < v) => hle k (by rw [hpn]; exact hk) i (by rw [hpv]; exact hi))
  clear h ho hy hvo hle hpn hpv
  generalize hq : s.pw.rights y.vs = vals at *
  clear hq
  unfold SY.a at *
  unfold SY.box at *
  obtain ⟨YA, yn, yc, yl⟩ := y
  simp only at hyn
  have hyn := hyn.symm
  subst hyn
  simp only at *
  go_enter Try.func26, Try.ntmps26
  go_wp2_with fail
  refine (HNx.out _ Hb0.out).mono ?_
  rintro e w2 ⟨g, l, rfl, hg, hrow, hok, hvs, hb2⟩
  have Hb2 := hid (below_step Hb0.out hb2)
  have HE := hid (equalFnS_any suZ ⟨some ⟨g, 0, none⟩, N, N, l⟩ ⟨YA, N, yc, yl⟩ [] ex' w2 (zl_vrow hrow hN) (HY.out _ Hb2.out) rfl (fun a b u ha hb hu => by
    have hA := ((zl_vrow hrow hN).below hu).all a ha
    have hB := ((HY.out _ Hb2.out).below hu).all b hb
    exact devSubset_any a.W b.W a.A b.A a.n a.c b.n b.c a.ws b.ws u hA.arg hB.arg))
  rw [show ((⟨some ⟨g, 0, none⟩, N, N, l⟩ : ZL).l.zip (⟨YA, N, yc, yl⟩ : ZL).l).all (fun p => suZ p.1 p.2) = true from zip_su hv hrow.len (HY.out _ Hb2.out).len hok Hvo.out.all (fun k hk i hi hb => Hle.out k hk i hi (by rwa [hvs] at hb))] at HE
  simp only at HE
  clear hg hrow hok hvs hb2 HNx Hb0
  go_wp2_with fail
  refine HE.out.mono ?_
  rintro e w3 ⟨rfl, hb3⟩
  have Hb3 := hid (below_step Hb2.out hb3)
  clear hb3 HE
  go_wp2_with fail
  go_ret
  exact ⟨rfl, Hb3.out⟩
end Go.Proofs.Ytbjaebbmajhjjaa

namespace Go.Proofs.Ytbjaebbmajhjjaa
set_option maxRecDepth 20000
open Go.ChangeShapes Go.WideShapes Go.ChangeAt Go.RowKit

def RetOwn (w : World) (n : Nat) (r : Int × List Nat × Int) (e : Ending) (w' : World) : Prop :=
  ∃ g : Nat, e = .returned (.tuple #[.agg #[.int .i64 r.1, .slice (some ⟨g, 0, none⟩) n n], .int .i64 r.2.2]) ∧ Row w' g r.2.1 ∧ w.heap.size ≤ g ∧ Below w.heap.size w w'
theorem combUnion_own (W : Nat) (A B : Option Addr) (n c d : Nat) (ws xs : List Nat) (w : World) (hA : Arg w A n ws) (hB : Arg w B n xs) (h : Bs.validB W ws = true) (h2 : Bs.validB W xs = true) :
    Calls Try.prog 60 #[.agg #[.int .i64 W, .slice A n c], .agg #[.int .i64 W, .slice B n d], .func (Fn.func 61) #[] #[]] w (RetOwn w n (W, Bs.ofP W (fun i => flag true true true (Bs.bit ws i) (Bs.bit xs i)) W, 0)) := by
  have hf1 := Bs.fit_of_valid h hA.ok
  have hf2 := Bs.fit_of_valid h2 hB.ok
  rw [Int.toNat_natCast] at hf1 hf2
  have hn : n = Bs.nw W := by rw [← hf1.len]; exact hA.len.symm
  have hW : W ≤ 256 := by have := (Bs.validB_iff.1 h).2.1; omega
  have hn5 : n ≤ 5 := by rw [hn]; unfold Bs.nw; omega
  rw [← part_done unionW_op hf1 hf2 hn]
  have Hfit := hid (part_fit unionW_op hf1 hf2 hn).1
  have HA := hid hA; have HB := hid hB; have H := hid h; have H2 := hid h2; have Hf1 := hid hf1; have Hf2 := hid hf2
  have hne : ((W : Int) != W) = false := by simp
  have hm := run_rows n (by omega)
  clear hA hB h h2 hf1 hf2 hn hW
  obtain ⟨hx1, hx2, hx3⟩ := box3 w W W A B n c n d
  have hx4 := below3 w (.cells #[.int .i64 W, .slice A n c] 41) (.cells #[.int .i64 W, .slice B n d] 41) (.cells #[.int .i64 0, .slice none 0 0] 41)
  have Hx1 := hid hx1; have Hx2 := hid hx2; have Hx3 := hid hx3; have Hx4 := hid hx4
  clear hx1 hx2 hx3 hx4
  go_enter Try.func60, Try.ntmps60
  go_wp2_with fail
  refine (devValid_any W A n c ws _ (((HA.out.alloc _).alloc _).alloc _)).mono ?_
  rw [H.out]
  rintro e w1 ⟨rfl, hbl⟩
  have hq2 := Hx2.out.below hbl (by simp)
  have hq20 := hq2.c0
  have hq21 := hq2.c1
  have Hq1 := hid (Hx1.out.below hbl (by simp only [World.size_alloc]; omega))
  have Hq2 := hid hq2
  have Hq3 := hid (Hx3.out.below hbl (by simp))
  have Hb1 := hid (Hx4.out.trans (hbl.mono (by simp only [World.size_alloc]; omega)))
  have hz1 := hbl.size
  simp only [World.size_alloc] at hz1
  clear hbl hq2
  go_wp2_with fail
  refine (devValid_any W B n d xs _ (HB.out.below Hb1.out)).mono ?_
  rw [H2.out]
  rintro e w2 ⟨rfl, hbl⟩
  have hp := Hq1.out.below hbl (by omega)
  have hp0 := hp.c0
  have hp00 := hp.c1
  have hp' := Hq2.out.below hbl (by omega)
  have hp1 := hp'.c0
  have hinv : Comb w W A B n c d w2.heap.size (part unionW ws xs n 0) (w2.alloc (.cells (words (List.replicate n 0)).toArray 80)) := by
    rw [part_zero]
    have hz2 := hbl.size
    exact ⟨hp.alloc _, hp'.alloc _, (Hq3.out.below hbl (by omega)).alloc _, heap_alloc_new w2 _, by omega, (Hb1.out.trans (hbl.mono (by omega))).alloc (by omega) _⟩
  have Hinv := hid hinv
  have hz2 := hbl.size
  clear hbl hp hp' hinv hq20 hq21
  go_wp2_with fail
  clear hp0 hp00 hp1 hne hm Hq1 Hq2 Hq3 Hx1 Hx2 Hx3 Hx4 Hb1
  generalize w2.heap.size = g at Hinv hz2 ⊢
  go_loopw [9, 31] (fun _ i wr => ∃ k : Nat, k ≤ n ∧ i = .int .i64 k ∧ Hid (Comb w W A B n c d g (part unionW ws xs n k) wr)) (fun _ i _ => n - (intOf i).toNat)
  case atStart => exact ⟨0, by omega, rfl, Hinv⟩
  case round =>
    obtain ⟨k, hk, rfl, hG⟩ := hrel
    by_cases hlt : k < n
    · obtain ⟨ad, rfl, had, hcA⟩ := HA.out.lies.cell (words_get (i := k) (by rw [HA.out.len]; exact hlt))
      obtain ⟨bd, rfl, hbd, hcB⟩ := HB.out.lies.cell (words_get (i := k) (by rw [HB.out.len]; exact hlt))
      obtain ⟨g1, g2, g3, g4, g5, g6⟩ := hG.out
      have hc11 := g1.c1
      have hc21 := g2.c1
      have hcA2 := (g6.cell (p := ad.add k) (by rw [add_block]; exact had)).trans hcA
      have hcB2 := (g6.cell (p := bd.add k) (by rw [add_block]; exact hbd)).trans hcB
      have hx := Bs.wd_lt HA.out.ok k
      have hy := Bs.wd_lt HB.out.ok k
      have hst := hG.out.set k (unionW (Bs.wd ws k) (Bs.wd xs k))
      rw [part_set hlt] at hst
      have hcg := (g4.cell k).trans (words_get (by rw [part_len]; exact hlt))
      have hfg := g4.frozen k
      generalize Bs.wd ws k = x at hcA2 hx hst
      generalize Bs.wd xs k = y at hcB2 hy hst
      generalize Bs.wd (part unionW ws xs n k) k = z at hcg
      have Hst := hid hst; have Hx := hid hx; have Hy := hid hy
      clear g1 g2 g3 g4 g5 g6 hcA hcB had hbd hst hx hy Hinv HA HB H H2 Hf1 Hf2 Hfit hG
      go_wp2_with fail
      refine wp_region_still_tail 15 (by kernel_rfl) (by kernel_rfl) ?_
      simp only [List.take_succ_cons, List.take_zero, List.drop_succ_cons, List.drop_zero]
      repeat still_step
      still_call (union1_any _ _ _ Hx.out Hy.out)
      repeat still_step
      try refine wpStill_nil ?_
      change wpList _ _ _ _ _ wr.drew
      go_wp2
      go_roundw
      case rel => exact ⟨k + 1, by omega, by go_num, hid Hst.out.drew⟩
      case measure => simp [intOf]; omega
    · have hkn : k = n := by omega
      subst hkn
      obtain ⟨g1, g2, g3, g4, g5, g6⟩ := hG.out
      have hc10 := g1.c0
      have hr0 := g3.c0
      have hr1 := g3.c1
      have hf0 := g3.f 0
      have hf1 := g3.f 1
      have Hg4 := hid g4; have Hg6 := hid g6
      clear g1 g2 g3 g4 g6 Hinv hG
      go_wp2_with fail
      refine bodyPost_ret (v := .tuple #[.agg #[.int .i64 W, .slice (some ⟨g, 0, none⟩) k k], .int .i64 0]) (by simp [results, Try.results60, go_sem, hr0, hr1]) rfl ⟨g, rfl, ?_, ?_, ?_⟩
      · exact (Hg4.out.far (p := ⟨w.heap.size + 1 + 1, 0, none⟩) (by simp; omega) (.int .i64 W)).far (p := ⟨w.heap.size + 1 + 1, 1, none⟩) (by simp; omega) (.slice (some ⟨g, 0, none⟩) k k)
      · omega
      · exact (Hg6.out.setCell (by simp; omega) _).setCell (by simp; omega) _


theorem devUnion_own (v : Nat) (A B : Option Addr) (n c m d : Nat) (ws xs : List Nat) (w : World) (hA : Arg w A n ws) (hB : Arg w B m xs) (hv : v ≤ 256) (h1 : Bs.Fit v ws) (h2 : Bs.Fit v xs) :
    Calls Try.prog 25 #[.agg #[.int .i64 v, .slice A n c], .agg #[.int .i64 v, .slice B m d]] w (RetOwn w (Bs.nw v) (v, orR v ws xs, 0)) := by
  have hn := hA.len
  rw [h1.len] at hn
  subst hn
  have hm := hB.len
  rw [h2.len] at hm
  subst hm
  have HA := hid hA; have HB := hid hB
  have hC := hid (fun (u : World) (hu : Below w.heap.size w u) => combUnion_own v A B (Bs.nw v) c d ws xs u (hA.below hu) (hB.below hu) (Bs.valid_of_fit h1 hv) (Bs.valid_of_fit h2 hv))
  have hr : (Bs.ofP v (fun i => flag true true true (Bs.bit ws i) (Bs.bit xs i)) v) = orR v ws xs := by
    unfold orR
    refine Bs.ofP_congr fun i _ => ?_
    unfold flag
    cases Bs.bit ws i <;> cases Bs.bit xs i <;> rfl
  rw [hr] at hC
  clear hA hB h1 h2 hr
  generalize Bs.nw v = n at *
  generalize orR v ws xs = zs at *
  obtain ⟨hx1, hx2, hx3⟩ := box3 w v v A B n c n d
  have hx4 := below3 w (.cells #[.int .i64 v, .slice A n c] 41) (.cells #[.int .i64 v, .slice B n d] 41) (.cells #[.int .i64 0, .slice none 0 0] 41)
  have Hx3 := hid hx3; have Hx4 := hid hx4
  clear hx1 hx2 hx3 hx4
  go_enter Try.func25, Try.ntmps25
  go_wp2_with fail
  refine (hC.out _ Hx4.out).mono ?_
  rintro e w1 ⟨g, rfl, hr, hg, hb⟩
  have hq := Hx3.out.below hb (by simp)
  have hq0 := hq.c0
  have hq1 := hq.c1
  have hf0 := hq.f 0
  have hf1 := hq.f 1
  simp only [World.size_alloc] at hg
  have Hr := hid hr; have Hb := hid hb; have Hq := hid hq
  clear hq hr hb hC
  go_wp2_with fail
  refine bodyPost_ret (v := .tuple #[.agg #[.int .i64 v, .slice (some ⟨g, 0, none⟩) n n], .int .i64 0]) (by simp [results, Try.results25, go_sem, hq0, hq1]) rfl ⟨g, rfl, ?_, ?_, ?_⟩
  · exact (Hr.out.far (by simp; omega) _).far (by simp; omega) _
  · omega
  · exact ((Hx4.out.trans (Hb.out.mono (by simp only [World.size_alloc]; omega))).setCell (by simp; omega) _).setCell (by simp; omega) _
end Go.Proofs.Ytbjaebbmajhjjaa

namespace Go.Proofs.Ytbjaebbmajhjjaa
set_option maxRecDepth 20000
set_option linter.unusedVariables false
set_option linter.unusedSimpArgs false
open Go.ChangeShapes Go.WideShapes Go.ChangeAt Go.RowKit

/-- A system of the generator's: width v, N unknowns. -/
structure GSy (s : SY) (v N : Nat) : Prop where
  w : s.W = v
  v4 : v ≤ 4
  n1 : 1 ≤ N
  dn : s.D.n = N
  tn : s.T.n = N
  bn : s.B.n = N
  d : ∀ y ∈ s.D.l, gD N y
  t : ∀ y ∈ s.T.l, gT v y
  b : ∀ y ∈ s.B.l, gB v y
def RetSys (w : World) (T n : Nat) (e : Ending) (w' : World) : Prop :=
  ∃ (s : SY) (v N : Nat), e = .returned s.a ∧ SYok w' [some T] s ∧ GSy s v N ∧ N ≤ n ∧ Tape w' T ∧ w.grownBy w' (some T)
theorem insI_len (l : List Int) (n : Int) : (insI l n).length ≤ l.length + 1 := by
  induction l with
  | nil => simp [insI]
  | cons a l ih =>
    unfold insI
    repeat' split
    all_goals simp only [List.length_cons]; omega
theorem flat_lhc (l : List RH) : l.flatMap lhc = l.map RH.v := by
  induction l with
  | nil => rfl
  | cons a l ih => rw [List.flatMap_cons, List.map_cons, ih]; rfl
theorem Sg.fin {w u : World} {T bS W N n : Nat} {A1 A2 A3 : Option Addr} {c1 c2 c3 : Nat} {lD : List RH} {lB : List ZH} {lT : List FH} (h : Sg w T bS W N (.slice A1 N c1) (.slice A2 N c2) (.slice A3 N c3) lD lB lT u) (h1 : lD.length = N) (h2 : lB.length = N) (h3 : lT.length = N) (hW : W ≤ 4) (hN : 1 ≤ N) (hn : N ≤ n) (hn2 : n ≤ 100) :
    RetSys w T n (.returned (.agg #[.int .i64 W, .slice A1 N c1, .slice A3 N c3, .slice A2 N c2])) ((((u.setCell ⟨w.heap.size, 0, none⟩ (.int .i64 W)).setCell ⟨w.heap.size, 1, none⟩ (.slice A1 N c1)).setCell ⟨w.heap.size, 2, none⟩ (.slice A3 N c3)).setCell ⟨w.heap.size, 3, none⟩ (.slice A2 N c2)) := by
  have hT := h.hT; have hb := h.hb
  generalize hu' : (((u.setCell ⟨w.heap.size, 0, none⟩ (.int .i64 W)).setCell ⟨w.heap.size, 1, none⟩ (.slice A1 N c1)).setCell ⟨w.heap.size, 2, none⟩ (.slice A3 N c3)).setCell ⟨w.heap.size, 3, none⟩ (.slice A2 N c2) = u'
  have hgu : u.grownBy u' (some w.heap.size) := by
    rw [← hu']
    exact grown_trans (grown_trans (grown_trans (setCell_grown u ⟨w.heap.size, 0, none⟩ _) (setCell_grown _ ⟨w.heap.size, 1, none⟩ _)) (setCell_grown _ ⟨w.heap.size, 2, none⟩ _)) (setCell_grown _ ⟨w.heap.size, 3, none⟩ _)
  have hgw : w.grownBy u' (some T) := by
    rw [← hu']
    exact grown_set_new (grown_set_new (grown_set_new (grown_set_new h.gr (by simp) _) (by simp) _) (by simp) _) (by simp) _
  have htp : Tape u' T := h.tp.keep fun k hk => hgu.block k (by have := h.tp.lt; omega) (by simp; omega)
  have hG : Go2 u (exS T w.heap.size bS (.slice A1 N c1) (.slice A2 N c2) (.slice A3 N c3)) u' [some T] := Go2.grown hgu (.inr (by simp [exS])) fun k _ hm => by
    simp only [List.mem_cons, List.not_mem_nil, or_false] at hm
    simp only [exS, List.mem_cons]
    exact .inl hm
  have far : ∀ {v : Value} {ty k n : Nat} {xs : List Value}, u.ownsRow (bS + 1) ty k v n xs → u'.ownsRow (bS + 1) ty k v n xs := fun ho => ho.kept hgu (Sg.far ho (by omega))
  have nT : ∀ {v : Value} {ty k n : Nat} {xs : List Value}, u'.ownsRow (bS + 1) ty k v n xs → ∀ g, v.ownBlock = some g → some g ∉ [some T] := fun ho g hg hm => by
    have := (ho.lt g hg).1
    simp only [List.mem_cons, List.not_mem_nil, or_false, Option.some.injEq] at hm
    omega
  have oD := far h.oD
  have oB := far h.oB
  have oT := far h.oT
  rw [h1, flat_lhc] at oD
  rw [h2] at oB
  rw [h3] at oT
  exact ⟨⟨W, ⟨A1, N, c1, lD⟩, ⟨A3, N, c3, lT⟩, ⟨A2, N, c2, lB⟩⟩, W, N, rfl,
    ⟨⟨EAt.own oD (nT oD), h1, by show N ≤ _; omega, fun y hy => (h.eD y hy).go hG⟩, ⟨EAt.own oT (nT oT), h3, by show N ≤ _; omega, fun y hy => (h.eT y hy).go hG⟩, ⟨EAt.own oB (nT oB), h2, by show N ≤ _; omega, fun y hy => (h.eB y hy).go hG⟩⟩,
    ⟨rfl, hW, hN, rfl, rfl, rfl, h.okD, h.okT, h.okB⟩, hn, htp, hgw⟩
set_option maxHeartbeats 12800000 in
theorem system_any (T n : Nat) (w : World) (ht : Tape w T) (hn1 : 1 ≤ n) (hn : n ≤ 100) : Calls Try.prog 10 #[.pointer (some ⟨T, 0, none⟩), .int .i64 n] w (RetSys w T n) := by
  obtain ⟨iD, hi, hz0, hz1, hz2⟩ := info_parts info22
  have HD := hid hi; have HD0 := hid hz0; have HD1 := hid hz1; have HD2 := hid hz2
  clear hi hz0 hz1 hz2
  obtain ⟨iB, hi, hz0, hz1, hz2⟩ := info_parts info41
  have HB := hid hi; have HB0 := hid hz0; have HB1 := hid hz1; have HB2 := hid hz2
  clear hi hz0 hz1 hz2
  obtain ⟨iT, hi, hz0, hz1, hz2⟩ := info_parts info70
  have HT := hid hi; have HT0 := hid hz0; have HT1 := hid hz1; have HT2 := hid hz2
  clear hi hz0 hz1 hz2
  have Ht := hid ht
  have hTl := ht.lt
  clear ht
  have HR := hid (Fb.new w #[.int .i64 0, .slice none 0 0, .slice none 0 0, .slice none 0 0] 27)
  have Hb0 := hid ((Below.refl w.heap.size w).alloc (Nat.le_refl _) (.cells #[.int .i64 0, .slice none 0 0, .slice none 0 0, .slice none 0 0] 27))
  go_enter Try.func10, Try.ntmps10
  go_wp2_with fail
  refine (width_any T _ (Ht.out.alloc _)).mono ?_
  rintro e w3 ⟨v0, rfl, hv0, ht3, hg3⟩
  obtain ⟨W, hW⟩ : ∃ W : Nat, W = v0 % 5 := ⟨_, rfl⟩
  have hW4 : W ≤ 4 := by omega
  have hrem : (v0 : Int) % 5 = (W : Int) := by rw [hW]; omega
  clear hW
  have hbS : w.heap.size < w3.heap.size := by have := hg3.size; rw [World.size_alloc] at this; omega
  have H0 := hid (show ∀ N, Sg w T w3.heap.size W N (.slice none 0 0) (.slice none 0 0) (.slice none 0 0) [] [] [] (w3.alloc (.cells #[.int .i64 W, .slice none 0 0, .slice none 0 0, .slice none 0 0] 27)) from fun N =>
    ⟨ht3.alloc _, hTl, hbS, grown_trans (grown_trans (grown_of_below Hb0.out _) hg3) (grown_of_below ((Below.refl _ _).alloc (Nat.le_refl _) _) _), (HR.out.grown hg3 (by simp; omega)).alloc _, Fb.new _ _ _, World.ownsRow_nil _ _ _ _, World.ownsRow_nil _ _ _ _, World.ownsRow_nil _ _ _ _,
      by simp, by simp, by simp, by simp, by simp, by simp⟩)
  clear ht3 hg3 HR Hb0
  go_wp2_with fail
  clear hrem hv0
  generalize hbq : w3.heap.size = bS at *
  clear hbq
  generalize w3.alloc (.cells #[.int .i64 W, .slice none 0 0, .slice none 0 0, .slice none 0 0] 27) = w4 at *
  refine (next_any T n _ (H0.out 0).tp (by omega)).mono ?_
  rintro e w5 ⟨r, rfl, hr0, hr1, ht5, hg5, -⟩
  obtain ⟨N, hN⟩ : ∃ N : Nat, (1 : Int) + r = (N : Int) := ⟨(1 + r).toNat, by omega⟩
  have hN1 : 1 ≤ N := by omega
  have hNn : N ≤ n := by omega
  have H5 := hid ((H0.out N).step ht5 hg5)
  clear ht5 hg5 H0
  go_wp2_with fail
  clear hN hr0 hr1
  go_loopw [6, 7, 8, 9] (fun iv _ _ _ wr => ∃ (i : Nat) (D B Tr : Value) (lD : List RH) (lB : List ZH) (lT : List FH), i ≤ N ∧ iv = .int .i64 i ∧ (lD.length = i ∧ lB.length = i ∧ lT.length = i) ∧ Hid (Sg w T bS W N D B Tr lD lB lT wr)) (fun iv _ _ _ _ => N - (intOf iv).toNat)
  case atStart => exact ⟨0, _, _, _, [], [], [], by omega, rfl, ⟨rfl, rfl, rfl⟩, H5⟩
  case round =>
    clear H5
    obtain ⟨i, D, B, Tr, lD, lB, lT, hi, rfl, ⟨hlD, hlB, hlT⟩, HS0⟩ := hrel
    by_cases hlt : i < N
    · go_wp2_with fail
      refine (next_any T 4 _ HS0.out.tp (by omega)).mono ?_
      rintro e w6 ⟨k0, rfl, hk0, hk1, ht6, hg6, -⟩
      have HS6 := hid (HS0.out.step ht6 hg6)
      obtain ⟨k0, rfl⟩ := Int.eq_ofNat_of_zero_le hk0
      have hk3 : k0 ≤ 3 := by omega
      clear ht6 hg6 HS0 hk0 hk1
      go_wp2_with fail
      rename_i Kx hKx K6 Q6
      go_loopw [7, 8] (fun dv kv wr => ∃ (k : Nat) (d : RH), kv = .int .i64 k ∧ dv = .slice d.A d.n d.c ∧ d.n + k ≤ 3 ∧ d.n ≤ d.c ∧ Hid (RisP N d.l) ∧ Hid (RHok wr (exS T w.heap.size bS D B Tr) d) ∧ Hid (Sg w T bS W N D B Tr lD lB lT wr)) (fun _ kv _ => (intOf kv).toNat)
      case atStart => exact ⟨k0, ⟨none, 0, 0, []⟩, rfl, rfl, by show 0 + k0 ≤ 3; omega, Nat.le_refl _, hid (RisP.nil _), hid ⟨EAt.nil _ _ _, rfl, by show 0 ≤ _; omega⟩, HS6⟩
      case round =>
        clear HS6 hk3
        obtain ⟨k, d, rfl, rfl, hdk, hdc, Hris, Hd, HS⟩ := hrel
        by_cases hpos : 0 < k
        · go_wp2_with fail
          refine (next_any T N _ HS.out.tp (by omega)).mono ?_
          rintro e w7 ⟨q, rfl, hq0, hq1, ht7, hg7, -⟩
          have Hd7 := hid (HS.out.drow Hd.out ht7 hg7)
          have HS7 := hid (HS.out.step ht7 hg7)
          have Hq := hid (And.intro hq0 (show q < N by omega))
          clear ht7 hg7 HS Hd hq0 hq1
          go_wp2_with fail
          refine (insert_any d q (exS T w.heap.size bS D B Tr) _ Hd7.out hdc (by omega) HS7.out.exlt).mono ?_
          rintro e w8 ⟨y, rfl, hyl, hyo, hyc, hb8⟩
          have HS8 := hid (HS7.out.below hb8)
          have Hy := hid hyo
          have Hyr := hid (show RisP N y.l by rw [hyl]; exact insI_ris Hris.out Hq.out.1 Hq.out.2)
          have hyn : y.n + (k - 1) ≤ 3 := by
            have h1 := insI_len d.l q
            have h2 := Hd7.out.len
            have h3 := hyo.len
            rw [hyl] at h3
            omega
          clear hyl hyo hb8 HS7 Hd7
          go_wp2_with fail
          go_roundw
          case rel => exact ⟨k - 1, y, by first | go_num | (congr 1; omega), rfl, hyn, hyc, Hyr, Hy, HS8⟩
          case measure => simp [intOf]; omega
        · obtain rfl : k = 0 := by omega
          clear hpos
          have Hgd := hid (show gD N d from ⟨Hris.out, by omega⟩)
          clear Hris hdk hdc
          obtain ⟨b0, b1, b2, b3⟩ := HS.out.bx.four
          go_wp2_with fail
          refine (refEmpty_any W _ (by omega)).mono ?_
          rintro e w9 ⟨g9, rfl, hg9, hr9, hb9⟩
          rw [len_emp]
          have hb9a := (Below.refl w9.heap.size w9).alloc (Nat.le_refl _) (.cells #[.int .i64 W, .slice (some ⟨g9, 0, none⟩) (Bs.nw W) (Bs.nw W)] 41)
          have HSw := hid (HS.out.below hb9)
          have Hdw := hid (Hd.out.below hb9)
          have HS9 := hid (HSw.out.below hb9a)
          have Hz9 := hid (HS9.out.set (hr9.below hb9a hr9.lt) (Bs.fit_emp W))
          have Hbb9 := hid (Fb.new w9 #[.int .i64 W, .slice (some ⟨g9, 0, none⟩) (Bs.nw W) (Bs.nw W)] 41)
          have Hg9 := hid (grown_of_below hb9a (some T))
          have HbbB := hid (show B.ownBlock ≠ some w9.heap.size from fun e => by
            have := (HSw.out.oB.lt _ e).2
            omega)
          have hbbw : w9.heap.size ≤ w9.heap.size := Nat.le_refl _
          have hTbb : T < w9.heap.size := HSw.out.tp.lt
          clear hr9 hb9 hb9a b0 b1 b2 b3 HS Hd hg9
          go_upto_region 12 with fail
          generalize hbq : w9.heap.size = bb at HbbB Hbb9 hTbb ⊢
          clear hbbw
          have Hbq := hid (show w9.heap.size ≤ bb by omega)
          clear hbq
          generalize w9.alloc (.cells #[.int .i64 W, .slice (some ⟨g9, 0, none⟩) (Bs.nw W) (Bs.nw W)] 41) = w10 at *
          go_wp2_with fail
          refine (next_any T 3 _ HS9.out.tp (by omega)).mono ?_
          rintro e w11 ⟨r, rfl, hr0, hr1, ht11, hg11, -⟩
          have HS11 := hid (HS9.out.step ht11 hg11)
          have Hz11 := hid (HS9.out.zset Hz9.out ht11 hg11)
          have Hg11 := hid (grown_trans Hg9.out hg11)
          have Hbb11 := hid (Hbb9.out.grown hg11 fun e => (Hbb9.out.typ.ne HS9.out.tp.typ (by decide)) (Option.some.inj e))
          clear ht11 hg11 HS9 Hz9 hr1 Hg9 Hbb9
          go_upto_if 39 with fail
          go_cut [] (fun wd => ∃ b : ZH, Hid (Fb wd bb b.cs.toArray 41) ∧ Hid (ZHok wd (exS T w.heap.size bS D B Tr) b) ∧ Hid (gB W b) ∧ Hid (RHok wd (exS T w.heap.size bS D B Tr) d) ∧ Hid (Sg w T bS W N D B Tr lD lB lT wd))
          case first =>
            by_cases h1 : r = 1
            · have t : (r == 1) = true := by simp [h1]
              clear h1
              obtain ⟨b0, b1, b2, b3⟩ := HS11.out.bx.four
              go_wp2_with fail
              refine (set3_any T W _ HS11.out.tp (by omega)).mono ?_
              rintro e w12 ⟨g12, ws, rfl, hf12, hr12, -, ht12, hg12⟩
              have Hg12 := hid (grown_trans Hg11.out hg12)
              have Ht12 := hid ht12
              have Hr12 := hid hr12
              have Hbb12 := hid (Hbb11.out.grown hg12 fun e => (Hbb11.out.typ.ne HS11.out.tp.typ (by decide)) (Option.some.inj e))
              have Hf12 := hid hf12
              clear hr12 ht12 hg12 hf12 HS11 b0 b1 b2 b3
              obtain ⟨x0, x1⟩ := (show Fb w12 bb #[.int .i64 W, .slice (some ⟨g9, 0, none⟩) (Bs.nw W) (Bs.nw W)] 41 from Hbb12.out).two
              have f0 := Hbb12.out.frozen 0
              have f1 := Hbb12.out.frozen 1
              have fl := Hbb12.out.lt
              go_wp2_with fail
              go_meet
              have hne : g12 ≠ bb := Hr12.out.typ.ne Hbb12.out.typ (by decide)
              have hgf := grown_set_new (grown_set_new Hg12.out (p := ⟨bb, 0, none⟩) Hbq.out (.int .i64 W)) (p := ⟨bb, 1, none⟩) Hbq.out (.slice (some ⟨g12, 0, none⟩) (Bs.nw W) (Bs.nw W))
              have htf := (Ht12.out.far (p := ⟨bb, 0, none⟩) hTbb (.int .i64 W)).far (p := ⟨bb, 1, none⟩) hTbb (.slice (some ⟨g12, 0, none⟩) (Bs.nw W) (Bs.nw W))
              have hSf := HSw.out.step htf hgf
              have hrf := (Hr12.out.far (p := ⟨bb, 0, none⟩) hne (.int .i64 W)).far (p := ⟨bb, 1, none⟩) hne (.slice (some ⟨g12, 0, none⟩) (Bs.nw W) (Bs.nw W))
              exact ⟨⟨W, some ⟨g12, 0, none⟩, Bs.nw W, Bs.nw W, ws⟩, hid ((Hbb12.out.set 0 _).set 1 _), hid (hSf.set hrf Hf12.out), hid ⟨rfl, Hf12.out⟩, hid (HSw.out.drow Hdw.out htf hgf), hid hSf⟩
            · have t : (r == 1) = false := by simp [h1]
              clear h1
              go_wp2_with fail
              go_meet
              exact ⟨⟨W, some ⟨g9, 0, none⟩, Bs.nw W, Bs.nw W, Bs.emp W⟩, Hbb11, Hz11, hid ⟨rfl, Bs.fit_emp W⟩, hid (HSw.out.drow Hdw.out HS11.out.tp Hg11.out), HS11⟩
          case rest =>
            obtain ⟨b, Hbb, Hz, Hgb, Hd, HS⟩ := hcut
            clear HS11 Hz11 Hbb11 HSw Hdw Hg11 Hbq hTbb
            go_upto_region 14 with fail
            generalize wc = w1 at *
            have HL := hid (And.intro hlD (And.intro hlB hlT))
            have hl1 : lD.length < N := by omega
            have hl2 : lB.length < N := by omega
            have hl3 : lT.length < N := by omega
            clear hlD hlB hlT
            refine wp_region_factsG (sgG bS D B Tr lD lB lT) (sgF w1 T bS W D B Tr lD lB lT d b) (SgB w w1 T bS W D B Tr bb b) sgU (fun j u u' => Stp1 (tyO j) u u') Kx (fun _ _ h => h) 24 19 [some 44, some 45, some 46, some 47, some 48, some 49, some 50, some 51, some 52, some 53, some 54, some 55, some 56, some 57, some 58, some 59, some 60, some 61, some 62, none, some 63, none, some 64, none] (by kernel_rfl) (by kernel_rfl) (by kernel_rfl) (by kernel_rfl) (by kernel_rfl) (by kernel_rfl) (by decide)
              sgF_st ?bs ?gs sgG_st ?ar ?en
            case bs => exact (HS.out.sgB Hbb.out).below (Below.refl _ _).drew
            case gs => exact (HS.out.below (Below.refl _ _).drew).sgG
            case ar =>
              intro j o f u ho hi hB hGi hpre K hK
              match j, ho, hpre, hK with
              | 0, ho, hpre, hK =>
                obtain rfl := Option.some.inj ho
                refine wpOp_step rfl fun K' hK' => ?_
                simp only [putL, updV]
                go_simp
                have hz := hK' _ _ (hK (.pointer (some ⟨bS, 1, none⟩)) (u) (hB) (Stp1.refl _ _) (rfl))
                refine Eq.mp (congrArg (fun a => K' a (u)) ?_) hz
                kernel_rfl
              | 1, ho, hpre, hK =>
                obtain rfl := Option.some.inj ho
                obtain ⟨c0, c1, c2, c3⟩ := hB.bx.four
                have hlt := hB.bx.lt
                have e0 : f 0 = .pointer (some ⟨bS, 1, none⟩) := hpre ⟨0, .data⟩ (by simp) rfl (.inl rfl)
                obtain ⟨f, rfl⟩ := fixG f 0 _ e0
                clear e0
                refine wpOp_step rfl fun K' hK' => ?_
                simp only [putL, updV]
                go_simp
                have hz := hK' _ _ (hK (D) (u) (hB) (Stp1.refl _ _) (rfl))
                refine Eq.mp (congrArg (fun a => K' a (u)) ?_) hz
                kernel_rfl
              | 2, ho, hpre, hK =>
                obtain rfl := Option.some.inj ho
                refine wpOp_step rfl fun K' hK' => ?_
                simp only [putL, updV]
                go_simp
                have hz := hK' _ _ (hK (.slice d.A d.n d.c) (u) (hB) (Stp1.refl _ _) (rfl))
                refine Eq.mp (congrArg (fun a => K' a (u)) ?_) hz
                kernel_rfl
              | 3, ho, hpre, hK =>
                obtain rfl := Option.some.inj ho
                have e2 : f 2 = .slice d.A d.n d.c := hpre ⟨2, .data⟩ (by simp) rfl (.inl rfl)
                obtain ⟨f, rfl⟩ := fixG f 2 _ e2
                clear e2
                have hbw := (Below.refl u.heap.size u).alloc (Nat.le_refl _) (.cells #[.slice d.A d.n d.c] 22)
                refine wpOp_step rfl fun K' hK' => ?_
                simp only [putL, updV]
                go_simp
                have hz := hK' _ _ (hK (.slice (some ⟨u.heap.size, 0, none⟩) 1 1) (u.alloc (.cells #[.slice d.A d.n d.c] 22)) (hB.below hbw) (Stp1.below hbw) (⟨_, rfl, Fb.new _ _ _⟩))
                refine Eq.mp (congrArg (fun a => K' a (u.alloc (.cells #[.slice d.A d.n d.c] 22))) ?_) hz
                kernel_rfl
              | 4, ho, hpre, hK =>
                obtain rfl := Option.some.inj ho
                have e1 : f 1 = D := hpre ⟨1, .data⟩ (by simp) rfl (.inl rfl)
                obtain ⟨g, e3, hf⟩ : ∃ g, f 3 = .slice (some ⟨g, 0, none⟩) 1 1 ∧ Fb u g (lhc d).toArray 22 := hpre ⟨3, .data⟩ (by simp) rfl (.inr rfl)
                have ho : u.ownsRow (bS + 1) 22 1 D lD.length (lD.flatMap lhc) := hGi
                have hbb : D.ownBlock ≠ some bb := (by rcases own_noteq ho hB.bb.typ (by decide) with h | h; (rw [h]; simp); exact h)
                have hsz := hB.bx.lt
                obtain ⟨f, rfl⟩ := fixG f 1 _ e1
                rw [updV_ne _ _ (by decide)] at e3
                obtain ⟨f, rfl⟩ := fixG f 3 _ e3
                clear e1 e3
                refine wpOp_step rfl fun K' hK' => ?_
                refine step_append_lies _ rfl (.tmp 45) (.tmp 47) 23 rfl (bS + 1) 22 iD _ 1 24 Try.underlying23 HD.out HD0.out HD1.out HD2.out rfl (by decide) D lD.length (lD.flatMap lhc) (by kernel_rfl) ho ⟨g, 0, none⟩ 1 1 (lhc d) (by kernel_rfl) rfl (fun j x hx => World.news_of_block hf j x hx) (one_lhc d) (by omega) (by unfold maxLen; omega) (by omega) (by omega) _ rfl ?_
                intro g9 q9 w9 hown hgr hat _
                have hB9 := hB.app HS.out (.inl rfl) ho hbb hgr
                have hR9 : Stp1 (tyO 4) u w9 := ⟨_, hgr, fun g e => own_typ ho e⟩
                have hn9 := hat.imp (fun e => e) (fun e => show w1.heap.size ≤ g9 by rw [e]; exact hB.gx.size)
                have hz := hK' _ _ (hK (.slice (some ⟨g9, 0, none⟩) (lD.length + 1) q9) (w9) (hB9) (hR9) (⟨g9, q9, rfl, hown, hn9⟩))
                refine Eq.mp (congrArg (fun a => K' a (w9)) ?_) hz
                kernel_rfl
              | 5, ho, hpre, hK =>
                obtain rfl := Option.some.inj ho
                refine wpOp_step rfl fun K' hK' => ?_
                simp only [putL, updV]
                go_simp
                have hz := hK' _ _ (hK (.pointer (some ⟨bS, 3, none⟩)) (u) (hB) (Stp1.refl _ _) (rfl))
                refine Eq.mp (congrArg (fun a => K' a (u)) ?_) hz
                kernel_rfl
              | 6, ho, hpre, hK =>
                obtain rfl := Option.some.inj ho
                obtain ⟨c0, c1, c2, c3⟩ := hB.bx.four
                have hlt := hB.bx.lt
                have e5 : f 5 = .pointer (some ⟨bS, 3, none⟩) := hpre ⟨5, .data⟩ (by simp) rfl (.inl rfl)
                obtain ⟨f, rfl⟩ := fixG f 5 _ e5
                clear e5
                refine wpOp_step rfl fun K' hK' => ?_
                simp only [putL, updV]
                go_simp
                have hz := hK' _ _ (hK (B) (u) (hB) (Stp1.refl _ _) (rfl))
                refine Eq.mp (congrArg (fun a => K' a (u)) ?_) hz
                kernel_rfl
              | 7, ho, hpre, hK =>
                obtain rfl := Option.some.inj ho
                obtain ⟨c0, c1⟩ := (show Fb u bb #[.int .i64 b.W, .slice b.A b.n b.c] _ from hB.bb).two
                refine wpOp_step rfl fun K' hK' => ?_
                simp only [putL, updV]
                go_simp
                have hz := hK' _ _ (hK (.agg #[.int .i64 b.W, .slice b.A b.n b.c]) (u) (hB) (Stp1.refl _ _) (rfl))
                refine Eq.mp (congrArg (fun a => K' a (u)) ?_) hz
                kernel_rfl
              | 8, ho, hpre, hK =>
                obtain rfl := Option.some.inj ho
                have e7 : f 7 = .agg #[.int .i64 b.W, .slice b.A b.n b.c] := hpre ⟨7, .data⟩ (by simp) rfl (.inl rfl)
                obtain ⟨f, rfl⟩ := fixG f 7 _ e7
                clear e7
                have hbw := (Below.refl u.heap.size u).alloc (Nat.le_refl _) (.cells #[.int .i64 b.W, .slice b.A b.n b.c] 41)
                refine wpOp_step rfl fun K' hK' => ?_
                simp only [putL, updV]
                go_simp
                have hz := hK' _ _ (hK (.slice (some ⟨u.heap.size, 0, none⟩) 1 1) (u.alloc (.cells #[.int .i64 b.W, .slice b.A b.n b.c] 41)) (hB.below hbw) (Stp1.below hbw) (⟨_, rfl, Fb.new _ _ _⟩))
                refine Eq.mp (congrArg (fun a => K' a (u.alloc (.cells #[.int .i64 b.W, .slice b.A b.n b.c] 41))) ?_) hz
                kernel_rfl
              | 9, ho, hpre, hK =>
                obtain rfl := Option.some.inj ho
                have e6 : f 6 = B := hpre ⟨6, .data⟩ (by simp) rfl (.inl rfl)
                obtain ⟨g, e8, hf⟩ : ∃ g, f 8 = .slice (some ⟨g, 0, none⟩) 1 1 ∧ Fb u g b.cs.toArray 41 := hpre ⟨8, .data⟩ (by simp) rfl (.inr rfl)
                have ho : u.ownsRow (bS + 1) 41 2 B lB.length (lB.flatMap ZH.cs) := hGi
                have hbb : B.ownBlock ≠ some bb := HbbB.out
                have hsz := hB.bx.lt
                obtain ⟨f, rfl⟩ := fixG f 6 _ e6
                rw [updV_ne _ _ (by decide)] at e8
                obtain ⟨f, rfl⟩ := fixG f 8 _ e8
                clear e6 e8
                refine wpOp_step rfl fun K' hK' => ?_
                refine step_append_lies _ rfl (.tmp 50) (.tmp 52) 25 rfl (bS + 1) 41 iB _ 2 32 Try.underlying25 HB.out HB0.out HB1.out HB2.out rfl (by decide) B lB.length (lB.flatMap ZH.cs) (by kernel_rfl) ho ⟨g, 0, none⟩ 1 1 (b.cs) (by kernel_rfl) rfl (fun j x hx => World.news_of_block hf j x hx) (one_zcs b) (by omega) (by unfold maxLen; omega) (by omega) (by omega) _ rfl ?_
                intro g9 q9 w9 hown hgr hat _
                have hB9 := hB.app HS.out (.inr (.inl rfl)) ho hbb hgr
                have hR9 : Stp1 (tyO 9) u w9 := ⟨_, hgr, fun g e => own_typ ho e⟩
                have hn9 := hat.imp (fun e => e) (fun e => show w1.heap.size ≤ g9 by rw [e]; exact hB.gx.size)
                have hz := hK' _ _ (hK (.slice (some ⟨g9, 0, none⟩) (lB.length + 1) q9) (w9) (hB9) (hR9) (⟨g9, q9, rfl, hown, hn9⟩))
                refine Eq.mp (congrArg (fun a => K' a (w9)) ?_) hz
                kernel_rfl
              | 10, ho, hpre, hK =>
                obtain rfl := Option.some.inj ho
                refine wpOp_step rfl fun K' hK' => ?_
                simp only [putL, updV]
                go_simp
                have hz := hK' _ _ (hK (.pointer (some ⟨bS, 2, none⟩)) (u) (hB) (Stp1.refl _ _) (rfl))
                refine Eq.mp (congrArg (fun a => K' a (u)) ?_) hz
                kernel_rfl
              | 11, ho, hpre, hK =>
                obtain rfl := Option.some.inj ho
                obtain ⟨c0, c1, c2, c3⟩ := hB.bx.four
                have hlt := hB.bx.lt
                have e10 : f 10 = .pointer (some ⟨bS, 2, none⟩) := hpre ⟨10, .data⟩ (by simp) rfl (.inl rfl)
                obtain ⟨f, rfl⟩ := fixG f 10 _ e10
                clear e10
                refine wpOp_step rfl fun K' hK' => ?_
                simp only [putL, updV]
                go_simp
                have hz := hK' _ _ (hK (Tr) (u) (hB) (Stp1.refl _ _) (rfl))
                refine Eq.mp (congrArg (fun a => K' a (u)) ?_) hz
                kernel_rfl
              | 12, ho, hpre, hK =>
                obtain rfl := Option.some.inj ho
                refine wpOp_step rfl fun K' hK' => ?_
                simp only [putL, updV]
                go_simp
                have hz := hK' _ _ (hK (.pointer (some ⟨T, 0, none⟩)) (u) (hB) (Stp1.refl _ _) (rfl))
                refine Eq.mp (congrArg (fun a => K' a (u)) ?_) hz
                kernel_rfl
              | 13, ho, hpre, hK =>
                obtain rfl := Option.some.inj ho
                refine wpOp_step rfl fun K' hK' => ?_
                simp only [putL, updV]
                go_simp
                have hz := hK' _ _ (hK (.pointer (some ⟨bS, 0, none⟩)) (u) (hB) (Stp1.refl _ _) (rfl))
                refine Eq.mp (congrArg (fun a => K' a (u)) ?_) hz
                kernel_rfl
              | 14, ho, hpre, hK =>
                obtain rfl := Option.some.inj ho
                obtain ⟨c0, c1, c2, c3⟩ := hB.bx.four
                have hlt := hB.bx.lt
                have e13 : f 13 = .pointer (some ⟨bS, 0, none⟩) := hpre ⟨13, .data⟩ (by simp) rfl (.inl rfl)
                obtain ⟨f, rfl⟩ := fixG f 13 _ e13
                clear e13
                refine wpOp_step rfl fun K' hK' => ?_
                simp only [putL, updV]
                go_simp
                have hz := hK' _ _ (hK (.int .i64 (W : Int)) (u) (hB) (Stp1.refl _ _) (rfl))
                refine Eq.mp (congrArg (fun a => K' a (u)) ?_) hz
                kernel_rfl
              | 15, ho, hpre, hK =>
                obtain rfl := Option.some.inj ho
                have e12 : f 12 = .pointer (some ⟨T, 0, none⟩) := hpre ⟨12, .data⟩ (by simp) rfl (.inl rfl)
                have e14 : f 14 = .int .i64 (W : Int) := hpre ⟨14, .data⟩ (by simp) rfl (.inl rfl)
                obtain ⟨f, rfl⟩ := fixG f 12 _ e12
                rw [updV_ne _ _ (by decide)] at e14
                obtain ⟨f, rfl⟩ := fixG f 14 _ e14
                clear e12 e14
                refine wpOp_step rfl fun K' hK' => ?_
                simp only [putL, updV]
                go_simp
                go_at_call 37
                refine (transfer3_any T W _ hB.tp (by omega)).mono ?_
                rintro e u5 ⟨g1, g2, b0, C, k, q, gs, ks, cs, rfl, ⟨r1, f1, n1⟩, ⟨r2, f2, n2⟩, ⟨o3, -, l3⟩, hv, h12, ht, hg⟩
                have hFt : Ft u5 W ⟨⟨W, some ⟨g1, 0, none⟩, Bs.nw W, Bs.nw W, gs⟩, ⟨W, some ⟨g2, 0, none⟩, Bs.nw W, Bs.nw W, ks⟩, C, k, q, cs⟩ := ⟨⟨g1, rfl, r1⟩, ⟨g2, rfl, r2⟩, ⟨b0, o3⟩, ⟨rfl, f1, rfl⟩, ⟨rfl, f2, rfl⟩, ⟨l3, by show k ≤ 12; omega⟩, hv⟩
                have hB5 := hB.tape HS.out ht hg
                have hR5 : Stp1 (tyO 15) u u5 := ⟨_, hg, fun g e => by obtain rfl := Option.some.inj e; exact hB.tp.typ⟩
                clear r1 f1 n1 r2 f2 n2 o3 l3 hv h12 ht hg
                have hz := hK' _ _ (hK (.agg #[.int .i64 W, .slice (some ⟨g1, 0, none⟩) (Bs.nw W) (Bs.nw W), .int .i64 W, .slice (some ⟨g2, 0, none⟩) (Bs.nw W) (Bs.nw W), .slice C k q]) (u5) (hB5) (hR5) (⟨_, rfl, hFt⟩))
                refine Eq.mp (congrArg (fun a => K' a (u5)) ?_) hz
                kernel_rfl
              | 16, ho, hpre, hK =>
                obtain rfl := Option.some.inj ho
                obtain ⟨F, e15, hF⟩ : ∃ F : FH, f 15 = F.a ∧ Ft u W F := hpre ⟨15, .data⟩ (by simp) rfl (.inl rfl)
                have e15 : f 15 = .agg #[.int .i64 F.G.W, .slice F.G.A F.G.n F.G.c, .int .i64 F.K.W, .slice F.K.A F.K.n F.K.c, .slice F.C F.k F.q] := e15
                obtain ⟨f, rfl⟩ := fixG f 15 _ e15
                clear e15
                have hbw := (Below.refl u.heap.size u).alloc (Nat.le_refl _) (.cells #[.int .i64 F.G.W, .slice F.G.A F.G.n F.G.c, .int .i64 F.K.W, .slice F.K.A F.K.n F.K.c, .slice F.C F.k F.q] 64)
                refine wpOp_step rfl fun K' hK' => ?_
                simp only [putL, updV]
                go_simp
                have hz := hK' _ _ (hK (.slice (some ⟨u.heap.size, 0, none⟩) 1 1) (u.alloc (.cells #[.int .i64 F.G.W, .slice F.G.A F.G.n F.G.c, .int .i64 F.K.W, .slice F.K.A F.K.n F.K.c, .slice F.C F.k F.q] 64)) (hB.below hbw) (Stp1.below hbw) (⟨F, _, rfl, Fb.new _ _ _, (Stp1.below (t := tyO 16) hbw).ft hF (tyO_u 16) (tyO_c 16)⟩))
                refine Eq.mp (congrArg (fun a => K' a (u.alloc (.cells #[.int .i64 F.G.W, .slice F.G.A F.G.n F.G.c, .int .i64 F.K.W, .slice F.K.A F.K.n F.K.c, .slice F.C F.k F.q] 64))) ?_) hz
                kernel_rfl
              | 17, ho, hpre, hK =>
                obtain rfl := Option.some.inj ho
                have e11 : f 11 = Tr := hpre ⟨11, .data⟩ (by simp) rfl (.inl rfl)
                obtain ⟨F, g, e16, hf, hF⟩ : ∃ (F : FH) (g : Nat), f 16 = .slice (some ⟨g, 0, none⟩) 1 1 ∧ Fb u g F.cells.toArray 64 ∧ Ft u W F := hpre ⟨16, .data⟩ (by simp) rfl (.inr rfl)
                have ho : u.ownsRow (bS + 1) 64 5 Tr lT.length (lT.flatMap FH.cells) := hGi
                have hbb : Tr.ownBlock ≠ some bb := (by rcases own_noteq ho hB.bb.typ (by decide) with h | h; (rw [h]; simp); exact h)
                have hsz := hB.bx.lt
                obtain ⟨f, rfl⟩ := fixG f 11 _ e11
                rw [updV_ne _ _ (by decide)] at e16
                obtain ⟨f, rfl⟩ := fixG f 16 _ e16
                clear e11 e16
                refine wpOp_step rfl fun K' hK' => ?_
                refine step_append_lies _ rfl (.tmp 55) (.tmp 60) 24 rfl (bS + 1) 64 iT _ 5 88 Try.underlying24 HT.out HT0.out HT1.out HT2.out rfl (by decide) Tr lT.length (lT.flatMap FH.cells) (by kernel_rfl) ho ⟨g, 0, none⟩ 1 1 (F.cells) (by kernel_rfl) rfl (fun j x hx => World.news_of_block hf j x hx) (one_fcells F) (by omega) (by unfold maxLen; omega) (by omega) (by omega) _ rfl ?_
                intro g9 q9 w9 hown hgr hat _
                have hB9 := hB.app HS.out (.inr (.inr rfl)) ho hbb hgr
                have hR9 : Stp1 (tyO 17) u w9 := ⟨_, hgr, fun g e => own_typ ho e⟩
                have hn9 := hat.imp (fun e => e) (fun e => show w1.heap.size ≤ g9 by rw [e]; exact hB.gx.size)
                have hz := hK' _ _ (hK (.slice (some ⟨g9, 0, none⟩) (lT.length + 1) q9) (w9) (hB9) (hR9) (⟨F, g9, q9, rfl, hown, hn9, hR9.ft hF (tyO_u 17) (tyO_c 17)⟩))
                refine Eq.mp (congrArg (fun a => K' a (w9)) ?_) hz
                kernel_rfl
              | 18, ho, hpre, hK =>
                obtain rfl := Option.some.inj ho
                refine wpOp_step rfl fun K' hK' => ?_
                simp only [putL, updV]
                go_simp
                have hz := hK' _ _ (hK (.pointer (some ⟨bS, 1, none⟩)) (u) (hB) (Stp1.refl _ _) (rfl))
                refine Eq.mp (congrArg (fun a => K' a (u)) ?_) hz
                kernel_rfl
              | j + 19, ho, hpre, hK => exact absurd hi (by omega)
            case en =>
              intro Q2 hQ2 f u hB hF
              obtain ⟨g1, q1, e4, o1, n1⟩ : ∃ g q, f 4 = .slice (some ⟨g, 0, none⟩) (lD.length + 1) q ∧ u.ownsRow (bS + 1) 22 1 (.slice (some ⟨g, 0, none⟩) (lD.length + 1) q) (lD.length + 1) (lD.flatMap lhc ++ lhc d) ∧ (D.ownBlock = some g ∨ w1.heap.size ≤ g) := hF 4 (by decide) rfl
              obtain ⟨g2, q2, e9, o2, n2⟩ : ∃ g q, f 9 = .slice (some ⟨g, 0, none⟩) (lB.length + 1) q ∧ u.ownsRow (bS + 1) 41 2 (.slice (some ⟨g, 0, none⟩) (lB.length + 1) q) (lB.length + 1) (lB.flatMap ZH.cs ++ b.cs) ∧ (B.ownBlock = some g ∨ w1.heap.size ≤ g) := hF 9 (by decide) rfl
              obtain ⟨F, g3, q3, e17, o3, n3, hFt⟩ : ∃ (F : FH) (g q : Nat), f 17 = .slice (some ⟨g, 0, none⟩) (lT.length + 1) q ∧ u.ownsRow (bS + 1) 64 5 (.slice (some ⟨g, 0, none⟩) (lT.length + 1) q) (lT.length + 1) (lT.flatMap FH.cells ++ F.cells) ∧ (Tr.ownBlock = some g ∨ w1.heap.size ≤ g) ∧ Ft u W F := hF 17 (by decide) rfl
              have e18 : f 18 = .pointer (some ⟨bS, 1, none⟩) := hF 18 (by decide) rfl
              have HSn := hid (hB.done HS.out Hd.out Hz.out Hgd.out Hgb.out o1 n1 o2 n2 o3 n3 hFt)
              clear hF o1 n1 o2 n2 o3 n3 hFt
              show wpAny _ _ _ _ 5 (tailArr 24 19) _ _
              refine wpAny_inv (TlI (.slice (some ⟨g1, 0, none⟩) (lD.length + 1) q1) (.slice (some ⟨g2, 0, none⟩) (lB.length + 1) q2) (.slice (some ⟨g3, 0, none⟩) (lT.length + 1) q3) bS u) [some 44, some 45, some 46, some 47, some 48, some 49, some 50, some 51, some 52, some 53, some 54, some 55, some 56, some 57, some 58, some 59, some 60, some 61, some 62, none, some 63, none, some 64, none] _ (by kernel_rfl) (by kernel_rfl) (by kernel_rfl) ?hs ?he 5 (tailArr 24 19) f u (by kernel_rfl) ⟨by decide, e4, e9, e17, fun _ => e18, fun h => absurd h (by decide), fun h => absurd h (by decide), fun h => absurd h (by decide), fun h => absurd h (by decide), fun _ => rfl, fun h => absurd h (by decide), fun h => absurd h (by decide), fun h => absurd h (by decide)⟩ (by kernel_rfl)
              case hs =>
                clear HSn
                intro j o L f u' ho hL hdep hI K hK
                match j, ho, hL, hdep, hK with
                | 0, ho, hL, hdep, hK => exact absurd (hI.pre 0 (by decide)) (by rw [hL]; decide)
                | 1, ho, hL, hdep, hK => exact absurd (hI.pre 1 (by decide)) (by rw [hL]; decide)
                | 2, ho, hL, hdep, hK => exact absurd (hI.pre 2 (by decide)) (by rw [hL]; decide)
                | 3, ho, hL, hdep, hK => exact absurd (hI.pre 3 (by decide)) (by rw [hL]; decide)
                | 4, ho, hL, hdep, hK => exact absurd (hI.pre 4 (by decide)) (by rw [hL]; decide)
                | 5, ho, hL, hdep, hK => exact absurd (hI.pre 5 (by decide)) (by rw [hL]; decide)
                | 6, ho, hL, hdep, hK => exact absurd (hI.pre 6 (by decide)) (by rw [hL]; decide)
                | 7, ho, hL, hdep, hK => exact absurd (hI.pre 7 (by decide)) (by rw [hL]; decide)
                | 8, ho, hL, hdep, hK => exact absurd (hI.pre 8 (by decide)) (by rw [hL]; decide)
                | 9, ho, hL, hdep, hK => exact absurd (hI.pre 9 (by decide)) (by rw [hL]; decide)
                | 10, ho, hL, hdep, hK => exact absurd (hI.pre 10 (by decide)) (by rw [hL]; decide)
                | 11, ho, hL, hdep, hK => exact absurd (hI.pre 11 (by decide)) (by rw [hL]; decide)
                | 12, ho, hL, hdep, hK => exact absurd (hI.pre 12 (by decide)) (by rw [hL]; decide)
                | 13, ho, hL, hdep, hK => exact absurd (hI.pre 13 (by decide)) (by rw [hL]; decide)
                | 14, ho, hL, hdep, hK => exact absurd (hI.pre 14 (by decide)) (by rw [hL]; decide)
                | 15, ho, hL, hdep, hK => exact absurd (hI.pre 15 (by decide)) (by rw [hL]; decide)
                | 16, ho, hL, hdep, hK => exact absurd (hI.pre 16 (by decide)) (by rw [hL]; decide)
                | 17, ho, hL, hdep, hK => exact absurd (hI.pre 17 (by decide)) (by rw [hL]; decide)
                | 18, ho, hL, hdep, hK => exact absurd (hI.pre 18 (by decide)) (by rw [hL]; decide)
                | 19, ho, hL, hdep, hK =>
                  obtain rfl := Option.some.inj ho
                  have e18 : f 18 = .pointer (some ⟨bS, 1, none⟩) := hI.a18 (hdep ⟨18, .data⟩ (by simp) rfl)
                  have e4 : f 4 = .slice (some ⟨g1, 0, none⟩) (lD.length + 1) q1 := hI.v4
                  obtain ⟨hu, hI9⟩ := hI.op19 hL undef
                  have hu := hu.symm
                  subst hu
                  obtain ⟨f, rfl⟩ := fixG f 18 _ e18
                  rw [updV_ne _ _ (by decide)] at e4
                  obtain ⟨f, rfl⟩ := fixG f 4 _ e4
                  clear e18 e4
                  have c9 := (hB.bx).cell 1
                  have f9 := (hB.bx).frozen 1
                  have l9 := (hB.bx).lt
                  simp only [Array.getElem?_setIfInBounds_ne, ne_eq, Nat.reduceEqDiff, not_false_eq_true, List.getElem?_toArray, List.getElem?_cons_succ, List.getElem?_cons_zero] at c9
                  refine wpOp_step rfl fun K' hK' => ?_
                  simp only [putL, updV]
                  go_simp
                  have hz := hK' _ _ (hK (undef) (u.setCell ⟨bS, 1, none⟩ (.slice (some ⟨g1, 0, none⟩) (lD.length + 1) q1)) (hI9))
                  refine Eq.mp (congrArg (fun a => K' a (u.setCell ⟨bS, 1, none⟩ (.slice (some ⟨g1, 0, none⟩) (lD.length + 1) q1))) ?_) hz
                  kernel_rfl
                | 20, ho, hL, hdep, hK =>
                  obtain rfl := Option.some.inj ho
                  refine wpOp_step rfl fun K' hK' => ?_
                  simp only [putL, updV]
                  go_simp
                  have hz := hK' _ _ (hK (.pointer (some ⟨bS, 3, none⟩)) (u') (hI.op20))
                  refine Eq.mp (congrArg (fun a => K' a (u')) ?_) hz
                  kernel_rfl
                | 21, ho, hL, hdep, hK =>
                  obtain rfl := Option.some.inj ho
                  have e20 : f 20 = .pointer (some ⟨bS, 3, none⟩) := hI.a20 (hdep ⟨20, .data⟩ (by simp) rfl)
                  have e9 : f 9 = .slice (some ⟨g2, 0, none⟩) (lB.length + 1) q2 := hI.v9
                  have l19 : L 19 = true := hdep ⟨19, .chain⟩ (by simp) rfl
                  obtain ⟨hu, hI9⟩ := hI.op21 hL l19 undef
                  have hu := hu.symm
                  subst hu
                  obtain ⟨f, rfl⟩ := fixG f 20 _ e20
                  rw [updV_ne _ _ (by decide)] at e9
                  obtain ⟨f, rfl⟩ := fixG f 9 _ e9
                  clear e20 e9
                  have c9 := (hB.bx.set 1 (.slice (some ⟨g1, 0, none⟩) (lD.length + 1) q1)).cell 3
                  have f9 := (hB.bx.set 1 (.slice (some ⟨g1, 0, none⟩) (lD.length + 1) q1)).frozen 3
                  have l9 := (hB.bx.set 1 (.slice (some ⟨g1, 0, none⟩) (lD.length + 1) q1)).lt
                  simp only [Array.getElem?_setIfInBounds_ne, ne_eq, Nat.reduceEqDiff, not_false_eq_true, List.getElem?_toArray, List.getElem?_cons_succ, List.getElem?_cons_zero] at c9
                  refine wpOp_step rfl fun K' hK' => ?_
                  simp only [putL, updV]
                  go_simp
                  have hz := hK' _ _ (hK (undef) (((u.setCell ⟨bS, 1, none⟩ (.slice (some ⟨g1, 0, none⟩) (lD.length + 1) q1))).setCell ⟨bS, 3, none⟩ (.slice (some ⟨g2, 0, none⟩) (lB.length + 1) q2)) (hI9))
                  refine Eq.mp (congrArg (fun a => K' a (((u.setCell ⟨bS, 1, none⟩ (.slice (some ⟨g1, 0, none⟩) (lD.length + 1) q1))).setCell ⟨bS, 3, none⟩ (.slice (some ⟨g2, 0, none⟩) (lB.length + 1) q2))) ?_) hz
                  kernel_rfl
                | 22, ho, hL, hdep, hK =>
                  obtain rfl := Option.some.inj ho
                  refine wpOp_step rfl fun K' hK' => ?_
                  simp only [putL, updV]
                  go_simp
                  have hz := hK' _ _ (hK (.pointer (some ⟨bS, 2, none⟩)) (u') (hI.op22))
                  refine Eq.mp (congrArg (fun a => K' a (u')) ?_) hz
                  kernel_rfl
                | 23, ho, hL, hdep, hK =>
                  obtain rfl := Option.some.inj ho
                  have e22 : f 22 = .pointer (some ⟨bS, 2, none⟩) := hI.a22 (hdep ⟨22, .data⟩ (by simp) rfl)
                  have e17 : f 17 = .slice (some ⟨g3, 0, none⟩) (lT.length + 1) q3 := hI.v17
                  have l21 : L 21 = true := hdep ⟨21, .chain⟩ (by simp) rfl
                  obtain ⟨hu, hI9⟩ := hI.op23 hL l21 undef
                  have hu := hu.symm
                  subst hu
                  obtain ⟨f, rfl⟩ := fixG f 22 _ e22
                  rw [updV_ne _ _ (by decide)] at e17
                  obtain ⟨f, rfl⟩ := fixG f 17 _ e17
                  clear e22 e17
                  have c9 := ((hB.bx.set 1 (.slice (some ⟨g1, 0, none⟩) (lD.length + 1) q1)).set 3 (.slice (some ⟨g2, 0, none⟩) (lB.length + 1) q2)).cell 2
                  have f9 := ((hB.bx.set 1 (.slice (some ⟨g1, 0, none⟩) (lD.length + 1) q1)).set 3 (.slice (some ⟨g2, 0, none⟩) (lB.length + 1) q2)).frozen 2
                  have l9 := ((hB.bx.set 1 (.slice (some ⟨g1, 0, none⟩) (lD.length + 1) q1)).set 3 (.slice (some ⟨g2, 0, none⟩) (lB.length + 1) q2)).lt
                  simp only [Array.getElem?_setIfInBounds_ne, ne_eq, Nat.reduceEqDiff, not_false_eq_true, List.getElem?_toArray, List.getElem?_cons_succ, List.getElem?_cons_zero] at c9
                  refine wpOp_step rfl fun K' hK' => ?_
                  simp only [putL, updV]
                  go_simp
                  have hz := hK' _ _ (hK (undef) ((((u.setCell ⟨bS, 1, none⟩ (.slice (some ⟨g1, 0, none⟩) (lD.length + 1) q1)).setCell ⟨bS, 3, none⟩ (.slice (some ⟨g2, 0, none⟩) (lB.length + 1) q2))).setCell ⟨bS, 2, none⟩ (.slice (some ⟨g3, 0, none⟩) (lT.length + 1) q3)) (hI9))
                  refine Eq.mp (congrArg (fun a => K' a ((((u.setCell ⟨bS, 1, none⟩ (.slice (some ⟨g1, 0, none⟩) (lD.length + 1) q1)).setCell ⟨bS, 3, none⟩ (.slice (some ⟨g2, 0, none⟩) (lB.length + 1) q2))).setCell ⟨bS, 2, none⟩ (.slice (some ⟨g3, 0, none⟩) (lT.length + 1) q3))) ?_) hz
                  kernel_rfl
                | j + 24, ho, hL, hdep, hK => exact absurd (Array.getElem?_eq_some_iff.1 ho).1 (by simp)
              case he =>
                intro L f u' hall hI
                have hu := hI.w3 (hall 23 (by decide))
                subst hu
                clear hI hall hB e4 e9 e17 e18
                refine hQ2 _ _ ?_
                simp only [putL]
                go_simp
                refine hKx _ _ ?_
                obtain ⟨hlD, hlB, hlT⟩ := HL.out
                subst hlD
                have HN := hid (show (lD ++ [d]).length = lD.length + 1 ∧ (lB ++ [b]).length = lD.length + 1 ∧ (lT ++ [F]).length = lD.length + 1 from ⟨by simp, by simp [hlB], by simp [hlT]⟩)
                clear hlB hlT
                go_wp2_with fail
                go_roundw
                case rel => exact ⟨lD.length + 1, _, _, _, lD ++ [d], lB ++ [b], lT ++ [F], by omega, by go_num, HN.out, HSn⟩
                case measure => simp [intOf]; omega
    · obtain rfl : i = N := by omega
      obtain ⟨b0, b1, b2, b3⟩ := HS0.out.bx.four
      obtain ⟨r0, r1, r2, r3⟩ := HS0.out.rx.four
      have f0 := HS0.out.rx.frozen 0
      have f1 := HS0.out.rx.frozen 1
      have f2 := HS0.out.rx.frozen 2
      have f3 := HS0.out.rx.frozen 3
      have hlr := HS0.out.rx.lt
      obtain ⟨A1, c1, e1⟩ := own_slice3 HS0.out.oD
      obtain ⟨A2, c2, e2⟩ := own_slice3 HS0.out.oB
      obtain ⟨A3, c3, e3⟩ := own_slice3 HS0.out.oT
      rw [hlD] at e1
      rw [hlB] at e2
      rw [hlT] at e3
      subst e1
      subst e2
      subst e3
      have Hfin := hid (HS0.out.fin hlD hlB hlT hW4 hN1 hNn hn)
      clear hlD hlB hlT
      go_wp2_with fail
      refine bodyPost_ret (v := .agg #[.int .i64 W, .slice A1 i c1, .slice A3 i c3, .slice A2 i c2]) (by simp [results, Try.results10, go_sem, b0, b1, b2, b3, r0, r1, r2, r3]) rfl ?_
      exact Hfin.out
end Go.Proofs.Ytbjaebbmajhjjaa

namespace Go.Proofs.Ytbjaebbmajhjjaa
set_option maxRecDepth 20000
set_option linter.unusedVariables false
open Go.ChangeShapes Go.WideShapes Go.ChangeAt Go.RowKit

theorem tot_le {m : Nat} : ∀ {S : List (List Int)}, (∀ l ∈ S, l.length ≤ m) → tot S ≤ S.length * m := by
  intro S
  induction S with
  | nil => intro _; simp [tot]
  | cons l S ih =>
    intro h
    have h1 := h l List.mem_cons_self
    have h2 := ih fun x hx => h x (List.mem_cons_of_mem _ hx)
    have e : tot (l :: S) = l.length + tot S := by simp [tot]
    rw [e, List.length_cons, Nat.succ_mul]
    omega
theorem GSy.ok {s : SY} {v N : Nat} {w : World} {ex : List (Option Nat)} (h : GSy s v N) (hs : SYok w ex s) (hN : N ≤ 100) : SOk s v N := by
  have := h.v4
  refine ⟨h.w, by omega, h.n1, by omega, h.dn, h.tn, h.bn, fun y hy => (h.d y hy).1, ?_, fun y hy => (h.t y hy).1, h.b⟩
  have h1 : ∀ l ∈ s.D.v, l.length ≤ 3 := fun l hl => by
    obtain ⟨y, hy, rfl⟩ := List.mem_map.1 hl
    rw [(hs.d.all y hy).len]
    exact (h.d y hy).2
  have h2 := tot_le h1
  rw [LH.vlen, hs.d.len, h.dn] at h2
  omega
end Go.Proofs.Ytbjaebbmajhjjaa

namespace Go.Proofs.Ytbjaebbmajhjjaa
set_option maxRecDepth 20000
set_option linter.unusedVariables false
set_option linter.unusedSimpArgs false
open Go.ChangeShapes Go.WideShapes Go.ChangeAt Go.RowKit

/-- Writing a cell that is no word leaves all words alone. -/
theorem Arg.non {w : World} {A : Option Addr} {n g j : Nat} {ws : List Nat} {x : Value} (h : Arg w A n ws) (hc : w.cell? ⟨g, j, none⟩ = some x) (hx : ∀ y : Int, x ≠ .int .u64 y) (z : Value) : Arg (w.setCell ⟨g, j, none⟩ z) A n ws := by
  refine ⟨?_, h.len, h.ok⟩
  rcases h.lies with e | ⟨ad, e, hlt, hcs⟩
  · exact .inl e
  · refine .inr ⟨ad, e, by simpa using hlt, fun i u hu => ?_⟩
    have h1 := hcs i u hu
    have hne : (⟨g, j, none⟩ : Addr) ≠ ad.add i := fun e' => by
      rw [← e', hc] at h1
      have hw : u ∈ words ws := List.mem_of_getElem? hu
      unfold words at hw
      obtain ⟨y, -, hy⟩ := List.mem_map.1 hw
      have := Option.some.inj h1
      rw [← hy] at this
      exact hx _ this
    rw [World.cell?_setCell_other (h := hne)]; exact h1
theorem VRow.non {w : World} {g1 N g j : Nat} {l : List ZH} {x : Value} (h : VRow w g1 N l) (hne : g1 ≠ g) (hc : w.cell? ⟨g, j, none⟩ = some x) (hx : ∀ y : Int, x ≠ .int .u64 y) (z : Value) : VRow (w.setCell ⟨g, j, none⟩ z) g1 N l :=
  ⟨h.fb.far hne z, h.len, fun y hy => (h.all y hy).non hc hx z⟩
/-- Both cells of a set are written. -/
theorem VRow.non2 {w : World} {g1 N g M k : Nat} {l m : List ZH} {z : ZH} (h : VRow w g1 N l) (hne : g1 ≠ g) (hs : SRow w g M m) (hk : k < M) : VRow ((w.setCell ⟨g, k * 2, none⟩ (.int .i64 z.W)).setCell ⟨g, k * 2 + 1, none⟩ (.slice z.A z.n z.c)) g1 N l := by
  obtain ⟨y, hy, -⟩ := get_at hs.len hk
  obtain ⟨c0, c1⟩ := hs.cells hy
  refine (h.non hne c0 (by intro y; simp) _).non hne (x := .slice y.A y.n y.c) ?_ (by intro y; simp) _
  rw [World.cell?_setCell_other (h := by simp)]; exact c1
theorem VRow.taped {w w' : World} {g N T : Nat} {l : List ZH} (h : VRow w g N l) (ht : Tape w T) (hg : w.grownBy w' (some T)) : VRow w' g N l :=
  ⟨h.fb.grown hg fun e => (h.fb.typ.ne ht.typ (by decide)) (Option.some.inj e), h.len, fun y hy => (h.all y hy).tape ht hg⟩
theorem SRow.zl {w : World} {g M q : Nat} {l : List ZH} (h : SRow w g M l) (hM : M ≤ 100000) : ZLok w [] ⟨some ⟨g, 0, none⟩, M, q, l⟩ := by
  obtain ⟨cur, hf, hc⟩ := h.arr
  exact ⟨EAt.fb hf (by simp) hc, h.len, by show M ≤ _; omega, fun y hy => ⟨by
    rcases (h.all y hy).arg.lies with e | ⟨ad, e, hb, hc⟩
    · exact .inl e
    · exact .inr ⟨ad, e, ⟨hb, by simp⟩, hc⟩, (h.all y hy).arg.len, (h.all y hy).arg.ok⟩⟩
/-- The values climb in their row; the least solution stands. -/
structure Lse (w4 : World) (gV g1 N : Nat) (l1 l : List ZH) (u : World) : Prop where
  gx : GrX w4 [some gV] u
  sr : SRow u gV N l
  v1 : VRow u g1 N l1
  ne : g1 ≠ gV
section
variable {w4 u u' : World} {gV g1 N : Nat} {l1 l : List ZH}
theorem Lse.below (h : Lse w4 gV g1 N l1 l u) (hb : Below u.heap.size u u') : Lse w4 gV g1 N l1 l u' := ⟨h.gx.below hb, h.sr.below hb, h.v1.below hb, h.ne⟩
theorem Lse.put (h : Lse w4 gV g1 N l1 l u) {k : Nat} (hk : k < N) {z : ZH} (hz : Wd u z) : Lse w4 gV g1 N l1 (l.set k z) ((u.setCell ⟨gV, k * 2, none⟩ (.int .i64 z.W)).setCell ⟨gV, k * 2 + 1, none⟩ (.slice z.A z.n z.c)) :=
  ⟨(h.gx.step (setCell_grown u ⟨gV, k * 2, none⟩ _) (fun g e => .inl (by simp))).step (setCell_grown _ ⟨gV, k * 2 + 1, none⟩ _) (fun g e => .inl (by simp)), h.sr.put hk hz, h.v1.non2 h.ne h.sr hk, h.ne⟩
theorem Lse.sys (h : Lse w4 gV g1 N l1 l u) {s : SY} (hs : SYok w4 [some gV] s) : SYok u [some gV] s := hs.go (h.gx.go fun _ _ h => h)
theorem Lse.box (h : Lse w4 gV g1 N l1 l u) {b t : Nat} {cs : Array Value} (hb : Fb w4 b cs t) (hne : b ≠ gV) : Fb u b cs t := (h.gx.block b hb.lt (by simpa using hne)).trans hb
theorem Lse.bel (h : Lse w4 gV g1 N l1 l u) {w : World} (hb : Below w.heap.size w w4) (hg : w.heap.size ≤ gV) : Below w.heap.size w u :=
  ⟨h.gx.os.trans hb.os, h.gx.tape.trans hb.tape, h.gx.output.trans hb.output, Nat.le_trans hb.size h.gx.size, fun k hk => (h.gx.block k (by have := hb.size; omega) (by simp; omega)).trans (hb.block k hk)⟩
end
/-- The values in the midst of a round. -/
def Lv (v N : Nat) (x nx : List (List Nat)) (i : Nat) (l : List ZH) : Prop := ∀ (k : Nat) (z : ZH), l[k]? = some z → z.W = v ∧ Bs.Fit v z.ws ∧ z.ws = if k < i then orR v (at0 x k) (at0 nx k) else at0 x k
theorem Lv.start {v N : Nat} {l : List ZH} (h : ∀ z ∈ l, z.W = v ∧ Bs.Fit v z.ws) (nx : List (List Nat)) : Lv v N (l.map ZH.ws) nx 0 l := fun k z hz =>
  ⟨(h z (List.mem_of_getElem? hz)).1, (h z (List.mem_of_getElem? hz)).2, by rw [if_neg (by omega)]; exact (at0_get (by rw [List.getElem?_map, hz]; rfl)).symm⟩
theorem Lv.put {v N i : Nat} {x nx : List (List Nat)} {l : List ZH} (h : Lv v N x nx i l) {y z : ZH} (hi : l[i]? = some y) (hz : z.W = v ∧ Bs.Fit v z.ws) (he : z.ws = orR v y.ws (at0 nx i)) : Lv v N x nx (i + 1) (l.set i z) := fun k t ht => by
  by_cases hk : k = i
  · subst hk
    rw [List.getElem?_set_self (List.getElem?_eq_some_iff.1 hi).1] at ht
    obtain rfl := Option.some.inj ht
    have h1 := (h k y hi).2.2
    rw [if_neg (by omega)] at h1
    exact ⟨hz.1, hz.2, by rw [if_pos (by omega), he, h1]⟩
  · rw [List.getElem?_set_ne (by omega)] at ht
    obtain ⟨a, b, c⟩ := h k t ht
    refine ⟨a, b, ?_⟩
    by_cases h1 : k < i
    · rw [if_pos h1] at c; rw [if_pos (by omega)]; exact c
    · rw [if_neg h1] at c; rw [if_neg (by omega)]; exact c
theorem Lv.done {v N : Nat} {x nx : List (List Nat)} {l : List ZH} (h : Lv v N x nx N l) (hl : l.length = N) : l.map ZH.ws = orV v N x nx ∧ ∀ z ∈ l, z.W = v ∧ Bs.Fit v z.ws := by
  refine ⟨vals_ext (n := N) (by simp [hl]) (by simp [orV]) fun k hk => ?_, fun z hz => ?_⟩
  · obtain ⟨z, hz, -⟩ := get_at hl hk
    rw [show at0 (l.map ZH.ws) k = z.ws from at0_get (by rw [List.getElem?_map, hz]; rfl), orV, at0_map hk, (h k z hz).2.2, if_pos hk]
  · obtain ⟨k, hk⟩ := List.mem_iff_getElem?.1 hz
    exact ⟨(h k z hk).1, (h k z hk).2.1⟩
/-- The web of a valid system is in order. -/
theorem sy_in {s : SY} {v N : Nat} {w : World} {ex : List (Option Nat)} (hs : SYok w ex s) (ho : SOk s v N) : s.pw.In ∧ s.pw.Ok ∧ s.pw.n = N ∧ s.pw.v = v := by
  have hn : s.pw.n = N := by show (s.D.l.map _).length = N; rw [List.length_map, hs.d.len, ho.dn]
  have hv : s.pw.v = v := by show s.W.toNat = v; rw [ho.w]; simp
  refine ⟨fun l hl a ha => ?_, ⟨?_, fun z hz => ?_⟩, hn, hv⟩
  · obtain ⟨r, hr, rfl⟩ := List.mem_map.1 hl
    obtain ⟨m, hm, rfl⟩ := List.mem_map.1 ha
    rw [hn]
    have := (ho.d r hr).2 m hm
    show m.toNat < N
    omega
  · rw [hn]; show (s.B.l.map _).length = N; rw [List.length_map, hs.b.len, ho.bn]
  · obtain ⟨y, hy, rfl⟩ := List.mem_map.1 hz
    rw [hv]; exact (ho.b y hy).2
theorem pw_vals {s : SY} {v N : Nat} (hn : s.pw.n = N) (hv : s.pw.v = v) {l : List ZH} (hl : l.length = N) (h : ∀ z ∈ l, z.W = v ∧ Bs.Fit v z.ws) : s.pw.Vals (l.map ZH.ws) :=
  ⟨by rw [hn]; simpa using hl, fun z hz => by obtain ⟨y, hy, rfl⟩ := List.mem_map.1 hz; rw [hv]; exact (h y hy).2⟩
end Go.Proofs.Ytbjaebbmajhjjaa

namespace Go.Proofs.Ytbjaebbmajhjjaa
set_option maxRecDepth 10000
open Go.ChangeShapes Go.WideShapes Go.ChangeAt Go.RowKit

def GenAnyT (w : World) (T : Nat) (e : Ending) (w' : World) : Prop :=
  ∃ (W : Int) (ad : Addr) (n c : Nat) (ws : List Nat), e = .returned (.agg #[.int .i64 W, .slice (some ad) n c]) ∧ Wd w' ⟨W, some ad, n, c, ws⟩ ∧ Tape w' T ∧ w.grownBy w' (some T)
theorem Spoiled.doneT {w wr : World} {T b : Nat} {V : Int} {g n c : Nat} {ws : List Nat} (h : Spoiled w T b V g n c ws wr) (hT : T < w.heap.size) (hn : n ≤ 60) :
    GenAnyT w T (.returned (.agg #[.int .i64 V, .slice (some ⟨g, 0, none⟩) n c])) ((wr.setCell ⟨w.heap.size + 1, 0, none⟩ (.int .i64 V)).setCell ⟨w.heap.size + 1, 1, none⟩ (.slice (some ⟨g, 0, none⟩) n c)) := by
  obtain ⟨h1, h2, h3, h4, h5, h6, h7⟩ := h
  have hne := h5.own_ne h2
  have ho := own_far (own_far h2 hne 0 (.int .i64 V)) hne 1 (.slice (some ⟨g, 0, none⟩) n c)
  have hty := own_typ ho (g := g) rfl
  obtain ⟨A, c'', e, hat, hl⟩ := own_slice ho
  injection e with e1 e2 e3
  subst e1
  exact ⟨V, _, n, c, ws, rfl, ⟨⟨hat, by rw [← hl, words_len], h3⟩, ⟨_, rfl, hty⟩, hn⟩, (h6.far (by simp; omega) _).far (by simp; omega) _, grown_set_new (grown_set_new h7 (by simp) _) (by simp) _⟩
set_option maxHeartbeats 1600000 in
theorem spoilT_set (T : Nat) (W : Int) (ad : Addr) (n c : Nat) (ws : List Nat) (w : World) (ht : Tape w T) (hA : Arg w (some ad) n ws) (hn : n ≤ 50) (hW0 : 0 ≤ W) (hW1 : W ≤ 256) :
    Calls Try.prog 42 #[.pointer (some ⟨T, 0, none⟩), .agg #[.int .i64 W, .slice (some ad) n c]] w (GenAnyT w T) := by
  have hTl := ht.lt
  obtain ⟨i0, hi, hz0, hz1, hz2⟩ := info_parts info62'
  have Hi := hid hi; have Hz0 := hid hz0; have Hz1 := hid hz1; have Hz2 := hid hz2
  have HA := hid hA; have Ht := hid ht
  clear hA ht hi hz0 hz1 hz2
  go_enter Try.func42, Try.ntmps42
  go_upto_region 1 with fail
  go_cut [5] (fun s5 wc => ∃ b g c' : Nat, s5 = .pointer (some ⟨b, 0, none⟩) ∧ Hid (Spoiled w T b W g n c' ws wc))
  case first =>
    go_region_held3 (fun w' => w'.cell? ⟨w.heap.size, 0, none⟩ = some (.int .i64 W) ∧ w'.cell? ⟨w.heap.size, 1, none⟩ = some (.slice (some ad) n c))
      (first | go_keep | (refine ⟨?_, ?_⟩ <;> (rw [cell_farS _ (by omega), cell_farS _ (by omega)]; assumption)))
      (first
        | ((refine step_app (by rfl) _ _ 39 (by rfl) (w.heap.size + 1 + 1) 80 i0 _ 8 Try.underlying39 Hi.out Hz0.out Hz1.out Hz2.out rfl (w.heap.size + 1 + 1) 0 0 [] (by rfl)
              (by exact (ord1 w W (some ad) n c).1)
              ad n c (words ws) (by rfl) (by rw [words_len]; exact HA.out.len)
              (by exact HA.out.cells (ord1 w W (some ad) n c).2.2.2)
              (words_one ws) (by unfold maxLen; omega) (by omega) (by simp) ?_)
           intro g3 c3 w3 hown3 hgr3 hat3
           have hbx := (ord1 w W (some ad) n c).2.1.grown hgr3 (some_ne (by omega))
           have hbr := (ord1 w W (some ad) n c).2.2.1.grown hgr3 (some_ne (by omega))
           have hbw := after_app (ord1 w W (some ad) n c).2.2.2 hgr3 (by omega)
           have k0 := hbx.c0
           have k1 := hbx.c1
           have hown4 : w3.ownsRow (w.heap.size + 1 + 1) 80 1 (.slice (some ⟨g3, 0, none⟩) n c3) n (words ws) := (by simpa using hown3); have Hown3 := hid hown4; have hz3 := hbw.size; have hlt3 := hbr.lt; have Hbr := hid hbr; have Hbw := hid hbw
           clear hown3 hown4 hgr3 hbx hbr hbw)
        | ((refine step_app (by rfl) _ _ 39 (by rfl) (w.heap.size + 1 + 1) 80 i0 _ 8 Try.underlying39 Hi.out Hz0.out Hz1.out Hz2.out rfl (w.heap.size + 1 + 1) 0 0 [] (by rfl)
              (by exact (ord2 w W (some ad) n c).1)
              ad n c (words ws) (by rfl) (by rw [words_len]; exact HA.out.len)
              (by exact HA.out.cells (ord2 w W (some ad) n c).2.2.2.2)
              (words_one ws) (by unfold maxLen; omega) (by omega) (by simp) ?_)
           intro g3 c3 w3 hown3 hgr3 hat3
           have hbx := (ord2 w W (some ad) n c).2.1.grown hgr3 (some_ne (by omega))
           have hbr := (ord2 w W (some ad) n c).2.2.1.grown hgr3 (some_ne (by omega))
           have hb5 := (ord2 w W (some ad) n c).2.2.2.1.grown hgr3 (some_ne (by omega))
           have hbw := after_app (ord2 w W (some ad) n c).2.2.2.2 hgr3 (by omega)
           have k0 := hbx.c0
           have k1 := hbx.c1
           have k2 := hb5.c0
           have k3 := hb5.c1
           have k4 := hb5.f 0
           have k5 := hb5.f 1
           have Hb5 := hid hb5
           clear hb5
           have hown4 : w3.ownsRow (w.heap.size + 1 + 1) 80 1 (.slice (some ⟨g3, 0, none⟩) n c3) n (words ws) := (by simpa using hown3); have Hown3 := hid hown4; have hz3 := hbw.size; have hlt3 := hbr.lt; have Hbr := hid hbr; have Hbw := hid hbw
           clear hown3 hown4 hgr3 hbx hbr hbw)
        | ((refine step_app (by rfl) _ _ 39 (by rfl) (w.heap.size + 1 + 1) 80 i0 _ 8 Try.underlying39 Hi.out Hz0.out Hz1.out Hz2.out rfl (w.heap.size + 1 + 1 + 1) 0 0 [] (by rfl)
              (by exact (ord3 w W (some ad) n c).1)
              ad n c (words ws) (by rfl) (by rw [words_len]; exact HA.out.len)
              (by exact HA.out.cells (ord3 w W (some ad) n c).2.2.2.2)
              (words_one ws) (by unfold maxLen; omega) (by omega) (by simp) ?_)
           intro g3 c3 w3 hown3 hgr3 hat3
           have hbx := (ord3 w W (some ad) n c).2.1.grown hgr3 (some_ne (by omega))
           have hbr := (ord3 w W (some ad) n c).2.2.1.grown hgr3 (some_ne (by omega))
           have hb5 := (ord3 w W (some ad) n c).2.2.2.1.grown hgr3 (some_ne (by omega))
           have hbw := after_app (ord3 w W (some ad) n c).2.2.2.2 hgr3 (by omega)
           have k0 := hbx.c0
           have k1 := hbx.c1
           have k2 := hb5.c0
           have k3 := hb5.c1
           have k4 := hb5.f 0
           have k5 := hb5.f 1
           have Hb5 := hid hb5
           clear hb5
           have hown4 : w3.ownsRow (w.heap.size + 1 + 1) 80 1 (.slice (some ⟨g3, 0, none⟩) n c3) n (words ws) := (by simpa using hown3); have Hown3 := hid hown4; have hz3 := hbw.size; have hlt3 := hbr.lt; have Hbr := hid hbr; have Hbw := hid hbw
           clear hown3 hown4 hgr3 hbx hbr hbw)
        )
    · go_wp2_with fail
      go_meet
      exact ⟨_, g3, c3, rfl, hid ⟨Box.new _ _ _ _ _, Hown3.out.alloc _, HA.out.ok, by omega, Hbr.out.alloc _, (Ht.out.below Hbw.out hTl).alloc _, grown_of_below (Hbw.out.alloc hz3 _) _⟩⟩
    · go_wp2_with fail
      go_meet
      exact ⟨_, g3, c3, rfl, hid (Spoiled.store Hb5.out Hown3.out HA.out.ok (by omega) Hbr.out (Ht.out.below Hbw.out hTl) hTl (grown_of_below Hbw.out _))⟩
    · go_wp2_with fail
      go_meet
      exact ⟨_, g3, c3, rfl, hid (Spoiled.store Hb5.out Hown3.out HA.out.ok (by omega) Hbr.out (Ht.out.below Hbw.out hTl) hTl (grown_of_below Hbw.out _))⟩
  case rest =>
    obtain ⟨b, g, c', rfl, hS⟩ := hcut
    have htt := hS.out.2.2.2.2.2.1
    have Htt := hid htt
    clear htt HA Ht
    go_wp2_with fail
    refine (next_any T 4 _ Htt.out (by omega)).mono ?_
    rintro e w4 ⟨r4, rfl, h40, h41, ht4, hg4, hs4⟩
    have hS4 := hid (hS.out.tape hTl ht4 hg4)
    clear h41 ht4 hg4 hs4 hS Htt
    obtain ⟨⟨⟨x0, x1⟩, y0, y1⟩, ⟨⟨u0, u1⟩, v0, v1⟩, hne, hlen⟩ := hS4.out.vars
    have Hlen := hid hlen
    clear hlen
    by_cases c0 : r4 = 0
    · have t0 : (r4 == 0) = true := by simp [c0]
      clear c0
      go_wp2_with fail
      go_region_with (first
        | (go_at_call 16
           go_must (
           refine (next_any T 5 _ (by exact hS4.out.drew.2.2.2.2.2.1) (by omega)).mono ?_
           rintro e w5 ⟨r5, rfl, h50, h51, ht5, hg5, hs5⟩
           have hr5 : r5 < 5 := (by omega)
           have hS5 := hid (hS4.out.drew.tape hTl ht5 hg5)
           have hS6 := hid (hS5.out.width hTl (W + (r5 - 2)))
           obtain ⟨⟨⟨x0, x1⟩, y0, y1⟩, ⟨⟨u0, u1⟩, v0, v1⟩, hne, hlen⟩ := hS5.out.vars
           clear h51 ht5 hg5 hs5 hlen)))
      all_goals
        obtain ⟨_, ⟨⟨z0, z1⟩, _⟩, _⟩ := hS6.out.vars
        go_wp2_with fail
        exact bodyPost_ret (v := .agg #[.int .i64 (W + (r5 - 2)), .slice (some ⟨g, 0, none⟩) n c']) (by simp [results, Try.results42, go_sem, z0, z1]) rfl (hS6.out.doneT hTl (by omega))
    · have t0 : (r4 == 0) = false := by simp [c0]
      clear c0
      by_cases c1 : r4 = 1
      · have t1 : (r4 == 1) = true := by simp [c1]
        clear c1
        go_wp2_with fail
        go_region_law (first
          | ((refine step_app (by rfl) _ _ 39 (by rfl) (w.heap.size + 1 + 1) 80 i0 _ 8 Try.underlying39 Hi.out Hz0.out Hz1.out Hz2.out rfl g n c' (words ws) (by rfl)
                (by exact (hS5.out.alloc _).2.1)
                ⟨w5.heap.size, 0, none⟩ 1 1 [.int .u64 (IntKind.u64.wrap (k5 : Int))] (by rfl) rfl (by exact new_one _ _ _) (one_int _ _) (by unfold maxLen; omega) (by omega) (by have := own_ge hS5.out.2.1; simp only [World.size_alloc]; omega) ?_)
             intro g3 c3 w3 hown3 hgr3 hat3
             rw [words_snoc _ _ (by omega)] at hown3
             have hq := hS5.out.alloc (.cells #[.int .u64 (IntKind.u64.wrap (k5 : Int))] 80)
             have hqo := hq.1.own_ne hq.2.1
             have hqg := own_ge hS5.out.2.1
             have hbx3 := hq.1.grown hgr3 (some_ne (by omega))
             have hbr3 := hq.2.2.2.2.1.grown hgr3 (some_ne (by omega))
             have htp3 : Tape w3 T := hq.2.2.2.2.2.1.keep (fun k hk => hgr3.block k (by have := hq.2.2.2.2.2.1.lt; omega) (some_ne (by omega)))
             have hgw3 : w.grownBy w3 (some T) := ⟨hgr3.os.trans hq.2.2.2.2.2.2.os, hgr3.tape.trans hq.2.2.2.2.2.2.tape, hgr3.output.trans hq.2.2.2.2.2.2.output, Nat.le_trans hq.2.2.2.2.2.2.size hgr3.size, fun i hi hi2 => (hgr3.block i (by have := hq.2.2.2.2.2.2.size; omega) (some_ne (by omega))).trans (hq.2.2.2.2.2.2.block i hi hi2)⟩
             have hS6 := hid (Spoiled.slice (ws' := ws ++ [k5]) hbx3 hown3 (by intro x hx; rcases List.mem_append.1 hx with h | h; exact hq.2.2.1 x h; simp at h; subst h; unfold Bs.W64; omega) hq.2.2.2.1 hbr3 htp3 hTl hgw3)
             have x0 := hbx3.c0
             have x1 := hbx3.c1
             have y1 := hbx3.f 1
             obtain ⟨_, ⟨⟨z0, z1⟩, z2, z3⟩, z4, _⟩ := hS6.out.vars
             have u0 := hbr3.c0
             have u1 := hbr3.c1
             have v0 := hbr3.f 0
             have v1 := hbr3.f 1
             clear hown3 hgr3 hq hbx3 hbr3 htp3 hgw3)
          | (go_simp
             go_at_call 16
             go_must (
             refine (next_any T 2 _ (by exact hS4.out.drew.2.2.2.2.2.1) (by omega)).mono ?_
             rintro e w5 ⟨r5, rfl, h50, h51, ht5, hg5, hs5⟩
             obtain ⟨k5, rfl⟩ := Int.eq_ofNat_of_zero_le h50
             have hr5 : k5 < 2 := (by omega)
             have hS5 := hid (hS4.out.drew.tape hTl ht5 hg5)
             have hbl5 := hS5.out.1.lt
             obtain ⟨⟨⟨x0, x1⟩, y0, y1⟩, ⟨⟨u0, u1⟩, v0, v1⟩, hne, hlen⟩ := hS5.out.vars
             clear h51 ht5 hg5 hs5 hlen)))
        all_goals
          go_wp2_with fail
          exact bodyPost_ret (v := .agg #[.int .i64 W, .slice (some ⟨g3, 0, none⟩) (n + 1) c3]) (by simp [results, Try.results42, go_sem, z0, z1]) rfl (hS6.out.doneT hTl (by omega))
      · have t1 : (r4 == 1) = false := by simp [c1]
        clear c1
        by_cases c2 : r4 = 2
        · have t2 : (r4 == 2) = true := by simp [c2]
          clear c2
          by_cases hn0 : 0 < n
          · obtain ⟨m, rfl⟩ : ∃ m, n = m + 1 := ⟨n - 1, by omega⟩
            have hj : m < m + 1 := by omega
            obtain ⟨⟨q0, q1⟩, q2, q3⟩ := hS4.out.atWord hj
            generalize hx : Bs.wd ws m = x at q0 q2
            have Hx := hid hx; have Q2 := hid q2
            clear hx q2
            have hwr : IntKind.i64.wrap (m : Int) = m := IntWalk.i64_in _ (by omega)
            have hm0 : (0 : Int) ≤ m := by omega
            have hm1 : (m : Int).toNat = m := by omega
            have hm2 : (m : Int) < (m : Int) + 1 := by omega
            go_wp2_with fail
            go_region_with (first
              | (go_at_call 16
                 go_must (
                 refine (next_any T 64 _ (by exact hS4.out.drew.2.2.2.2.2.1) (by omega)).mono ?_
                 rintro e w5 ⟨r5, rfl, h50, h51, ht5, hg5, hs5⟩
                 obtain ⟨k5, rfl⟩ := Int.eq_ofNat_of_zero_le h50
                 have hr5 : k5 < 64 := (by omega)
                 have hS5 := hid (hS4.out.drew.tape hTl ht5 hg5)
                 obtain ⟨⟨⟨x0, x1⟩, y0, y1⟩, ⟨⟨u0, u1⟩, v0, v1⟩, hne, hlen⟩ := hS5.out.vars
                 obtain ⟨⟨q0, q1⟩, q2, q3⟩ := hS5.out.atWord hj
                 rw [Hx.out] at q0
                 have hS6 := hid (hS5.out.word hTl m (x ||| 2 ^ k5) (Nat.or_lt_two_pow (n := 64) Q2.out (Nat.pow_lt_pow_right (by decide) hr5)))
                 have hw6 : IntKind.u64.wrap (2 ^ min (IntKind.u64.wrap (k5 : Int)).toNat 64) = IntKind.u64.wrap (2 ^ k5) := (by rw [wrap_small k5 hr5, Int.toNat_natCast, Nat.min_eq_left (by omega)])
                 have hw7 : bits BinOp.or IntKind.u64 (x : Int) (IntKind.u64.wrap (2 ^ min (IntKind.u64.wrap (k5 : Int)).toNat 64)) = ((x ||| 2 ^ k5 : Nat) : Int) := (by rw [hw6]; exact or_bit x k5 Q2.out hr5)
                 have Hw7 := hid hw7
                 clear h51 ht5 hg5 hs5 hlen q2 hw6 hw7)))
            all_goals
              rw [Hw7.out]
              obtain ⟨⟨⟨x0, x1⟩, y0, y1⟩, ⟨⟨z0, z1⟩, z2, z3⟩, hne, hlen⟩ := hS6.out.vars
              have Hlen6 := hid hlen
              clear hlen
              go_wp2_with fail
              exact bodyPost_ret (v := .agg #[.int .i64 W, .slice (some ⟨g, 0, none⟩) (m + 1) c']) (by simp [results, Try.results42, go_sem, z0, z1]) rfl (hS6.out.doneT hTl (by omega))
          · have t3 : decide (0 < (n : Int)) = false := by simp; omega
            go_wp2_with fail
            exact bodyPost_ret (v := .agg #[.int .i64 W, .slice (some ⟨g, 0, none⟩) n c']) (by simp [results, Try.results42, go_sem, u0, u1]) rfl (hS4.out.doneT hTl (by omega))
        · have t2 : (r4 == 2) = false := by simp [c2]
          clear c2
          go_wp2_with fail
          refine (next_any T 4 _ (hS4.out.alloc _).2.2.2.2.2.1 (by omega)).mono ?_
          rintro e w5 ⟨r5, rfl, h50, h51, ht5, hg5, hs5⟩
          obtain ⟨v, hv⟩ : ∃ v : Int, w5.cell? ⟨w4.heap.size, r5.toNat, none⟩ = some (.int .i64 v) := by
            have hh := heap_alloc_new w4 (Obj.cells #[.int .i64 (-1), .int .i64 257, .int .i64 320, .int .i64 0] 3)
            have hblk := hg5.block w4.heap.size (by rw [World.size_alloc]; omega) (some_ne (by have := hS4.out.2.2.2.2.2.1.lt; omega))
            rw [hh] at hblk
            have h4 : r5 = 0 ∨ r5 = 1 ∨ r5 = 2 ∨ r5 = 3 := by omega
            rcases h4 with rfl | rfl | rfl | rfl
            · exact ⟨-1, by simp [World.cell?, hblk]⟩
            · exact ⟨257, by simp [World.cell?, hblk]⟩
            · exact ⟨320, by simp [World.cell?, hblk]⟩
            · exact ⟨0, by simp [World.cell?, hblk]⟩
          have hr5 : r5 < 4 := by omega
          have hS5 := hid ((hS4.out.alloc _).tape hTl ht5 hg5)
          have hS6 := hid (hS5.out.width hTl v)
          obtain ⟨⟨⟨x0, x1⟩, y0, y1⟩, ⟨⟨u0, u1⟩, v0, v1⟩, hne, hlen⟩ := hS5.out.vars
          obtain ⟨_, ⟨⟨z0, z1⟩, _⟩, _⟩ := hS6.out.vars
          clear h51 ht5 hg5 hs5 hlen
          go_wp2_with fail
          exact bodyPost_ret (v := .agg #[.int .i64 v, .slice (some ⟨g, 0, none⟩) n c']) (by simp [results, Try.results42, go_sem, z0, z1]) rfl (hS6.out.doneT hTl (by omega))
end Go.Proofs.Ytbjaebbmajhjjaa

namespace Go.Proofs.Ytbjaebbmajhjjaa
set_option maxRecDepth 20000
set_option linter.unusedVariables false
set_option linter.unusedSimpArgs false
open Go.ChangeShapes Go.WideShapes Go.ChangeAt Go.RowKit

/-- What the operations of 'v[t.Next(len(v))] = t.Set(s.Width + 1)' leave. -/
def vlF (w : World) (T gV N q v : Nat) : Nat → Value → World → Prop
  | 0, x, _ => x = .slice (some ⟨gV, 0, none⟩) N q
  | 1, x, _ => x = .pointer (some ⟨T, 0, none⟩)
  | 2, x, _ => x = .slice (some ⟨gV, 0, none⟩) N q
  | 3, x, _ => x = .int .i64 (N : Int)
  | 4, x, _ => ∃ r : Nat, x = .int .i64 (r : Int) ∧ r < N
  | 5, x, _ => x = .pointer (some ⟨T, 0, none⟩)
  | 6, x, _ => x = .pointer (some ⟨w.heap.size, 0, none⟩)
  | 7, x, _ => x = .int .i64 (v : Int)
  | 8, x, _ => x = .int .i64 ((v + 1 : Nat) : Int)
  | 9, x, u => ∃ (g : Nat) (ws : List Nat), x = .agg #[.int .i64 ((v + 1 : Nat) : Int), .slice (some ⟨g, 0, none⟩) (Bs.nw (v + 1)) (Bs.nw (v + 1))] ∧ Row u g ws ∧ Bs.Fit (v + 1) ws
  | _, _, _ => True
theorem vlF_st {w : World} {T gV N q v : Nat} (j : Nat) (u u' : World) (i : Nat) (x : Value) (hR : Stp1 59 u u') (hne : i ≠ j) (hu : (none : Option Nat) ≠ some j) (h : vlF w T gV N q v i x u) : vlF w T gV N q v i x u' := by
  match i, h with
  | 0, h => exact h
  | 1, h => exact h
  | 2, h => exact h
  | 3, h => exact h
  | 4, h => exact h
  | 5, h => exact h
  | 6, h => exact h
  | 7, h => exact h
  | 8, h => exact h
  | 9, h => obtain ⟨g, ws, h1, h2, h3⟩ := h; exact ⟨g, ws, h1, hR.row h2 (by decide), h3⟩
  | i + 10, h => trivial
set_option maxHeartbeats 12800000 in
theorem values_any (T : Nat) (s : SY) (v N : Nat) (w : World) (ht : Tape w T) (hW : s.W = v) (hv : v ≤ 255) (hbn : s.B.n = N) (hN1 : 1 ≤ N) (hN : N ≤ 100) :
    Calls Try.prog 20 #[.pointer (some ⟨T, 0, none⟩), s.a] w (RetVal w T N) := by
  obtain ⟨iB, hi, hz0, hz1, hz2⟩ := info_parts info41
  have HIB := hid hi; have HB0 := hid hz0; have HB1 := hid hz1; have HB2 := hid hz2
  clear hi hz0 hz1 hz2
  have hTl := ht.lt
  have H0 := hid (show Vz w T s v (.slice none 0 0) [] (w.alloc (.cells s.box 27)) from
    ⟨Fb.new _ _ _, ht.below ((Below.refl w.heap.size w).alloc (Nat.le_refl _) _) hTl, hTl, grown_of_below ((Below.refl w.heap.size w).alloc (Nat.le_refl _) _) _, World.ownsRow_nil _ _ _ _, by simp⟩)
  clear ht
  unfold SY.a
  rw [hW, hbn]
  unfold SY.box at H0
  rw [hW, hbn] at H0
  go_enter Try.func20, Try.ntmps20
  go_wp2_with fail
  generalize w.alloc (.cells #[.int .i64 v, .slice s.D.A s.D.n s.D.c, .slice s.T.A s.T.n s.T.c, .slice s.B.A N s.B.c] 27) = w1 at *
  go_loopw [5, 6] (fun a iv wr => ∃ (i : Nat) (l : List ZH) (Av : Option Addr) (cv : Nat), i ≤ N ∧ a = .slice Av i cv ∧ iv = .int .i64 i ∧ Hid (l.length = i) ∧ Hid (Vz w T s v (.slice Av i cv) l wr)) (fun _ iv _ => N - (intOf iv).toNat)
  case atStart => exact ⟨0, [], none, 0, by omega, rfl, rfl, hid rfl, H0⟩
  case round =>
    clear H0
    obtain ⟨i, l, Av, cv, hi, rfl, rfl, HL, HV⟩ := hrel
    obtain ⟨c0, c1, c2, c3⟩ := (show Fb wr w.heap.size #[.int .i64 v, .slice s.D.A s.D.n s.D.c, .slice s.T.A s.T.n s.T.c, .slice s.B.A N s.B.c] _ from by have := HV.out.bx; unfold SY.box at this; rwa [hW, hbn] at this).four
    by_cases hlt : i < N
    · go_wp2_with fail
      refine (set3_any T v wr HV.out.tp (by omega)).mono ?_
      rintro e w5 ⟨g5, ws, rfl, hf5, hr5, -, ht5, hg5⟩
      have hV5 := HV.out.tape ht5 hg5
      have hba := (Below.refl w5.heap.size w5).alloc (Nat.le_refl _) (.cells #[.int .i64 v, .slice (some ⟨g5, 0, none⟩) (Bs.nw v) (Bs.nw v)] 41)
      have HV6 := hid (hV5.below hba)
      have HF6 := hid (Fb.new w5 #[.int .i64 v, .slice (some ⟨g5, 0, none⟩) (Bs.nw v) (Bs.nw v)] 41)
      have HWd := hid (show Wd (w5.alloc (.cells #[.int .i64 v, .slice (some ⟨g5, 0, none⟩) (Bs.nw v) (Bs.nw v)] 41)) ⟨v, some ⟨g5, 0, none⟩, Bs.nw v, Bs.nw v, ws⟩ by
        have := Wd.row (W := (v : Int)) (c := Bs.nw v) (hr5.below hba hr5.lt) hf5.ok (by rw [hf5.len]; unfold Bs.nw; omega)
        rwa [hf5.len] at this)
      have hll := HL.out
      have hbs : w.heap.size + 1 ≤ (w5.alloc (.cells #[.int .i64 v, .slice (some ⟨g5, 0, none⟩) (Bs.nw v) (Bs.nw v)] 41)).heap.size := by have := HV6.out.bx.lt; omega
      clear hf5 hr5 ht5 hg5 hV5 hba HV c0 c1 c2 c3
      go_wp2_with (first
        | (at_builtin
           refine wpList_append_lies _ rfl _ _ 25 rfl (w.heap.size + 1) 41 iB _ 2 32 Try.underlying25 HIB.out HB0.out HB1.out HB2.out rfl (by decide) _ l.length (l.flatMap ZH.cs) rfl HV6.out.ow ⟨w5.heap.size, 0, none⟩ 1 1 [.int .i64 v, .slice (some ⟨g5, 0, none⟩) (Bs.nw v) (Bs.nw v)] rfl rfl (fun j x hx => World.news_of_block HF6.out j x hx) (one_zcs ⟨v, some ⟨g5, 0, none⟩, Bs.nw v, Bs.nw v, ws⟩) (by omega) (by unfold maxLen; omega) (by omega) hbs _ rfl ?_
           intro g9 q9 w9 hown hgr hat _
           have HV9 := hid (HV6.out.push (y := ⟨v, some ⟨g5, 0, none⟩, Bs.nw v, Bs.nw v, ws⟩) rfl rfl HWd.out hgr hown)
           clear hown hgr hat))
      rw [hll] at HV9
      go_roundw
      case rel => exact ⟨i + 1, _, _, _, by omega, rfl, by go_num, hid (by rw [List.length_append, hll]; rfl), HV9⟩
      case measure => simp [intOf]; omega
    · have eN : N = i := by omega
      subst eN
      have hll := HL.out
      obtain ⟨gV, rfl⟩ : ∃ gV, Av = some ⟨gV, 0, none⟩ := by
        obtain ⟨gV, c, e, _⟩ := HV.out.ow.form (by omega)
        injection e with e1
        exact ⟨gV, e1⟩
      go_wp2_with fail
      refine (next_any T 8 wr HV.out.tp (by omega)).mono ?_
      rintro e w2 ⟨r, rfl, h0, h1, ht2, hg2, -⟩
      have HV2 := hid (HV.out.tape ht2 hg2)
      clear ht2 hg2 HV c0 c1 c2 c3
      obtain ⟨c0, c1, c2, c3⟩ := (show Fb w2 w.heap.size #[.int .i64 v, .slice s.D.A s.D.n s.D.c, .slice s.T.A s.T.n s.T.c, .slice s.B.A N s.B.c] _ from by have := HV2.out.bx; unfold SY.box at this; rwa [hW, hbn] at this).four
      by_cases e1 : r = 1
      · subst e1
        go_wp2_with fail
        refine (set3_any T v w2 HV2.out.tp (by omega)).mono ?_
        rintro e w5 ⟨g5, ws, rfl, hf5, hr5, -, ht5, hg5⟩
        have hV5 := HV2.out.tape ht5 hg5
        have hba := (Below.refl w5.heap.size w5).alloc (Nat.le_refl _) (.cells #[.int .i64 v, .slice (some ⟨g5, 0, none⟩) (Bs.nw v) (Bs.nw v)] 41)
        have HV6 := hid (hV5.below hba)
        have HF6 := hid (Fb.new w5 #[.int .i64 v, .slice (some ⟨g5, 0, none⟩) (Bs.nw v) (Bs.nw v)] 41)
        have HWd := hid (show Wd (w5.alloc (.cells #[.int .i64 v, .slice (some ⟨g5, 0, none⟩) (Bs.nw v) (Bs.nw v)] 41)) ⟨v, some ⟨g5, 0, none⟩, Bs.nw v, Bs.nw v, ws⟩ by
          have := Wd.row (W := (v : Int)) (c := Bs.nw v) (hr5.below hba hr5.lt) hf5.ok (by rw [hf5.len]; unfold Bs.nw; omega)
          rwa [hf5.len] at this)
        have hbs : w.heap.size + 1 ≤ (w5.alloc (.cells #[.int .i64 v, .slice (some ⟨g5, 0, none⟩) (Bs.nw v) (Bs.nw v)] 41)).heap.size := by have := HV6.out.bx.lt; omega
        clear hf5 hr5 ht5 hg5 hV5 hba HV2 h0 h1 c0 c1 c2 c3
        go_wp2_with (first
          | (at_builtin
             refine wpList_append_lies _ rfl _ _ 25 rfl (w.heap.size + 1) 41 iB _ 2 32 Try.underlying25 HIB.out HB0.out HB1.out HB2.out rfl (by decide) _ l.length (l.flatMap ZH.cs) rfl HV6.out.ow ⟨w5.heap.size, 0, none⟩ 1 1 [.int .i64 v, .slice (some ⟨g5, 0, none⟩) (Bs.nw v) (Bs.nw v)] rfl rfl (fun j x hx => World.news_of_block HF6.out j x hx) (one_zcs ⟨v, some ⟨g5, 0, none⟩, Bs.nw v, Bs.nw v, ws⟩) (by omega) (by unfold maxLen; omega) (by omega) hbs _ rfl ?_
             intro g9 q9 w9 hown hgr hat _
             have HV9 := hid (HV6.out.push (y := ⟨v, some ⟨g5, 0, none⟩, Bs.nw v, Bs.nw v, ws⟩) rfl rfl HWd.out hgr hown)
             clear hown hgr hat))
        rw [hll] at HV9
        have HFin := hid (HV9.out.done (N := N) (M := N + 1) (by rw [List.length_append, hll]; rfl) (.inr rfl))
        go_wp2_with fail
        exact bodyPost_ret (v := .slice (some ⟨g9, 0, none⟩) (N + 1) q9) (by simp [results, Try.results20, go_sem]) rfl HFin.out
      · have t1 : (r == 1) = false := by simp [e1]
        by_cases e2 : r = 2
        · subst e2
          go_upto_region 10 with fail
          rename_i Kx hKx
          have HV := hid HV2.out
          clear HV2 h0 h1 c0 c1 c2 c3 e1 t1
          refine wp_region_factsG (fun _ _ => True) (vlF w T gV N cv v) (Vz w T s v (.slice (some ⟨gV, 0, none⟩) N cv) l) (fun _ => none) (fun _ => Stp1 59) Kx (fun _ _ h => h) 12 10 [some 34, some 35, some 36, some 37, some 38, some 39, some 40, some 41, some 42, some 43, some 44, none] (by kernel_rfl) (by kernel_rfl) (by kernel_rfl) (by kernel_rfl) (by kernel_rfl) (by kernel_rfl) (by decide)
            vlF_st ?bs (fun _ => trivial) (fun _ _ _ _ _ _ _ => trivial) ?ar ?en
          case bs => exact HV.out.below (Below.refl _ _).drew
          case ar =>
            intro j o f u ho hi hB _ hpre K hK
            match j, ho, hpre, hK with
            | 0, ho, hpre, hK =>
              obtain rfl := Option.some.inj ho
              refine wpOp_step rfl fun K' hK' => ?_
              simp only [putL, updV]
              go_simp
              have hz := hK' _ _ (hK (.slice (some ⟨gV, 0, none⟩) N cv) (u) (hB) (Stp1.refl _ _) (rfl))
              refine Eq.mp (congrArg (fun a => K' a (u)) ?_) hz
              kernel_rfl
            | 1, ho, hpre, hK =>
              obtain rfl := Option.some.inj ho
              refine wpOp_step rfl fun K' hK' => ?_
              simp only [putL, updV]
              go_simp
              have hz := hK' _ _ (hK (.pointer (some ⟨T, 0, none⟩)) (u) (hB) (Stp1.refl _ _) (rfl))
              refine Eq.mp (congrArg (fun a => K' a (u)) ?_) hz
              kernel_rfl
            | 2, ho, hpre, hK =>
              obtain rfl := Option.some.inj ho
              refine wpOp_step rfl fun K' hK' => ?_
              simp only [putL, updV]
              go_simp
              have hz := hK' _ _ (hK (.slice (some ⟨gV, 0, none⟩) N cv) (u) (hB) (Stp1.refl _ _) (rfl))
              refine Eq.mp (congrArg (fun a => K' a (u)) ?_) hz
              kernel_rfl
            | 3, ho, hpre, hK =>
              obtain rfl := Option.some.inj ho
              have e2 : f 2 = .slice (some ⟨gV, 0, none⟩) N cv := hpre ⟨2, .data⟩ (by simp) rfl (.inl rfl)
              obtain ⟨f, rfl⟩ := fixG f 2 _ e2
              clear e2
              refine wpOp_step rfl fun K' hK' => ?_
              simp only [putL, updV]
              go_simp
              have hz := hK' _ _ (hK (.int .i64 (N : Int)) (u) (hB) (Stp1.refl _ _) (rfl))
              refine Eq.mp (congrArg (fun a => K' a (u)) ?_) hz
              kernel_rfl
            | 4, ho, hpre, hK =>
              obtain rfl := Option.some.inj ho
              have e1 : f 1 = .pointer (some ⟨T, 0, none⟩) := hpre ⟨1, .data⟩ (by simp) rfl (.inl rfl)
              have e3 : f 3 = .int .i64 (N : Int) := hpre ⟨3, .data⟩ (by simp) rfl (.inl rfl)
              obtain ⟨f, rfl⟩ := fixG f 1 _ e1
              rw [updV_ne _ _ (by decide)] at e3
              obtain ⟨f, rfl⟩ := fixG f 3 _ e3
              clear e1 e3
              refine wpOp_step rfl fun K' hK' => ?_
              simp only [putL, updV]
              go_simp
              go_at_call 16
              refine (next_any T N u hB.tp (by omega)).mono ?_
              rintro e u5 ⟨r5, rfl, h50, h51, ht5, hg5, hs5⟩
              obtain ⟨r, rfl⟩ := Int.eq_ofNat_of_zero_le h50
              have hr : r < N := by omega
              have hz := hK' _ _ (hK (.int .i64 (r : Int)) (u5) (hB.tape ht5 hg5) (stp_tape hB.tp hg5) (⟨r, rfl, hr⟩))
              refine Eq.mp (congrArg (fun a => K' a (u5)) ?_) hz
              kernel_rfl
            | 5, ho, hpre, hK =>
              obtain rfl := Option.some.inj ho
              refine wpOp_step rfl fun K' hK' => ?_
              simp only [putL, updV]
              go_simp
              have hz := hK' _ _ (hK (.pointer (some ⟨T, 0, none⟩)) (u) (hB) (Stp1.refl _ _) (rfl))
              refine Eq.mp (congrArg (fun a => K' a (u)) ?_) hz
              kernel_rfl
            | 6, ho, hpre, hK =>
              obtain rfl := Option.some.inj ho
              refine wpOp_step rfl fun K' hK' => ?_
              simp only [putL, updV]
              go_simp
              have hz := hK' _ _ (hK (.pointer (some ⟨w.heap.size, 0, none⟩)) (u) (hB) (Stp1.refl _ _) (rfl))
              refine Eq.mp (congrArg (fun a => K' a (u)) ?_) hz
              kernel_rfl
            | 7, ho, hpre, hK =>
              obtain rfl := Option.some.inj ho
              obtain ⟨c0, c1, c2, c3⟩ := (show Fb u w.heap.size #[.int .i64 s.W, .slice s.D.A s.D.n s.D.c, .slice s.T.A s.T.n s.T.c, .slice s.B.A s.B.n s.B.c] _ from hB.bx).four
              have hlt := hB.bx.lt
              have e6 : f 6 = .pointer (some ⟨w.heap.size, 0, none⟩) := hpre ⟨6, .data⟩ (by simp) rfl (.inl rfl)
              obtain ⟨f, rfl⟩ := fixG f 6 _ e6
              clear e6
              refine wpOp_step rfl fun K' hK' => ?_
              simp only [putL, updV]
              go_simp
              have hz := hK' _ _ (hK (.int .i64 (v : Int)) (u) (hB) (Stp1.refl _ _) (rfl))
              refine Eq.mp (congrArg (fun a => K' a (u)) ?_) hz
              kernel_rfl
            | 8, ho, hpre, hK =>
              obtain rfl := Option.some.inj ho
              have e7 : f 7 = .int .i64 (v : Int) := hpre ⟨7, .data⟩ (by simp) rfl (.inl rfl)
              obtain ⟨f, rfl⟩ := fixG f 7 _ e7
              clear e7
              have hwr : IntKind.i64.wrap ((v : Int) + 1) = (v : Int) + 1 := IntWalk.i64_in _ (by omega)
              refine wpOp_step rfl fun K' hK' => ?_
              simp only [putL, updV]
              go_simp
              try rw [hwr]
              have hz := hK' _ _ (hK (.int .i64 ((v + 1 : Nat) : Int)) (u) (hB) (Stp1.refl _ _) (rfl))
              refine Eq.mp (congrArg (fun a => K' a (u)) ?_) hz
              kernel_rfl
            | 9, ho, hpre, hK =>
              obtain rfl := Option.some.inj ho
              have e5 : f 5 = .pointer (some ⟨T, 0, none⟩) := hpre ⟨5, .data⟩ (by simp) rfl (.inl rfl)
              have e8 : f 8 = .int .i64 ((v + 1 : Nat) : Int) := hpre ⟨8, .data⟩ (by simp) rfl (.inl rfl)
              obtain ⟨f, rfl⟩ := fixG f 5 _ e5
              rw [updV_ne _ _ (by decide)] at e8
              obtain ⟨f, rfl⟩ := fixG f 8 _ e8
              clear e5 e8
              refine wpOp_step rfl fun K' hK' => ?_
              simp only [putL, updV]
              go_simp
              go_at_call 18
              refine (set3_any T (v + 1) u hB.tp (by omega)).mono ?_
              rintro e u5 ⟨g5, ws, rfl, hf5, hr5, -, ht5, hg5⟩
              have hz := hK' _ _ (hK (.agg #[.int .i64 ((v + 1 : Nat) : Int), .slice (some ⟨g5, 0, none⟩) (Bs.nw (v + 1)) (Bs.nw (v + 1))]) (u5) (hB.tape ht5 hg5) (stp_tape hB.tp hg5) (⟨g5, ws, rfl, hr5, hf5⟩))
              refine Eq.mp (congrArg (fun a => K' a (u5)) ?_) hz
              kernel_rfl
            | j + 10, ho, hpre, hK => exact absurd hi (by omega)
          case en =>
            intro Q2 hQ2 f u hB hF
            have e0 : f 0 = .slice (some ⟨gV, 0, none⟩) N cv := hF 0 (by decide) rfl
            obtain ⟨r, e4, hr⟩ := hF 4 (by decide) rfl
            obtain ⟨g9, ws, e9, r9, f9⟩ := hF 9 (by decide) rfl
            have hwd : Wd u ⟨((v + 1 : Nat) : Int), some ⟨g9, 0, none⟩, Bs.nw (v + 1), Bs.nw (v + 1), ws⟩ := by
              have := Wd.row (W := ((v + 1 : Nat) : Int)) (c := Bs.nw (v + 1)) r9 f9.ok (by rw [f9.len]; unfold Bs.nw; omega)
              rwa [f9.len] at this
            have HFin := hid (hB.put (N := N) HL.out (.inl rfl) hr hwd)
            have HS := SRow.own (show u.ownsRow (w.heap.size + 1) 41 2 (.slice (some ⟨gV, 0, none⟩) N cv) N (l.flatMap ZH.cs) by have := hB.ow; rwa [HL.out] at this) HL.out (fun y hy => (hB.wd y hy).2.2)
            obtain ⟨z, hz, -⟩ := get_at HL.out hr
            obtain ⟨x0, x1⟩ := HS.cells hz
            have f0 := HS.frozen (r * 2)
            have f1 := HS.frozen (r * 2 + 1)
            have hl := HS.lt
            have k0 : (0 : Int) ≤ r := by omega
            have k1 : (r : Int) < N := by omega
            have k2 : (r : Int).toNat = r := by omega
            obtain ⟨f, rfl⟩ := fixG f 0 _ e0
            rw [updV_ne _ _ (by decide)] at e4 e9
            obtain ⟨f, rfl⟩ := fixG f 4 _ e4
            rw [updV_ne _ _ (by decide)] at e9
            obtain ⟨f, rfl⟩ := fixG f 9 _ e9
            clear hF r9 f9 e0 e4 e9 hB HS hwd hz
            show wpAny _ _ _ _ 2 (tailArr 12 10) _ _
            generalize hA : putL _ _ _ _ = aa
            refine tail_two (i := 10) (j := 11) ?q1 ?q2 ?q3 rfl rfl hQ2 ?q4
            case q1 => kernel_rfl
            case q2 => kernel_rfl
            case q3 => kernel_rfl
            simp only [putL, updV] at hA
            rw [← hA]
            clear hA
            go_simp
            refine hKx _ _ ?_
            clear k0 k1 k2
            go_wp2_with fail
            exact bodyPost_ret (v := .slice (some ⟨gV, 0, none⟩) N cv) (by simp [results, Try.results20, go_sem]) rfl HFin.out
        · have t2 : (r == 2) = false := by simp [e2]
          by_cases e3 : r = 3
          · subst e3
            have HS := SRow.own (show w2.ownsRow (w.heap.size + 1) 41 2 (.slice (some ⟨gV, 0, none⟩) N cv) N (l.flatMap ZH.cs) by have := HV2.out.ow; rwa [hll] at this) hll (fun y hy => (HV2.out.wd y hy).2.2)
            obtain ⟨z, hz, hzm⟩ := get_at hll hN1
            obtain ⟨hzW, hzn, hzd⟩ := HV2.out.wd z hzm
            obtain ⟨x0, x1⟩ := HS.cells hz
            obtain ⟨ad, hzA, -⟩ := hzd.typ
            have hza := hzd.arg
            obtain ⟨ZW, ZA, zn, zc, zs⟩ := z
            simp only at hzW hzn hzA hza x0 x1
            subst hzW
            subst hzA
            have y0 : w2.cell? ⟨gV, 0, none⟩ = some (.int .i64 v) := x0
            have y1 : w2.cell? ⟨gV, 1, none⟩ = some (.slice (some ad) zn zc) := x1
            have HSp := hid (spoilT_set T v ad zn zc zs w2 HV2.out.tp hza (by rw [hzn]; unfold Bs.nw; omega) (by omega) (by omega))
            have hz0 : (0 : Int) < N := by omega
            clear HS hz hzm hzd hza x0 x1 hzn e1 e2 h0 h1
            go_wp2_with fail
            refine HSp.out.mono ?_
            rintro e w5 ⟨W5, ad5, n5, c5, ws5, rfl, hwd5, ht5, hg5⟩
            have hV5 := HV2.out.tape ht5 hg5
            have HFin := hid (show RetVal w T N (.returned (.slice (some ⟨gV, 0, none⟩) N cv)) ((w5.setCell ⟨gV, 0, none⟩ (.int .i64 W5)).setCell ⟨gV, 1, none⟩ (.slice (some ad5) n5 c5)) from hV5.put (z := ⟨W5, some ad5, n5, c5, ws5⟩) hll (.inl rfl) hN1 hwd5)
            have HS := SRow.own (show w5.ownsRow (w.heap.size + 1) 41 2 (.slice (some ⟨gV, 0, none⟩) N cv) N (l.flatMap ZH.cs) by have := hV5.ow; rwa [hll] at this) hll (fun y hy => (hV5.wd y hy).2.2)
            obtain ⟨z, hz, -⟩ := get_at hll hN1
            obtain ⟨x0, x1⟩ := HS.cells hz
            have y2 : w5.cell? ⟨gV, 0, none⟩ = some (.int .i64 z.W) := x0
            have y3 : w5.cell? ⟨gV, 1, none⟩ = some (.slice z.A z.n z.c) := x1
            have f0 := HS.frozen 0
            have f1 := HS.frozen 1
            have hl := HS.lt
            clear HS hz x0 x1 hwd5 ht5 hg5 hV5 HSp HV2 y0 y1 c0 c1 c2 c3
            go_wp2_with fail
            exact bodyPost_ret (v := .slice (some ⟨gV, 0, none⟩) N cv) (by simp [results, Try.results20, go_sem]) rfl HFin.out
          · have t3 : (r == 3) = false := by simp [e3]
            have HFin := hid (HV2.out.done HL.out (.inl rfl))
            clear c0 c1 c2 c3 e1 e2 e3 h0 h1
            go_wp2_with fail
            exact bodyPost_ret (v := .slice (some ⟨gV, 0, none⟩) N cv) (by simp [results, Try.results20, go_sem]) rfl HFin.out
end Go.Proofs.Ytbjaebbmajhjjaa

namespace Go.Proofs.Ytbjaebbmajhjjaa
set_option maxRecDepth 20000
set_option linter.unusedVariables false
set_option linter.unusedSimpArgs false
open Go.ChangeShapes Go.WideShapes Go.ChangeAt Go.RowKit

/-- The identity came back, its words in rows of the call's own. -/
def RetIde (w : World) (W : Nat) (e : Ending) (w' : World) : Prop :=
  ∃ (g1 g2 : Nat), e = .returned (.agg #[.int .i64 W, .slice (some ⟨g1, 0, none⟩) (Bs.nw W) (Bs.nw W), .int .i64 W, .slice (some ⟨g2, 0, none⟩) (Bs.nw W) (Bs.nw W), .slice none 0 0]) ∧ (w.heap.size ≤ g1 ∧ Row w' g1 (Bs.emp W)) ∧ (w.heap.size ≤ g2 ∧ Row w' g2 (Bs.emp W)) ∧ Below w.heap.size w w'
theorem refIdentity_any (W : Nat) (w : World) (hW : W ≤ 256) : Calls Try.prog 70 #[.int .i64 W] w (RetIde w W) := by
  have HR := hid (Fb.new w #[.int .i64 0, .slice none 0 0, .int .i64 0, .slice none 0 0, .slice none 0 0] 64)
  have HB := hid ((Below.refl w.heap.size w).alloc (Nat.le_refl _) (.cells #[.int .i64 0, .slice none 0 0, .int .i64 0, .slice none 0 0, .slice none 0 0] 64))
  go_enter Try.func70, Try.ntmps70
  go_wp2_with fail
  refine (refEmpty_any W _ (by omega)).mono ?_
  rintro e w1 ⟨g1, rfl, hg1, hr1, hb1⟩
  rw [len_emp]
  have HR1 := hid (HR.out.below hb1 HR.out.lt)
  have HB1 := hid (below_step HB.out hb1)
  have Hr1 := hid hr1
  have Hg1 := hid (show w.heap.size + 1 ≤ g1 by rw [World.size_alloc] at hg1; exact hg1)
  clear hg1 hr1 hb1 HR HB
  go_wp2_with fail
  refine (refEmpty_any W _ (by omega)).mono ?_
  rintro e w2 ⟨g2, rfl, hg2, hr2, hb2⟩
  rw [len_emp]
  have HR2 := hid (HR1.out.below hb2 HR1.out.lt)
  have HB2 := hid (below_step HB1.out hb2)
  have Hr12 := hid (Hr1.out.below hb2 Hr1.out.lt)
  have Hr2 := hid hr2
  have Hg2 := hid (show w.heap.size + 1 ≤ g2 by have := HR1.out.lt; omega)
  clear hg2 hr2 hb2 HR1 HB1 Hr1
  obtain ⟨r0, r1, r2, r3, r4⟩ := HR2.out.five
  have f0 := HR2.out.frozen 0
  have f1 := HR2.out.frozen 1
  have f2 := HR2.out.frozen 2
  have f3 := HR2.out.frozen 3
  have f4 := HR2.out.frozen 4
  have hl := HR2.out.lt
  have Hfin := hid (show RetIde w W (.returned (.agg #[.int .i64 W, .slice (some ⟨g1, 0, none⟩) (Bs.nw W) (Bs.nw W), .int .i64 W, .slice (some ⟨g2, 0, none⟩) (Bs.nw W) (Bs.nw W), .slice none 0 0]))
    (((((w2.setCell ⟨w.heap.size, 0, none⟩ (.int .i64 W)).setCell ⟨w.heap.size, 1, none⟩ (.slice (some ⟨g1, 0, none⟩) (Bs.nw W) (Bs.nw W))).setCell ⟨w.heap.size, 2, none⟩ (.int .i64 W)).setCell ⟨w.heap.size, 3, none⟩ (.slice (some ⟨g2, 0, none⟩) (Bs.nw W) (Bs.nw W))).setCell ⟨w.heap.size, 4, none⟩ (.slice none 0 0)) from by
    have h1 := Hg1.out
    have h2 := Hg2.out
    have n1 : g1 ≠ w.heap.size := by omega
    have n2 : g2 ≠ w.heap.size := by omega
    exact ⟨g1, g2, rfl, ⟨by omega, ((((Hr12.out.far n1 _).far n1 _).far n1 _).far n1 _).far n1 _⟩, ⟨by omega, ((((Hr2.out.far n2 _).far n2 _).far n2 _).far n2 _).far n2 _⟩, ((((HB2.out.setCell (by simp) _).setCell (by simp) _).setCell (by simp) _).setCell (by simp) _).setCell (by simp) _⟩)
  go_wp2_with fail
  refine bodyPost_ret (v := .agg #[.int .i64 W, .slice (some ⟨g1, 0, none⟩) (Bs.nw W) (Bs.nw W), .int .i64 W, .slice (some ⟨g2, 0, none⟩) (Bs.nw W) (Bs.nw W), .slice none 0 0]) (by simp [results, Try.results70, go_sem, r0, r1, r2, r3, r4]) rfl ?_
  exact Hfin.out
end Go.Proofs.Ytbjaebbmajhjjaa

namespace Go.Proofs.Ytbjaebbmajhjjaa
set_option maxRecDepth 20000
set_option linter.unusedVariables false
set_option linter.unusedSimpArgs false
open Go.ChangeShapes Go.WideShapes Go.ChangeAt Go.RowKit

def loopP : PW := ⟨2, [[0]], [[(0, ⟨[0], [0], []⟩)]]⟩
theorem loop_last : loopP.Last 0 := ⟨by kernel_rfl, fun k hk => by omega⟩
theorem loop_zero : loopP.round 0 = [[0]] := by kernel_rfl
theorem loop_full : loopP.rights [[3]] = [[3]] := by kernel_rfl
def RetLoop (w : World) (e : Ending) (w' : World) : Prop :=
  ∃ s : SY, e = .returned s.a ∧ SYok w' [] s ∧ SOk s 2 1 ∧ s.pw = loopP ∧ Below w.heap.size w w'
theorem loop_sys {w : World} {h h1 hT hB g1 g2 g3 n : Nat} (a1 : Fb w h #[.int .i64 0] 3) (a2 : Fb w h1 #[.slice (some ⟨h, 0, none⟩) 1 1] 22) (a3 : Fb w hT #[.int .i64 2, .slice (some ⟨g1, 0, none⟩) (Bs.nw 2) (Bs.nw 2), .int .i64 2, .slice (some ⟨g2, 0, none⟩) (Bs.nw 2) (Bs.nw 2), .slice none 0 0] 64) (r1 : Row w g1 (Bs.emp 2)) (r2 : Row w g2 (Bs.emp 2)) (a4 : Fb w hB #[.int .i64 2, .slice (some ⟨g3, 0, none⟩) n n] 41) (r3 : Row w g3 (Bs.emp 2)) (hn : n = Bs.nw 2) :
    SYok w [] ⟨2, ⟨some ⟨h1, 0, none⟩, 1, 1, [⟨some ⟨h, 0, none⟩, 1, 1, [0]⟩]⟩, ⟨some ⟨hT, 0, none⟩, 1, 1, [⟨⟨2, some ⟨g1, 0, none⟩, Bs.nw 2, Bs.nw 2, Bs.emp 2⟩, ⟨2, some ⟨g2, 0, none⟩, Bs.nw 2, Bs.nw 2, Bs.emp 2⟩, none, 0, 0, []⟩]⟩, ⟨some ⟨hB, 0, none⟩, 1, 1, [⟨2, some ⟨g3, 0, none⟩, n, n, Bs.emp 2⟩]⟩⟩ := by
  subst hn
  have z : ∀ {g : Nat}, Row w g (Bs.emp 2) → ZHok w [] ⟨2, some ⟨g, 0, none⟩, Bs.nw 2, Bs.nw 2, Bs.emp 2⟩ := fun hr => ⟨EAt.fb hr (by simp) (fun j x hx => by simpa using hx), rfl, (Bs.fit_emp 2).ok⟩
  refine ⟨⟨EAt.fb a2 (by simp) (fun j x hx => by simpa [RH.v] using hx), rfl, by show 1 ≤ 9223372036854775807; omega, fun y hy => ?_⟩, ⟨EAt.fb a3 (by simp) (fun j x hx => by simpa [FH.cells] using hx), rfl, by show 1 ≤ 9223372036854775807; omega, fun y hy => ?_⟩, ⟨EAt.fb a4 (by simp) (fun j x hx => by simpa [ZH.cs] using hx), rfl, by show 1 ≤ 9223372036854775807; omega, fun y hy => ?_⟩⟩
  · rw [List.mem_singleton.1 hy]
    exact ⟨EAt.fb a1 (by simp) (fun j x hx => by simpa [ints] using hx), rfl, by show 1 ≤ 9223372036854775807; omega⟩
  · rw [List.mem_singleton.1 hy]
    exact ⟨z r1, z r2, EAt.nil _ _ _, rfl⟩
  · rw [List.mem_singleton.1 hy]
    exact z r3
theorem loop_ok (h h1 hT hB g1 g2 g3 n : Nat) (hn : n = Bs.nw 2) : SOk ⟨2, ⟨some ⟨h1, 0, none⟩, 1, 1, [⟨some ⟨h, 0, none⟩, 1, 1, [0]⟩]⟩, ⟨some ⟨hT, 0, none⟩, 1, 1, [⟨⟨2, some ⟨g1, 0, none⟩, Bs.nw 2, Bs.nw 2, Bs.emp 2⟩, ⟨2, some ⟨g2, 0, none⟩, Bs.nw 2, Bs.nw 2, Bs.emp 2⟩, none, 0, 0, []⟩]⟩, ⟨some ⟨hB, 0, none⟩, 1, 1, [⟨2, some ⟨g3, 0, none⟩, n, n, Bs.emp 2⟩]⟩⟩ 2 1 := by
  refine ⟨rfl, by omega, by omega, by omega, rfl, rfl, rfl, fun y hy => ?_, by show tot [[0]] ≤ 1024; decide, fun y hy => ?_, fun y hy => ?_⟩
  · rw [List.mem_singleton.1 hy]
    exact ⟨by simp, fun x hx => by rw [List.mem_singleton.1 hx]; omega⟩
  · rw [List.mem_singleton.1 hy]
    exact ⟨rfl, rfl, show validT 2 (Bs.emp 2) 2 (Bs.emp 2) [] = true by kernel_rfl⟩
  · rw [List.mem_singleton.1 hy]
    exact ⟨rfl, Bs.fit_emp 2⟩
theorem loop_any (w : World) : Calls Try.prog 43 #[] w (RetLoop w) := by
  have HR := hid (((Fb.new w #[.int .i64 0, .slice none 0 0, .slice none 0 0, .slice none 0 0] 27).alloc (.cells #[.int .i64 0] 3)).alloc (.cells #[.slice (some ⟨w.heap.size + 1, 0, none⟩) 1 1] 22))
  have HB := hid (((((Below.refl w.heap.size w).alloc (Nat.le_refl _) (.cells #[.int .i64 0, .slice none 0 0, .slice none 0 0, .slice none 0 0] 27)).alloc (by simp) (.cells #[.int .i64 0] 3))).alloc (by simp; omega) (.cells #[.slice (some ⟨w.heap.size + 1, 0, none⟩) 1 1] 22))
  have HA1 := hid (show Fb (((w.alloc (.cells #[.int .i64 0, .slice none 0 0, .slice none 0 0, .slice none 0 0] 27)).alloc (.cells #[.int .i64 0] 3)).alloc (.cells #[.slice (some ⟨w.heap.size + 1, 0, none⟩) 1 1] 22)) (w.heap.size + 1) #[.int .i64 0] 3 from by
    have := (Fb.new (w.alloc (.cells #[.int .i64 0, .slice none 0 0, .slice none 0 0, .slice none 0 0] 27)) #[.int .i64 0] 3).alloc (.cells #[.slice (some ⟨w.heap.size + 1, 0, none⟩) 1 1] 22)
    rwa [World.size_alloc] at this)
  have HA2 := hid (show Fb (((w.alloc (.cells #[.int .i64 0, .slice none 0 0, .slice none 0 0, .slice none 0 0] 27)).alloc (.cells #[.int .i64 0] 3)).alloc (.cells #[.slice (some ⟨w.heap.size + 1, 0, none⟩) 1 1] 22)) (w.heap.size + 2) #[.slice (some ⟨w.heap.size + 1, 0, none⟩) 1 1] 22 from by
    have := Fb.new ((w.alloc (.cells #[.int .i64 0, .slice none 0 0, .slice none 0 0, .slice none 0 0] 27)).alloc (.cells #[.int .i64 0] 3)) #[.slice (some ⟨w.heap.size + 1, 0, none⟩) 1 1] 22
    rwa [World.size_alloc, World.size_alloc] at this)
  go_enter Try.func43, Try.ntmps43
  go_wp2_with fail
  refine (refIdentity_any 2 _ (by omega)).mono ?_
  generalize ((w.alloc (.cells #[.int .i64 0, .slice none 0 0, .slice none 0 0, .slice none 0 0] 27)).alloc (.cells #[.int .i64 0] 3)).alloc (.cells #[.slice (some ⟨w.heap.size + 1, 0, none⟩) 1 1] 22) = w0 at *
  rintro e w1 ⟨g1, g2, rfl, ⟨hg1, hr1⟩, ⟨hg2, hr2⟩, hb1⟩
  have hba := (Below.refl w1.heap.size w1).alloc (Nat.le_refl _) (.cells #[.int .i64 2, .slice (some ⟨g1, 0, none⟩) (Bs.nw 2) (Bs.nw 2), .int .i64 2, .slice (some ⟨g2, 0, none⟩) (Bs.nw 2) (Bs.nw 2), .slice none 0 0] 64)
  have hb2 := below_step hb1 hba
  have HR2 := hid (HR.out.below hb2 HR.out.lt)
  have HB2 := hid (below_step HB.out hb2)
  have HA12 := hid (HA1.out.below hb2 HA1.out.lt)
  have HA22 := hid (HA2.out.below hb2 HA2.out.lt)
  have HT := hid (Fb.new w1 #[.int .i64 2, .slice (some ⟨g1, 0, none⟩) (Bs.nw 2) (Bs.nw 2), .int .i64 2, .slice (some ⟨g2, 0, none⟩) (Bs.nw 2) (Bs.nw 2), .slice none 0 0] 64)
  have Hr1 := hid (hr1.below hba hr1.lt)
  have Hr2 := hid (hr2.below hba hr2.lt)
  have Hgg := hid (And.intro hg1 hg2)
  have Hsz := hid (show w.heap.size + 2 < w0.heap.size from HA2.out.lt)
  have Hs1 := hid hb1.size
  clear hg1 hr1 hg2 hr2 hb1 hba hb2 HR HB HA1 HA2
  go_wp2_with fail
  refine (refEmpty_any 2 _ (by omega)).mono ?_
  have HhT := hid (show w.heap.size + 2 < w1.heap.size by have := Hsz.out; have := Hs1.out; omega)
  generalize w1.alloc (.cells #[.int .i64 2, .slice (some ⟨g1, 0, none⟩) (Bs.nw 2) (Bs.nw 2), .int .i64 2, .slice (some ⟨g2, 0, none⟩) (Bs.nw 2) (Bs.nw 2), .slice none 0 0] 64) = w2 at *
  generalize w1.heap.size = hT at *
  rintro e w3 ⟨g3, rfl, hg3, hr3, hb3⟩
  rw [len_emp]
  have hba := (Below.refl w3.heap.size w3).alloc (Nat.le_refl _) (.cells #[.int .i64 2, .slice (some ⟨g3, 0, none⟩) (Bs.nw 2) (Bs.nw 2)] 41)
  have hb4 := below_step hb3 hba
  have HR3 := hid (HR2.out.below hb3 HR2.out.lt)
  have HB3 := hid (below_step HB2.out hb4)
  have HA13 := hid (HA12.out.below hb4 HA12.out.lt)
  have HA23 := hid (HA22.out.below hb4 HA22.out.lt)
  have HT3 := hid (HT.out.below hb4 HT.out.lt)
  have Hr13 := hid (Hr1.out.below hb4 Hr1.out.lt)
  have Hr23 := hid (Hr2.out.below hb4 Hr2.out.lt)
  have Hr33 := hid (hr3.below hba hr3.lt)
  have Hg3 := hid (show w.heap.size + 2 < g3 by have := HA22.out.lt; omega)
  have Hs3 := hid (show w.heap.size + 2 < w3.heap.size by have := HA22.out.lt; have := hb3.size; omega)
  have HB4 := hid (Fb.new w3 #[.int .i64 2, .slice (some ⟨g3, 0, none⟩) (Bs.nw 2) (Bs.nw 2)] 41)
  clear hg3 hr3 hb3 hba hb4 HR2 HB2 HA12 HA22 HT Hr1 Hr2
  obtain ⟨w4, hw4⟩ : ∃ w4, w4 = w3.alloc (.cells #[.int .i64 2, .slice (some ⟨g3, 0, none⟩) (Bs.nw 2) (Bs.nw 2)] 41) := ⟨_, rfl⟩
  rw [← hw4] at HB3 HA13 HA23 HT3 Hr13 Hr23 Hr33 HB4
  have HA23 : Hid (Fb w4 (w.heap.size + 1 + 1) #[.slice (some ⟨w.heap.size + 1, 0, none⟩) 1 1] 22) := HA23
  have hgr := grown_trans (grown_trans (grown_trans (setCell_grown w4 ⟨w.heap.size, 0, none⟩ (.int .i64 2)) (setCell_grown _ ⟨w.heap.size, 1, none⟩ (.slice (some ⟨w.heap.size + 1 + 1, 0, none⟩) 1 1))) (setCell_grown _ ⟨w.heap.size, 2, none⟩ (.slice (some ⟨hT, 0, none⟩) 1 1))) (setCell_grown _ ⟨w.heap.size, 3, none⟩ (.slice (some ⟨w3.heap.size, 0, none⟩) 1 1))
  have hfin := HB3.out.setCell (p := ⟨w.heap.size, 0, none⟩) (by simp) (.int .i64 2) |>.setCell (p := ⟨w.heap.size, 1, none⟩) (by simp) (.slice (some ⟨w.heap.size + 1 + 1, 0, none⟩) 1 1) |>.setCell (p := ⟨w.heap.size, 2, none⟩) (by simp) (.slice (some ⟨hT, 0, none⟩) 1 1) |>.setCell (p := ⟨w.heap.size, 3, none⟩) (by simp) (.slice (some ⟨w3.heap.size, 0, none⟩) 1 1)
  have n1 := Hgg.out.1
  have n2 := Hgg.out.2
  have n0 := Hsz.out
  have n3 := HhT.out
  have n4 := Hg3.out
  have n5 := Hs3.out
  have far : ∀ {k : Nat}, w.heap.size < k → some k ≠ some (⟨w.heap.size, 0, none⟩ : Addr).block := fun hk e => by have := Option.some.inj e; simp only at this; omega
  have hsys := loop_sys (HA13.out.grown hgr (far (by omega))) (HA23.out.grown hgr (far (by omega))) (HT3.out.grown hgr (far (by omega))) ((hgr.block g1 Hr13.out.lt (far (by omega))).trans Hr13.out) ((hgr.block g2 Hr23.out.lt (far (by omega))).trans Hr23.out) (HB4.out.grown hgr (far (by omega))) ((hgr.block g3 Hr33.out.lt (far (by omega))).trans Hr33.out) rfl
  have Hfin := hid (show RetLoop w (.returned (.agg #[.int .i64 2, .slice (some ⟨w.heap.size + 1 + 1, 0, none⟩) 1 1, .slice (some ⟨hT, 0, none⟩) 1 1, .slice (some ⟨w3.heap.size, 0, none⟩) 1 1])) _ from ⟨_, rfl, hsys, loop_ok _ _ _ _ _ _ _ _ rfl, by kernel_rfl, hfin⟩)
  clear hgr hfin hsys far n0 n1 n2 n3 n4 n5 HB3 HA13 HA23 HT3 Hr13 Hr23 Hr33 HB4
  rw [hw4] at Hfin
  clear hw4
  obtain ⟨r0, r1, r2, r3⟩ := HR3.out.four
  have f0 := HR3.out.frozen 0
  have f1 := HR3.out.frozen 1
  have f2 := HR3.out.frozen 2
  have f3 := HR3.out.frozen 3
  have hl : w.heap.size < w3.heap.size := by have := Hs3.out; omega
  go_wp2_with fail
  refine bodyPost_ret (v := .agg #[.int .i64 2, .slice (some ⟨w.heap.size + 1 + 1, 0, none⟩) 1 1, .slice (some ⟨hT, 0, none⟩) 1 1, .slice (some ⟨w3.heap.size, 0, none⟩) 1 1]) (by simp [results, Try.results43, go_sem, r0, r1, r2, r3, hl]) rfl ?_
  have h := Hfin.out
  simp only [World.setCell_alloc_past, World.size_setCell, hl] at h
  exact h
end Go.Proofs.Ytbjaebbmajhjjaa

namespace Go.Proofs.Ytbjaebbmajhjjaa
set_option maxRecDepth 20000
set_option linter.unusedVariables false
set_option linter.unusedSimpArgs false
open Go.ChangeShapes Go.WideShapes Go.ChangeAt Go.RowKit

theorem full2b : Bs.ofP 2 (fun _ => true) 2 = [3] := by rfl
theorem emp2b : Bs.emp 2 = [0] := by rfl
theorem loopSol (s : SY) (g n c : Nat) (A : Option Addr) (w : World) (hs : SYok w [] s) (ho : SOk s 2 1) (hp : s.pw = loopP) (hf : Fb w g #[.int .i64 2, .slice A n c] 41) (ha : Arg w A n [3]) :
    Calls Try.prog 22 #[s.a, .slice (some ⟨g, 0, none⟩) 1 1] w fun e w' => e = .returned (.bool true) ∧ Below w.heap.size w w' := by
  have hz : ZHok w [] ⟨2, A, n, c, [3]⟩ := ⟨by
    rcases ha.lies with e | ⟨ad, e, hb, hc⟩
    · exact .inl e
    · exact .inr ⟨ad, e, ⟨hb, by simp⟩, hc⟩, ha.len, ha.ok⟩
  have hy : ZLok w [] ⟨some ⟨g, 0, none⟩, 1, 1, [⟨2, A, n, c, [3]⟩]⟩ := ⟨EAt.fb hf (by simp) (fun j x hx => by simpa [ZH.cs] using hx), rfl, by show 1 ≤ 9223372036854775807; omega, fun y hy => by rw [List.mem_singleton.1 hy]; exact hz⟩
  have hvo : VOk ⟨some ⟨g, 0, none⟩, 1, 1, [⟨2, A, n, c, [3]⟩]⟩ 2 1 := ⟨rfl, fun y hy => by
    rw [List.mem_singleton.1 hy]
    refine ⟨rfl, ?_⟩
    show Bs.Fit 2 [3]
    rw [← full2b]
    exact Bs.fit_ofP 2 (fun _ => true) 2 (Nat.le_refl _)⟩
  refine (isSolution_any s _ 2 1 [] [] w hs hy ho hvo).mono ?_
  rintro e w' ⟨rfl, hb⟩
  refine ⟨?_, hb⟩
  rw [hp, show ZL.vs ⟨some ⟨g, 0, none⟩, 1, 1, [⟨2, A, n, c, [3]⟩]⟩ = [[3]] from rfl, loop_full]
  simp
set_option maxHeartbeats 6400000 in
theorem sane11_any (w : World) : Calls Try.prog 14 #[] w fun e w' => e = .returned (.bool true) ∧ Below w.heap.size w w' := by
  go_enter Try.func14, Try.ntmps14
  go_wp2_with fail
  refine (loop_any _).mono ?_
  rintro e w1 ⟨s, rfl, hs, ho, hp, hb1⟩
  have HC := hid (solve_any s 2 1 [] w1 hs ho)
  have Hp := hid hp
  have Hb1 := hid hb1
  clear hs ho hp hb1
  generalize s.a = sv at *
  go_wp2_with fail
  refine HC.out.mono ?_
  rintro e w2 ⟨K, g, l, hK, rfl, hg, hrow, hok, hvs, hb2⟩
  rw [Hp.out] at hK hvs
  obtain rfl : K = 0 := hK.unique loop_last
  rw [loop_zero] at hvs
  have Hb2 := hid (below_step Hb1.out hb2)
  obtain ⟨z, hz, hzm⟩ := get_at hrow.len (show 0 < 1 by omega)
  obtain ⟨c0, c1⟩ := hrow.cells hz
  obtain ⟨hzW, hzf⟩ := hok z hzm
  have hza := hrow.all z hzm
  have hzs : z.ws = [0] := by
    have h1 := congrArg (fun l => l[0]?) hvs
    simp only [List.getElem?_map, hz, Option.map_some, List.getElem?_cons_zero] at h1
    exact Option.some.inj h1
  obtain ⟨ZW, ZA, zn, zc, zs⟩ := z
  simp only at hzW hzs c0 c1 hza
  subst hzW
  subst hzs
  have hgl := hrow.lt
  have HK := hid (fun (u : World) (hu : Below w2.heap.size w2 u) => And.intro ((hu.cell (p := ⟨g, 0, none⟩) hgl).trans c0) ((hu.cell (p := ⟨g, 1, none⟩) hgl).trans c1))
  have Hza := hid hza
  have hzn : zn ≤ maxLen := by rw [← hza.len]; decide
  have Hcur := hid ((Below.refl w2.heap.size w2).drew)
  clear hK hvs hok hrow hb2 hz hzm hzf hza c0 c1 HC Hp Hb1 hg
  go_upto_region 2 with fail
  go_region_held3 (fun u => u.cell? ⟨g, 0, none⟩ = some (.int .i64 2) ∧ u.cell? ⟨g, 1, none⟩ = some (.slice ZA zn zc))
    (first | exact HK.out _ Hcur.out | exact HK.out _ (Hcur.out.alloc Hcur.out.size _))
    (first
     | (go_at_call 36
        go_must (
        refine (refEmpty_any 2 _ (by omega)).mono ?_
        rw [emp2b]
        rintro e wn ⟨gE, rfl, hgE, hrE, hbk⟩
        have HrE := hid (hrE.arg (by decide))
        have Hcur := hid (below_step Hcur.out hbk)
        clear hgE hrE hbk))
     | (go_at_call 44
        go_must (
        refine (refSame_any 2 2 ZA (some ⟨gE, 0, none⟩) zn zc 1 1 [0] [0] _ (Hza.out.below Hcur.out) HrE.out hzn).mono ?_
        rw [show sameB 2 [0] 2 [0] = true from rfl]
        rintro e wn ⟨rfl, hbk⟩
        have Hcur := hid (below_step Hcur.out hbk)
        clear hbk))
     | (go_at_call 43
        go_must (
        refine (loop_any _).mono ?_
        rintro e wn ⟨s2, rfl, hs2, ho2, hp2, hbk⟩
        have Hs2 := hid hs2
        have Ho2 := hid ho2
        have Hp2 := hid hp2
        have Hcur := hid (below_step Hcur.out hbk)
        clear hs2 ho2 hp2 hbk))
     | (go_at_call 45
        go_must (
        refine (refFull_any 2 _ (by omega)).mono ?_
        rw [full2b]
        rintro e wn ⟨AF, nF, cF, rfl, haF, hbk⟩
        have HaF := hid haF
        have Hs2 := hid (Hs2.out.below hbk)
        have Hcur := hid (below_step Hcur.out hbk)
        clear haF hbk))
     | (go_at_call 22
        go_must (
        refine (loopSol s2 _ nF cF AF _ (Hs2.out.below ((Below.refl _ _).alloc (Nat.le_refl _) _)) Ho2.out Hp2.out (Fb.new _ _ _) (HaF.out.below ((Below.refl _ _).alloc (Nat.le_refl _) _))).mono ?_
        rintro e wn ⟨rfl, hbk⟩
        have Hcur := hid (below_step (Hcur.out.alloc Hcur.out.size _) hbk)
        clear hbk)))
  all_goals
    go_wp2_with fail
    go_ret
    exact ⟨rfl, below_step Hb2.out Hcur.out⟩
end Go.Proofs.Ytbjaebbmajhjjaa

namespace Go.Proofs.Ytbjaebbmajhjjaa
set_option maxRecDepth 20000
open Go.ChangeShapes Go.WideShapes Go.ChangeAt Go.RowKit

theorem ex1a : applyR 2 [0] 2 [2] [(0, 1)] 2 [1] = (2, [3], 0) := by rfl
theorem ex1b : applyR 2 [0] 2 [2] [(0, 1)] 2 [2] = (2, [0], 0) := by rfl
theorem put0 : Bs.put (Bs.emp 2) 0 = [1] := by rfl
theorem put1 : Bs.put (Bs.emp 2) 1 = [2] := by rfl
theorem emp2 : Bs.emp 2 = [0] := by rfl
theorem full2 : Bs.ofP 2 (fun _ => true) 2 = [3] := by rfl

/-- A function in a variable: its block, its words, its copies. -/
structure VarT (w : World) (b : Nat) (W : Int) (gs ks : List Nat) (cs : List (Int × Int)) (A : Option Addr) (n c : Nat) (B : Option Addr) (m d : Nat) (C : Option Addr) (k q : Nat) : Prop where
  box : Fb w b #[.int .i64 W, .slice A n c, .int .i64 W, .slice B m d, .slice C k q] 64
  gen : Arg w A n gs
  kill : Arg w B m ks
  cops : ArgC w C k cs
theorem VarT.below {w w' : World} {b : Nat} {W : Int} {gs ks : List Nat} {cs : List (Int × Int)} {A : Option Addr} {n c : Nat} {B : Option Addr} {m d : Nat} {C : Option Addr} {k q : Nat} (h : VarT w b W gs ks cs A n c B m d C k q) (hb : Below w.heap.size w w') :
    VarT w' b W gs ks cs A n c B m d C k q := ⟨h.box.below hb h.box.lt, h.gen.below hb, h.kill.below hb, h.cops.below hb⟩
theorem pairs_lit (w : World) (cs : List (Int × Int)) (xs : Array Value) (h : xs.toList = pairs cs) : ArgC (w.alloc (.cells xs 98)) (some ⟨w.heap.size, 0, none⟩) cs.length cs := by
  refine ⟨.inr ⟨_, rfl, by simp, fun j u hu => ?_⟩, rfl⟩
  rw [add_of, World.cell?_alloc_at _ _ _ _ rfl]
  rw [← h] at hu
  simpa using hu


theorem Box.four {w : World} {b : Nat} {W : Int} {A : Option Addr} {n c : Nat} (h : Box w b W A n c) : w.cell? ⟨b, 0, none⟩ = some (.int .i64 W) ∧ w.cell? ⟨b, 1, none⟩ = some (.slice A n c) ∧ w.frozen? ⟨b, 0, none⟩ = false ∧ w.frozen? ⟨b, 1, none⟩ = false := ⟨h.c0, h.c1, h.f 0, h.f 1⟩
/-- The result's variable, made before a call. -/
def Fresh (W w : World) (b : Nat) : Prop := Box w b 0 none 0 0 ∧ W.heap.size ≤ b
theorem Fresh.mk {W w0 w1 : World} (h0 : Below W.heap.size W w0) (hb : Below (w0.alloc (.cells #[.int .i64 0, .slice none 0 0] 41)).heap.size (w0.alloc (.cells #[.int .i64 0, .slice none 0 0] 41)) w1) : Fresh W w1 w0.heap.size :=
  ⟨(Box.new w0 0 none 0 0).below hb (by simp), h0.size⟩
theorem Fresh.mkD {w0 w1 : World} (hb : Below (w0.alloc (.cells #[.int .i64 0, .slice none 0 0] 41)).drew.heap.size (w0.alloc (.cells #[.int .i64 0, .slice none 0 0] 41)).drew w1) : Fresh w0 w1 w0.heap.size :=
  ⟨(show Box (w0.alloc (.cells #[.int .i64 0, .slice none 0 0] 41)).drew w0.heap.size 0 none 0 0 from Box.new w0 0 none 0 0).below hb (by show w0.heap.size < (w0.alloc _).heap.size; simp), Nat.le_refl _⟩
theorem Fresh.below {W w w1 : World} {b : Nat} (h : Fresh W w b) (hb : Below w.heap.size w w1) : Fresh W w1 b := ⟨h.1.below hb h.1.lt, h.2⟩
theorem Fresh.stored {W w : World} {b : Nat} (h : Fresh W w b) (hb : Below W.heap.size W w) (V : Int) (B : Option Addr) (m d : Nat) : Below W.heap.size W ((w.setCell ⟨b, 0, none⟩ (.int .i64 V)).setCell ⟨b, 1, none⟩ (.slice B m d)) :=
  (hb.setCell (by exact h.2) _).setCell (by exact h.2) _

end Go.Proofs.Ytbjaebbmajhjjaa

namespace Go.Proofs.Ytbjaebbmajhjjaa
set_option maxRecDepth 20000
open Go.ChangeShapes Go.WideShapes Go.ChangeAt Go.RowKit

theorem new_any (A : Option Addr) (n c : Nat) (w : World) :
    Calls Try.prog 9 #[.slice A n c] w fun e w' => e = .returned (.pointer (some ⟨w.heap.size, 0, none⟩)) ∧ w.alloc (.cells #[.slice A n c, .int .i64 0] 59) = w' := by
  go_enter Try.func9, Try.ntmps9
  go_wp2
  go_ret
  exact ⟨rfl, rfl⟩
theorem tape_new {w : World} {A : Option Addr} {n c : Nat} {zs : List Int} (h : IArg w A n zs) (hn : n ≤ maxLen) : Tape (w.alloc (.cells #[.slice A n c, .int .i64 0] 59)) w.heap.size :=
  ⟨A, n, c, 0, zs, heap_alloc_new w _, h.len, hn, Nat.zero_le _, h.lies.keep (fun p hp => World.cell?_alloc_lt w _ p hp) (Nat.le_refl _)⟩

/-- The statement's tape stands, and nothing old has changed. -/
def Going (w : World) (T : Nat) (wr : World) : Prop := Tape wr T ∧ Below w.heap.size w wr ∧ w.heap.size ≤ T
theorem Going.step {w wr w' : World} {T : Nat} (h : Going w T wr) (ht : Tape w' T) (hg : wr.grownBy w' (some T)) : Going w T w' :=
  ⟨ht, after_app h.2.1 hg h.2.2, h.2.2⟩
theorem Going.below {w wr w' : World} {T : Nat} (h : Going w T wr) (hb : Below wr.heap.size wr w') : Going w T w' :=
  h.step (h.1.below hb h.1.lt) (grown_of_below hb _)
theorem Going.alloc {w wr : World} {T : Nat} (h : Going w T wr) (o : Obj) : Going w T (wr.alloc o) := h.below ((Below.refl _ _).alloc (Nat.le_refl _) o)

/-- Copies do not lie in a tape: there two numbers never lie side by side. -/
theorem ArgC.tape {w w' : World} {T : Nat} {A : Option Addr} {n : Nat} {cs : List (Int × Int)} (h : ArgC w A n cs) (ht : Tape w T) (hg : w.grownBy w' (some T)) : ArgC w' A n cs := by
  refine ⟨?_, h.len⟩
  rcases h.lies with h0 | ⟨ad, e, hb, hc⟩
  · exact .inl h0
  · cases cs with
    | nil => exact .inl rfl
    | cons p cs =>
      have hne : ad.block ≠ T := by
        intro he
        have c0 := hc 0 (.int .i64 p.1) rfl
        have c1 := hc 1 (.int .i64 p.2) rfl
        obtain ⟨A', n', c', k', zs, h1, _⟩ := ht
        have ha : ad.add 0 = ad := by unfold Addr.add; simp
        rw [ha] at c0
        unfold World.cell? at c0 c1
        rw [he, h1] at c0
        rw [show (ad.add 1).block = T from by rw [add_block]; exact he, h1] at c1
        have e1 : (ad.add 1).off = ad.off + 1 := by unfold Addr.add; simp
        have e2 : (ad.add 1).spot = none := by unfold Addr.add; simp
        simp only [e1, e2] at c1
        simp only at c0
        split at c0
        · cases c0
        · match hoff : ad.off, c0 with
          | 0, c0 => simp at c0
          | 1, c0 => rw [hoff] at c1; simp at c1
          | n + 2, c0 => simp at c0
      refine .inr ⟨ad, e, by have := hg.size; omega, fun j u hu => hg.cell (hc j u hu) (by rw [add_block]; intro h; injection h with h; exact hne h)⟩
end Go.Proofs.Ytbjaebbmajhjjaa

namespace Go.Proofs.Ytbjaebbmajhjjaa
set_option linter.unusedVariables false
set_option linter.unusedSimpArgs false
section
variable {P : Program} {ops : Array Oper} {Q : Exit → Act → World → Prop}
theorem wpAny_factsH (G : Nat → World → Prop) (F : Nat → Value → World → Prop) (B : World → Prop) (use : Nat → Option Nat) (R : Nat → World → World → Prop) (m : Nat) (ds : List (Option Tmp)) (a0 : Act) (hds : ops.toList.map (·.dst) = ds) (hd : distB ds = true) (hb : backB ops = true) (ht : tailB2 ops m = true) (hm : m ≤ ops.size)
    (hst : ∀ j w w' i v, R j w w' → i ≠ j → use i ≠ some j → F i v w → F i v w')
    (hstG : ∀ j w w' c, R j w w' → c ≠ j → (reachL ops 5 j).contains c = false → G c w → G c w')
    (hstep : ∀ (i : Nat) (o : Oper) (f : Nat → Value) (w : World), ops[i]? = some o → i < m → B w → G i w → (∀ e ∈ o.after, Region.binds .any e = true → use e.on = none ∨ use e.on = some i → F e.on (f e.on) w) → ∀ K : Act → World → Prop, (∀ v w', B w' → R i w w' → F i v w' → K ((putL ds f 0 a0).put o.dst v) w') → wpOp P ops Q i K (putL ds f 0 a0) w)
    (hend : ∀ (f : Nat → Value) (w : World), B w → (∀ i, i < m → use i = none → F i (f i) w) → wpAny P .any ops Q (ops.size - m) (tailArr ops.size m) (putL ds f 0 a0) w) :
    ∀ (fuel : Nat) (listed : Array Bool) (f : Nat → Value) (w : World), listed.size = ops.size → (∀ i, m ≤ i → i < ops.size → listed.getD i true = false) → ClosedL ops listed → B w → (∀ c, listed.getD c false = false → G c w) → (∀ i, listed.getD i false = true → (∀ c, use i = some c → listed.getD c false = false) → F i (f i) w) → listed.toList.count false = fuel →
      wpAny P .any ops Q fuel listed (putL ds f 0 a0) w := by
  intro fuel
  induction fuel with
  | zero =>
    intro listed f w hs htl hcl hB hGc hF hc
    have hall : ∀ i, i < m → listed.getD i false = true := by
      intro i hi
      have h1 : i < listed.size := by omega
      rw [getD_lt _ h1]
      cases hv : listed[i] with
      | true => rfl
      | false => exact absurd (List.count_pos_iff.2 (Array.mem_toList_iff.2 (hv ▸ Array.getElem_mem h1))) (by omega)
    have e : listed = tailArr ops.size m := by
      apply Array.ext
      · simp [tailArr]; omega
      · intro i h1 h2
        by_cases him : i < m
        · have := hall i him
          rw [getD_lt _ h1] at this
          rw [this]
          simp [tailArr, List.getElem_append, him]
        · have := htl i (by omega) (by omega)
          rw [getD_lt _ h1] at this
          rw [this]
          simp [tailArr, List.getElem_append, him]
    have hn : ops.size - m = 0 := by
      rw [e, tail_count] at hc
      exact hc
    have := hend f w hB fun i hi hu => hF i (hall i hi) (fun c hc => by rw [hu] at hc; cases hc)
    rw [hn] at this
    rw [e]; exact this
  | succ fuel ih =>
    intro listed f w hs htl hcl hB hGc hF hc
    by_cases hall : ∀ i, i < m → listed.getD i false = true
    · have e : listed = tailArr ops.size m := by
        apply Array.ext
        · simp [tailArr]; omega
        · intro i h1 h2
          by_cases him : i < m
          · have := hall i him
            rw [getD_lt _ h1] at this
            rw [this]
            simp [tailArr, List.getElem_append, him]
          · have := htl i (by omega) (by omega)
            rw [getD_lt _ h1] at this
            rw [this]
            simp [tailArr, List.getElem_append, him]
      have hn : ops.size - m = fuel + 1 := by
        rw [e, tail_count] at hc
        exact hc
      have := hend f w hB fun i hi hu => hF i (hall i hi) (fun c hc => by rw [hu] at hc; cases hc)
      rw [hn] at this
      rw [e]; exact this
    · have hun : ∃ i, i < m ∧ listed.getD i false = false := by
        refine Classical.byContradiction fun hno => hall fun i hi => ?_
        cases hv : listed.getD i false with
        | true => rfl
        | false => exact absurd ⟨i, hi, hv⟩ hno
      -- the first that has not come up may come up
      have hmin : ∀ n i, i ≤ n → i < m → listed.getD i false = false → ∃ j, j < m ∧ listed.getD j false = false ∧ ∀ k, k < j → listed.getD k false = true := by
        intro n
        induction n with
        | zero => intro i hi him hv; exact ⟨i, him, hv, fun k hk => by omega⟩
        | succ n ihn =>
          intro i hi him hv
          by_cases hex : ∃ k, k < i ∧ listed.getD k false = false
          · obtain ⟨k, hk, hkv⟩ := hex
            exact ihn k (by omega) (by omega) hkv
          · refine ⟨i, him, hv, fun k hk => ?_⟩
            cases hkv : listed.getD k false with
            | true => rfl
            | false => exact absurd ⟨k, hk, hkv⟩ hex
      obtain ⟨i0, hi0, hv0⟩ := hun
      obtain ⟨j0, hj0, hj1, hj2⟩ := hmin i0 i0 (Nat.le_refl _) hi0 hv0
      have hgd : ∀ i, i < ops.size → listed.getD i true = listed.getD i false := by
        intro i hi
        rw [getD_lt true (show i < listed.size by omega), getD_lt false (show i < listed.size by omega)]
      obtain ⟨oj, hoj⟩ : ∃ o, ops[j0]? = some o := ⟨_, Array.getElem?_eq_getElem (by omega)⟩
      have hrj : j0 ∈ Region.ready .any ops listed := mem_ready.2 ⟨by rw [hgd j0 (by omega)]; exact hj1, oj, hoj, fun e he hbe => hj2 _ (backB_spec hb hoj e he hbe)⟩
      refine ⟨fun h => (by rw [h] at hrj; cases hrj), fun i hi => ?_⟩
      obtain ⟨hiu, o, ho, hafter⟩ := mem_ready.1 hi
      have hin : i < ops.size := (Array.getElem?_eq_some_iff.1 ho).1
      have him : i < m := by
        rcases Nat.lt_or_ge i m with h | h
        · exact h
        · exfalso
          have := tailB2_spec ht ho h hcl hafter j0 hj0
          rw [hj1] at this
          cases this
      have hil : listed.getD i false = false := by rw [← hgd i hin]; exact hiu
      refine hstep i o f w ho him hB (hGc i hil) (fun e he hbe hu => hF e.on (hafter e he hbe) (fun c hc => by
        rcases hu with hu | hu
        · rw [hu] at hc; cases hc
        · rw [hu] at hc; obtain rfl := Option.some.inj hc; rw [← hgd i hin]; exact hiu)) _ fun v w' hB' hR hFi => ?_
      have hdi : ds[i]? = some o.dst := by
        rw [← hds, List.getElem?_map, Array.getElem?_toList, ho]; rfl
      rw [putL_at hd hdi]
      have hlf : listed.toList[i]? = some false := by
        rw [Array.getElem?_toList, Array.getElem?_eq_getElem (by omega)]
        rw [getD_lt _ (by omega)] at hiu
        exact congrArg some hiu
      refine ih _ _ _ (by simp [hs]) (fun k hk hk2 => ?_) (fun k ok hok hk e he hbe => ?_) hB' (fun k hk => ?_) (fun k hk hku => ?_) ?_
      · have hk3 : k < (listed.setIfInBounds i true).size := by rw [Array.size_setIfInBounds]; omega
        rw [getD_lt _ hk3, Array.getElem_setIfInBounds, if_neg (by omega)]
        have := htl k hk hk2
        rw [getD_lt _ (by omega)] at this
        exact this
      · have hdep : listed.getD e.on false = true := by
          by_cases hki : k = i
          · subst hki
            rw [ho] at hok
            obtain rfl := Option.some.inj hok
            exact hafter e he hbe
          · rw [getD_set_ne false (fun h => hki h.symm)] at hk
            exact hcl k ok hok hk e he hbe
        by_cases hei : e.on = i
        · rw [hei, getD_lt _ (by rw [Array.size_setIfInBounds]; omega), Array.getElem_setIfInBounds_self]
        · rw [getD_set_ne false (fun h => hei h.symm)]; exact hdep
      · by_cases e : k = i
        · subst e
          rw [getD_lt _ (by rw [Array.size_setIfInBounds]; omega), Array.getElem_setIfInBounds_self] at hk
          cases hk
        · rw [getD_set_ne false (by omega)] at hk
          refine hstG i w w' k hR e ?_ (hGc k hk)
          cases hc : (reachL ops 5 i).contains k with
          | false => rfl
          | true =>
            have h1 := reach_listed hcl 5 i (fun x hx => by
              unfold depsOf at hx
              rw [ho] at hx
              obtain ⟨e, he, rfl⟩ := List.mem_map.1 hx
              obtain ⟨he1, he2⟩ := List.mem_filter.1 he
              exact hafter e (Array.mem_toList_iff.1 he1) he2) k (List.contains_iff_mem.1 hc)
            rw [hk] at h1
            cases h1
      · by_cases e : k = i
        · subst e; rw [updV_self]; exact hFi
        · rw [updV_ne f v e]
          have hki : use k ≠ some i := fun h => by
            have := hku i h
            rw [getD_lt _ (by rw [Array.size_setIfInBounds]; omega), Array.getElem_setIfInBounds_self] at this
            cases this
          refine hst i w w' k _ hR e hki (hF k ?_ fun c hc => ?_)
          · rw [getD_set_ne false (by omega)] at hk
            exact hk
          · have := hku c hc
            rw [getD_set_ne false (by intro h; exact hki (h ▸ hc))] at this
            exact this
      · have := count_set listed.toList i hlf
        rw [Array.toList_setIfInBounds]
        omega
/-- The rule. -/
theorem wp_region_factsH {id : Nat} {a0 : Act} {w : World} (G : Nat → World → Prop) (F : Nat → Value → World → Prop) (B : World → Prop) (use : Nat → Option Nat) (R : Nat → World → World → Prop) (K0 : Act → World → Prop) (hK0 : ∀ a w, K0 a w → Q .normal a w) (n m : Nat) (ds : List (Option Tmp)) (hn : ops.size = n) (hmix : P.follows .mixedOrders = true) (hds : ops.toList.map (·.dst) = ds) (hd : distB ds = true) (hb : backB ops = true) (ht : tailB2 ops m = true) (hm : m ≤ n)
    (hst : ∀ j w w' i v, R j w w' → i ≠ j → use i ≠ some j → F i v w → F i v w') (hB : B w.drew) (hG : ∀ c, G c w.drew) (hstG : ∀ j w w' c, R j w w' → c ≠ j → (reachL ops 5 j).contains c = false → G c w → G c w')
    (hstep : ∀ (i : Nat) (o : Oper) (f : Nat → Value) (w : World), ops[i]? = some o → i < m → B w → G i w → (∀ e ∈ o.after, Region.binds .any e = true → use e.on = none ∨ use e.on = some i → F e.on (f e.on) w) → ∀ K : Act → World → Prop, (∀ v w', B w' → R i w w' → F i v w' → K ((putL ds f 0 a0).put o.dst v) w') → wpOp P ops Q i K (putL ds f 0 a0) w)
    (hend : ∀ (Q2 : Exit → Act → World → Prop), (∀ a w, K0 a w → Q2 .normal a w) → ∀ (f : Nat → Value) (w : World), B w → (∀ i, i < m → use i = none → F i (f i) w) → wpAny P .any ops Q2 (n - m) (tailArr n m) (putL ds f 0 a0) w) :
    (Code.region id ops true).wp P Q a0 w := by
  subst hn
  refine wp_region_any hmix ?_
  have := wpAny_factsH G F B use R m ds a0 hds hd hb ht hm hst hstG hstep (hend Q hK0) ops.size (Array.replicate ops.size false) (fun j => slotV a0 ((ds[j - 0]?).getD none)) w.drew (by simp)
    (fun i _ hi => by simp [Array.getD, hi]) (fun k _ _ hk => by simp [Array.getD] at hk) hB (fun c _ => hG c) (fun i hi _ => by simp [Array.getD] at hi) (by simp)
  rw [putL_self] at this
  exact this
end
end Go.Proofs.Ytbjaebbmajhjjaa

namespace Go.Proofs.Ytbjaebbmajhjjaa
set_option maxRecDepth 20000
set_option linter.unusedVariables false
set_option linter.unusedSimpArgs false
open Go.ChangeShapes Go.WideShapes Go.ChangeAt Go.RowKit

/-- What the operations of 'w[i], _ = bitset.Union(w[i], next[i])' leave. -/
def unF (w5 : World) (g1 : Nat) (l1 lc l2 : List ZH) (gV gN i q k v : Nat) (YA : Option Addr) (yn yc : Nat) (NA : Option Addr) (nn nc : Nat) (zs : List Nat) : Nat → Value → World → Prop
  | 0, x, _ => x = .slice (some ⟨gV, 0, none⟩) i q
  | 1, x, _ => x = .int .i64 (k : Int)
  | 2, x, _ => x = .slice (some ⟨gV, 0, none⟩) i q
  | 3, x, _ => x = .int .i64 (k : Int)
  | 4, x, _ => x = .pointer (some ⟨gV, k * 2, none⟩)
  | 5, x, _ => x = .agg #[.int .i64 (v : Int), .slice YA yn yc]
  | 6, x, _ => x = .slice (some ⟨gN, 0, none⟩) i i
  | 7, x, _ => x = .int .i64 (k : Int)
  | 8, x, _ => x = .pointer (some ⟨gN, k * 2, none⟩)
  | 9, x, _ => x = .agg #[.int .i64 (v : Int), .slice NA nn nc]
  | 10, x, u => ∃ g : Nat, x = .tuple #[.agg #[.int .i64 (v : Int), .slice (some ⟨g, 0, none⟩) (Bs.nw v) (Bs.nw v)], .int .i64 0] ∧ Row u g zs
  | 11, x, u => ∃ g : Nat, x = .tuple #[.agg #[.int .i64 (v : Int), .slice (some ⟨g, 0, none⟩) (Bs.nw v) (Bs.nw v)], .int .i64 0] ∧ Row u g zs
  | 12, x, u => ∃ g : Nat, x = .agg #[.int .i64 (v : Int), .slice (some ⟨g, 0, none⟩) (Bs.nw v) (Bs.nw v)] ∧ Row u g zs
  | 13, x, _ => True
  | 14, x, _ => x = .pointer (some ⟨gV, k * 2, none⟩)
  | 15, x, u => ∃ g : Nat, Lse w5 gV g1 i l1 (lc.set k ⟨(v : Int), some ⟨g, 0, none⟩, Bs.nw v, Bs.nw v, zs⟩) u ∧ VRow u gN i l2
  | _, _, _ => True
/-- What an operation leaves of the world. -/
def unR (j : Nat) (u u' : World) : Prop := if j = 15 then Stp1 41 u u' else Below u.heap.size u u'
theorem unR.stp {j : Nat} {u u' : World} (h : unR j u u') : Stp1 41 u u' := by
  unfold unR at h
  split at h
  · exact h
  · exact Stp1.below h
theorem unR.bel {j : Nat} {u u' : World} (h : unR j u u') (hj : j ≠ 15) : Below u.heap.size u u' := by
  unfold unR at h
  rwa [if_neg hj] at h
theorem unF_st {w5 : World} {g1 : Nat} {l1 lc l2 : List ZH} {gV gN i q k v : Nat} {YA : Option Addr} {yn yc : Nat} {NA : Option Addr} {nn nc : Nat} {zs : List Nat} (j : Nat) (u u' : World) (m : Nat) (x : Value) (hR : unR j u u') (hne : m ≠ j) (hu : (none : Option Nat) ≠ some j) (h : unF w5 g1 l1 lc l2 gV gN i q k v YA yn yc NA nn nc zs m x u) : unF w5 g1 l1 lc l2 gV gN i q k v YA yn yc NA nn nc zs m x u' := by
  match m, h with
  | 0, h => exact h
  | 1, h => exact h
  | 2, h => exact h
  | 3, h => exact h
  | 4, h => exact h
  | 5, h => exact h
  | 6, h => exact h
  | 7, h => exact h
  | 8, h => exact h
  | 9, h => exact h
  | 10, h => obtain ⟨g, h1, h2⟩ := h; exact ⟨g, h1, hR.stp.row h2 (by decide)⟩
  | 11, h => obtain ⟨g, h1, h2⟩ := h; exact ⟨g, h1, hR.stp.row h2 (by decide)⟩
  | 12, h => obtain ⟨g, h1, h2⟩ := h; exact ⟨g, h1, hR.stp.row h2 (by decide)⟩
  | 13, h => exact h
  | 14, h => exact h
  | 15, h => obtain ⟨g, h1, h2⟩ := h; exact ⟨g, h1.below (hR.bel (by omega)), h2.below (hR.bel (by omega))⟩
  | m + 16, h => trivial
theorem un_of {j : Nat} {u u' : World} (h : Below u.heap.size u u') (hj : j ≠ 15) : unR j u u' := by
  unfold unR; rwa [if_neg hj]
theorem un_refl (j : Nat) (u : World) (hj : j ≠ 15) : unR j u u := un_of (Below.refl _ _) hj
theorem stp_two {u : World} {g M : Nat} {l : List ZH} (W : Int) (A : Option Addr) (n c k : Nat) (h : SRow u g M l) : unR 15 u ((u.setCell ⟨g, k * 2, none⟩ (.int .i64 W)).setCell ⟨g, k * 2 + 1, none⟩ (.slice A n c)) := by
  obtain ⟨cur, hf, -⟩ := h.arr
  obtain ⟨r1, h1, h2⟩ := stp_set hf (k * 2) (.int .i64 W)
  refine ⟨some g, ?_, fun b e => by obtain rfl := Option.some.inj e; exact hf.typ⟩
  have a1 := setCell_grown u ⟨g, k * 2, none⟩ (.int .i64 W)
  have a2 := setCell_grown (u.setCell ⟨g, k * 2, none⟩ (.int .i64 W)) ⟨g, k * 2 + 1, none⟩ (.slice A n c)
  exact ⟨a2.os.trans a1.os, a2.tape.trans a1.tape, a2.output.trans a1.output, Nat.le_trans a1.size a2.size, fun b hb hne => (a2.block b (by have := a1.size; omega) hne).trans (a1.block b hb hne)⟩
/-- What stands till it is used. -/
def unG (w5 : World) (g1 : Nat) (l1 lc l2 : List ZH) (gV gN i : Nat) (c : Nat) (u : World) : Prop := (c = 5 ∨ c = 9 ∨ c = 10 ∨ c = 15) → Lse w5 gV g1 i l1 lc u ∧ VRow u gN i l2
set_option maxHeartbeats 12800000 in
theorem lawLeast (At : Option Addr) (nt ct : Nat) (zs : List Int) (w : World) (ht : IArg w At nt zs) (hnt : nt ≤ maxLen) :
    Calls Try.prog 5 #[.slice At nt ct] w fun e w' => e = .returned (.bool true) ∧ Below w.heap.size w w' := by
  have HT := hid (tape_new (c := ct) ht hnt)
  have HB := hid ((Below.refl w.heap.size w).alloc (Nat.le_refl _) (.cells #[.slice At nt ct, .int .i64 0] 59))
  clear ht
  go_enter Try.func5, Try.ntmps5
  go_wp2_with fail
  refine (new_any At nt ct w).mono ?_
  rintro e w0 ⟨rfl, rfl⟩
  go_wp2_with fail
  refine (system_any w.heap.size 6 _ HT.out (by omega) (by omega)).mono ?_
  rintro e w1 ⟨s, v, N, rfl, hs, hg, hN, htp, hgr⟩
  have ho := hg.ok hs (by omega)
  have HB1 := hid (after_app HB.out hgr (Nat.le_refl _))
  have hba := (Below.refl w1.heap.size w1).alloc (Nat.le_refl _) (.cells s.box 27)
  have HB2 := hid (below_step HB1.out hba)
  have Hs := hid (hs.below hba)
  have Ht2 := hid (htp.below hba htp.lt)
  have HBx := hid (Fb.new w1 s.box 27)
  have hWT := hid (show w.heap.size < w1.heap.size from by have := hgr.size; simp at this; omega)
  have Ho := hid ho
  have hv := ho.v256
  have hN1 := ho.n1
  have hW := ho.w
  have Hbn := hid ho.bn
  have hdn := ho.dn
  have hv4 := hg.v4
  have HIn := hid (sy_in hs ho)
  clear hs hg htp hgr ho hba HB HT HB1
  have HS := hid (fun (u : World) (hu : Below (w1.alloc (.cells s.box 27)).heap.size (w1.alloc (.cells s.box 27)) u) => solve_any s v N _ u (Hs.out.below hu) Ho.out)
  have HSo := hid (fun (y : ZL) (u : World) (ex' : List (Option Nat)) (hu : Below (w1.alloc (.cells s.box 27)).heap.size (w1.alloc (.cells s.box 27)) u) (hy : ZLok u ex' y) (hvo : VOk y v N) => isSolution_any s y v N _ ex' u (Hs.out.below hu) hy Ho.out hvo)
  obtain ⟨m, hm⟩ : ∃ m : Nat, N * v = m := ⟨_, rfl⟩
  have hm6 : m ≤ 6 * 4 := by rw [← hm]; exact Nat.mul_le_mul hN (by omega)
  have hmul : (N : Int) * (v : Int) = (m : Int) := by rw [← hm]; simp
  have Hm := hid hm
  clear hm
  unfold SY.a at HS HSo ⊢
  rw [hW, hdn] at HS ⊢
  simp only [hW, hdn] at HSo
  have hbox : s.box = #[.int .i64 v, .slice s.D.A N s.D.c, .slice s.T.A s.T.n s.T.c, .slice s.B.A s.B.n s.B.c] := by unfold SY.box; rw [hW, hdn]
  simp only [hbox] at HB2 Hs Ht2 HBx HS HSo
  have HBx2 := hid HBx.out
  clear HBx hbox
  go_wp2_with fail
  refine (HS.out _ (Below.refl _ _)).mono ?_
  generalize w1.alloc (.cells #[.int .i64 v, .slice s.D.A N s.D.c, .slice s.T.A s.T.n s.T.c, .slice s.B.A s.B.n s.B.c] 27) = w2 at *
  generalize w1.heap.size = bX at *
  rintro e w3 ⟨K, g1, l1, hK, rfl, hg1, hrow1, hok1, hvs1, hb3⟩
  obtain ⟨hIn, hOk, hpn, hpv⟩ := HIn.out
  have hKm : K ≤ m := by have := hK.few hOk hIn; rw [hpn, hpv, Hm.out] at this; exact this
  have HB3 := hid (below_step HB2.out hb3)
  have Ht3 := hid (Ht2.out.below hb3 Ht2.out.lt)
  have HBx3 := hid (HBx2.out.below hb3 HBx2.out.lt)
  have Hs3 := hid (Hs.out.below hb3)
  have HR3 := hid hrow1
  have Hok1 := hid hok1
  have Hvs1 := hid hvs1
  have HSo3 := hid (HSo.out ⟨some ⟨g1, 0, none⟩, N, N, l1⟩ w3 [] hb3 (zl_vrow hrow1 (by omega)) ⟨rfl, hok1⟩)
  rw [show decide (s.pw.rights (ZL.vs ⟨some ⟨g1, 0, none⟩, N, N, l1⟩) = ZL.vs ⟨some ⟨g1, 0, none⟩, N, N, l1⟩) = true from decide_eq_true (by rw [show ZL.vs ⟨some ⟨g1, 0, none⟩, N, N, l1⟩ = s.pw.round K from hvs1]; exact hK.sol)] at HSo3
  have HK := hid hK
  clear hg1 hrow1 hok1 hvs1 hb3 hIn hOk hpn hpv HS HSo hK HB2 Ht2 HBx2 Hs
  obtain ⟨c0, c1, c2, c3⟩ := HBx3.out.four
  go_wp2_with fail
  refine HSo3.out.mono ?_
  rintro e w4 ⟨rfl, hb4⟩
  have HB4 := hid (below_step HB3.out hb4)
  have Ht4 := hid (Ht3.out.below hb4 Ht3.out.lt)
  have HBx4 := hid (HBx3.out.below hb4 HBx3.out.lt)
  have Hs4 := hid (Hs3.out.below hb4)
  have HR4 := hid (HR3.out.below hb4)
  have HV := hid (values_any w.heap.size s v N w4 Ht4.out hW (by omega) Hbn.out hN1 (by omega))
  unfold SY.a at HV
  rw [hW, hdn] at HV
  clear hb4 HSo3 HB3 Ht3 HBx3 Hs3 HR3 c0 c1 c2 c3
  obtain ⟨c0, c1, c2, c3⟩ := HBx4.out.four
  have hK0 : decide ((m : Int) + 1 < (K : Int)) = false := by simp; omega
  go_wp2_with fail
  refine HV.out.mono ?_
  rintro e w5 ⟨gV, M, q, l, rfl, hsr, hM, hgV, htp5, hgr5⟩
  have HB5 := hid (after_app HB4.out hgr5 (Nat.le_refl _))
  have HBx5 := hid (HBx4.out.grown hgr5 (by have := hWT.out; simp; omega))
  have Hs5 := hid (Hs4.out.go (ex' := [some gV]) (Go2.grown hgr5 (.inr (by simp)) (fun k hk hm => by simp only [List.mem_cons, List.not_mem_nil, or_false, Option.some.injEq] at hm; exact absurd hm (by omega))))
  have HR5 := hid (HR4.out.taped Ht4.out hgr5)
  have hg1 : g1 ≠ gV := by have := HR4.out.lt; omega
  have hbX : bX ≠ gV := by have := HBx4.out.lt; omega
  have hwV : w.heap.size ≤ gV := by have := HB4.out.size; omega
  have Hsr := hid hsr
  have HgV := hid hwV
  clear hsr hgV htp5 hgr5 HB4 Ht4 HBx4 Hs4 HR4 HV hK0 c0 c1 c2 c3 hwV
  obtain ⟨c0, c1, c2, c3⟩ := HBx5.out.four
  rcases hM with eM | eM
  · subst eM
    have hnn : ((M : Int) != M) = false := by simp
    have HL0 := hid (show Lse w5 gV g1 M l1 l w5 from ⟨GrX.refl _ _, Hsr.out, HR5.out, hg1⟩)
    go_wp2_with fail
    go_loopw [9] (fun iv wr => ∃ i : Nat, i ≤ M ∧ iv = .int .i64 i ∧ Hid (∀ (k : Nat) (z : ZH), k < i → l[k]? = some z → z.W = v ∧ Bs.validB z.W z.ws = true) ∧ Hid (Lse w5 gV g1 M l1 l wr)) (fun iv _ => M - (intOf iv).toNat)
    case atStart => exact ⟨0, by omega, rfl, hid (fun k z h => by omega), HL0⟩
    case round =>
      obtain ⟨i, hi, rfl, HOk, HL⟩ := hrel
      clear c0 c1 c2 c3
      by_cases hlt : i < M
      · have n0 : (0 : Int) ≤ i := by omega
        have n1 : (i : Int) < M := by omega
        have n2 : (i : Int).toNat = i := by omega
        obtain ⟨z, hz, hzm⟩ := get_at HL.out.sr.len hlt
        have HC := hid (fun (u : World) (hu : Lse w5 gV g1 M l1 l u) => refValid_any z.W z.A z.n z.c z.ws u (hu.sr.all z hzm).arg.lies (hu.sr.all z hzm).arg.ok (hu.sr.all z hzm).arg.len)
        have Hz := hid hz
        obtain ⟨ZW, ZA, zn, zc, zs⟩ := z
        clear hz hzm
        simp only at HC
        obtain ⟨x0, x1⟩ := HL.out.sr.cells Hz.out
        simp only at x0 x1
        have hgw : gV < wr.heap.size := HL.out.sr.lt
        have hbw : bX < wr.heap.size := (HL.out.box HBx5.out hbX).lt
        have l0 := Later.cell (show (⟨gV, i * 2, none⟩ : Addr).block < wr.heap.size from hgw) x0
        have l1' := Later.cell (show (⟨gV, i * 2 + 1, none⟩ : Addr).block < wr.heap.size from hgw) x1
        obtain ⟨b0, b1, b2, b3⟩ := (HL.out.box HBx5.out hbX).four
        have l2 := Later.cell (show (⟨bX, 0, none⟩ : Addr).block < wr.heap.size from hbw) b0
        clear x0 x1 b0 b1 b2 b3
        cases hvb : Bs.validB ZW zs with
        | false =>
          rw [hvb] at HC
          go_wp2_with fail
          refine wp_region_below (by kernel_rfl) (by kernel_rfl) ?_
          repeat (go_big_quiet_step ((go_at_call 23; exact Later.call (HC.out _ (HL.out.below ‹Later wr›.keeps)))))
          refine wpQuiet_nil ?_
          rintro _ ⟨pq, rfl⟩
          have HLn := hid (HL.out.below pq.keeps)
          generalize pq.wd = wq at *
          clear pq l0 l1' l2 hgw hbw
          go_wp2_with fail
          refine (sane11_any _).mono ?_
          rintro e w8 ⟨rfl, hb8⟩
          have HB8 := hid (below_step (HLn.out.bel HB5.out HgV.out) hb8)
          clear hb8
          go_wp2_with fail
          go_ret
          exact ⟨rfl, HB8.out⟩
        | true =>
          rw [hvb] at HC
          have Hvb := hid hvb
          clear hvb
          go_wp2_with fail
          refine wp_region_below (by kernel_rfl) (by kernel_rfl) ?_
          repeat (go_big_quiet_step ((go_at_call 23; exact Later.call (HC.out _ (HL.out.below ‹Later wr›.keeps)))))
          refine wpQuiet_nil ?_
          rintro _ ⟨pq, rfl⟩
          have HLn := hid (HL.out.below pq.keeps)
          generalize pq.wd = wq at *
          clear pq l0 l1' l2 hgw hbw
          by_cases hw9 : ZW = (v : Int)
          · have t9 : (ZW != (v : Int)) = false := by simp [hw9]
            have HOk2 := hid (show ∀ (k : Nat) (z : ZH), k < i + 1 → l[k]? = some z → z.W = v ∧ Bs.validB z.W z.ws = true from fun k z hk hz => by
              by_cases e : k = i
              · subst e
                rw [Hz.out] at hz
                obtain rfl := Option.some.inj hz
                exact ⟨hw9, Hvb.out⟩
              · exact HOk.out k z (by omega) hz)
            clear hw9
            go_wp2_with fail
            go_roundw
            case rel => exact ⟨i + 1, by omega, by go_num, HOk2, HLn⟩
            case measure => simp [intOf]; omega
          · have t9 : (ZW != (v : Int)) = true := by simp [hw9]
            go_wp2_with fail
            refine (sane11_any _).mono ?_
            rintro e w8 ⟨rfl, hb8⟩
            have HB8 := hid (below_step (HLn.out.bel HB5.out HgV.out) hb8)
            clear hb8
            go_wp2_with fail
            go_ret
            exact ⟨rfl, HB8.out⟩
      · have eM : i = M := by omega
        subst eM
        have HA := hid (show ∀ z ∈ l, z.W = v ∧ Bs.Fit v z.ws from fun z hz => by
          obtain ⟨k, hk⟩ := List.mem_iff_getElem?.1 hz
          obtain ⟨h1, h2⟩ := HOk.out k z (by rw [← HL.out.sr.len]; exact (List.getElem?_eq_some_iff.1 hk).1) hk
          refine ⟨h1, ?_⟩
          rw [h1] at h2
          have := Bs.fit_of_valid h2 (HL.out.sr.all z hz).arg.ok
          simpa using this)
        obtain ⟨hIn, hOk, hpn, hpv⟩ := HIn.out
        have HVl := hid (pw_vals hpn hpv HL.out.sr.len HA.out)
        obtain ⟨x, hx⟩ : ∃ x, l.map ZH.ws = x := ⟨_, rfl⟩
        rw [hx] at HVl
        have HNx := hid (fun (u : World) (lc : List ZH) (hu : Lse w5 gV g1 i l1 lc u) (hf : ∀ z ∈ lc, z.W = v ∧ Bs.Fit v z.ws) => next2_any s ⟨some ⟨gV, 0, none⟩, i, q, lc⟩ v i [some gV] [] u (hu.sys Hs5.out) (hu.sr.zl (by omega)) Ho.out ⟨rfl, hf⟩)
        have HIa := hid (fun (u : World) (lc : List ZH) (hu : Lse w5 gV g1 i l1 lc u) (hf : ∀ z ∈ lc, z.W = v ∧ Bs.Fit v z.ws) (hle : LeV s.pw (s.pw.rights (lc.map ZH.ws)) (lc.map ZH.ws)) => isAbove_yes s ⟨some ⟨gV, 0, none⟩, i, q, lc⟩ v i [some gV] [] u (hu.sys Hs5.out) (hu.sr.zl (by omega)) Ho.out ⟨rfl, hf⟩ hle)
        unfold SY.a at HNx HIa
        rw [hW, hdn] at HNx HIa
        have HL1 := hid (show ∃ lc : List ZH, (∀ z ∈ lc, z.W = v ∧ Bs.Fit v z.ws) ∧ lc.map ZH.ws = s.pw.climb x 0 ∧ Lse w5 gV g1 i l1 lc wr from ⟨l, HA.out, hx, HL.out⟩)
        have Hpn := hid hpn
        have Hpv := hid hpv
        have HIn2 := hid hIn
        clear hIn hOk hpn hpv HL HOk HA hx hlt hi HL0 hnn
        clear HR5
        go_wp2_with fail
        go_loopw [10] (fun rv wr => ∃ j : Nat, j ≤ m + 1 ∧ rv = .int .i64 j ∧ Hid (∃ lc : List ZH, (∀ z ∈ lc, z.W = v ∧ Bs.Fit v z.ws) ∧ lc.map ZH.ws = s.pw.climb x j ∧ Lse w5 gV g1 i l1 lc wr)) (fun rv _ => m + 1 - (intOf rv).toNat)
        case atStart => exact ⟨0, by omega, rfl, HL1⟩
        case round =>
          obtain ⟨j, hj, rfl, HLj⟩ := hrel
          clear HL1
          obtain ⟨lc, hf, hm1, hls⟩ := HLj.out
          have HL := hid hls
          have HF := hid hf
          have HM := hid hm1
          clear HLj hf hm1 hls
          obtain ⟨c0, c1, c2, c3⟩ := (HL.out.box HBx5.out hbX).four
          by_cases hlt : j < m + 1
          · have HN1 := hid (HNx.out _ _ HL.out HF.out)
            go_wp2_with fail
            refine HN1.out.mono ?_
            rintro e w6 ⟨gN, l2, rfl, hgN, hrN, hfN, hvN, hb6⟩
            have HR := hid hrN
            have HL6 := hid (HL.out.below hb6)
            have HRf := hid hfN
            have HRv := hid (show l2.map ZH.ws = s.pw.rights (s.pw.climb x j) from by rw [hvN, ← HM.out]; rfl)
            have HgN := hid (show gN ≠ gV from by have := HL.out.sr.lt; omega)
            have Hlv := hid (show Lv v i (s.pw.climb x j) (s.pw.rights (s.pw.climb x j)) 0 lc from by have := Lv.start (N := i) HF.out (s.pw.rights (s.pw.climb x j)); rwa [HM.out] at this)
            have HS3 := hid (show ∃ lc : List ZH, Lv v i (s.pw.climb x j) (s.pw.rights (s.pw.climb x j)) 0 lc ∧ Lse w5 gV g1 i l1 lc w6 ∧ VRow w6 gN i l2 from ⟨lc, Hlv.out, HL6.out, HR.out⟩)
            clear hgN hrN hfN hvN hb6 HL HL6 HR Hlv HF HM HN1 c0 c1 c2 c3
            go_wp2_with fail
            go_loopw [13] (fun iv wr => ∃ k : Nat, k ≤ i ∧ iv = .int .i64 k ∧ Hid (∃ lc : List ZH, Lv v i (s.pw.climb x j) (s.pw.rights (s.pw.climb x j)) k lc ∧ Lse w5 gV g1 i l1 lc wr ∧ VRow wr gN i l2)) (fun iv _ => i - (intOf iv).toNat)
            case atStart => exact ⟨0, by omega, rfl, HS3⟩
            case round =>
              obtain ⟨k, hk, rfl, HSk⟩ := hrel
              clear HS3
              obtain ⟨lc, hlv, hls, hrw⟩ := HSk.out
              have HLv := hid hlv
              have HL := hid hls
              have HR := hid hrw
              clear HSk hlv hls hrw
              by_cases hki : k < i
              · obtain ⟨y, hy, hym⟩ := get_at HL.out.sr.len hki
                obtain ⟨n, hn, hnm⟩ := get_at HR.out.len hki
                have hyW := (HLv.out k y hy).1
                have hyF := (HLv.out k y hy).2.1
                have hnW := (HRf.out n hnm).1
                have hnF := (HRf.out n hnm).2
                have Hy := hid hy
                have Hn := hid hn
                have Hym := hid hym
                have Hnm := hid hnm
                have HyF := hid hyF
                have HnF := hid hnF
                clear hy hn hym hnm hyF hnF
                obtain ⟨YW, YA, yn, yc, ys⟩ := y
                obtain ⟨NW, NA, nn, nc, ns⟩ := n
                simp only at hyW hnW HyF HnF
                subst hyW
                subst hnW
                go_upto_region 23 with fail
                rename_i Kx hKx
                refine wp_region_factsH (unG w5 g1 l1 lc l2 gV gN i) (unF w5 g1 l1 lc l2 gV gN i q k v YA yn yc NA nn nc (orR v ys ns)) (fun _ => True) (fun _ => none) unR Kx (fun _ _ h => h) 16 16 [some 102, some 103, some 104, some 105, some 106, some 107, some 108, some 109, some 110, some 111, some 112, some 101, some 113, some 114, some 115, none] (by kernel_rfl) (by kernel_rfl) (by kernel_rfl) (by kernel_rfl) (by kernel_rfl) (by kernel_rfl) (by decide)
                  unF_st trivial (fun c _ => ⟨HL.out.below (Below.refl _ _).drew, HR.out.below (Below.refl _ _).drew⟩) ?gs ?ar ?en
                case gs =>
                  intro j u u' c hR hne hnr hG hc
                  have hj : j ≠ 15 := by
                    rintro rfl
                    rcases hc with rfl | rfl | rfl | rfl
                    · refine Bool.false_ne_true (hnr.symm.trans ?_)
                      kernel_rfl
                    · refine Bool.false_ne_true (hnr.symm.trans ?_)
                      kernel_rfl
                    · refine Bool.false_ne_true (hnr.symm.trans ?_)
                      kernel_rfl
                    · exact absurd rfl hne
                  obtain ⟨h1, h2⟩ := hG hc
                  exact ⟨h1.below (hR.bel hj), h2.below (hR.bel hj)⟩
                case ar =>
                  intro j o f u ho hi _ hG hpre K hK
                  match j, ho, hG, hpre, hK with
                  | 0, ho, hG, hpre, hK =>
                    obtain rfl := Option.some.inj ho
                    refine wpOp_step rfl fun K' hK' => ?_
                    simp only [putL, updV]
                    go_simp
                    have hz := hK' _ _ (hK (.slice (some ⟨gV, 0, none⟩) i q) (u) (trivial) (un_refl _ _ (by decide)) (rfl))
                    refine Eq.mp (congrArg (fun a => K' a (u)) ?_) hz
                    kernel_rfl
                  | 1, ho, hG, hpre, hK =>
                    obtain rfl := Option.some.inj ho
                    refine wpOp_step rfl fun K' hK' => ?_
                    simp only [putL, updV]
                    go_simp
                    have hz := hK' _ _ (hK (.int .i64 (k : Int)) (u) (trivial) (un_refl _ _ (by decide)) (rfl))
                    refine Eq.mp (congrArg (fun a => K' a (u)) ?_) hz
                    kernel_rfl
                  | 2, ho, hG, hpre, hK =>
                    obtain rfl := Option.some.inj ho
                    refine wpOp_step rfl fun K' hK' => ?_
                    simp only [putL, updV]
                    go_simp
                    have hz := hK' _ _ (hK (.slice (some ⟨gV, 0, none⟩) i q) (u) (trivial) (un_refl _ _ (by decide)) (rfl))
                    refine Eq.mp (congrArg (fun a => K' a (u)) ?_) hz
                    kernel_rfl
                  | 3, ho, hG, hpre, hK =>
                    obtain rfl := Option.some.inj ho
                    refine wpOp_step rfl fun K' hK' => ?_
                    simp only [putL, updV]
                    go_simp
                    have hz := hK' _ _ (hK (.int .i64 (k : Int)) (u) (trivial) (un_refl _ _ (by decide)) (rfl))
                    refine Eq.mp (congrArg (fun a => K' a (u)) ?_) hz
                    kernel_rfl
                  | 4, ho, hG, hpre, hK =>
                    obtain rfl := Option.some.inj ho
                    have k0 : (0 : Int) ≤ k := by omega
                    have k1 : (k : Int) < i := by omega
                    have k2 : (k : Int).toNat = k := by omega
                    have e2 : f 2 = .slice (some ⟨gV, 0, none⟩) i q := hpre ⟨2, .data⟩ (by simp) rfl (.inl rfl)
                    have e3 : f 3 = .int .i64 (k : Int) := hpre ⟨3, .data⟩ (by simp) rfl (.inl rfl)
                    obtain ⟨f, rfl⟩ := fixG f 2 _ e2
                    rw [updV_ne _ _ (by decide)] at e3
                    obtain ⟨f, rfl⟩ := fixG f 3 _ e3
                    clear e2 e3
                    refine wpOp_step rfl fun K' hK' => ?_
                    simp only [putL, updV]
                    go_simp
                    have hz := hK' _ _ (hK (.pointer (some ⟨gV, k * 2, none⟩)) (u) (trivial) (un_refl _ _ (by decide)) (rfl))
                    refine Eq.mp (congrArg (fun a => K' a (u)) ?_) hz
                    kernel_rfl
                  | 5, ho, hG, hpre, hK =>
                    obtain rfl := Option.some.inj ho
                    obtain ⟨x0, x1⟩ := (hG (.inl rfl)).1.sr.cells Hy.out
                    simp only at x0 x1
                    have e4 : f 4 = .pointer (some ⟨gV, k * 2, none⟩) := hpre ⟨4, .data⟩ (by simp) rfl (.inl rfl)
                    obtain ⟨f, rfl⟩ := fixG f 4 _ e4
                    clear e4
                    refine wpOp_step rfl fun K' hK' => ?_
                    simp only [putL, updV]
                    go_simp
                    have hz := hK' _ _ (hK (.agg #[.int .i64 (v : Int), .slice YA yn yc]) (u) (trivial) (un_refl _ _ (by decide)) (rfl))
                    refine Eq.mp (congrArg (fun a => K' a (u)) ?_) hz
                    kernel_rfl
                  | 6, ho, hG, hpre, hK =>
                    obtain rfl := Option.some.inj ho
                    refine wpOp_step rfl fun K' hK' => ?_
                    simp only [putL, updV]
                    go_simp
                    have hz := hK' _ _ (hK (.slice (some ⟨gN, 0, none⟩) i i) (u) (trivial) (un_refl _ _ (by decide)) (rfl))
                    refine Eq.mp (congrArg (fun a => K' a (u)) ?_) hz
                    kernel_rfl
                  | 7, ho, hG, hpre, hK =>
                    obtain rfl := Option.some.inj ho
                    refine wpOp_step rfl fun K' hK' => ?_
                    simp only [putL, updV]
                    go_simp
                    have hz := hK' _ _ (hK (.int .i64 (k : Int)) (u) (trivial) (un_refl _ _ (by decide)) (rfl))
                    refine Eq.mp (congrArg (fun a => K' a (u)) ?_) hz
                    kernel_rfl
                  | 8, ho, hG, hpre, hK =>
                    obtain rfl := Option.some.inj ho
                    have k0 : (0 : Int) ≤ k := by omega
                    have k1 : (k : Int) < i := by omega
                    have k2 : (k : Int).toNat = k := by omega
                    have e6 : f 6 = .slice (some ⟨gN, 0, none⟩) i i := hpre ⟨6, .data⟩ (by simp) rfl (.inl rfl)
                    have e7 : f 7 = .int .i64 (k : Int) := hpre ⟨7, .data⟩ (by simp) rfl (.inl rfl)
                    obtain ⟨f, rfl⟩ := fixG f 6 _ e6
                    rw [updV_ne _ _ (by decide)] at e7
                    obtain ⟨f, rfl⟩ := fixG f 7 _ e7
                    clear e6 e7
                    refine wpOp_step rfl fun K' hK' => ?_
                    simp only [putL, updV]
                    go_simp
                    have hz := hK' _ _ (hK (.pointer (some ⟨gN, k * 2, none⟩)) (u) (trivial) (un_refl _ _ (by decide)) (rfl))
                    refine Eq.mp (congrArg (fun a => K' a (u)) ?_) hz
                    kernel_rfl
                  | 9, ho, hG, hpre, hK =>
                    obtain rfl := Option.some.inj ho
                    obtain ⟨x0, x1⟩ := (hG (.inr (.inl rfl))).2.cells Hn.out
                    simp only at x0 x1
                    have e8 : f 8 = .pointer (some ⟨gN, k * 2, none⟩) := hpre ⟨8, .data⟩ (by simp) rfl (.inl rfl)
                    obtain ⟨f, rfl⟩ := fixG f 8 _ e8
                    clear e8
                    refine wpOp_step rfl fun K' hK' => ?_
                    simp only [putL, updV]
                    go_simp
                    have hz := hK' _ _ (hK (.agg #[.int .i64 (v : Int), .slice NA nn nc]) (u) (trivial) (un_refl _ _ (by decide)) (rfl))
                    refine Eq.mp (congrArg (fun a => K' a (u)) ?_) hz
                    kernel_rfl
                  | 10, ho, hG, hpre, hK =>
                    obtain rfl := Option.some.inj ho
                    have e5 : f 5 = .agg #[.int .i64 (v : Int), .slice YA yn yc] := hpre ⟨5, .data⟩ (by simp) rfl (.inl rfl)
                    have e9 : f 9 = .agg #[.int .i64 (v : Int), .slice NA nn nc] := hpre ⟨9, .data⟩ (by simp) rfl (.inl rfl)
                    obtain ⟨f, rfl⟩ := fixG f 5 _ e5
                    rw [updV_ne _ _ (by decide)] at e9
                    obtain ⟨f, rfl⟩ := fixG f 9 _ e9
                    clear e5 e9
                    have hg10 := hG (.inr (.inr (.inl rfl)))
                    refine wpOp_step rfl fun K' hK' => ?_
                    simp only [putL, updV]
                    go_simp
                    go_at_call 25
                    refine (devUnion_own v YA NA yn yc nn nc ys ns u (hg10.1.sr.all _ Hym.out).arg (hg10.2.all _ Hnm.out) (by omega) HyF.out HnF.out).mono ?_
                    rintro e u5 ⟨g, rfl, hr, hg, hb⟩
                    have hz := hK' _ _ (hK (.tuple #[.agg #[.int .i64 (v : Int), .slice (some ⟨g, 0, none⟩) (Bs.nw v) (Bs.nw v)], .int .i64 0]) (u5) (trivial) (un_of hb (by decide)) (⟨g, rfl, hr⟩))
                    refine Eq.mp (congrArg (fun a => K' a (u5)) ?_) hz
                    kernel_rfl
                  | 11, ho, hG, hpre, hK =>
                    obtain rfl := Option.some.inj ho
                    obtain ⟨g, e10, hr⟩ : ∃ g : Nat, f 10 = .tuple #[.agg #[.int .i64 (v : Int), .slice (some ⟨g, 0, none⟩) (Bs.nw v) (Bs.nw v)], .int .i64 0] ∧ Row u g (orR v ys ns) := hpre ⟨10, .data⟩ (by simp) rfl (.inl rfl)
                    obtain ⟨f, rfl⟩ := fixG f 10 _ e10
                    clear e10
                    refine wpOp_step rfl fun K' hK' => ?_
                    simp only [putL, updV]
                    go_simp
                    have hz := hK' _ _ (hK (.tuple #[.agg #[.int .i64 (v : Int), .slice (some ⟨g, 0, none⟩) (Bs.nw v) (Bs.nw v)], .int .i64 0]) (u) (trivial) (un_refl _ _ (by decide)) (⟨g, rfl, hr⟩))
                    refine Eq.mp (congrArg (fun a => K' a (u)) ?_) hz
                    kernel_rfl
                  | 12, ho, hG, hpre, hK =>
                    obtain rfl := Option.some.inj ho
                    obtain ⟨g, e11, hr⟩ : ∃ g : Nat, f 11 = .tuple #[.agg #[.int .i64 (v : Int), .slice (some ⟨g, 0, none⟩) (Bs.nw v) (Bs.nw v)], .int .i64 0] ∧ Row u g (orR v ys ns) := hpre ⟨11, .data⟩ (by simp) rfl (.inl rfl)
                    obtain ⟨f, rfl⟩ := fixG f 11 _ e11
                    clear e11
                    refine wpOp_step rfl fun K' hK' => ?_
                    simp only [putL, updV]
                    go_simp
                    have hz := hK' _ _ (hK (.agg #[.int .i64 (v : Int), .slice (some ⟨g, 0, none⟩) (Bs.nw v) (Bs.nw v)]) (u) (trivial) (un_refl _ _ (by decide)) (⟨g, rfl, hr⟩))
                    refine Eq.mp (congrArg (fun a => K' a (u)) ?_) hz
                    kernel_rfl
                  | 13, ho, hG, hpre, hK =>
                    obtain rfl := Option.some.inj ho
                    obtain ⟨g, e11, hr⟩ : ∃ g : Nat, f 11 = .tuple #[.agg #[.int .i64 (v : Int), .slice (some ⟨g, 0, none⟩) (Bs.nw v) (Bs.nw v)], .int .i64 0] ∧ Row u g (orR v ys ns) := hpre ⟨11, .data⟩ (by simp) rfl (.inl rfl)
                    obtain ⟨f, rfl⟩ := fixG f 11 _ e11
                    clear e11
                    refine wpOp_step rfl fun K' hK' => ?_
                    simp only [putL, updV]
                    go_simp
                    have hz := hK' _ _ (hK (.int .i64 0) (u) (trivial) (un_refl _ _ (by decide)) (trivial))
                    refine Eq.mp (congrArg (fun a => K' a (u)) ?_) hz
                    kernel_rfl
                  | 14, ho, hG, hpre, hK =>
                    obtain rfl := Option.some.inj ho
                    have k0 : (0 : Int) ≤ k := by omega
                    have k1 : (k : Int) < i := by omega
                    have k2 : (k : Int).toNat = k := by omega
                    have e0 : f 0 = .slice (some ⟨gV, 0, none⟩) i q := hpre ⟨0, .data⟩ (by simp) rfl (.inl rfl)
                    have e1 : f 1 = .int .i64 (k : Int) := hpre ⟨1, .data⟩ (by simp) rfl (.inl rfl)
                    obtain ⟨f, rfl⟩ := fixG f 0 _ e0
                    rw [updV_ne _ _ (by decide)] at e1
                    obtain ⟨f, rfl⟩ := fixG f 1 _ e1
                    clear e0 e1
                    refine wpOp_step rfl fun K' hK' => ?_
                    simp only [putL, updV]
                    go_simp
                    have hz := hK' _ _ (hK (.pointer (some ⟨gV, k * 2, none⟩)) (u) (trivial) (un_refl _ _ (by decide)) (rfl))
                    refine Eq.mp (congrArg (fun a => K' a (u)) ?_) hz
                    kernel_rfl
                  | 15, ho, hG, hpre, hK =>
                    obtain rfl := Option.some.inj ho
                    obtain ⟨g, e12, hr⟩ : ∃ g : Nat, f 12 = .agg #[.int .i64 (v : Int), .slice (some ⟨g, 0, none⟩) (Bs.nw v) (Bs.nw v)] ∧ Row u g (orR v ys ns) := hpre ⟨12, .data⟩ (by simp) rfl (.inl rfl)
                    have e14 : f 14 = .pointer (some ⟨gV, k * 2, none⟩) := hpre ⟨14, .data⟩ (by simp) rfl (.inl rfl)
                    obtain ⟨f, rfl⟩ := fixG f 12 _ e12
                    rw [updV_ne _ _ (by decide)] at e14
                    obtain ⟨f, rfl⟩ := fixG f 14 _ e14
                    clear e12 e14
                    have hB := hG (.inr (.inr (.inr rfl)))
                    have hfo := fit_orR v ys ns
                    have hwd : Wd u ⟨(v : Int), some ⟨g, 0, none⟩, Bs.nw v, Bs.nw v, orR v ys ns⟩ := by
                      have := Wd.row (W := (v : Int)) (c := Bs.nw v) hr hfo.ok (by rw [hfo.len]; unfold Bs.nw; omega)
                      rwa [hfo.len] at this
                    have HLN := hid (hB.1.put hki hwd)
                    have HRN := hid (hB.2.non2 (z := ⟨(v : Int), some ⟨g, 0, none⟩, Bs.nw v, Bs.nw v, orR v ys ns⟩) HgN.out hB.1.sr hki)
                    have HSt := hid (stp_two (v : Int) (some ⟨g, 0, none⟩) (Bs.nw v) (Bs.nw v) k hB.1.sr)
                    obtain ⟨x0, x1⟩ := hB.1.sr.cells Hy.out
                    have f0 := hB.1.sr.frozen (k * 2)
                    have f1 := hB.1.sr.frozen (k * 2 + 1)
                    have hl := hB.1.sr.lt
                    simp only at x0 x1
                    clear hB hr hwd hfo
                    refine wpOp_step rfl fun K' hK' => ?_
                    simp only [putL, updV]
                    go_simp
                    have hz := hK' _ _ (hK (undef) ((u.setCell ⟨gV, k * 2, none⟩ (.int .i64 (v : Int))).setCell ⟨gV, k * 2 + 1, none⟩ (.slice (some ⟨g, 0, none⟩) (Bs.nw v) (Bs.nw v))) (trivial) (HSt.out) (⟨g, HLN.out, HRN.out⟩))
                    refine Eq.mp (congrArg (fun a => K' a ((u.setCell ⟨gV, k * 2, none⟩ (.int .i64 (v : Int))).setCell ⟨gV, k * 2 + 1, none⟩ (.slice (some ⟨g, 0, none⟩) (Bs.nw v) (Bs.nw v)))) ?_) hz
                    kernel_rfl
                  | j + 16, ho, hG, hpre, hK => exact absurd hi (by omega)
                case en =>
                  intro Q2 hQ2 f u _ hF
                  obtain ⟨g, h1, h2⟩ := hF 15 (by decide) rfl
                  have HLN := hid h1
                  have HRN := hid h2
                  have HLvN := hid (HLv.out.put (z := ⟨(v : Int), some ⟨g, 0, none⟩, Bs.nw v, Bs.nw v, orR v ys ns⟩) Hy.out ⟨rfl, fit_orR v ys ns⟩ (by show orR v ys ns = orR v ys _; rw [← HRv.out, show at0 (l2.map ZH.ws) k = ns from at0_get (by rw [List.getElem?_map, Hn.out]; rfl)]))
                  clear hF h1 h2
                  show wpAny _ _ _ _ 0 (tailArr 16 16) _ _
                  refine ⟨by kernel_rfl, hQ2 _ _ (hKx _ _ ?_)⟩
                  simp only [putL]
                  clear HL HR
                  have HS4 := hid (show ∃ lc : List ZH, Lv v i (s.pw.climb x j) (s.pw.rights (s.pw.climb x j)) (k + 1) lc ∧ Lse w5 gV g1 i l1 lc _ ∧ VRow _ gN i l2 from ⟨_, HLvN.out, HLN.out, HRN.out⟩)
                  go_wp2_with fail
                  go_roundw
                  case rel => exact ⟨k + 1, by omega, by go_num, HS4⟩
                  case measure => simp [intOf]; omega
              · have ek : k = i := by omega
                subst ek
                obtain ⟨he, hf⟩ := HLv.out.done HL.out.sr.len
                have HS4 := hid (show ∃ lc : List ZH, (∀ z ∈ lc, z.W = v ∧ Bs.Fit v z.ws) ∧ lc.map ZH.ws = s.pw.climb x (j + 1) ∧ Lse w5 gV g1 k l1 lc wr from ⟨lc, hf, by rw [he]; show _ = orV s.pw.v s.pw.n _ _; rw [Hpn.out, Hpv.out], HL.out⟩)
                clear he hf HLv HL HR hki hk
                go_wp2_with fail
                go_roundw
                case rel => exact ⟨j + 1, by omega, by go_num, HS4⟩
                case measure => simp [intOf]; omega
          · have ej : j = m + 1 := by omega
            subst ej
            have HS5 := hid (show LeV s.pw (s.pw.rights (lc.map ZH.ws)) (lc.map ZH.ws) from by
              have := PW.climb_above (w := s.pw) HVl.out
              rw [Hpn.out, Hpv.out, Hm.out] at this
              rw [HM.out]; exact this)
            have HLe := hid (show LeV s.pw (s.pw.round K) (lc.map ZH.ws) from by
              have := PW.climb_least (w := s.pw) HIn2.out HVl.out K
              rw [Hpn.out, Hpv.out, Hm.out] at this
              rw [HM.out]; exact this)
            have HIb := hid (HIa.out _ _ HL.out HF.out HS5.out)
            have hnj : decide (((m + 1 : Nat) : Int) ≤ (m : Int)) = false := by simp; omega
            go_wp2_with fail
            refine HIb.out.mono ?_
            rintro e w7 ⟨rfl, hb7⟩
            have HL7 := hid (HL.out.below hb7)
            clear hb7 HL HIb c0 c1 c2 c3 HS5
            go_wp2_with fail
            go_loopw [14] (fun iv wr => ∃ k : Nat, k ≤ i ∧ iv = .int .i64 k ∧ Hid (Lse w5 gV g1 i l1 lc wr)) (fun iv _ => i - (intOf iv).toNat)
            case atStart => exact ⟨0, by omega, rfl, HL7⟩
            case round =>
              obtain ⟨k, hk, rfl, HL⟩ := hrel
              clear HL7
              by_cases hki : k < i
              · obtain ⟨y, hy, hym⟩ := get_at HL.out.sr.len hki
                obtain ⟨n, hn, hnm⟩ := get_at HL.out.v1.len hki
                have HSu := hid (show subsetB v n.ws v y.ws = true from by
                  refine su_yes (by omega) (Hok1.out n hnm).2 (HF.out y hym).2 fun a ha hb => ?_
                  have := HLe.out k (by rw [Hpn.out]; exact hki) a (by rw [Hpv.out]; exact ha)
                  rw [show at0 (lc.map ZH.ws) k = y.ws from at0_get (by rw [List.getElem?_map, hy]; rfl), show s.pw.round K = l1.map ZH.ws from Hvs1.out.symm, show at0 (l1.map ZH.ws) k = n.ws from at0_get (by rw [List.getElem?_map, hn]; rfl)] at this
                  exact this hb)
                have HC := hid (fun (u : World) (hu : Lse w5 gV g1 i l1 lc u) => devSubset_any n.W y.W n.A y.A n.n n.c y.n y.c n.ws y.ws u (hu.v1.all n hnm) (hu.sr.all y hym).arg)
                rw [show n.W = v from (Hok1.out n hnm).1, show y.W = v from (HF.out y hym).1, HSu.out] at HC
                obtain ⟨x0, x1⟩ := HL.out.sr.cells hy
                obtain ⟨x2, x3⟩ := HL.out.v1.cells hn
                rw [show y.W = v from (HF.out y hym).1] at x0
                rw [show n.W = v from (Hok1.out n hnm).1] at x2
                have n0 : (0 : Int) ≤ k := by omega
                have n1 : (k : Int) < i := by omega
                have n2 : (k : Int).toNat = k := by omega
                have hgw : gV < wr.heap.size := HL.out.sr.lt
                have hbw : g1 < wr.heap.size := HL.out.v1.lt
                have p0 := Later.cell (show (⟨gV, k * 2, none⟩ : Addr).block < wr.heap.size from hgw) x0
                have p1 := Later.cell (show (⟨gV, k * 2 + 1, none⟩ : Addr).block < wr.heap.size from hgw) x1
                have p2 := Later.cell (show (⟨g1, k * 2, none⟩ : Addr).block < wr.heap.size from hbw) x2
                have p3 := Later.cell (show (⟨g1, k * 2 + 1, none⟩ : Addr).block < wr.heap.size from hbw) x3
                obtain ⟨YW, YA, yn, yc, ys⟩ := y
                obtain ⟨NW, NA, nn, nc, ns⟩ := n
                simp only at HC p0 p1 p2 p3
                clear x0 x1 x2 x3 hy hym hn hnm HSu
                go_wp2_with fail
                refine wp_region_below (by kernel_rfl) (by kernel_rfl) ?_
                repeat (go_big_quiet_step ((go_at_call 27; exact Later.call (HC.out _ (HL.out.below ‹Later wr›.keeps)))))
                refine wpQuiet_nil ?_
                rintro _ ⟨pq, rfl⟩
                have HLn := hid (HL.out.below pq.keeps)
                generalize pq.wd = wq at *
                clear pq p0 p1 p2 p3 hgw hbw
                go_wp2_with fail
                go_roundw
                case rel => exact ⟨k + 1, by omega, by go_num, HLn⟩
                case measure => simp [intOf]; omega
              · have ek : k = i := by omega
                subst ek
                go_wp2_with fail
                refine (sane11_any _).mono ?_
                rintro e w8 ⟨rfl, hb8⟩
                have HB8 := hid (below_step (HL.out.bel HB5.out HgV.out) hb8)
                clear hb8
                go_wp2_with fail
                go_ret
                exact ⟨rfl, HB8.out⟩
  · subst eM
    have hnn : (((N + 1 : Nat) : Int) != (N : Int)) = true := by simp; omega
    have hnn2 : (((N : Int) + 1) != (N : Int)) = true := by simp; omega
    go_wp2_with fail
    refine (sane11_any _).mono ?_
    rintro e w8 ⟨rfl, hb8⟩
    have HB8 := hid (below_step HB5.out hb8)
    clear hb8
    go_wp2_with fail
    go_ret
    exact ⟨rfl, HB8.out⟩
end Go.Proofs.Ytbjaebbmajhjjaa

namespace Go.Proofs.Ytbjaebbmajhjjaa
set_option maxRecDepth 10000
open Go.ChangeShapes Go.WideShapes Go.ChangeAt Go.RowKit Go.Joins

theorem cells3 : Try.prog.cellsOf 3 = 1 := by kernel_rfl
theorem cells25 : Try.prog.cellsOf 41 = 2 := by kernel_rfl
theorem cells62 : Try.prog.cellsOf 80 = 1 := by kernel_rfl

theorem cell_in {w : World} {a : Addr} {v : Value} (h : w.cell? a = some v) : a.block < w.heap.size := by
  rcases Nat.lt_or_ge a.block w.heap.size with hlt | hge
  · exact hlt
  · unfold World.cell? at h; rw [Array.getElem?_eq_none hge] at h; cases h

theorem wf_u64 {z : Int} (h : (Lit.int .u64 z).wf = true) : 0 ≤ z ∧ z ≤ 18446744073709551615 := by
  have m0 : IntKind.u64.min = 0 := by decide
  have m1 : IntKind.u64.max = 18446744073709551615 := by decide
  simp [Lit.wf] at h
  omega
theorem open_list {H : Type} {enc : TypeId × Value → H} {W : World} {b0 base : Nat} {spare : Nat → Bool} {held : Bool} {v : Value} {d : DataW H} {p : List MemPlace}
    (hv : Value.okWide Try.prog W .any b0 22 v) (h : DataW.Trod enc Try.prog W base spare held 22 v d p) :
    ∃ (A : Option Addr) (n c : Nat) (l : List Int), v = .slice A n c ∧ IArg W A n l ∧ n ≤ maxLen := by
  obtain ⟨A, n, c, rfl⟩ := okWide_slice Try.underlying22 hv
  obtain ⟨fuel, hf⟩ := h
  rcases open_ints Try.underlying22 Try.underlying3 cells3 hf with ⟨hcs, _⟩ | ⟨x, l, c', zs, hcs, _, hl, hm, hz, _, hcell, hwz⟩
  · simp [Value.cells] at hcs
    obtain ⟨rfl, rfl, rfl⟩ := hcs
    exact ⟨none, 0, 0, [], rfl, ⟨.inl rfl, rfl⟩, by simp [maxLen]⟩
  · simp [Value.cells] at hcs
    obtain ⟨rfl, rfl, rfl⟩ := hcs
    have hle : n ≤ zs.length := by rw [hz]; split <;> omega
    refine ⟨some x, n, c, zs.take n, rfl, ⟨?_, by rw [List.length_take]; omega⟩, Nat.le_trans hl hm⟩
    by_cases h0 : n = 0
    · subst h0; exact .inl rfl
    · refine .inr ⟨x, rfl, ?_, fun j u hu => ?_⟩
      · have := cell_in (hcell 0 (by omega)); rwa [add_block] at this
      · unfold ints at hu
        rw [List.getElem?_map] at hu
        have hj : j < n := by
          rcases Nat.lt_or_ge j n with h | h
          · exact h
          · rw [List.getElem?_eq_none (by rw [List.length_take]; omega)] at hu; simp at hu
        rw [List.getElem?_take, if_pos hj, List.getElem?_eq_getElem (by omega)] at hu
        have := hcell j (by omega)
        rw [List.getD_eq_getElem?_getD, List.getElem?_eq_getElem (by omega)] at this
        rw [this]; simpa using hu

theorem open_set {H : Type} {enc : TypeId × Value → H} {W : World} {b0 base : Nat} {spare : Nat → Bool} {held : Bool} {v : Value} {d : DataW H} {p : List MemPlace}
    (hv : Value.okWide Try.prog W .any b0 41 v) (h : DataW.Trod enc Try.prog W base spare held 41 v d p) :
    ∃ (Wd : Int) (A : Option Addr) (n c : Nat) (ws : List Nat), v = .agg #[.int .i64 Wd, .slice A n c] ∧ Arg W A n ws ∧ n ≤ maxLen := by
  obtain ⟨c0, c1, y0, y1, m, rfl, rfl, rfl, hy0, hy1⟩ := open_agg2 Try.underlying41 (by kernel_rfl) cells25 hv h
  obtain ⟨a, e0, _, _⟩ := DataW.trod_int Try.underlying3 hy0
  simp at e0
  subst e0
  rcases open_ints Try.underlying39 Try.underlying80 cells62 hy1 with ⟨hcs, _⟩ | ⟨x, l, c', zs, hcs, _, hl, hm, hz, _, hcell, hwz⟩
  · simp at hcs
    subst hcs
    exact ⟨a, none, 0, 0, [], rfl, Arg.nil _ _, by simp [maxLen]⟩
  · simp at hcs
    subst hcs
    have hle : l ≤ zs.length := by rw [hz]; split <;> omega
    refine ⟨a, some x, l, c', (zs.take l).map Int.toNat, rfl, ⟨?_, by rw [List.length_map, List.length_take]; omega, ?_⟩, Nat.le_trans hl hm⟩
    · by_cases h0 : l = 0
      · subst h0; exact .inl rfl
      · refine .inr ⟨x, rfl, ?_, fun j u hu => ?_⟩
        · have := cell_in (hcell 0 (by omega)); rwa [add_block] at this
        · unfold words at hu
          rw [List.getElem?_map, List.getElem?_map] at hu
          have hj : j < l := by
            rcases Nat.lt_or_ge j l with h | h
            · exact h
            · rw [List.getElem?_eq_none (by rw [List.length_take]; omega)] at hu; simp at hu
          rw [List.getElem?_take, if_pos hj, List.getElem?_eq_getElem (by omega)] at hu
          have := hcell j (by omega)
          rw [List.getD_eq_getElem?_getD, List.getElem?_eq_getElem (by omega)] at this
          have hw := hwz zs[j] (List.getElem_mem _)
          rw [this]
          simp [u64] at hu ⊢
          rw [← hu]
          have h0 := wf_u64 hw
          simp; omega
    · intro y hy
      obtain ⟨z, hz1, rfl⟩ := List.mem_map.1 hy
      have hw := hwz z (List.mem_of_mem_take hz1)
      unfold Bs.W64
      have h0 := wf_u64 hw
      omega
end Go.Proofs.Ytbjaebbmajhjjaa

namespace Go.Proofs.Ytbjaebbmajhjjaa.fixpointLeast
open Go.ChangeShapes Go.WideShapes Go.ChangeAt Go.RowKit
open Go.ChangeMaps (open_string)
set_option linter.unusedVariables false

theorem own : ownKnob Try.prog.godebug = none := by kernel_rfl
theorem laidOut : laidOutB Try.prog = true := by kernel_rfl

set_option maxRecDepth 100000 in
theorem lifted (os : Os) (started : os.Started) (H : Type) (enc : TypeId × Value → H) :
    ReturnsInHanded {} Try.checked os 5 .any (Rows.fixpointLeastSpec.pre6 enc Try.prog Try.f5 Rows.fixpointLeastRow.domain false) (Rows.fixpointLeastSpec.post enc Try.prog Try.f5 false true false false) := by
  refine returnsInHanded_of_change (C := Try.checked) own started (by kernel_rfl) Try.func5
    (ChangeSpec.witness6 (enc := enc) (C := Try.checked) false ⟨#[], #[.slice none 0 0], []⟩ 8 (by kernel_rfl) (by kernel_rfl) (by kernel_rfl) (by kernel_rfl)) ?_
  intro W base args ds gs before hval0 hW hcnd _
  have hval : ∀ (j : Nat) t v, Try.f5.params[j]? = some t → args[j]? = some v → Value.okWide Try.prog W .any base t v := hval0
  have hW' := hW
  obtain ⟨p, q, hA0, hV, rfl, hfz, hnd⟩ := hW
  have hA : DataW.TrodAll enc Try.prog W 0 (fun _ => true) true Try.f5.params.toList args.toList ds p := hA0
  rw [Try.params5] at hA hval
  obtain ⟨v0, vs0, d0, ds0, p0, q0, hargs, rfl, rfl, h0, r0⟩ := trodAll_cons hA
  obtain ⟨rfl, rfl, rfl⟩ := trodAll_nil r0
  obtain rfl : args = #[v0] := by cases args; simp_all
  obtain ⟨rfl, rfl⟩ := trodVars_none hV
  have k0 := h0
  have lt0 : ∀ x ∈ p0, x.block < W.heap.size := by obtain ⟨m, hm⟩ := k0; exact DataW.trod_lt m _ _ _ hm
  obtain ⟨a0, n0, c0, l0, rfl, g0, m0⟩ := open_list (hval 0 22 v0 rfl rfl) h0
  clear hA0 hval0
  refine (lawLeast a0 n0 c0 l0 W g0 m0).mono fun e W' ⟨he, bel⟩ => ?_
  subst he
  exact ⟨_, rfl, _, _, _, [], _, [], hW', trodAll_mk1 (shut_bool Try.underlying4 _), (trodAll_cons_mk (Below.trod laidOut (by kernel_rfl) (of_decide_eq_true (by kernel_rfl)) k0 bel lt0) trodAll_mk0), rfl, bel.frame _, fun h => by cases h⟩

theorem over : Rows.fixpointLeastRow.holds Try.pinned (OpenSpec.ofChange Rows.fixpointLeastSpec) :=
  OpenClaim.holds_of_wide 5 Try.f5 rfl rfl rfl rfl rfl rfl rfl ⟨rfl, rfl, rfl, rfl, rfl⟩ rfl rfl rfl rfl rfl (by kernel_rfl) Try.func5 (by kernel_rfl)
    (of_decide_eq_true (by kernel_rfl)) (by unfold Func.isWrapper; first | (rw [if_pos (by decide +kernel)]; kernel_rfl) | (rw [if_neg (by decide +kernel)]; exact ⟨rfl, rfl⟩))
    (fun os started H enc _ => lifted os started H enc)

theorem proved : Rows.FixpointLeastSaid := over
#print axioms proved
end Go.Proofs.Ytbjaebbmajhjjaa.fixpointLeast
