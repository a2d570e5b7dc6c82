/- FixpointWebs holds for every input: the web of a system has the same least solution. No condition: every list of numbers, in whatever memory, on every schedule. -/
import Derived.Test.YtmnbidpoceknlaaWebsAlla
import Derived.Test.YtmnbidpoceknlaaEq2
import Derived.Deep.DeepCutAuto
import Derived.Test.YtmnbidpoceknlaaDEq
import Derived.Test.YtmnbidpoceknlaaDMem
import Derived.Test.YtmnbidpoceknlaaMake
import Derived.Test.YtmnbidpoceknlaaSame
import Derived.Deep.RegionHeld3
import Derived.Test.YtmnbidpoceknlaaGen
import Derived.Test.YtmnbidpoceknlaaMembers
import Derived.Lib.SmallJoins
import Derived.ShutString
import Derived.ChangeOld
namespace Go.Proofs.Ytmnbidpoceknlaa
set_option maxRecDepth 20000
set_option linter.unusedVariables false
set_option linter.unusedSimpArgs false
open Go.ChangeShapes Go.WideShapes Go.ChangeAt Go.RowKit

theorem WBok.far0 {w u : World} {x : WB} {ex : List (Option Nat)} (h : WBok w [] x) (hb : Below w.heap.size w u) (he : ∀ k, some k ∈ ex → w.heap.size ≤ k) : WBok u ex x := h.ext hb fun k hk hm => by have := he k hm; omega
theorem emp_round {p : PW} {v N : Nat} (h : PWok p v N) : (List.range N).map (fun _ => Bs.emp v) = p.round 0 := by
  show _ = (List.range p.n).map fun _ => Bs.emp p.v
  rw [h.n, h.v]
theorem Lst0.below {w0 u u' : World} {v N gv gn gc : Nat} {x : WB} {lv ln : List ZH} {cs : List Bool} (h : Lst0 w0 v N gv gn gc x lv ln cs u) (hb : Below u.heap.size u u') : Lst0 w0 v N gv gn gc x lv ln cs u' :=
  ⟨h.wx.below hb h.wx.lt, h.rv.below hb, h.rn.below hb, h.bc.below hb, h.wk.below hb, below_step h.bel hb, h.nvn, h.hv, h.hn, h.okv, h.okn⟩
theorem Lst0.note {w0 u : World} {v N gv gn gc : Nat} {x : WB} {lv ln : List ZH} {cs : List Bool} (h : Lst0 w0 v N gv gn gc x lv ln cs u) (hx : WBok w0 [] x) (hg : w0.heap.size < gc) (k : Nat) (b : Bool) :
    Lst0 w0 v N gv gn gc x lv ln (cs.set k b) (u.setCell ⟨gc, k, none⟩ (.bool b)) := by
  have hv := h.hv
  have hn := h.hn
  have hb := h.bel.setCell (p := ⟨gc, k, none⟩) (by simp; omega) (.bool b)
  exact ⟨h.wx.far (by simp; omega) _, h.rv.bools h.bc (bc_ne_row h.rv h.bc).symm _ _, h.rn.bools h.bc (bc_ne_row h.rn h.bc).symm _ _, h.bc.put k b, hx.far0 hb (fun i hi => by
    simp only [List.mem_cons, Option.some.injEq, List.not_mem_nil, or_false] at hi
    rcases hi with rfl | rfl <;> omega), hb, h.nvn, hv, hn, h.okv, h.okn⟩
set_option maxHeartbeats 12800000 in
theorem lastRound_any (x : WB) (v N : Nat) (w : World) (hx : WBok w [] x) (ho : WOk x v N) :
    Calls Try.prog 58 #[x.a] w (RetLast w v N x.pw) := by
  have hN := ho.n256
  have hv := ho.v256
  have hp := ho.pw hx
  have Hp := hid hp
  have Hx := hid hx
  have Ho := hid ho
  have hW := ho.w
  have hbn := ho.bn
  have hin := ho.inn
  have Hemp := hid (show emptyR v = ((v : Int), Bs.emp v, 0) by unfold emptyR; rw [if_neg (by omega), Int.toNat_natCast])
  clear hx ho hp
  generalize hP : x.pw = p at *
  have HP := hid hP
  clear hP
  obtain ⟨XW, ⟨BA, bn, bc, bl⟩, ⟨IA, inn, ic, il⟩⟩ := x
  unfold WB.a at *
  simp only at *
  subst XW
  subst bn
  subst inn
  have hmk := run_mksets N (by omega)
  have H0 := hid (show Rss w v N (w.heap.size + 1) (.slice BA N bc) (.slice IA N ic) (List.replicate N z0) ((w.alloc (.cells #[.int .i64 v, .slice BA N bc, .slice IA N ic] 56)).alloc (.cells ((List.replicate N z0).flatMap ZH.cs).toArray 41)) from by
    have hb := (Below.refl w.heap.size w).alloc (Nat.le_refl _) (.cells #[.int .i64 v, .slice BA N bc, .slice IA N ic] 56)
    have hr := VRow.new (w.alloc (.cells #[.int .i64 v, .slice BA N bc, .slice IA N ic] 56)) N
    rw [World.size_alloc] at hr
    exact ⟨(Fb.new w _ _).alloc _, hr, by omega, hb.alloc hb.size _⟩)
  have H0' := hid (show Done v 0 (fun _ => Bs.emp v) (List.replicate N z0) from fun i hi => by omega)
  generalize hl0 : List.replicate N z0 = l0 at *
  clear hl0
  go_enter Try.func58, Try.ntmps58
  go_wp2_with fail
  clear hmk
  generalize (w.alloc (.cells #[.int .i64 v, .slice BA N bc, .slice IA N ic] 56)).alloc (.cells (l0.flatMap ZH.cs).toArray 41) = w1 at *
  generalize hg1 : w.heap.size + 1 = g at *
  have Hg := hid hg1
  clear hg1
  go_loopw [5, 16, 19, 20, 21, 22, 23, 24, 25, 26, 27] (fun _ iv _ _ _ _ _ _ _ _ _ wr => ∃ (k : Nat) (l : List ZH), k ≤ N ∧ iv = .int .i64 k ∧ Hid (Rss w v N g (.slice BA N bc) (.slice IA N ic) l wr) ∧ Hid (Done v k (fun _ => Bs.emp v) l)) (fun _ iv _ _ _ _ _ _ _ _ _ _ => N - (intOf iv).toNat)
  case atStart => exact ⟨0, l0, by omega, rfl, H0, H0'⟩
  case round =>
    clear H0 H0'
    obtain ⟨k, l, hk, rfl, HI, HD⟩ := hrel
    by_cases hlt : k < N
    · obtain ⟨q0, q1, q2⟩ := HI.out.wx.three
      go_wp2_with fail
      refine (devEmpty_any v wr).mono ?_
      rw [Hemp.out]
      rintro e w5 ⟨A, n, c, rfl, ha, hb⟩
      clear q0 q1 q2
      have HI5 := hid (HI.out.below hb)
      have Hfin := hid (HI5.out.put (k := k) hlt (z := ⟨v, A, n, c, Bs.emp v⟩) ha)
      have HD5 := hid (HD.out.put (k := k) (by rw [HI.out.row.len]; exact hlt) (z := ⟨v, A, n, c, Bs.emp v⟩) rfl rfl (Bs.fit_emp v))
      simp only at Hfin
      obtain ⟨y, hy, -⟩ := get_at HI5.out.row.len hlt
      obtain ⟨p0, p1⟩ := HI5.out.row.cells hy
      have f0 := HI5.out.row.fb.frozen (k * 2)
      have f1 := HI5.out.row.fb.frozen (k * 2 + 1)
      have hpl := HI5.out.row.lt
      clear ha hb hy
      go_wp2_with fail
      go_roundw
      case rel => exact ⟨k + 1, l.set k ⟨v, A, n, c, Bs.emp v⟩, by omega, by go_num, Hfin, HD5⟩
      case measure => simp [intOf]; omega
    · obtain rfl : k = N := by omega
      obtain ⟨hok, hvs⟩ := HD.out.all HI.out.row.len
      rw [emp_round Hp.out] at hvs
      have hR := rightSides_any ⟨v, ⟨BA, k, bc, bl⟩, ⟨IA, k, ic, il⟩⟩ ⟨some ⟨g, 0, none⟩, k, k, l⟩ v k [] [] wr (Hx.out.below HI.out.bel) (HI.out.row.zl (by omega)) Ho.out ⟨rfl, hok⟩
      rw [HP.out, show ZL.vs ⟨some ⟨g, 0, none⟩, k, k, l⟩ = p.round 0 from hvs] at hR
      have HR := hid hR
      have Hok := hid hok
      have Hvs := hid hvs
      have hmk := run_mkbools k (by omega)
      clear hR hok hvs
      unfold WB.a at HR
      simp only at HR
      obtain ⟨q0, q1, q2⟩ := HI.out.wx.three
      go_wp2_with fail
      refine HR.out.mono ?_
      rintro e w2 ⟨g2, l2, rfl, hg2, hrow2, hok2, hvs2, hb2⟩
      have HI2 := hid (HI.out.below hb2)
      have Hrow2 := hid hrow2
      have Hok2 := hid hok2
      have Hvs2 := hid (show l2.map ZH.ws = p.round 1 from hvs2)
      have hgl := HI.out.row.lt
      clear q0 q1 q2 hrow2 hok2 hvs2 hb2
      obtain ⟨q0, q1, q2⟩ := HI2.out.wx.three
      have HL := hid (show Lst0 w v k g g2 w2.heap.size ⟨v, ⟨BA, k, bc, bl⟩, ⟨IA, k, ic, il⟩⟩ l l2 (List.replicate k false) (w2.alloc (.cells ((List.replicate k false).map Value.bool).toArray 4)) from by
        have hb := (Below.refl w2.heap.size w2).alloc (Nat.le_refl _) (.cells ((List.replicate k false).map Value.bool).toArray 4)
        have hgb := HI.out.gb
        have hbl := HI.out.bel.size
        have hbb := below_step HI2.out.bel hb
        exact ⟨HI2.out.wx.below hb HI2.out.wx.lt, HI2.out.row.below hb, Hrow2.out.below hb, BRow.new w2 k, Hx.out.far0 hbb (fun i hi => by
          simp only [List.mem_cons, Option.some.injEq, List.not_mem_nil, or_false] at hi
          rcases hi with rfl | rfl
          · omega
          · omega), hbb, by omega, hgb, by omega, Hok.out, Hok2.out⟩)
      have HE0 := hid (show ∀ i, i < 0 → (List.replicate k false)[i]? = some (!decide (at0 (p.round 1) i = at0 (p.round 0) i)) from fun i hi => by omega)
      generalize hcs : List.replicate k false = cs0 at *
      clear hcs
      go_wp2_with fail
      clear hmk q0 q1 q2 HR HI HI2 HD
      generalize w2.alloc (.cells (cs0.map Value.bool).toArray 4) = w3 at *
      have Hg3 := hid (show w.heap.size < w2.heap.size from by have := HL.out.hv; have := hgl; have := Hrow2.out.lt; have := HL.out.hn; omega)
      generalize hg3 : w2.heap.size = g3 at *
      clear hg3 hg2 hgl
      go_loopw [8, 38] (fun _ iv wr => ∃ (i : Nat) (cs : List Bool), i ≤ k ∧ iv = .int .i64 i ∧ Hid (Lst0 w v k g g2 g3 ⟨v, ⟨BA, k, bc, bl⟩, ⟨IA, k, ic, il⟩⟩ l l2 cs wr) ∧ Hid (∀ j, j < i → cs[j]? = some (!decide (at0 (p.round 1) j = at0 (p.round 0) j)))) (fun _ iv _ => k - (intOf iv).toNat)
      case atStart => exact ⟨0, cs0, by omega, rfl, HL, HE0⟩
      case round =>
        clear HL HE0
        obtain ⟨i, cs, hi, rfl, HI, HE⟩ := hrel
        by_cases hlt : i < k
        · have HId := hid (HI.out.below (Below.refl _ _).drew)
          obtain ⟨z, hz, hzm⟩ := get_at HId.out.rv.len hlt
          obtain ⟨y, hy, hym⟩ := get_at HId.out.rn.len hlt
          obtain ⟨p0, p1⟩ := HId.out.rv.cells hz
          obtain ⟨r0, r1⟩ := HId.out.rn.cells hy
          obtain ⟨hzW, hzf⟩ := Hok.out z hzm
          obtain ⟨hyW, hyf⟩ := Hok2.out y hym
          have hzA := HId.out.rv.all z hzm
          have hyA := HId.out.rn.all y hym
          have hvl := HId.out.rv.lt
          have hnl := HId.out.rn.lt
          have hz0 : at0 (p.round 0) i = z.ws := by rw [← Hvs.out]; exact at0_get (by rw [List.getElem?_map, hz]; rfl)
          have hy0 : at0 (p.round 1) i = y.ws := by rw [← Hvs2.out]; exact at0_get (by rw [List.getElem?_map, hy]; rfl)
          have hzn : z.n ≤ maxLen := by
            have h1 := hzA.len
            have h2 := hzf.len
            rw [← h1, h2]
            unfold Bs.nw maxLen
            omega
          have hEq : equalB v z.ws v y.ws = decide (at0 (p.round 1) i = at0 (p.round 0) i) := by
            unfold equalB sameB
            rw [Bs.valid_of_fit hzf hv, Bs.valid_of_fit hyf hv, hz0, hy0]
            simp only [decide_true, Bool.true_and]
            exact decide_eq_decide.2 ⟨fun h => h.symm, fun h => h.symm⟩
          have HC := hid (devEqual_any v v z.A y.A z.n z.c y.n y.c z.ws y.ws wr.drew hzA hyA hzn)
          rw [hEq] at HC
          obtain ⟨b0, hb0, -⟩ := get_at HId.out.bc.len hlt
          have hbk := HId.out.bc.cell hb0
          have n0 : (0 : Int) ≤ i := by omega
          have n1 : (i : Int) < k := by omega
          have n2 : (i : Int).toNat = i := by omega
          have HE2 := hid (show ∀ j, j < i + 1 → (cs.set i (!decide (at0 (p.round 1) i = at0 (p.round 0) i)))[j]? = some (!decide (at0 (p.round 1) j = at0 (p.round 0) j)) from fun j hj => by
            by_cases e : j = i
            · subst e
              rw [List.getElem?_set_self (by rw [HId.out.bc.len]; exact hlt)]
            · rw [List.getElem?_set_ne (by omega)]
              exact HE.out j (by omega))
          generalize hbb : decide (at0 (p.round 1) i = at0 (p.round 0) i) = bb at *
          obtain ⟨ZW, ZA, zn, zc, zs⟩ := z
          obtain ⟨YW, YA, yn, yc, ys⟩ := y
          simp only at *
          subst hzW
          subst hyW
          clear hzm hzA hzf hym hyA hyf hzn hEq hb0 hbb HE hz0 hy0 hz hy HI
          go_wp2_with fail
          go_region_with (first
            | (go_at_call 33
               go_must (
               refine HC.out.mono ?_
               rintro e w6 ⟨rfl, hb6⟩
               have HI6 := hid (HId.out.below hb6)
               have Hfin := hid (HI6.out.note Hx.out Hg3.out i (!bb))
               have hb60 := hb6.cell (p := ⟨g3, i, none⟩) HId.out.bc.fb.lt
               have hbk6 := hb60.trans hbk
               have f60 := HI6.out.bc.fb.frozen i
               have hl6 := HI6.out.bc.fb.lt
               clear hb60 hb6)))
          all_goals
            go_wp2_with fail
            go_roundw
            case rel => exact ⟨i + 1, cs.set i (!bb), by omega, by go_num, Hfin, HE2⟩
            case measure => simp [intOf]; omega
        · obtain rfl : i = k := by omega
          have hcs : cs = difB i (p.round 1) (p.round 0) := by
            apply List.ext_getElem?
            intro j
            by_cases hj : j < i
            · rw [HE.out j hj, difB_get hj]
            · rw [List.getElem?_eq_none (by rw [HI.out.bc.len]; omega), List.getElem?_eq_none (by unfold difB; simp; omega)]
          subst hcs
          have Hlr := hid (fun (K : Nat) => advs_eq Hp.out.ok Hp.out.inn Hp.out.n K)
          have Hpv := hid (fun (K : Nat) => PW.round_vals Hp.out.ok K)
          have HI' := hid (show Lst0 w v i g g2 g3 ⟨v, ⟨BA, i, bc, bl⟩, ⟨IA, i, ic, il⟩⟩ l l2 (difB i (p.round (0 + 1)) (p.round 0)) wr from HI.out)
          have HV0 := hid (show l.map ZH.ws = p.round 0 ∧ l2.map ZH.ws = p.round (0 + 1) from ⟨Hvs.out, Hvs2.out⟩)
          have HB0 := hid (show ∀ j, j < 0 → p.round (j + 1) ≠ p.round j from fun j hj => by omega)
          have Hbd := hid (fun (K : Nat) (hb : ∀ j, j < K → p.round (j + 1) ≠ p.round j) => show K ≤ i * v from by
            have h1 := PW.left_round Hp.out.ok Hp.out.inn hb
            rw [Hp.out.n, Hp.out.v] at h1
            omega)
          have hiv : i * v ≤ 65536 := Nat.mul_le_mul hN hv
          clear HE Hok Hok2 Hemp
          go_wp2_with fail
          go_loopw [4, 6, 7, 9] (fun a b c nv wr => ∃ (K gv gn gc : Nat) (lv ln : List ZH), a = .slice (some ⟨gv, 0, none⟩) i i ∧ b = .slice (some ⟨gn, 0, none⟩) i i ∧ c = .slice (some ⟨gc, 0, none⟩) i i ∧ nv = .int .i64 K ∧ Hid (Lst0 w v i gv gn gc ⟨v, ⟨BA, i, bc, bl⟩, ⟨IA, i, ic, il⟩⟩ lv ln (difB i (p.round (K + 1)) (p.round K)) wr) ∧ Hid (lv.map ZH.ws = p.round K ∧ ln.map ZH.ws = p.round (K + 1)) ∧ Hid (∀ j, j < K → p.round (j + 1) ≠ p.round j)) (fun _ _ _ nv _ => i * v + 1 - (intOf nv).toNat)
          case atStart => exact ⟨0, g, g2, g3, l, l2, rfl, rfl, rfl, rfl, HI', HV0, HB0⟩
          case round =>
            clear HI HI' HV0 HB0 Hvs Hvs2
            obtain ⟨K, gv, gn, gc, lv, ln, rfl, rfl, rfl, rfl, HI, HV, HB⟩ := hrel
            have hKb := Hbd.out K HB.out
            have HCt := hid (containsB_any gc i _ wr HI.out.bc (by omega))
            cases hc : (difB i (p.round (K + 1)) (p.round K)).any id with
            | true =>
              rw [hc] at HCt
              have hne := (difB_any Hp.out.n (Hpv.out (K + 1)) (Hpv.out K)).1 hc
              have HB2 := hid (show ∀ j, j < K + 1 → p.round (j + 1) ≠ p.round j from fun j hj => by
                by_cases e : j = K
                · subst e; exact hne
                · exact HB.out j (by omega))
              have hKb2 := Hbd.out (K + 1) HB2.out
              have hA := advance_any ⟨v, ⟨BA, i, bc, bl⟩, ⟨IA, i, ic, il⟩⟩ ln lv (difB i (p.round (K + 1)) (p.round K)) v i gn gv gc wr (HI.out.wk.go (Go2.less wr (by intro k hk; simp only [List.mem_cons, List.not_mem_nil, or_false] at hk ⊢; exact .inr hk))) Ho.out HI.out.rn HI.out.okn HI.out.rv HI.out.bc HI.out.nvn.symm (bc_ne_row HI.out.rv HI.out.bc)
              rw [HP.out, HV.out.2] at hA
              have HA := hid hA
              unfold WB.a at HA
              simp only at HA
              obtain ⟨q0, q1, q2⟩ := HI.out.wx.three
              clear hc hne hA
              go_wp2_with fail
              refine HCt.out.mono ?_
              rintro e w7 ⟨rfl, rfl⟩
              go_wp2_with fail
              refine HA.out.mono ?_
              rintro e w8 ⟨gd, l9, ds9, rfl, hgd, h1, h2, h3, ⟨h4, h5⟩, h6, h7⟩
              have h5' := h5.trans (Hlr.out K)
              have hf : ∀ m, m < i → p.adv (p.round (K + 1)) (fun m => (difB i (p.round (K + 1)) (p.round K)).getD m false) m = at0 (p.round (K + 2)) m := fun m hm => by rw [← Hlr.out K, at0_map hm]
              have h6' : ds9 = difB i (p.round (K + 1 + 1)) (p.round (K + 1)) := by
                rw [h6, HV.out.2]
                show _ = (List.range i).map fun k => !decide (at0 (p.round (K + 2)) k = at0 (p.round (K + 1)) k)
                apply List.map_congr_left
                intro m hm
                rw [hf m (List.mem_range.1 hm)]
              clear hf
              subst h6'
              have HI8 := hid (HI.out.turn h7 h1 h2 h3 h4)
              have HV8 := hid (show ln.map ZH.ws = p.round (K + 1) ∧ l9.map ZH.ws = p.round (K + 1 + 1) from ⟨HV.out.2, h5'⟩)
              clear h1 h2 h3 h4 h5 h5' h6 h7 q0 q1 q2
              go_wp2_with fail
              go_roundw
              case rel => exact ⟨K + 1, gn, gv, gd, ln, l9, rfl, rfl, rfl, by go_num, HI8, HV8, HB2⟩
              case measure => simp [intOf]; omega
            | false =>
              rw [hc] at HCt
              have heq : p.round (K + 1) = p.round K := Classical.byContradiction fun hne => by
                have := (difB_any Hp.out.n (Hpv.out (K + 1)) (Hpv.out K)).2 hne
                rw [hc] at this
                cases this
              have Hr := hid (show RetLast w v i p (.returned (.tuple #[.slice (some ⟨gv, 0, none⟩) i i, .int .i64 K])) wr from ⟨K, gv, lv, ⟨heq, HB.out⟩, rfl, by have := HI.out.hv; omega, HI.out.rv, HI.out.okv, HV.out.1, HI.out.bel⟩)
              clear hc heq
              go_wp2_with fail
              refine HCt.out.mono ?_
              rintro e w7 ⟨rfl, rfl⟩
              go_wp2_with fail
              exact bodyPost_ret (v := .tuple #[.slice (some ⟨gv, 0, none⟩) i i, .int .i64 K]) (by simp [results, Try.results58, go_sem]) rfl Hr.out
end Go.Proofs.Ytmnbidpoceknlaa

namespace Go.Proofs.Ytmnbidpoceknlaa
set_option maxRecDepth 20000
set_option linter.unusedVariables false
set_option linter.unusedSimpArgs false
open Go.ChangeShapes Go.WideShapes Go.ChangeAt Go.RowKit

/-- The web of a system passes linked. -/
theorem WLk.of {x : WB} {s : SY} {v N : Nat} (ho : WOk x v N) (hs : SOk s v N) (hp : x.pw = s.pw) : WLk x N := by
  have e1 : x.I.l.map AL.pa = s.D.l.map fun r => r.l.map s.arc := congrArg PW.arcs hp
  have a1 : (x.I.l.map AL.pa).map (fun l => l.map fun p => (p.1 : Int)) = x.I.l.map fun r => r.l.map AH.m := by
    rw [List.map_map]
    apply List.map_congr_left
    intro r hr
    show (r.l.map AH.pa).map _ = _
    rw [List.map_map]
    apply List.map_congr_left
    intro a ha
    show ((a.m.toNat : Nat) : Int) = a.m
    have := ((ho.arcs r hr).2 a ha).1
    omega
  have a2 : (s.D.l.map fun r => r.l.map s.arc).map (fun l => l.map fun p => (p.1 : Int)) = s.D.v := by
    rw [List.map_map]
    unfold LH.v
    apply List.map_congr_left
    intro r hr
    show (r.l.map s.arc).map _ = _
    rw [List.map_map]
    have : r.l.map ((fun p : Nat × Pf => (p.1 : Int)) ∘ s.arc) = r.l.map id := by
      apply List.map_congr_left
      intro a ha
      show ((a.toNat : Nat) : Int) = a
      have := (hs.d r hr).2 a ha
      omega
    rw [this, List.map_id]
  have e : (x.I.l.map fun r => r.l.map AH.m) = s.D.v := by rw [← a1, e1, a2]
  refine ⟨hs.n1, fun r hr => ?_, by rw [e]; exact hs.tt⟩
  have hm : r.l.map AH.m ∈ s.D.v := by rw [← e]; exact List.mem_map.2 ⟨r, hr, rfl⟩
  obtain ⟨y, hy, h⟩ := List.mem_map.1 hm
  rw [← h]
  exact hs.d y hy
/-- The least solution came back. -/
def RetSol (w : World) (v N : Nat) (p : PW) (e : Ending) (w' : World) : Prop :=
  ∃ (K g : Nat) (l : List ZH), p.Last K ∧ e = .returned (.tuple #[.slice (some ⟨g, 0, none⟩) N N, .int .i64 K, .int .i64 0]) ∧ w.heap.size ≤ g ∧ VRow w' g N l ∧ (∀ z ∈ l, z.W = v ∧ Bs.Fit v z.ws) ∧ l.map ZH.ws = p.round K ∧ Below w.heap.size w w'
def RetSolW (w : World) (v N : Nat) (p : PW) (e : Ending) (w' : World) : Prop :=
  ∃ (K g : Nat) (l : List ZH), p.Last K ∧ e = .returned (.tuple #[.slice (some ⟨g, 0, none⟩) N N, .int .i64 0]) ∧ w.heap.size ≤ g ∧ VRow w' g N l ∧ (∀ z ∈ l, z.W = v ∧ Bs.Fit v z.ws) ∧ l.map ZH.ws = p.round K ∧ Below w.heap.size w w'
theorem webC (s : SY) (v N : Nat) (ex : List (Option Nat)) (w : World) (h : SYok w ex s) (ho : SOk s v N) :
    Calls Try.prog 30 #[.agg #[.int .i64 s.W, .slice s.D.A s.D.n s.D.c, .slice s.T.A s.T.n s.T.c, .slice s.B.A s.B.n s.B.c]] w fun e w' => ∃ (BA : Option Addr) (bc : Nat) (bl : List ZH) (IA : Option Addr) (ic : Nat) (il : List AL), e = .returned (.tuple #[.agg #[.int .i64 v, .slice BA N bc, .slice IA N ic], .int .i64 0]) ∧ WBok w' [] ⟨v, ⟨BA, N, bc, bl⟩, ⟨IA, N, ic, il⟩⟩ ∧ WOk ⟨v, ⟨BA, N, bc, bl⟩, ⟨IA, N, ic, il⟩⟩ v N ∧ (⟨v, ⟨BA, N, bc, bl⟩, ⟨IA, N, ic, il⟩⟩ : WB).pw = s.pw ∧ Below w.heap.size w w' := by
  refine (web_any [] s v N ex w h ho (by simp)).mono ?_
  rintro e w' ⟨⟨XW, ⟨BA, bn, bc, bl⟩, ⟨IA, inn, ic, il⟩⟩, rfl, hx, hox, hpw, hb⟩
  have h1 := hox.w
  have h2 := hox.bn
  have h3 := hox.inn
  simp only at h1 h2 h3
  subst h1
  subst h2
  subst h3
  exact ⟨BA, bc, bl, IA, ic, il, rfl, hx, hox, hpw, hb⟩
set_option maxHeartbeats 3200000 in
theorem solve_any (s : SY) (v N : Nat) (ex : List (Option Nat)) (w : World) (h : SYok w ex s) (ho : SOk s v N) :
    Calls Try.prog 23 #[s.a] w (RetSol w v N s.pw) := by
  have Hb0 := hid ((Below.refl w.heap.size w).alloc (Nat.le_refl _) (.cells s.box 27))
  have HC := hid (fun (u : World) (hu : Below w.heap.size w u) => webC s v N ex u (h.below hu) ho)
  have Hbx := hid (Fb.new w s.box 27)
  clear h ho
  generalize s.pw = p at *
  unfold SY.a at *
  unfold SY.box at *
  go_enter Try.func23, Try.ntmps23
  go_wp2_with fail
  refine (HC.out _ Hb0.out).mono ?_
  rintro e w2 ⟨BA, bc, bl, IA, ic, il, rfl, hx, hox, hpw, hb2⟩
  have hba := (Below.refl w2.heap.size w2).alloc (Nat.le_refl _) (.cells #[.int .i64 v, .slice BA N bc, .slice IA N ic] 56)
  have HR := hid (lastRound_any ⟨v, ⟨BA, N, bc, bl⟩, ⟨IA, N, ic, il⟩⟩ v N _ (hx.below hba) hox)
  have Hb2 := hid (below_step (below_step Hb0.out hb2) hba)
  rw [hpw] at HR
  unfold WB.a at HR
  simp only at HR
  clear hx hox hpw hb2 hba Hb0 HC Hbx
  go_wp2_with fail
  refine HR.out.mono ?_
  rintro e w3 ⟨K, g, l, hK, rfl, hg, hrow, hok, hvs, hb3⟩
  have Hr := hid (show RetSol w v N p (.returned (.tuple #[.slice (some ⟨g, 0, none⟩) N N, .int .i64 K, .int .i64 0])) w3 from ⟨K, g, l, hK, rfl, by have := Hb2.out.size; omega, hrow, hok, hvs, below_step Hb2.out hb3⟩)
  clear hK hg hrow hok hvs hb3 HR
  go_wp2_with fail
  exact bodyPost_ret (v := .tuple #[.slice (some ⟨g, 0, none⟩) N N, .int .i64 K, .int .i64 0]) (by simp [results, Try.results23, go_sem]) rfl Hr.out
set_option maxHeartbeats 3200000 in
theorem solveWeb_any (x : WB) (v N : Nat) (ex : List (Option Nat)) (w : World) (h : WBok w ex x) (ho : WOk x v N) (hk : WLk x N) :
    Calls Try.prog 31 #[x.a] w (RetSolW w v N x.pw) := by
  have h := h.go (Go2.less w (ex' := []) (by simp))
  have hW := ho.w
  have hbn := ho.bn
  have hin := ho.inn
  have HV := hid (fun (u : World) (hu : Below w.heap.size w u) => validWeb_any x v N [] u (h.below hu) ho hk)
  have HR := hid (fun (u : World) (hu : Below w.heap.size w u) => lastRound_any x v N u (h.below hu) ho)
  clear h ho hk
  generalize x.pw = p at *
  obtain ⟨XW, ⟨BA, bn, bc, bl⟩, ⟨IA, inn, ic, il⟩⟩ := x
  simp only at hW hbn hin
  subst hW
  have hbn := hbn.symm
  subst hbn
  have hin := hin.symm
  subst hin
  unfold WB.a at *
  simp only at *
  have Hb0 := hid ((Below.refl w.heap.size w).alloc (Nat.le_refl _) (.cells #[.int .i64 v, .slice BA N bc, .slice IA N ic] 56))
  have Hbx := hid (Fb.new w #[.int .i64 v, .slice BA N bc, .slice IA N ic] 56)
  go_enter Try.func31, Try.ntmps31
  go_wp2_with fail
  refine (HV.out _ Hb0.out).mono ?_
  rintro e w2 ⟨rfl, hb2⟩
  have Hb2 := hid (below_step Hb0.out hb2)
  have Hbx2 := hid (Hbx.out.below hb2 Hbx.out.lt)
  clear hb2 Hb0 Hbx HV
  obtain ⟨c0, c1, c2⟩ := Hbx2.out.three
  go_wp2_with fail
  refine (HR.out _ Hb2.out).mono ?_
  rintro e w3 ⟨K, g, l, hK, rfl, hg, hrow, hok, hvs, hb3⟩
  have Hr := hid (show RetSolW w v N p (.returned (.tuple #[.slice (some ⟨g, 0, none⟩) N N, .int .i64 0])) w3 from ⟨K, g, l, hK, rfl, by have := Hb2.out.size; omega, hrow, hok, hvs, below_step Hb2.out hb3⟩)
  clear hK hg hrow hok hvs hb3 HR c0 c1 c2
  go_wp2_with fail
  exact bodyPost_ret (v := .tuple #[.slice (some ⟨g, 0, none⟩) N N, .int .i64 0]) (by simp [results, Try.results31, go_sem]) rfl Hr.out
end Go.Proofs.Ytmnbidpoceknlaa

namespace Go.Proofs.Ytmnbidpoceknlaa
set_option maxRecDepth 20000
set_option linter.unusedVariables false
set_option linter.unusedSimpArgs false
open Go.ChangeShapes Go.WideShapes Go.ChangeAt Go.RowKit

/-- The first error of a list of values. -/
def chkV (N : Nat) (W : Int) (n : Nat) (l : List ZH) : Int :=
  if decide (n = N) = false then 1 else if (l.all fun z => Bs.validB z.W z.ws) = false then 1 else if (l.all fun z => decide (z.W = W)) = false then 2 else 0
def widE (W : Int) (l : List ZH) : Int := if (l.all fun z => decide (z.W = W)) = true then 0 else 2
theorem widE_snoc (W : Int) (l : List ZH) (k : Nat) (z : ZH) (h : l[k]? = some z) : widE W (l.take (k + 1)) = if z.W = W then widE W (l.take k) else 2 := by
  unfold widE
  rw [List.take_add_one, h, List.all_append]
  by_cases e : z.W = W
  · simp [e]
  · simp [e]
theorem ret_e {a b : Int} (h : a = b) : Ending.returned (.int .i64 b) = Ending.returned (.int .i64 a) := by rw [h]
set_option maxHeartbeats 6400000 in
theorem checkValues_any (s : SY) (y : ZL) (ex ex' : List (Option Nat)) (w : World) (h : SYok w ex s) (hy : ZLok w ex' y) :
    Calls Try.prog 94 #[s.a, .slice y.A y.n y.c] w fun e w' => e = .returned (.int .i64 (chkV s.D.n s.W y.n y.l)) ∧ Below w.heap.size w w' := by
  have hdn := h.d.few
  have hyn := hy.few
  have HY := hid hy
  have HL := hid hy.len
  clear h hy
  obtain ⟨W, ⟨DA, dn, dc, dl⟩, ⟨TA, tn, tc, tl⟩, ⟨BA, bn, bc, bl⟩⟩ := s
  obtain ⟨A, n, c, l⟩ := y
  unfold SY.a
  simp only at *
  have HB0 := hid ((Below.refl w.heap.size w).alloc (Nat.le_refl _) (.cells #[.int .i64 W, .slice DA dn dc, .slice TA tn tc, .slice BA bn bc] 27))
  have HG := hid (Fb.new w #[.int .i64 W, .slice DA dn dc, .slice TA tn tc, .slice BA bn bc] 27)
  go_enter Try.func94, Try.ntmps94
  by_cases h1 : n = dn
  · subst h1
    have t1 : ((n : Int) != (n : Int)) = false := by simp
    have Hd := hid (show chkV n W n l = if (l.all fun z => Bs.validB z.W z.ws) = false then 1 else widE W l by
      unfold chkV widE
      simp only [decide_true, Bool.true_eq_false, if_false]
      cases (l.all fun z => decide (z.W = W)) <;> simp)
    generalize chkV n W n l = R at *
    go_wp2_with fail
    clear t1
    generalize w.alloc (.cells #[.int .i64 W, .slice DA n dc, .slice TA tn tc, .slice BA bn bc] 27) = w0 at *
    go_loopw [5, 7, 16] (fun ev _ iv wr => ∃ k : Nat, k ≤ n ∧ iv = .int .i64 k ∧ ev = .int .i64 (widE W (l.take k)) ∧ Hid (Below w.heap.size w wr ∧ Fb wr w.heap.size #[.int .i64 W, .slice DA n dc, .slice TA tn tc, .slice BA bn bc] 27) ∧ Hid (∀ z ∈ l.take k, Bs.validB z.W z.ws = true)) (fun _ _ iv _ => n - (intOf iv).toNat)
    case atStart => exact ⟨0, by omega, rfl, rfl, hid ⟨HB0.out, HG.out⟩, hid (by simp)⟩
    case round =>
      obtain ⟨k, hk, rfl, rfl, HB, hE⟩ := hrel
      by_cases hlt : k < n
      · obtain ⟨y, hy, hym⟩ := get_at HL.out hlt
        have HYr := hid (HY.out.below HB.out.1)
        obtain ⟨ad, hA, had, c0, c1⟩ := HYr.out.cell hy
        simp only at hA
        subst hA
        have HYa := hid ((HYr.out.all y hym).arg.alloc (.cells #[.int .i64 y.W, .slice y.A y.n y.c] 41))
        have Hw := hid (widE_snoc W l k y hy)
        have Hno := hid (fun hp : Bs.validB y.W y.ws = false => show R = 1 by rw [Hd.out, if_pos (all_no (p := fun z => Bs.validB z.W z.ws) hy hp)])
        have Hyes := hid (fun hp : Bs.validB y.W y.ws = true => all_take (p := fun z => Bs.validB z.W z.ws) hE.out hy hp)
        clear hy hym HYr
        obtain ⟨V, yA, yn, yc, ys⟩ := y
        simp only at *
        have hba := (Below.refl wr.heap.size wr).alloc (Nat.le_refl _) (.cells #[.int .i64 V, .slice yA yn yc] 41)
        have HB1 := hid (show Below w.heap.size w (wr.alloc (.cells #[.int .i64 V, .slice yA yn yc] 41)) from below_step HB.out.1 hba)
        have HG1 := hid (HB.out.2.below hba HB.out.2.lt)
        have Hbx := hid (Fb.new wr #[.int .i64 V, .slice yA yn yc] 41)
        clear hba
        go_wp2_with fail
        clear c0 c1
        refine (devValid_any V yA yn yc ys _ HYa.out).mono ?_
        generalize wr.alloc (.cells #[.int .i64 V, .slice yA yn yc] 41) = wv at *
        generalize wr.heap.size = gv at *
        cases hv : Bs.validB V ys with
        | false =>
          rintro e w1 ⟨rfl, hb1⟩
          have Hr := hid (Hno.out hv)
          have Hb := hid (below_step HB1.out hb1)
          clear hv hb1 Hno Hyes
          go_wp2_with fail
          go_ret
          exact ⟨ret_e Hr.out, Hb.out⟩
        | true =>
          rintro e w1 ⟨rfl, hb1⟩
          have HG2 := hid (HG1.out.below hb1 HG1.out.lt)
          have Hb := hid (show Below w.heap.size w w1 ∧ Fb w1 w.heap.size #[.int .i64 W, .slice DA n dc, .slice TA tn tc, .slice BA bn bc] 27 from ⟨below_step HB1.out hb1, HG2.out⟩)
          obtain ⟨d0, d1⟩ := (Hbx.out.below hb1 Hbx.out.lt).two
          obtain ⟨s0, s1, s2, s3⟩ := HG2.out.four
          have Hr := hid (Hyes.out hv)
          clear hv hb1 d1 s1 s2 s3 Hno Hyes
          by_cases h2 : V = W
          · have t2 : (V != W) = false := by simp [h2]
            rw [if_pos h2] at Hw
            clear h2
            go_wp2_with fail
            go_roundw
            case rel => exact ⟨k + 1, by omega, by go_num, by rw [Hw.out], Hb, Hr⟩
            case measure => simp [intOf]; omega
          · have t2 : (V != W) = true := by simp [h2]
            rw [if_neg h2] at Hw
            clear h2
            go_wp2_with fail
            go_roundw
            case rel => exact ⟨k + 1, by omega, by go_num, by rw [Hw.out], Hb, Hr⟩
            case measure => simp [intOf]; omega
      · obtain rfl : k = n := by omega
        have Hr := hid (show R = widE W (l.take k) by
          rw [Hd.out, if_neg (by rw [all_yes (p := fun z => Bs.validB z.W z.ws) HL.out hE.out]; decide), List.take_of_length_le (by rw [HL.out]; exact Nat.le_refl _)])
        go_wp2_with fail
        go_ret
        exact ⟨ret_e Hr.out, HB.out.1⟩
  · have t1 : ((n : Int) != (dn : Int)) = true := by simp; omega
    have Hr := hid (show chkV dn W n l = 1 by unfold chkV; simp [h1])
    clear h1
    go_wp2_with fail
    go_ret
    exact ⟨ret_e Hr.out, HB0.out⟩
end Go.Proofs.Ytmnbidpoceknlaa

namespace Go.Proofs.Ytmnbidpoceknlaa
set_option maxRecDepth 20000
set_option linter.unusedVariables false
set_option linter.unusedSimpArgs false
open Go.ChangeShapes Go.WideShapes Go.ChangeAt Go.RowKit

/-- While a right side is computed. -/
structure Rtw (w0 : World) (s : SY) (v b : Nat) (A : Option Addr) (n c : Nat) (zs : List Nat) (u : World) : Prop where
  sx : Fb u w0.heap.size s.box 27
  rx : Fb u (w0.heap.size + 1) #[.int .i64 0, .slice none 0 0] 41
  bx : Fb u b #[.int .i64 v, .slice A n c] 41
  hb : w0.heap.size + 1 < b
  pv : Arg u A n zs
  ft : Bs.Fit v zs
  bel : Below w0.heap.size w0 u
section
variable {w0 u u' : World} {s : SY} {v b : Nat} {A : Option Addr} {n c : Nat} {zs : List Nat}
theorem Rtw.below (h : Rtw w0 s v b A n c zs u) (hb : Below u.heap.size u u') : Rtw w0 s v b A n c zs u' := ⟨h.sx.below hb h.sx.lt, h.rx.below hb h.rx.lt, h.bx.below hb h.bx.lt, h.hb, h.pv.below hb, h.ft, below_step h.bel hb⟩
theorem Rtw.put (h : Rtw w0 s v b A n c zs u) {A2 : Option Addr} {n2 c2 : Nat} {zs2 : List Nat} (ha : Arg u A2 n2 zs2) (hf : Bs.Fit v zs2) : Rtw w0 s v b A2 n2 c2 zs2 ((u.setCell ⟨b, 0, none⟩ (.int .i64 v)).setCell ⟨b, 1, none⟩ (.slice A2 n2 c2)) := by
  have hb := h.hb
  exact ⟨(h.sx.far (by simp; omega) _).far (by simp; omega) _, (h.rx.far (by simp; omega) _).far (by simp; omega) _, (h.bx.set 0 _).set 1 _, hb, Arg.store ha (show Box u b v A n c from h.bx) v A2 n2 c2, hf, (h.bel.setCell (by simp; omega) _).setCell (by simp; omega) _⟩
end
theorem Rtw.one {w0 u : World} {s : SY} {v b : Nat} {A : Option Addr} {n c : Nat} {zs : List Nat} (h : Rtw w0 s v b A n c zs u) {pb : Nat} (hb : Fb u pb #[.int .i64 0, .slice none 0 0] 41) (hg : b < pb) {A2 : Option Addr} {n2 c2 : Nat} {zs2 : List Nat} (ha : Arg u A2 n2 zs2) :
    Rtw w0 s v b A n c zs ((u.setCell ⟨pb, 0, none⟩ (.int .i64 v)).setCell ⟨pb, 1, none⟩ (.slice A2 n2 c2)) ∧ Fb ((u.setCell ⟨pb, 0, none⟩ (.int .i64 v)).setCell ⟨pb, 1, none⟩ (.slice A2 n2 c2)) pb #[.int .i64 v, .slice A2 n2 c2] 41 ∧ Arg ((u.setCell ⟨pb, 0, none⟩ (.int .i64 v)).setCell ⟨pb, 1, none⟩ (.slice A2 n2 c2)) A2 n2 zs2 := by
  have hb1 := h.hb
  exact ⟨⟨(h.sx.far (by simp; omega) _).far (by simp; omega) _, (h.rx.far (by simp; omega) _).far (by simp; omega) _, (h.bx.far (by simp; omega) _).far (by simp; omega) _, hb1, Arg.store h.pv (show Box u pb 0 none 0 0 from hb) v A2 n2 c2, h.ft, (h.bel.setCell (by simp; omega) _).setCell (by simp; omega) _⟩, (hb.set 0 _).set 1 _, Arg.store ha (show Box u pb 0 none 0 0 from hb) v A2 n2 c2⟩
theorem Rtw.two {w0 u : World} {s : SY} {v b : Nat} {A : Option Addr} {n c : Nat} {zs : List Nat} (h : Rtw w0 s v b A n c zs u) {A2 : Option Addr} {n2 c2 : Nat} {zs2 : List Nat} (ha : Arg u A2 n2 zs2) :
    Rtw w0 s v b A n c zs (u.alloc (.cells #[.int .i64 v, .slice A2 n2 c2] 41)) ∧ Fb (u.alloc (.cells #[.int .i64 v, .slice A2 n2 c2] 41)) u.heap.size #[.int .i64 v, .slice A2 n2 c2] 41 ∧ Arg (u.alloc (.cells #[.int .i64 v, .slice A2 n2 c2] 41)) A2 n2 zs2 := by
  have hba := (Below.refl u.heap.size u).alloc (Nat.le_refl _) (.cells #[.int .i64 v, .slice A2 n2 c2] 41)
  exact ⟨h.below hba, Fb.new _ _ _, ha.below hba⟩
theorem chkV_ok {v N : Nat} {y : ZL} {w : World} {ex : List (Option Nat)} (hv : v ≤ 256) (h : VOk y v N) : chkV N v y.n y.l = 0 := by
  unfold chkV
  rw [h.n]
  have h1 : (y.l.all fun z => Bs.validB z.W z.ws) = true := by
    rw [List.all_eq_true]; intro z hz; obtain ⟨a, b⟩ := h.all z hz; rw [a]; exact Bs.valid_of_fit b hv
  have h2 : (y.l.all fun z => decide (z.W = (v : Int))) = true := by
    rw [List.all_eq_true]; intro z hz; obtain ⟨a, b⟩ := h.all z hz; simpa using a
  rw [h1, h2]; simp
/-- The right side came back. -/
def RetRt (w : World) (v : Nat) (zs : List Nat) (e : Ending) (w' : World) : Prop :=
  ∃ (A : Option Addr) (n c : Nat), e = .returned (.tuple #[.agg #[.int .i64 v, .slice A n c], .int .i64 0]) ∧ Arg w' A n zs ∧ Bs.Fit v zs ∧ Below w.heap.size w w'
theorem SOk.valid2 {s : SY} {v N : Nat} {w : World} {ex : List (Option Nat)} (h : SOk s v N) (hs : SYok w ex s) : sysB s = true := by
  have hl : s.D.v.length = N := by rw [LH.vlen, hs.d.len, h.dn]
  have h1 : linkB s.D.v = true := by
    unfold linkB
    rw [hl]
    simp only [Bool.and_eq_true, decide_eq_true_eq, List.all_eq_true]
    refine ⟨⟨⟨h.n1, h.n256⟩, fun l hm => ?_⟩, h.tt⟩
    obtain ⟨y, hy, rfl⟩ := List.mem_map.1 hm
    exact risB_iff.2 (h.d y hy)
  unfold sysB
  rw [h1]
  simp only [Bool.and_eq_true, decide_eq_true_eq, List.all_eq_true, h.tn, h.dn, h.bn, true_and, and_true]
  refine ⟨fun z hz => ?_, fun f hf => ?_⟩
  · obtain ⟨a, b⟩ := h.b z hz
    unfold zfitB
    rw [a, h.w, Bs.valid_of_fit b h.v256]; simp
  · have := h.t f hf
    unfold ffitB FH.vB
    rw [this.w1, this.w2, h.w, this.ok]; simp
set_option maxHeartbeats 12800000 in
theorem right_any (s : SY) (y : ZL) (v N k : Nat) (ex ex' : List (Option Nat)) (w : World) (h : SYok w ex s) (hy : ZLok w ex' y) (ho : SOk s v N) (hvo : VOk y v N) (hk : k < N) :
    Calls Try.prog 60 #[s.a, .slice y.A y.n y.c, .int .i64 k] w (RetRt w v (s.pw.right y.vs k)) := by
  have hv := ho.v256
  have hN := ho.n256
  have hN1 := ho.n1
  obtain ⟨r, hr, hrm⟩ := get_at (show s.D.l.length = N by rw [h.d.len, ho.dn]) hk
  obtain ⟨z, hz, hzm⟩ := get_at (show s.B.l.length = N by rw [h.b.len, ho.bn]) hk
  obtain ⟨hzW, hzf⟩ := ho.b z hzm
  have hrl := (h.d.all r hrm).len
  have Hgoal := hid (show s.pw.right y.vs k = side v y.vs z.ws ((r.l.take r.n).map s.arc) by
    unfold PW.right
    rw [show s.pw.v = v by show s.W.toNat = v; rw [ho.w]; simp, show at0 s.pw.bd k = z.ws from at0_get (by show (s.B.l.map ZH.ws)[k]? = _; rw [List.getElem?_map, hz]; rfl),
      show s.pw.arcs.getD k [] = r.l.map s.arc by show (s.D.l.map fun r => r.l.map s.arc).getD k [] = _; rw [List.getD_eq_getElem?_getD, List.getElem?_map, hr]; rfl, List.take_of_length_le (by rw [hrl]; exact Nat.le_refl _)])
  have HV := hid (fun (u : World) (hu : Below w.heap.size w u) => (validS_any s ex u (h.below hu)).mono (fun e w' (hr : e = .returned (.bool (sysB s)) ∧ Below u.heap.size u w') => show e = .returned (.bool true) ∧ Below u.heap.size u w' by rw [ho.valid2 h] at hr; exact hr))
  have HCk := hid (fun (u : World) (hu : Below w.heap.size w u) => (checkValues_any s y ex ex' u (h.below hu) (hy.below hu)).mono (fun e w' (hr : e = .returned (.int .i64 (chkV s.D.n s.W y.n y.l)) ∧ Below u.heap.size u w') => show e = .returned (.int .i64 0) ∧ Below u.heap.size u w' by rw [ho.dn, ho.w, chkV_ok (w := w) (ex := ex) hv hvo] at hr; exact hr))
  have Hs := hid h
  have Hy := hid hy
  have Ho := hid ho
  have Hvo := hid hvo
  have hW := ho.w
  have hdn := ho.dn
  have htn := ho.tn
  have hbn := ho.bn
  have hyn := hvo.n
  have Har := hid (fun (m : Nat) (f : FH) (hm : s.T.l[m]? = some f) => SY.arc_at hm)
  have Hza := hid ((h.b.all z hzm).arg)
  have hzn : z.n ≤ 100 := by rw [← (h.b.all z hzm).len, hzf.len]; unfold Bs.nw; omega
  have Hzf := hid hzf
  have Hris := hid (ho.d r hrm)
  have Hr := hid hr; have Hz := hid hz; have Hrm := hid hrm
  generalize s.arc = arc at *
  generalize s.pw.right y.vs k = G at *
  have Hvs := hid (fun (i : Nat) (t : ZH) (h : y.l[i]? = some t) => show at0 y.vs i = t.ws from ZL.vs_at h)
  generalize y.vs = vs at *
  clear h hy ho hvo hr hz hrm hzm hzf
  obtain ⟨W, ⟨DA, dn, dc, dl⟩, ⟨TA, tn, tc, tl⟩, ⟨BA, bn, bc, bl⟩⟩ := s
  obtain ⟨YA, yn, yc, yl⟩ := y
  simp only at hW hdn htn hbn hyn hrl
  subst hW
  have hdn := hdn.symm
  subst hdn
  have htn := htn.symm
  subst htn
  have hbn := hbn.symm
  subst hbn
  have hyn := hyn.symm
  subst hyn
  obtain ⟨adr, hA, -, -⟩ := Hs.out.d.cell Hr.out
  obtain ⟨adb, hA3, -⟩ := Hs.out.b.cell Hz.out
  obtain ⟨x0, hx0, -⟩ := get_at (show tl.length = N from Hs.out.t.len) hN1
  obtain ⟨adt, hA2, -⟩ := Hs.out.t.cell hx0
  clear hx0 x0
  obtain ⟨x0, hx0, -⟩ := get_at (show yl.length = N from Hy.out.len) hN1
  obtain ⟨ady, hA4, -⟩ := Hy.out.cell hx0
  clear hx0 x0
  simp only at hA hA2 hA3 hA4
  subst hA
  subst hA2
  subst hA3
  subst hA4
  unfold SY.a at *
  simp only at *
  have Hb1 := hid (((Below.refl w.heap.size w).alloc (Nat.le_refl _) (.cells #[.int .i64 v, .slice (some adr) N dc, .slice (some adt) N tc, .slice (some adb) N bc] 27)).alloc (by simp) (.cells #[.int .i64 0, .slice none 0 0] 41))
  have Hsx := hid ((Fb.new w #[.int .i64 v, .slice (some adr) N dc, .slice (some adt) N tc, .slice (some adb) N bc] 27).alloc (.cells #[.int .i64 0, .slice none 0 0] 41))
  have Hrx := hid (show Fb ((w.alloc (.cells #[.int .i64 v, .slice (some adr) N dc, .slice (some adt) N tc, .slice (some adb) N bc] 27)).alloc (.cells #[.int .i64 0, .slice none 0 0] 41)) (w.heap.size + 1) #[.int .i64 0, .slice none 0 0] 41 from by
    have := Fb.new (w.alloc (.cells #[.int .i64 v, .slice (some adr) N dc, .slice (some adt) N tc, .slice (some adb) N bc] 27)) #[.int .i64 0, .slice none 0 0] 41
    rwa [World.size_alloc] at this)
  go_enter Try.func60, Try.ntmps60
  go_wp2_with fail
  refine (HV.out _ Hb1.out).mono ?_
  generalize (w.alloc (.cells #[.int .i64 v, .slice (some adr) N dc, .slice (some adt) N tc, .slice (some adb) N bc] 27)).alloc (.cells #[.int .i64 0, .slice none 0 0] 41) = wa at *
  rintro e w2 ⟨rfl, hb2⟩
  have Hb2 := hid (below_step Hb1.out hb2)
  have Hsx2 := hid (Hsx.out.below hb2 Hsx.out.lt)
  have Hrx2 := hid (Hrx.out.below hb2 Hrx.out.lt)
  clear hb2 Hb1 Hsx Hrx HV
  obtain ⟨c0, c1, c2, c3⟩ := Hsx2.out.four
  have k0 : (0 : Int) ≤ k := by omega
  have k1 : (k : Int) < N := by omega
  have k2 : (k : Int).toNat = k := by omega
  go_wp2_with fail
  refine (HCk.out _ Hb2.out).mono ?_
  rintro e w3 ⟨rfl, hb3⟩
  have Hb3 := hid (below_step Hb2.out hb3)
  have Hsx3 := hid (Hsx2.out.below hb3 Hsx2.out.lt)
  have Hrx3 := hid (Hrx2.out.below hb3 Hrx2.out.lt)
  clear hb3 Hb2 Hsx2 Hrx2 HCk c0 c1 c2 c3
  obtain ⟨c0, c1, c2, c3⟩ := Hsx3.out.four
  obtain ⟨ad9, hA9, had9, z0, z1⟩ := (Hs.out.b.below Hb3.out).cell Hz.out
  obtain rfl := Option.some.inj hA9
  go_wp2_with fail
  refine (copiedSet_any v z.A z.n z.c z.ws _ (Hza.out.below Hb3.out) hzn).mono ?_
  rintro e w4 ⟨A4, c4, rfl, hna, hb4⟩
  have HI0 := hid (show Rtw w ⟨v, ⟨some adr, N, dc, dl⟩, ⟨some adt, N, tc, tl⟩, ⟨some adb, N, bc, bl⟩⟩ v w4.heap.size A4 z.n c4 (side v vs z.ws ((r.l.take 0).map arc)) (w4.alloc (.cells #[.int .i64 v, .slice A4 z.n c4] 41)) from by
    have ha := hna.arg Hza.out.len Hza.out.ok
    have hba := (Below.refl w4.heap.size w4).alloc (Nat.le_refl _) (.cells #[.int .i64 v, .slice A4 z.n c4] 41)
    exact ⟨(Hsx3.out.below hb4 Hsx3.out.lt).below hba (by have := hb4.size; have := Hsx3.out.lt; omega), (Hrx3.out.below hb4 Hrx3.out.lt).below hba (by have := hb4.size; have := Hrx3.out.lt; omega), Fb.new _ _ _, by have := hb4.size; have := Hrx3.out.lt; omega, ha.below hba, Hzf.out, below_step (below_step Hb3.out hb4) hba⟩)
  clear hna hb4 c0 c1 c2 c3 z0 z1 Hb3 Hsx3 Hrx3 had9
  go_upto_region 9 with fail
  generalize w4.alloc (.cells #[.int .i64 v, .slice A4 z.n c4] 41) = w5 at *
  generalize w4.heap.size = bR at *
  obtain ⟨c0, c1, c2, c3⟩ := (show Fb w5 w.heap.size #[.int .i64 v, .slice (some adr) N dc, .slice (some adt) N tc, .slice (some adb) N bc] _ from HI0.out.sx).four
  obtain ⟨ad9, hA9, had9, hcr⟩ := (Hs.out.d.below HI0.out.bel).cell Hr.out
  obtain rfl := Option.some.inj hA9
  obtain ⟨rA, rn, rc, rl⟩ := r
  simp only at hcr hrl
  have Hrok := hid (Hs.out.d.all _ Hrm.out)
  have hrn : rn ≤ 256 := by
    have h2 := ris_len Hris.out
    simp only at h2
    omega
  go_wp2_with fail
  clear c0 c1 c2 c3 hcr had9 k0 k1 k2 hzW
  have HG : Hid (G = side v vs z.ws ((rl.take rn).map arc)) := Hgoal
  clear Hgoal
  go_loopw [11, 12, 13, 47] (fun _ _ _ jv wr => ∃ (j : Nat) (A : Option Addr) (n c : Nat), j ≤ rn ∧ jv = .int .i64 j ∧ Hid (Rtw w ⟨v, ⟨some adr, N, dc, dl⟩, ⟨some adt, N, tc, tl⟩, ⟨some adb, N, bc, bl⟩⟩ v bR A n c (side v vs z.ws ((rl.take j).map arc)) wr)) (fun _ _ _ jv _ => rn - (intOf jv).toNat)
  case atStart => exact ⟨0, A4, z.n, c4, by omega, rfl, HI0⟩
  case round =>
    clear HI0
    obtain ⟨j, A, n, c, hj, rfl, HI⟩ := hrel
    by_cases hlt : j < rn
    · obtain ⟨m0, hm, hmm⟩ := get_at hrl hlt
      have hmr := Hris.out.2 m0 hmm
      obtain ⟨m, rfl⟩ := Int.eq_ofNat_of_zero_le hmr.1
      have hmN : m < N := by omega
      obtain ⟨ad9, hA, had9, hcm⟩ := (Hrok.out.below HI.out.bel).cell hm
      simp only at hA
      subst hA
      obtain ⟨f, hf, hfm⟩ := get_at (show tl.length = N from Hs.out.t.len) hmN
      obtain ⟨t, ht, htm⟩ := get_at (show yl.length = N from Hy.out.len) hmN
      obtain ⟨htW, htf⟩ := Hvo.out.all t htm
      have hfo := Ho.out.t f hfm
      have HE := hid (show side v vs z.ws ((rl.take (j + 1)).map arc) = orR v (side v vs z.ws ((rl.take j).map arc)) (valR f.G.ws t.ws (folB v f.K.ws f.cs) v) by
        rw [List.take_add_one, hm, List.map_append]
        refine (side_snoc _ _ _ _ _).trans ?_
        rw [Har.out m f hf, Hvs.out m t ht]
        rfl)
      have Hfm := hid hfm; have Htm := hid htm; have Hft := hid hf; have Htt := hid ht; have Htf := hid htf; have Hfo := hid hfo
      have hz1 := HI.out.bx.lt
      have n0 : (0 : Int) ≤ j := by omega
      have n1 : (j : Int) < rn := by omega
      have n2 : (j : Int).toNat = j := by omega
      clear hm hmm hmr hf ht hfm htm htf hfo
      generalize side v vs z.ws ((rl.take j).map arc) = zs at *
      generalize hzs2 : side v vs z.ws ((rl.take (j + 1)).map arc) = zs2 at *
      have Hzs2 := hid hzs2
      clear hzs2
      obtain ⟨⟨GW, GA, gn, gc, gs⟩, ⟨KW, KA, kn, kc, ks⟩, C, kq, q, cs⟩ := f
      obtain ⟨TW, TA2, tn, tc2, ts⟩ := t
      have hw1 := Hfo.out.w1
      have hw2 := Hfo.out.w2
      simp only at hw1 hw2 htW
      subst hw1
      subst hw2
      subst htW
      have Happ := hid (show applyR v gs v ks cs v ts = ((v : Int), valR gs ts (folB v ks cs) v, 0) by
        unfold applyR
        have h1 := Hfo.out.ok
        simp only at h1
        rw [if_neg (by simp [h1, Bs.valid_of_fit Htf.out hv]), if_neg (by simp), Int.toNat_natCast])
      have Hap := hid (fun (u : World) (hu : Below w.heap.size w u) => devApply_any v v v GA KA C TA2 gn gc kn kc kq q tn tc2 gs ks ts cs u ((Hs.out.t.all _ Hfm.out).below hu).arg.gen ((Hs.out.t.all _ Hfm.out).below hu).arg.kill ((Hs.out.t.all _ Hfm.out).below hu).arg.cops ((Hy.out.all _ Htm.out).below hu).arg)
      rw [Happ.out] at Hap
      simp only at HE
      have Hvf := hid (show Bs.Fit v (valR gs ts (folB v ks cs) v) from fit_valR _ _ _ _)
      generalize valR gs ts (folB v ks cs) v = zp at *
      have HC := hid (fun (u : World) (hu : Rtw w ⟨v, ⟨some adr, N, dc, dl⟩, ⟨some adt, N, tc, tl⟩, ⟨some adb, N, bc, bl⟩⟩ v bR A n c zs u) => And.intro (show Fb u w.heap.size #[.int .i64 v, .slice (some adr) N dc, .slice (some adt) N tc, .slice (some adb) N bc] _ from hu.sx).four (And.intro ((Hs.out.t.below hu.bel).cell Hft.out) ((Hy.out.below hu.bel).cell Htt.out)))
      go_upto_region 12 with fail
      clear n0 n1 n2 hcm had9
      have HId := hid (HI.out.below (Below.refl _ _).drew)
      have Ha := hid (HId.out.below ((Below.refl _ _).alloc (Nat.le_refl _) (.cells #[.int .i64 0, .slice none 0 0] 41)))
      go_cut [12, 13] (fun a b wd => ∃ (pb : Nat) (A2 : Option Addr) (n2 c2 : Nat), a = .pointer (some ⟨pb, 0, none⟩) ∧ b = .int .i64 0 ∧ Hid (Rtw w ⟨v, ⟨some adr, N, dc, dl⟩, ⟨some adt, N, tc, tl⟩, ⟨some adb, N, bc, bl⟩⟩ v bR A n c zs wd ∧ Fb wd pb #[.int .i64 v, .slice A2 n2 c2] 41 ∧ Arg wd A2 n2 zp))
      case first =>
        have k0 : (0 : Int) ≤ m := by omega
        have k1 : (m : Int) < N := by omega
        have k2 : (m : Int).toNat = m := by omega
        obtain ⟨⟨c0, c1, c2, c3⟩, ⟨adt9, e9, hlt9, g0, g1, g2, g3, g4⟩, ⟨ady9, e8, hlt8, y0, y1⟩⟩ := HC.out _ HId.out
        obtain rfl := Option.some.inj e9
        obtain rfl := Option.some.inj e8
        obtain ⟨⟨a0, a1, a2, a3⟩, ⟨adt9, e9, hlt9a, i0, i1, i2, i3, i4⟩, ⟨ady9, e8, hlt8a, x0, x1⟩⟩ := HC.out _ Ha.out
        obtain rfl := Option.some.inj e9
        obtain rfl := Option.some.inj e8
        have b2 : (wr.alloc (.cells #[.int .i64 0, .slice none 0 0] 41)).cell? ⟨w.heap.size, 2, none⟩ = some (.slice (some adt) N tc) := a2
        have j0 : (wr.alloc (.cells #[.int .i64 0, .slice none 0 0] 41)).cell? (adt.add (m * 5)) = some (.int .i64 v) := i0
        have j1 : (wr.alloc (.cells #[.int .i64 0, .slice none 0 0] 41)).cell? ⟨(adt.add (m * 5)).block, (adt.add (m * 5)).off + 1, none⟩ = some (.slice GA gn gc) := i1
        have j2 : (wr.alloc (.cells #[.int .i64 0, .slice none 0 0] 41)).cell? ⟨(adt.add (m * 5)).block, (adt.add (m * 5)).off + 2, none⟩ = some (.int .i64 v) := i2
        have j3 : (wr.alloc (.cells #[.int .i64 0, .slice none 0 0] 41)).cell? ⟨(adt.add (m * 5)).block, (adt.add (m * 5)).off + 3, none⟩ = some (.slice KA kn kc) := i3
        have j4 : (wr.alloc (.cells #[.int .i64 0, .slice none 0 0] 41)).cell? ⟨(adt.add (m * 5)).block, (adt.add (m * 5)).off + 4, none⟩ = some (.slice C kq q) := i4
        have l0 : (wr.alloc (.cells #[.int .i64 0, .slice none 0 0] 41)).cell? (ady.add (m * 2)) = some (.int .i64 v) := x0
        have l1 : (wr.alloc (.cells #[.int .i64 0, .slice none 0 0] 41)).cell? ⟨(ady.add (m * 2)).block, (ady.add (m * 2)).off + 1, none⟩ = some (.slice TA2 tn tc2) := x1
        clear a0 a1 a3 c0 c1 c3
        go_region_law (
          (go_simp
           go_at_call 95
           refine (Hap.out _ (by first | exact HId.out.bel | exact Ha.out.bel)).mono ?_
           rintro e u2 ⟨A2, n2, c2', rfl, ha2, hb2⟩
           have HA2 := hid ha2
           have H2 := hid (Rtw.below (by first | exact HId.out | exact Ha.out) hb2)
           try (have hbx : Fb u2 wr.heap.size #[.int .i64 0, .slice none 0 0] 41 := (Fb.new wr.drew _ _).below hb2 (by simp)
                have z0 := hbx.cell 0
                have z1 := hbx.cell 1
                have f0 := hbx.frozen 0
                have f1 := hbx.frozen 1
                have hbl := hbx.lt)
           clear ha2 hb2))
        all_goals
          go_wp2_with fail
          go_meet
          first
          | exact ⟨_, A2, n2, c2', rfl, rfl, hid (H2.out.one hbx hz1 HA2.out)⟩
          | exact ⟨_, A2, n2, c2', rfl, rfl, hid (H2.out.two HA2.out)⟩
      case rest =>
        obtain ⟨pb, A2, n2, c2, rfl, rfl, HP⟩ := hcut
        clear HC HId Ha Hap HI
        obtain ⟨p0, p1⟩ := HP.out.2.1.two
        obtain ⟨q0, q1⟩ := HP.out.1.bx.two
        have Hun := hid (mixR_or hv HP.out.1.ft Hvf.out)
        go_wp2_with fail
        refine (devUnion_any v v A A2 n c n2 c2 zs zp _ HP.out.1.pv HP.out.2.2).mono ?_
        rw [Hun.out]
        rintro e w6 ⟨A3, n3, c3, rfl, ha3, hb3⟩
        have H6 := hid (HP.out.1.below hb3)
        have Hfin := hid (H6.out.put (c2 := c3) ha3 (fit_orR v zs zp))
        clear p0 p1 q0 q1 ha3 hb3
        obtain ⟨q0, q1⟩ := H6.out.bx.two
        have f0 := H6.out.bx.frozen 0
        have f1 := H6.out.bx.frozen 1
        have hbl := H6.out.bx.lt
        have HF := hid (show Rtw w ⟨v, ⟨some adr, N, dc, dl⟩, ⟨some adt, N, tc, tl⟩, ⟨some adb, N, bc, bl⟩⟩ v bR A3 n3 c3 zs2 ((w6.setCell ⟨bR, 0, none⟩ (.int .i64 v)).setCell ⟨bR, 1, none⟩ (.slice A3 n3 c3)) from by rw [HE.out]; exact Hfin.out)
        rw [← Hzs2.out] at HF
        clear Hfin
        go_wp2_with fail
        go_roundw
        case rel => exact ⟨j + 1, A3, n3, c3, by omega, by go_num, HF⟩
        case measure => simp [intOf]; omega
    · obtain rfl : j = rn := by omega
      obtain ⟨x0, x1⟩ := HI.out.bx.two
      obtain ⟨r0, r1⟩ := HI.out.rx.two
      have f0 := HI.out.rx.frozen 0
      have f1 := HI.out.rx.frozen 1
      have hlr := HI.out.rx.lt
      have Hr9 := hid (show RetRt w v G (.returned (.tuple #[.agg #[.int .i64 v, .slice A n c], .int .i64 0])) ((wr.setCell ⟨w.heap.size + 1, 0, none⟩ (.int .i64 v)).setCell ⟨w.heap.size + 1, 1, none⟩ (.slice A n c)) from by
        rw [HG.out]
        exact ⟨A, n, c, rfl, Arg.store HI.out.pv (show Box wr (w.heap.size + 1) 0 none 0 0 from HI.out.rx) v A n c, HI.out.ft, (HI.out.bel.setCell (by simp) _).setCell (by simp) _⟩)
      go_wp2_with fail
      refine bodyPost_ret (v := .tuple #[.agg #[.int .i64 v, .slice A n c], .int .i64 0]) (by simp [results, Try.results60, go_sem, x0, x1, r0, r1]) rfl ?_
      exact Hr9.out
end Go.Proofs.Ytmnbidpoceknlaa

namespace Go.Proofs.Ytmnbidpoceknlaa
set_option maxRecDepth 20000
set_option linter.unusedVariables false
set_option linter.unusedSimpArgs false
open Go.ChangeShapes Go.WideShapes Go.ChangeAt Go.RowKit

/-- The right sides came back. -/
def RetNext (w : World) (v N : Nat) (vals : List (List Nat)) (e : Ending) (w' : World) : Prop :=
  ∃ (g : Nat) (l : List ZH), e = .returned (.tuple #[.slice (some ⟨g, 0, none⟩) N N, .int .i64 0]) ∧ w.heap.size ≤ g ∧ VRow w' g N l ∧ (∀ z ∈ l, z.W = v ∧ Bs.Fit v z.ws) ∧ l.map ZH.ws = vals ∧ Below w.heap.size w w'
set_option maxHeartbeats 3200000 in
theorem next2_any (s : SY) (y : ZL) (v N : Nat) (ex ex' : List (Option Nat)) (w : World) (h : SYok w ex s) (hy : ZLok w ex' y) (ho : SOk s v N) (hvo : VOk y v N) :
    Calls Try.prog 26 #[s.a, .slice y.A y.n y.c] w (RetNext w v N (s.pw.rights y.vs)) := by
  have hN1 := ho.n1
  have hyn := hvo.n
  have Hb0 := hid ((Below.refl w.heap.size w).alloc (Nat.le_refl _) (.cells s.box 27))
  have HC := hid (fun (u : World) (hu : Below w.heap.size w u) => webC s v N ex u (h.below hu) ho)
  have HRt := hid (fun (u : World) (hu : Below w.heap.size w u) => right_any s y v N 0 ex ex' u (h.below hu) (hy.below hu) ho hvo (by omega))
  have HY := hid (fun (u : World) (hu : Below w.heap.size w u) => hy.below hu)
  have Hvo := hid hvo
  have Hbx := hid (Fb.new w s.box 27)
  clear h ho hy hvo
  generalize hq : s.pw.right y.vs 0 = r0 at *
  clear hq
  generalize s.pw = p at *
  unfold SY.a at *
  unfold SY.box at *
  obtain ⟨YA, yn, yc, yl⟩ := y
  simp only at hyn
  have hyn := hyn.symm
  subst hyn
  simp only at *
  go_enter Try.func26, Try.ntmps26
  go_wp2_with fail
  refine (HRt.out _ Hb0.out).mono ?_
  rintro e w2 ⟨A, n, c, rfl, ha, hf, hb2⟩
  have hba := (Below.refl w2.heap.size w2).alloc (Nat.le_refl _) (.cells #[.int .i64 v, .slice A n c] 41)
  have Hb2 := hid (below_step (below_step Hb0.out hb2) hba)
  have Hbx2 := hid ((Hbx.out.below hb2 Hbx.out.lt).below hba (by have := hb2.size; have := Hbx.out.lt; omega))
  clear ha hf hb2 hba HRt Hbx Hb0
  obtain ⟨c0, c1, c2, c3⟩ := Hbx2.out.four
  go_wp2_with fail
  refine (HC.out _ Hb2.out).mono ?_
  rintro e w3 ⟨BA, bc, bl, IA, ic, il, rfl, hx, hox, hpw, hb3⟩
  have hba := (Below.refl w3.heap.size w3).alloc (Nat.le_refl _) (.cells #[.int .i64 v, .slice BA N bc, .slice IA N ic] 56)
  have Hb3 := hid (below_step (below_step Hb2.out hb3) hba)
  have HR := hid (rightSides_any ⟨v, ⟨BA, N, bc, bl⟩, ⟨IA, N, ic, il⟩⟩ ⟨YA, N, yc, yl⟩ v N [] ex' _ (hx.below hba) (HY.out _ Hb3.out) hox Hvo.out)
  rw [hpw] at HR
  unfold WB.a at HR
  simp only at HR
  clear hx hox hpw hb3 hba HC c0 c1 c2 c3 Hbx2
  go_wp2_with fail
  refine HR.out.mono ?_
  rintro e w4 ⟨g, l, rfl, hg, hrow, hok, hvs, hb4⟩
  have Hr := hid (show RetNext w v N (p.rights (ZL.vs ⟨YA, N, yc, yl⟩)) (.returned (.tuple #[.slice (some ⟨g, 0, none⟩) N N, .int .i64 0])) w4 from ⟨g, l, rfl, by have := Hb3.out.size; omega, hrow, hok, hvs, below_step Hb3.out hb4⟩)
  clear hg hrow hok hvs hb4 HR
  go_wp2_with fail
  exact bodyPost_ret (v := .tuple #[.slice (some ⟨g, 0, none⟩) N N, .int .i64 0]) (by simp [results, Try.results26, go_sem]) rfl Hr.out
end Go.Proofs.Ytmnbidpoceknlaa

namespace Go.Proofs.Ytmnbidpoceknlaa
set_option maxRecDepth 20000
set_option linter.unusedVariables false
set_option linter.unusedSimpArgs false
open Go.ChangeShapes Go.WideShapes Go.ChangeAt Go.RowKit

theorem allz_no {P : ZH → ZH → Bool} {l m : List ZH} {k : Nat} {a b : ZH} (ha : l[k]? = some a) (hb : m[k]? = some b) (h : P a b = false) : (l.zip m).all (fun p => P p.1 p.2) = false := by
  rw [List.all_eq_false]
  refine ⟨(a, b), ?_, by rw [h]; decide⟩
  refine List.mem_of_getElem? (i := k) ?_
  rw [List.getElem?_zip_eq_some]
  exact ⟨ha, hb⟩
set_option maxHeartbeats 3200000 in
theorem equalFnE_any (P : ZH → ZH → Bool) (x y : ZL) (ex ex' : List (Option Nat)) (w : World) (hx : ZLok w ex x) (hy : ZLok w ex' y) (hn : x.n = y.n)
    (hfn : ∀ (a b : ZH) (u : World), a ∈ x.l → b ∈ y.l → Below w.heap.size w u → Calls Try.prog 33 #[.agg #[.int .i64 a.W, .slice a.A a.n a.c], .agg #[.int .i64 b.W, .slice b.A b.n b.c]] u fun e w' => e = .returned (.bool (P a b)) ∧ Below u.heap.size u w') :
    Calls Try.prog 59 #[.slice x.A x.n x.c, .slice y.A y.n y.c, .func (Fn.func 33) #[] #[]] w fun e w' => e = .returned (.bool ((x.l.zip y.l).all fun p => P p.1 p.2)) ∧ Below w.heap.size w w' := by
  have hfew := hx.few
  have HX := hid hx
  have HY := hid hy
  have Hfn := hid hfn
  clear hx hy hfn
  obtain ⟨A, n, c, l⟩ := x
  obtain ⟨B, m, d, k⟩ := y
  simp only at hn hfew
  have hn := hn.symm
  subst hn
  have HL := hid (show l.length = m from HX.out.len)
  have HM := hid (show k.length = m from HY.out.len)
  simp only at *
  generalize hR : ((l.zip k).all fun p => P p.1 p.2) = R at *
  have HR := hid hR
  clear hR
  go_enter Try.func59, Try.ntmps59
  go_wp2_with fail
  go_loopw [7, 8, 9, 17] (fun _ _ _ iv wr => ∃ j : Nat, j ≤ m ∧ iv = .int .i64 j ∧ Hid (Below w.heap.size w wr) ∧ Hid (∀ i a b, i < j → l[i]? = some a → k[i]? = some b → P a b = true)) (fun _ _ _ iv _ => m - (intOf iv).toNat)
  case atStart => exact ⟨0, by omega, rfl, hid (Below.refl _ _), hid (fun i a b hi => by omega)⟩
  case round =>
    obtain ⟨j, hj, rfl, HB, HE⟩ := hrel
    by_cases hlt : j < m
    · obtain ⟨a, ha, ham⟩ := get_at HL.out hlt
      obtain ⟨b, hb, hbm⟩ := get_at HM.out hlt
      obtain ⟨ad, hA, had, c0, c1⟩ := (HX.out.below HB.out).cell ha
      simp only at hA
      subst hA
      have hba := (Below.refl wr.heap.size wr).alloc (Nat.le_refl _) (.cells #[.int .i64 a.W, .slice a.A a.n a.c] 41)
      have HB2 := hid (below_step HB.out hba)
      obtain ⟨ad2, hA2, had2, d0, d1⟩ := (HY.out.below HB2.out).cell hb
      simp only at hA2
      subst hA2
      have HB3 := hid (HB2.out.alloc HB2.out.size (.cells #[.int .i64 b.W, .slice b.A b.n b.c] 41))
      have n0 : (0 : Int) ≤ j := by omega
      have n1 : (j : Int) < m := by omega
      have n2 : (j : Int).toNat = j := by omega
      have HC := hid (Hfn.out a b _ ham hbm HB3.out)
      have Ha := hid ha
      have Hb := hid hb
      clear hba ha hb ham hbm
      go_wp2_with fail
      refine HC.out.mono ?_
      rintro e w5 ⟨rfl, hb5⟩
      have HB5 := hid (below_step HB3.out hb5)
      cases hp : P a b with
      | true =>
        have HE5 := hid (show ∀ i a b, i < j + 1 → l[i]? = some a → k[i]? = some b → P a b = true from fun i a' b' hi h1 h2 => by
          by_cases e : i = j
          · subst e
            rw [Ha.out] at h1
            rw [Hb.out] at h2
            obtain rfl := Option.some.inj h1
            obtain rfl := Option.some.inj h2
            exact hp
          · exact HE.out i a' b' (by omega) h1 h2)
        clear c0 c1 d0 d1 n0 n1 n2 hb5 hp HC
        go_wp2_with fail
        go_roundw
        case rel => exact ⟨j + 1, by omega, by go_num, HB5, HE5⟩
        case measure => simp [intOf]; omega
      | false =>
        have Hr := hid (show R = false by rw [← HR.out]; exact allz_no Ha.out Hb.out hp)
        clear c0 c1 d0 d1 n0 n1 n2 hb5 hp HC
        go_wp2_with fail
        go_ret
        exact ⟨ret_b Hr.out, HB5.out⟩
    · obtain rfl : j = m := by omega
      have Hr := hid (show R = true by
        rw [← HR.out, List.all_eq_true]
        rintro ⟨a, b⟩ hm
        obtain ⟨i, hi, e⟩ := List.mem_iff_getElem.1 hm
        have h1 := List.getElem?_eq_getElem hi
        rw [e, List.getElem?_zip_eq_some] at h1
        exact HE.out i a b (by have := (List.getElem?_eq_some_iff.1 h1.1).1; rw [HL.out] at this; exact this) h1.1 h1.2)
      go_wp2_with fail
      go_ret
      exact ⟨ret_b Hr.out, HB.out⟩
set_option maxHeartbeats 3200000 in
theorem equalFnS_any (P : ZH → ZH → Bool) (x y : ZL) (ex ex' : List (Option Nat)) (w : World) (hx : ZLok w ex x) (hy : ZLok w ex' y) (hn : x.n = y.n)
    (hfn : ∀ (a b : ZH) (u : World), a ∈ x.l → b ∈ y.l → Below w.heap.size w u → Calls Try.prog 29 #[.agg #[.int .i64 a.W, .slice a.A a.n a.c], .agg #[.int .i64 b.W, .slice b.A b.n b.c]] u fun e w' => e = .returned (.bool (P a b)) ∧ Below u.heap.size u w') :
    Calls Try.prog 59 #[.slice x.A x.n x.c, .slice y.A y.n y.c, .func (Fn.func 29) #[] #[]] w fun e w' => e = .returned (.bool ((x.l.zip y.l).all fun p => P p.1 p.2)) ∧ Below w.heap.size w w' := by
  have hfew := hx.few
  have HX := hid hx
  have HY := hid hy
  have Hfn := hid hfn
  clear hx hy hfn
  obtain ⟨A, n, c, l⟩ := x
  obtain ⟨B, m, d, k⟩ := y
  simp only at hn hfew
  have hn := hn.symm
  subst hn
  have HL := hid (show l.length = m from HX.out.len)
  have HM := hid (show k.length = m from HY.out.len)
  simp only at *
  generalize hR : ((l.zip k).all fun p => P p.1 p.2) = R at *
  have HR := hid hR
  clear hR
  go_enter Try.func59, Try.ntmps59
  go_wp2_with fail
  go_loopw [7, 8, 9, 17] (fun _ _ _ iv wr => ∃ j : Nat, j ≤ m ∧ iv = .int .i64 j ∧ Hid (Below w.heap.size w wr) ∧ Hid (∀ i a b, i < j → l[i]? = some a → k[i]? = some b → P a b = true)) (fun _ _ _ iv _ => m - (intOf iv).toNat)
  case atStart => exact ⟨0, by omega, rfl, hid (Below.refl _ _), hid (fun i a b hi => by omega)⟩
  case round =>
    obtain ⟨j, hj, rfl, HB, HE⟩ := hrel
    by_cases hlt : j < m
    · obtain ⟨a, ha, ham⟩ := get_at HL.out hlt
      obtain ⟨b, hb, hbm⟩ := get_at HM.out hlt
      obtain ⟨ad, hA, had, c0, c1⟩ := (HX.out.below HB.out).cell ha
      simp only at hA
      subst hA
      have hba := (Below.refl wr.heap.size wr).alloc (Nat.le_refl _) (.cells #[.int .i64 a.W, .slice a.A a.n a.c] 41)
      have HB2 := hid (below_step HB.out hba)
      obtain ⟨ad2, hA2, had2, d0, d1⟩ := (HY.out.below HB2.out).cell hb
      simp only at hA2
      subst hA2
      have HB3 := hid (HB2.out.alloc HB2.out.size (.cells #[.int .i64 b.W, .slice b.A b.n b.c] 41))
      have n0 : (0 : Int) ≤ j := by omega
      have n1 : (j : Int) < m := by omega
      have n2 : (j : Int).toNat = j := by omega
      have HC := hid (Hfn.out a b _ ham hbm HB3.out)
      have Ha := hid ha
      have Hb := hid hb
      clear hba ha hb ham hbm
      go_wp2_with fail
      refine HC.out.mono ?_
      rintro e w5 ⟨rfl, hb5⟩
      have HB5 := hid (below_step HB3.out hb5)
      cases hp : P a b with
      | true =>
        have HE5 := hid (show ∀ i a b, i < j + 1 → l[i]? = some a → k[i]? = some b → P a b = true from fun i a' b' hi h1 h2 => by
          by_cases e : i = j
          · subst e
            rw [Ha.out] at h1
            rw [Hb.out] at h2
            obtain rfl := Option.some.inj h1
            obtain rfl := Option.some.inj h2
            exact hp
          · exact HE.out i a' b' (by omega) h1 h2)
        clear c0 c1 d0 d1 n0 n1 n2 hb5 hp HC
        go_wp2_with fail
        go_roundw
        case rel => exact ⟨j + 1, by omega, by go_num, HB5, HE5⟩
        case measure => simp [intOf]; omega
      | false =>
        have Hr := hid (show R = false by rw [← HR.out]; exact allz_no Ha.out Hb.out hp)
        clear c0 c1 d0 d1 n0 n1 n2 hb5 hp HC
        go_wp2_with fail
        go_ret
        exact ⟨ret_b Hr.out, HB5.out⟩
    · obtain rfl : j = m := by omega
      have Hr := hid (show R = true by
        rw [← HR.out, List.all_eq_true]
        rintro ⟨a, b⟩ hm
        obtain ⟨i, hi, e⟩ := List.mem_iff_getElem.1 hm
        have h1 := List.getElem?_eq_getElem hi
        rw [e, List.getElem?_zip_eq_some] at h1
        exact HE.out i a b (by have := (List.getElem?_eq_some_iff.1 h1.1).1; rw [HL.out] at this; exact this) h1.1 h1.2)
      go_wp2_with fail
      go_ret
      exact ⟨ret_b Hr.out, HB.out⟩
end Go.Proofs.Ytmnbidpoceknlaa

namespace Go.Proofs.Ytmnbidpoceknlaa
set_option maxRecDepth 20000
set_option linter.unusedVariables false
set_option linter.unusedSimpArgs false
open Go.ChangeShapes Go.WideShapes Go.ChangeAt Go.RowKit

def eqZ (a b : ZH) : Bool := equalB a.W a.ws b.W b.ws
def suZ (a b : ZH) : Bool := subsetB a.W a.ws b.W b.ws
theorem zip_eq {v N : Nat} (hv : v ≤ 256) {l m : List ZH} (hl : l.length = N) (hm : m.length = N) (h1 : ∀ z ∈ l, z.W = v ∧ Bs.Fit v z.ws) (h2 : ∀ z ∈ m, z.W = v ∧ Bs.Fit v z.ws) : (l.zip m).all (fun p => eqZ p.1 p.2) = decide (l.map ZH.ws = m.map ZH.ws) := by
  have key : ∀ (a b : ZH), (a.W = v ∧ Bs.Fit v a.ws) → (b.W = v ∧ Bs.Fit v b.ws) → eqZ a b = decide (a.ws = b.ws) := fun a b ha hb => by
    unfold eqZ equalB sameB
    rw [ha.1, hb.1, Bs.valid_of_fit ha.2 hv, Bs.valid_of_fit hb.2 hv]
    simp
  have len : l.length = m.length := by omega
  clear hl hm
  induction l generalizing m with
  | nil => cases m with
    | nil => simp
    | cons b m => simp at len
  | cons a l ih => cases m with
    | nil => simp at len
    | cons b m =>
      rw [List.zip_cons_cons, List.all_cons, ih (fun z hz => h1 z (List.mem_cons_of_mem _ hz)) (fun z hz => h2 z (List.mem_cons_of_mem _ hz)) (by simpa using len), key a b (h1 a List.mem_cons_self) (h2 b List.mem_cons_self), List.map_cons, List.map_cons, ← Bool.decide_and]
      congr 1
      simp
theorem zl_vrow {w : World} {g N : Nat} {l : List ZH} (h : VRow w g N l) (hN : N ≤ 256) : ZLok w [] ⟨some ⟨g, 0, none⟩, N, N, l⟩ := h.zl (by omega)
set_option maxHeartbeats 3200000 in
theorem isSolution_any (s : SY) (y : ZL) (v N : Nat) (ex ex' : List (Option Nat)) (w : World) (h : SYok w ex s) (hy : ZLok w ex' y) (ho : SOk s v N) (hvo : VOk y v N) :
    Calls Try.prog 24 #[s.a, .slice y.A y.n y.c] w fun e w' => e = .returned (.bool (decide (s.pw.rights y.vs = y.vs))) ∧ Below w.heap.size w w' := by
  have hv := ho.v256
  have hN := ho.n256
  have hyn := hvo.n
  have Hb0 := hid ((Below.refl w.heap.size w).alloc (Nat.le_refl _) (.cells s.box 27))
  have HNx := hid (fun (u : World) (hu : Below w.heap.size w u) => next2_any s y v N ex ex' u (h.below hu) (hy.below hu) ho hvo)
  have HY := hid (fun (u : World) (hu : Below w.heap.size w u) => hy.below hu)
  have Hvo := hid hvo
  clear h ho hy hvo
  generalize hq : s.pw.rights y.vs = vals at *
  clear hq
  unfold SY.a at *
  unfold SY.box at *
  obtain ⟨YA, yn, yc, yl⟩ := y
  simp only at hyn
  have hyn := hyn.symm
  subst hyn
  simp only at *
  go_enter Try.func24, Try.ntmps24
  go_wp2_with fail
  refine (HNx.out _ Hb0.out).mono ?_
  rintro e w2 ⟨g, l, rfl, hg, hrow, hok, hvs, hb2⟩
  have Hb2 := hid (below_step Hb0.out hb2)
  have HE := hid (equalFnE_any eqZ ⟨some ⟨g, 0, none⟩, N, N, l⟩ ⟨YA, N, yc, yl⟩ [] ex' w2 (zl_vrow hrow hN) (HY.out _ Hb2.out) rfl (fun a b u ha hb hu => by
    have hfa := (hok a ha).2
    have hA := ((zl_vrow hrow hN).below hu).all a ha
    have hB := ((HY.out _ Hb2.out).below hu).all b hb
    refine devEqual_any a.W b.W a.A b.A a.n a.c b.n b.c a.ws b.ws u hA.arg hB.arg ?_
    rw [← hA.len, hfa.len]
    unfold Bs.nw maxLen; omega))
  rw [show ((⟨some ⟨g, 0, none⟩, N, N, l⟩ : ZL).l.zip (⟨YA, N, yc, yl⟩ : ZL).l).all (fun p => eqZ p.1 p.2) = decide (vals = ZL.vs ⟨YA, N, yc, yl⟩) by
    rw [zip_eq hv (l := l) (m := yl) hrow.len (HY.out _ Hb2.out).len hok Hvo.out.all, hvs]; rfl] at HE
  simp only at HE
  clear hg hrow hok hvs hb2 HNx Hb0
  go_wp2_with fail
  refine HE.out.mono ?_
  rintro e w3 ⟨rfl, hb3⟩
  have Hb3 := hid (below_step Hb2.out hb3)
  clear hb3 HE
  go_wp2_with fail
  go_ret
  exact ⟨rfl, Hb3.out⟩
end Go.Proofs.Ytmnbidpoceknlaa

namespace Go.Proofs.Ytmnbidpoceknlaa
set_option maxRecDepth 20000
set_option linter.unusedVariables false
set_option linter.unusedSimpArgs false
open Go.ChangeShapes Go.WideShapes Go.ChangeAt Go.RowKit

def loopP : PW := ⟨2, [[0]], [[(0, ⟨[0], [0], []⟩)]]⟩
theorem loop_last : loopP.Last 0 := ⟨by kernel_rfl, fun k hk => by omega⟩
theorem loop_zero : loopP.round 0 = [[0]] := by kernel_rfl
theorem loop_full : loopP.rights [[3]] = [[3]] := by kernel_rfl
def RetLoop (w : World) (e : Ending) (w' : World) : Prop :=
  ∃ s : SY, e = .returned s.a ∧ SYok w' [] s ∧ SOk s 2 1 ∧ s.pw = loopP ∧ Below w.heap.size w w'
theorem loop_sys {w : World} {h h1 hT hB g1 g2 g3 n : Nat} (a1 : Fb w h #[.int .i64 0] 3) (a2 : Fb w h1 #[.slice (some ⟨h, 0, none⟩) 1 1] 22) (a3 : Fb w hT #[.int .i64 2, .slice (some ⟨g1, 0, none⟩) (Bs.nw 2) (Bs.nw 2), .int .i64 2, .slice (some ⟨g2, 0, none⟩) (Bs.nw 2) (Bs.nw 2), .slice none 0 0] 70) (r1 : Row w g1 (Bs.emp 2)) (r2 : Row w g2 (Bs.emp 2)) (a4 : Fb w hB #[.int .i64 2, .slice (some ⟨g3, 0, none⟩) n n] 41) (r3 : Row w g3 (Bs.emp 2)) (hn : n = Bs.nw 2) :
    SYok w [] ⟨2, ⟨some ⟨h1, 0, none⟩, 1, 1, [⟨some ⟨h, 0, none⟩, 1, 1, [0]⟩]⟩, ⟨some ⟨hT, 0, none⟩, 1, 1, [⟨⟨2, some ⟨g1, 0, none⟩, Bs.nw 2, Bs.nw 2, Bs.emp 2⟩, ⟨2, some ⟨g2, 0, none⟩, Bs.nw 2, Bs.nw 2, Bs.emp 2⟩, none, 0, 0, []⟩]⟩, ⟨some ⟨hB, 0, none⟩, 1, 1, [⟨2, some ⟨g3, 0, none⟩, n, n, Bs.emp 2⟩]⟩⟩ := by
  subst hn
  have z : ∀ {g : Nat}, Row w g (Bs.emp 2) → ZHok w [] ⟨2, some ⟨g, 0, none⟩, Bs.nw 2, Bs.nw 2, Bs.emp 2⟩ := fun hr => ⟨EAt.fb hr (by simp) (fun j x hx => by simpa using hx), rfl, (Bs.fit_emp 2).ok⟩
  refine ⟨⟨EAt.fb a2 (by simp) (fun j x hx => by simpa [RH.v] using hx), rfl, by show 1 ≤ 9223372036854775807; omega, fun y hy => ?_⟩, ⟨EAt.fb a3 (by simp) (fun j x hx => by simpa [FH.cells] using hx), rfl, by show 1 ≤ 9223372036854775807; omega, fun y hy => ?_⟩, ⟨EAt.fb a4 (by simp) (fun j x hx => by simpa [ZH.cs] using hx), rfl, by show 1 ≤ 9223372036854775807; omega, fun y hy => ?_⟩⟩
  · rw [List.mem_singleton.1 hy]
    exact ⟨EAt.fb a1 (by simp) (fun j x hx => by simpa [ints] using hx), rfl, by show 1 ≤ 9223372036854775807; omega⟩
  · rw [List.mem_singleton.1 hy]
    exact ⟨z r1, z r2, EAt.nil _ _ _, rfl⟩
  · rw [List.mem_singleton.1 hy]
    exact z r3
theorem loop_ok (h h1 hT hB g1 g2 g3 n : Nat) (hn : n = Bs.nw 2) : SOk ⟨2, ⟨some ⟨h1, 0, none⟩, 1, 1, [⟨some ⟨h, 0, none⟩, 1, 1, [0]⟩]⟩, ⟨some ⟨hT, 0, none⟩, 1, 1, [⟨⟨2, some ⟨g1, 0, none⟩, Bs.nw 2, Bs.nw 2, Bs.emp 2⟩, ⟨2, some ⟨g2, 0, none⟩, Bs.nw 2, Bs.nw 2, Bs.emp 2⟩, none, 0, 0, []⟩]⟩, ⟨some ⟨hB, 0, none⟩, 1, 1, [⟨2, some ⟨g3, 0, none⟩, n, n, Bs.emp 2⟩]⟩⟩ 2 1 := by
  refine ⟨rfl, by omega, by omega, by omega, rfl, rfl, rfl, fun y hy => ?_, by show tot [[0]] ≤ 1024; decide, fun y hy => ?_, fun y hy => ?_⟩
  · rw [List.mem_singleton.1 hy]
    exact ⟨by simp, fun x hx => by rw [List.mem_singleton.1 hx]; omega⟩
  · rw [List.mem_singleton.1 hy]
    exact ⟨rfl, rfl, show validT 2 (Bs.emp 2) 2 (Bs.emp 2) [] = true by kernel_rfl⟩
  · rw [List.mem_singleton.1 hy]
    exact ⟨rfl, Bs.fit_emp 2⟩
theorem loop_any (w : World) : Calls Try.prog 47 #[] w (RetLoop w) := by
  have HR := hid (((Fb.new w #[.int .i64 0, .slice none 0 0, .slice none 0 0, .slice none 0 0] 27).alloc (.cells #[.int .i64 0] 3)).alloc (.cells #[.slice (some ⟨w.heap.size + 1, 0, none⟩) 1 1] 22))
  have HB := hid (((((Below.refl w.heap.size w).alloc (Nat.le_refl _) (.cells #[.int .i64 0, .slice none 0 0, .slice none 0 0, .slice none 0 0] 27)).alloc (by simp) (.cells #[.int .i64 0] 3))).alloc (by simp; omega) (.cells #[.slice (some ⟨w.heap.size + 1, 0, none⟩) 1 1] 22))
  have HA1 := hid (show Fb (((w.alloc (.cells #[.int .i64 0, .slice none 0 0, .slice none 0 0, .slice none 0 0] 27)).alloc (.cells #[.int .i64 0] 3)).alloc (.cells #[.slice (some ⟨w.heap.size + 1, 0, none⟩) 1 1] 22)) (w.heap.size + 1) #[.int .i64 0] 3 from by
    have := (Fb.new (w.alloc (.cells #[.int .i64 0, .slice none 0 0, .slice none 0 0, .slice none 0 0] 27)) #[.int .i64 0] 3).alloc (.cells #[.slice (some ⟨w.heap.size + 1, 0, none⟩) 1 1] 22)
    rwa [World.size_alloc] at this)
  have HA2 := hid (show Fb (((w.alloc (.cells #[.int .i64 0, .slice none 0 0, .slice none 0 0, .slice none 0 0] 27)).alloc (.cells #[.int .i64 0] 3)).alloc (.cells #[.slice (some ⟨w.heap.size + 1, 0, none⟩) 1 1] 22)) (w.heap.size + 2) #[.slice (some ⟨w.heap.size + 1, 0, none⟩) 1 1] 22 from by
    have := Fb.new ((w.alloc (.cells #[.int .i64 0, .slice none 0 0, .slice none 0 0, .slice none 0 0] 27)).alloc (.cells #[.int .i64 0] 3)) #[.slice (some ⟨w.heap.size + 1, 0, none⟩) 1 1] 22
    rwa [World.size_alloc, World.size_alloc] at this)
  go_enter Try.func47, Try.ntmps47
  go_wp2_with fail
  refine (refIdentity_any 2 _ (by omega)).mono ?_
  generalize ((w.alloc (.cells #[.int .i64 0, .slice none 0 0, .slice none 0 0, .slice none 0 0] 27)).alloc (.cells #[.int .i64 0] 3)).alloc (.cells #[.slice (some ⟨w.heap.size + 1, 0, none⟩) 1 1] 22) = w0 at *
  rintro e w1 ⟨g1, g2, rfl, ⟨hg1, hr1⟩, ⟨hg2, hr2⟩, hb1⟩
  have hba := (Below.refl w1.heap.size w1).alloc (Nat.le_refl _) (.cells #[.int .i64 2, .slice (some ⟨g1, 0, none⟩) (Bs.nw 2) (Bs.nw 2), .int .i64 2, .slice (some ⟨g2, 0, none⟩) (Bs.nw 2) (Bs.nw 2), .slice none 0 0] 70)
  have hb2 := below_step hb1 hba
  have HR2 := hid (HR.out.below hb2 HR.out.lt)
  have HB2 := hid (below_step HB.out hb2)
  have HA12 := hid (HA1.out.below hb2 HA1.out.lt)
  have HA22 := hid (HA2.out.below hb2 HA2.out.lt)
  have HT := hid (Fb.new w1 #[.int .i64 2, .slice (some ⟨g1, 0, none⟩) (Bs.nw 2) (Bs.nw 2), .int .i64 2, .slice (some ⟨g2, 0, none⟩) (Bs.nw 2) (Bs.nw 2), .slice none 0 0] 70)
  have Hr1 := hid (hr1.below hba hr1.lt)
  have Hr2 := hid (hr2.below hba hr2.lt)
  have Hgg := hid (And.intro hg1 hg2)
  have Hsz := hid (show w.heap.size + 2 < w0.heap.size from HA2.out.lt)
  have Hs1 := hid hb1.size
  clear hg1 hr1 hg2 hr2 hb1 hba hb2 HR HB HA1 HA2
  go_wp2_with fail
  refine (refEmpty_any 2 _ (by omega)).mono ?_
  have HhT := hid (show w.heap.size + 2 < w1.heap.size by have := Hsz.out; have := Hs1.out; omega)
  generalize w1.alloc (.cells #[.int .i64 2, .slice (some ⟨g1, 0, none⟩) (Bs.nw 2) (Bs.nw 2), .int .i64 2, .slice (some ⟨g2, 0, none⟩) (Bs.nw 2) (Bs.nw 2), .slice none 0 0] 70) = w2 at *
  generalize w1.heap.size = hT at *
  rintro e w3 ⟨g3, rfl, hg3, hr3, hb3⟩
  rw [len_emp]
  have hba := (Below.refl w3.heap.size w3).alloc (Nat.le_refl _) (.cells #[.int .i64 2, .slice (some ⟨g3, 0, none⟩) (Bs.nw 2) (Bs.nw 2)] 41)
  have hb4 := below_step hb3 hba
  have HR3 := hid (HR2.out.below hb3 HR2.out.lt)
  have HB3 := hid (below_step HB2.out hb4)
  have HA13 := hid (HA12.out.below hb4 HA12.out.lt)
  have HA23 := hid (HA22.out.below hb4 HA22.out.lt)
  have HT3 := hid (HT.out.below hb4 HT.out.lt)
  have Hr13 := hid (Hr1.out.below hb4 Hr1.out.lt)
  have Hr23 := hid (Hr2.out.below hb4 Hr2.out.lt)
  have Hr33 := hid (hr3.below hba hr3.lt)
  have Hg3 := hid (show w.heap.size + 2 < g3 by have := HA22.out.lt; omega)
  have Hs3 := hid (show w.heap.size + 2 < w3.heap.size by have := HA22.out.lt; have := hb3.size; omega)
  have HB4 := hid (Fb.new w3 #[.int .i64 2, .slice (some ⟨g3, 0, none⟩) (Bs.nw 2) (Bs.nw 2)] 41)
  clear hg3 hr3 hb3 hba hb4 HR2 HB2 HA12 HA22 HT Hr1 Hr2
  obtain ⟨w4, hw4⟩ : ∃ w4, w4 = w3.alloc (.cells #[.int .i64 2, .slice (some ⟨g3, 0, none⟩) (Bs.nw 2) (Bs.nw 2)] 41) := ⟨_, rfl⟩
  rw [← hw4] at HB3 HA13 HA23 HT3 Hr13 Hr23 Hr33 HB4
  have HA23 : Hid (Fb w4 (w.heap.size + 1 + 1) #[.slice (some ⟨w.heap.size + 1, 0, none⟩) 1 1] 22) := HA23
  have hgr := grown_trans (grown_trans (grown_trans (setCell_grown w4 ⟨w.heap.size, 0, none⟩ (.int .i64 2)) (setCell_grown _ ⟨w.heap.size, 1, none⟩ (.slice (some ⟨w.heap.size + 1 + 1, 0, none⟩) 1 1))) (setCell_grown _ ⟨w.heap.size, 2, none⟩ (.slice (some ⟨hT, 0, none⟩) 1 1))) (setCell_grown _ ⟨w.heap.size, 3, none⟩ (.slice (some ⟨w3.heap.size, 0, none⟩) 1 1))
  have hfin := HB3.out.setCell (p := ⟨w.heap.size, 0, none⟩) (by simp) (.int .i64 2) |>.setCell (p := ⟨w.heap.size, 1, none⟩) (by simp) (.slice (some ⟨w.heap.size + 1 + 1, 0, none⟩) 1 1) |>.setCell (p := ⟨w.heap.size, 2, none⟩) (by simp) (.slice (some ⟨hT, 0, none⟩) 1 1) |>.setCell (p := ⟨w.heap.size, 3, none⟩) (by simp) (.slice (some ⟨w3.heap.size, 0, none⟩) 1 1)
  have n1 := Hgg.out.1
  have n2 := Hgg.out.2
  have n0 := Hsz.out
  have n3 := HhT.out
  have n4 := Hg3.out
  have n5 := Hs3.out
  have far : ∀ {k : Nat}, w.heap.size < k → some k ≠ some (⟨w.heap.size, 0, none⟩ : Addr).block := fun hk e => by have := Option.some.inj e; simp only at this; omega
  have hsys := loop_sys (HA13.out.grown hgr (far (by omega))) (HA23.out.grown hgr (far (by omega))) (HT3.out.grown hgr (far (by omega))) ((hgr.block g1 Hr13.out.lt (far (by omega))).trans Hr13.out) ((hgr.block g2 Hr23.out.lt (far (by omega))).trans Hr23.out) (HB4.out.grown hgr (far (by omega))) ((hgr.block g3 Hr33.out.lt (far (by omega))).trans Hr33.out) rfl
  have Hfin := hid (show RetLoop w (.returned (.agg #[.int .i64 2, .slice (some ⟨w.heap.size + 1 + 1, 0, none⟩) 1 1, .slice (some ⟨hT, 0, none⟩) 1 1, .slice (some ⟨w3.heap.size, 0, none⟩) 1 1])) _ from ⟨_, rfl, hsys, loop_ok _ _ _ _ _ _ _ _ rfl, by kernel_rfl, hfin⟩)
  clear hgr hfin hsys far n0 n1 n2 n3 n4 n5 HB3 HA13 HA23 HT3 Hr13 Hr23 Hr33 HB4
  rw [hw4] at Hfin
  clear hw4
  obtain ⟨r0, r1, r2, r3⟩ := HR3.out.four
  have f0 := HR3.out.frozen 0
  have f1 := HR3.out.frozen 1
  have f2 := HR3.out.frozen 2
  have f3 := HR3.out.frozen 3
  have hl : w.heap.size < w3.heap.size := by have := Hs3.out; omega
  go_wp2_with fail
  refine bodyPost_ret (v := .agg #[.int .i64 2, .slice (some ⟨w.heap.size + 1 + 1, 0, none⟩) 1 1, .slice (some ⟨hT, 0, none⟩) 1 1, .slice (some ⟨w3.heap.size, 0, none⟩) 1 1]) (by simp [results, Try.results47, go_sem, r0, r1, r2, r3, hl]) rfl ?_
  have h := Hfin.out
  simp only [World.setCell_alloc_past, World.size_setCell, hl] at h
  exact h
end Go.Proofs.Ytmnbidpoceknlaa

namespace Go.Proofs.Ytmnbidpoceknlaa
set_option maxRecDepth 20000
set_option linter.unusedVariables false
set_option linter.unusedSimpArgs false
open Go.ChangeShapes Go.WideShapes Go.ChangeAt Go.RowKit

theorem full2b : Bs.ofP 2 (fun _ => true) 2 = [3] := by rfl
theorem emp2b : Bs.emp 2 = [0] := by rfl
theorem loopSol (s : SY) (g n c : Nat) (A : Option Addr) (w : World) (hs : SYok w [] s) (ho : SOk s 2 1) (hp : s.pw = loopP) (hf : Fb w g #[.int .i64 2, .slice A n c] 41) (ha : Arg w A n [3]) :
    Calls Try.prog 24 #[s.a, .slice (some ⟨g, 0, none⟩) 1 1] w fun e w' => e = .returned (.bool true) ∧ Below w.heap.size w w' := by
  have hz : ZHok w [] ⟨2, A, n, c, [3]⟩ := ⟨by
    rcases ha.lies with e | ⟨ad, e, hb, hc⟩
    · exact .inl e
    · exact .inr ⟨ad, e, ⟨hb, by simp⟩, hc⟩, ha.len, ha.ok⟩
  have hy : ZLok w [] ⟨some ⟨g, 0, none⟩, 1, 1, [⟨2, A, n, c, [3]⟩]⟩ := ⟨EAt.fb hf (by simp) (fun j x hx => by simpa [ZH.cs] using hx), rfl, by show 1 ≤ 9223372036854775807; omega, fun y hy => by rw [List.mem_singleton.1 hy]; exact hz⟩
  have hvo : VOk ⟨some ⟨g, 0, none⟩, 1, 1, [⟨2, A, n, c, [3]⟩]⟩ 2 1 := ⟨rfl, fun y hy => by
    rw [List.mem_singleton.1 hy]
    refine ⟨rfl, ?_⟩
    show Bs.Fit 2 [3]
    rw [← full2b]
    exact Bs.fit_ofP 2 (fun _ => true) 2 (Nat.le_refl _)⟩
  refine (isSolution_any s _ 2 1 [] [] w hs hy ho hvo).mono ?_
  rintro e w' ⟨rfl, hb⟩
  refine ⟨?_, hb⟩
  rw [hp, show ZL.vs ⟨some ⟨g, 0, none⟩, 1, 1, [⟨2, A, n, c, [3]⟩]⟩ = [[3]] from rfl, loop_full]
  simp
set_option maxHeartbeats 6400000 in
theorem sane11_any (w : World) : Calls Try.prog 16 #[] w fun e w' => e = .returned (.bool true) ∧ Below w.heap.size w w' := by
  go_enter Try.func16, Try.ntmps16
  go_wp2_with fail
  refine (loop_any _).mono ?_
  rintro e w1 ⟨s, rfl, hs, ho, hp, hb1⟩
  have HC := hid (solve_any s 2 1 [] w1 hs ho)
  have Hp := hid hp
  have Hb1 := hid hb1
  clear hs ho hp hb1
  generalize s.a = sv at *
  go_wp2_with fail
  refine HC.out.mono ?_
  rintro e w2 ⟨K, g, l, hK, rfl, hg, hrow, hok, hvs, hb2⟩
  rw [Hp.out] at hK hvs
  obtain rfl : K = 0 := hK.unique loop_last
  rw [loop_zero] at hvs
  have Hb2 := hid (below_step Hb1.out hb2)
  obtain ⟨z, hz, hzm⟩ := get_at hrow.len (show 0 < 1 by omega)
  obtain ⟨c0, c1⟩ := hrow.cells hz
  obtain ⟨hzW, hzf⟩ := hok z hzm
  have hza := hrow.all z hzm
  have hzs : z.ws = [0] := by
    have h1 := congrArg (fun l => l[0]?) hvs
    simp only [List.getElem?_map, hz, Option.map_some, List.getElem?_cons_zero] at h1
    exact Option.some.inj h1
  obtain ⟨ZW, ZA, zn, zc, zs⟩ := z
  simp only at hzW hzs c0 c1 hza
  subst hzW
  subst hzs
  have hgl := hrow.lt
  have HK := hid (fun (u : World) (hu : Below w2.heap.size w2 u) => And.intro ((hu.cell (p := ⟨g, 0, none⟩) hgl).trans c0) ((hu.cell (p := ⟨g, 1, none⟩) hgl).trans c1))
  have Hza := hid hza
  have hzn : zn ≤ maxLen := by rw [← hza.len]; decide
  have Hcur := hid ((Below.refl w2.heap.size w2).drew)
  clear hK hvs hok hrow hb2 hz hzm hzf hza c0 c1 HC Hp Hb1 hg
  go_upto_region 2 with fail
  go_region_held3 (fun u => u.cell? ⟨g, 0, none⟩ = some (.int .i64 2) ∧ u.cell? ⟨g, 1, none⟩ = some (.slice ZA zn zc))
    (first | exact HK.out _ Hcur.out | exact HK.out _ (Hcur.out.alloc Hcur.out.size _))
    (first
     | (go_at_call 41
        go_must (
        refine (refEmpty_any 2 _ (by omega)).mono ?_
        rw [emp2b]
        rintro e wn ⟨gE, rfl, hgE, hrE, hbk⟩
        have HrE := hid (hrE.arg (by decide))
        have Hcur := hid (below_step Hcur.out hbk)
        clear hgE hrE hbk))
     | (go_at_call 48
        go_must (
        refine (refSame_any 2 2 ZA (some ⟨gE, 0, none⟩) zn zc 1 1 [0] [0] _ (Hza.out.below Hcur.out) HrE.out hzn).mono ?_
        rw [show sameB 2 [0] 2 [0] = true from rfl]
        rintro e wn ⟨rfl, hbk⟩
        have Hcur := hid (below_step Hcur.out hbk)
        clear hbk))
     | (go_at_call 47
        go_must (
        refine (loop_any _).mono ?_
        rintro e wn ⟨s2, rfl, hs2, ho2, hp2, hbk⟩
        have Hs2 := hid hs2
        have Ho2 := hid ho2
        have Hp2 := hid hp2
        have Hcur := hid (below_step Hcur.out hbk)
        clear hs2 ho2 hp2 hbk))
     | (go_at_call 49
        go_must (
        refine (refFull_any 2 _ (by omega)).mono ?_
        rw [full2b]
        rintro e wn ⟨AF, nF, cF, rfl, haF, hbk⟩
        have HaF := hid haF
        have Hs2 := hid (Hs2.out.below hbk)
        have Hcur := hid (below_step Hcur.out hbk)
        clear haF hbk))
     | (go_at_call 24
        go_must (
        refine (loopSol s2 _ nF cF AF _ (Hs2.out.below ((Below.refl _ _).alloc (Nat.le_refl _) _)) Ho2.out Hp2.out (Fb.new _ _ _) (HaF.out.below ((Below.refl _ _).alloc (Nat.le_refl _) _))).mono ?_
        rintro e wn ⟨rfl, hbk⟩
        have Hcur := hid (below_step (Hcur.out.alloc Hcur.out.size _) hbk)
        clear hbk)))
  all_goals
    go_wp2_with fail
    go_ret
    exact ⟨rfl, below_step Hb2.out Hcur.out⟩
end Go.Proofs.Ytmnbidpoceknlaa

namespace Go.Proofs.Ytmnbidpoceknlaa
set_option maxRecDepth 20000
open Go.ChangeShapes Go.WideShapes Go.ChangeAt Go.RowKit

theorem ex1a : applyR 2 [0] 2 [2] [(0, 1)] 2 [1] = (2, [3], 0) := by rfl
theorem ex1b : applyR 2 [0] 2 [2] [(0, 1)] 2 [2] = (2, [0], 0) := by rfl
theorem put0 : Bs.put (Bs.emp 2) 0 = [1] := by rfl
theorem put1 : Bs.put (Bs.emp 2) 1 = [2] := by rfl
theorem emp2 : Bs.emp 2 = [0] := by rfl
theorem full2 : Bs.ofP 2 (fun _ => true) 2 = [3] := by rfl

/-- A function in a variable: its block, its words, its copies. -/
structure VarT (w : World) (b : Nat) (W : Int) (gs ks : List Nat) (cs : List (Int × Int)) (A : Option Addr) (n c : Nat) (B : Option Addr) (m d : Nat) (C : Option Addr) (k q : Nat) : Prop where
  box : Fb w b #[.int .i64 W, .slice A n c, .int .i64 W, .slice B m d, .slice C k q] 70
  gen : Arg w A n gs
  kill : Arg w B m ks
  cops : ArgC w C k cs
theorem VarT.below {w w' : World} {b : Nat} {W : Int} {gs ks : List Nat} {cs : List (Int × Int)} {A : Option Addr} {n c : Nat} {B : Option Addr} {m d : Nat} {C : Option Addr} {k q : Nat} (h : VarT w b W gs ks cs A n c B m d C k q) (hb : Below w.heap.size w w') :
    VarT w' b W gs ks cs A n c B m d C k q := ⟨h.box.below hb h.box.lt, h.gen.below hb, h.kill.below hb, h.cops.below hb⟩
theorem pairs_lit (w : World) (cs : List (Int × Int)) (xs : Array Value) (h : xs.toList = pairs cs) : ArgC (w.alloc (.cells xs 103)) (some ⟨w.heap.size, 0, none⟩) cs.length cs := by
  refine ⟨.inr ⟨_, rfl, by simp, fun j u hu => ?_⟩, rfl⟩
  rw [add_of, World.cell?_alloc_at _ _ _ _ rfl]
  rw [← h] at hu
  simpa using hu


theorem Box.four {w : World} {b : Nat} {W : Int} {A : Option Addr} {n c : Nat} (h : Box w b W A n c) : w.cell? ⟨b, 0, none⟩ = some (.int .i64 W) ∧ w.cell? ⟨b, 1, none⟩ = some (.slice A n c) ∧ w.frozen? ⟨b, 0, none⟩ = false ∧ w.frozen? ⟨b, 1, none⟩ = false := ⟨h.c0, h.c1, h.f 0, h.f 1⟩
/-- The result's variable, made before a call. -/
def Fresh (W w : World) (b : Nat) : Prop := Box w b 0 none 0 0 ∧ W.heap.size ≤ b
theorem Fresh.mk {W w0 w1 : World} (h0 : Below W.heap.size W w0) (hb : Below (w0.alloc (.cells #[.int .i64 0, .slice none 0 0] 41)).heap.size (w0.alloc (.cells #[.int .i64 0, .slice none 0 0] 41)) w1) : Fresh W w1 w0.heap.size :=
  ⟨(Box.new w0 0 none 0 0).below hb (by simp), h0.size⟩
theorem Fresh.mkD {w0 w1 : World} (hb : Below (w0.alloc (.cells #[.int .i64 0, .slice none 0 0] 41)).drew.heap.size (w0.alloc (.cells #[.int .i64 0, .slice none 0 0] 41)).drew w1) : Fresh w0 w1 w0.heap.size :=
  ⟨(show Box (w0.alloc (.cells #[.int .i64 0, .slice none 0 0] 41)).drew w0.heap.size 0 none 0 0 from Box.new w0 0 none 0 0).below hb (by show w0.heap.size < (w0.alloc _).heap.size; simp), Nat.le_refl _⟩
theorem Fresh.below {W w w1 : World} {b : Nat} (h : Fresh W w b) (hb : Below w.heap.size w w1) : Fresh W w1 b := ⟨h.1.below hb h.1.lt, h.2⟩
theorem Fresh.stored {W w : World} {b : Nat} (h : Fresh W w b) (hb : Below W.heap.size W w) (V : Int) (B : Option Addr) (m d : Nat) : Below W.heap.size W ((w.setCell ⟨b, 0, none⟩ (.int .i64 V)).setCell ⟨b, 1, none⟩ (.slice B m d)) :=
  (hb.setCell (by exact h.2) _).setCell (by exact h.2) _

end Go.Proofs.Ytmnbidpoceknlaa

namespace Go.Proofs.Ytmnbidpoceknlaa
set_option maxRecDepth 20000
open Go.ChangeShapes Go.WideShapes Go.ChangeAt Go.RowKit

theorem new_any (A : Option Addr) (n c : Nat) (w : World) :
    Calls Try.prog 11 #[.slice A n c] w fun e w' => e = .returned (.pointer (some ⟨w.heap.size, 0, none⟩)) ∧ w.alloc (.cells #[.slice A n c, .int .i64 0] 65) = w' := by
  go_enter Try.func11, Try.ntmps11
  go_wp2
  go_ret
  exact ⟨rfl, rfl⟩
theorem tape_new {w : World} {A : Option Addr} {n c : Nat} {zs : List Int} (h : IArg w A n zs) (hn : n ≤ maxLen) : Tape (w.alloc (.cells #[.slice A n c, .int .i64 0] 65)) w.heap.size :=
  ⟨A, n, c, 0, zs, heap_alloc_new w _, h.len, hn, Nat.zero_le _, h.lies.keep (fun p hp => World.cell?_alloc_lt w _ p hp) (Nat.le_refl _)⟩

/-- The statement's tape stands, and nothing old has changed. -/
def Going (w : World) (T : Nat) (wr : World) : Prop := Tape wr T ∧ Below w.heap.size w wr ∧ w.heap.size ≤ T
theorem Going.step {w wr w' : World} {T : Nat} (h : Going w T wr) (ht : Tape w' T) (hg : wr.grownBy w' (some T)) : Going w T w' :=
  ⟨ht, after_app h.2.1 hg h.2.2, h.2.2⟩
theorem Going.below {w wr w' : World} {T : Nat} (h : Going w T wr) (hb : Below wr.heap.size wr w') : Going w T w' :=
  h.step (h.1.below hb h.1.lt) (grown_of_below hb _)
theorem Going.alloc {w wr : World} {T : Nat} (h : Going w T wr) (o : Obj) : Going w T (wr.alloc o) := h.below ((Below.refl _ _).alloc (Nat.le_refl _) o)

/-- Copies do not lie in a tape: there two numbers never lie side by side. -/
theorem ArgC.tape {w w' : World} {T : Nat} {A : Option Addr} {n : Nat} {cs : List (Int × Int)} (h : ArgC w A n cs) (ht : Tape w T) (hg : w.grownBy w' (some T)) : ArgC w' A n cs := by
  refine ⟨?_, h.len⟩
  rcases h.lies with h0 | ⟨ad, e, hb, hc⟩
  · exact .inl h0
  · cases cs with
    | nil => exact .inl rfl
    | cons p cs =>
      have hne : ad.block ≠ T := by
        intro he
        have c0 := hc 0 (.int .i64 p.1) rfl
        have c1 := hc 1 (.int .i64 p.2) rfl
        obtain ⟨A', n', c', k', zs, h1, _⟩ := ht
        have ha : ad.add 0 = ad := by unfold Addr.add; simp
        rw [ha] at c0
        unfold World.cell? at c0 c1
        rw [he, h1] at c0
        rw [show (ad.add 1).block = T from by rw [add_block]; exact he, h1] at c1
        have e1 : (ad.add 1).off = ad.off + 1 := by unfold Addr.add; simp
        have e2 : (ad.add 1).spot = none := by unfold Addr.add; simp
        simp only [e1, e2] at c1
        simp only at c0
        split at c0
        · cases c0
        · match hoff : ad.off, c0 with
          | 0, c0 => simp at c0
          | 1, c0 => rw [hoff] at c1; simp at c1
          | n + 2, c0 => simp at c0
      refine .inr ⟨ad, e, by have := hg.size; omega, fun j u hu => hg.cell (hc j u hu) (by rw [add_block]; intro h; injection h with h; exact hne h)⟩
end Go.Proofs.Ytmnbidpoceknlaa

namespace Go.Proofs.Ytmnbidpoceknlaa
set_option maxRecDepth 20000
set_option linter.unusedVariables false
set_option linter.unusedSimpArgs false
open Go.ChangeShapes Go.WideShapes Go.ChangeAt Go.RowKit

theorem zsame_all {v N : Nat} {l m : List ZH} (hl : l.length = N) (hm : m.length = N) (h1 : ∀ z ∈ l, z.W = v ∧ Bs.Fit v z.ws) (h2 : ∀ z ∈ m, z.W = v ∧ Bs.Fit v z.ws) (he : l.map ZH.ws = m.map ZH.ws) : (l.zip m).all zsame = true := by
  have len : l.length = m.length := by omega
  clear hl hm
  induction l generalizing m with
  | nil => simp
  | cons a l ih => cases m with
    | nil => simp at len
    | cons b m =>
      rw [List.map_cons, List.map_cons] at he
      injection he with e1 e2
      rw [List.zip_cons_cons, List.all_cons, ih (fun z hz => h1 z (List.mem_cons_of_mem _ hz)) (fun z hz => h2 z (List.mem_cons_of_mem _ hz)) e2 (by simpa using len)]
      unfold zsame sameB
      rw [(h1 a List.mem_cons_self).1, (h2 b List.mem_cons_self).1, e1]
      simp
set_option maxHeartbeats 6400000 in
theorem lawWebs (At : Option Addr) (nt ct : Nat) (zs : List Int) (w : World) (ht : IArg w At nt zs) (hnt : nt ≤ maxLen) :
    Calls Try.prog 6 #[.slice At nt ct] w fun e w' => e = .returned (.bool true) ∧ Below w.heap.size w w' := by
  have HT := hid (tape_new (c := ct) ht hnt)
  have HB := hid ((Below.refl w.heap.size w).alloc (Nat.le_refl _) (.cells #[.slice At nt ct, .int .i64 0] 65))
  clear ht
  go_enter Try.func6, Try.ntmps6
  go_wp2_with fail
  refine (new_any At nt ct w).mono ?_
  rintro e w0 ⟨rfl, rfl⟩
  go_wp2_with fail
  refine (system_any w.heap.size 6 _ HT.out (by omega) (by omega)).mono ?_
  rintro e w1 ⟨s, v, N, rfl, hs, hg, hN, htp, hgr⟩
  have ho := hg.ok hs (by omega)
  have HB1 := hid (after_app HB.out hgr (Nat.le_refl _))
  have hba := (Below.refl w1.heap.size w1).alloc (Nat.le_refl _) (.cells s.box 27)
  have HB2 := hid (below_step HB1.out hba)
  have Hs := hid (hs.below hba)
  have HC := hid (solve_any s v N [some w.heap.size] _ Hs.out ho)
  have HBx := hid (Fb.new w1 s.box 27)
  have Ho := hid ho
  have hv := ho.v256
  have hN2 := ho.n256
  clear hs hg hN htp hgr ho hba HB HT HB1
  unfold SY.a at HC ⊢
  unfold SY.box at *
  go_wp2_with fail
  refine HC.out.mono ?_
  generalize w1.alloc (.cells #[.int .i64 s.W, .slice s.D.A s.D.n s.D.c, .slice s.T.A s.T.n s.T.c, .slice s.B.A s.B.n s.B.c] 27) = w2 at *
  generalize w1.heap.size = bx at *
  rintro e w3 ⟨K, g, l, hK, rfl, hgg, hrow, hok, hvs, hb3⟩
  have HB3 := hid (below_step HB2.out hb3)
  have HW := hid (webC s v N [some w.heap.size] w3 (Hs.out.below hb3) Ho.out)
  have HBx3 := hid (HBx.out.below hb3 HBx.out.lt)
  have HK := hid hK
  have Hrow := hid hrow
  have Hok := hid hok
  have Hvs := hid hvs
  clear hb3 HB2 HC HBx hK hrow hok hvs hgg
  obtain ⟨c0, c1, c2, c3⟩ := HBx3.out.four
  go_wp2_with fail
  refine HW.out.mono ?_
  rintro e w4 ⟨BA, bc, bl, IA, ic, il, rfl, hx, hox, hpw, hb4⟩
  have hba := (Below.refl w4.heap.size w4).alloc (Nat.le_refl _) (.cells #[.int .i64 v, .slice BA N bc, .slice IA N ic] 56)
  have hb5 := below_step hb4 hba
  have HB4 := hid (below_step HB3.out hb5)
  have Hrow4 := hid (Hrow.out.below hb5)
  have HC := hid (solveWeb_any ⟨v, ⟨BA, N, bc, bl⟩, ⟨IA, N, ic, il⟩⟩ v N [] _ (hx.below hba) hox (WLk.of hox Ho.out hpw))
  rw [hpw] at HC
  unfold WB.a at HC
  simp only at HC
  clear hx hox hpw hb4 hb5 hba HW c0 c1 c2 c3 HB3 HBx3 Hrow
  go_wp2_with fail
  refine HC.out.mono ?_
  rintro e w6 ⟨K2, g2, l2, hK2, rfl, hg2, hrow2, hok2, hvs2, hb6⟩
  obtain rfl := hK2.unique HK.out
  have HB6 := hid (below_step HB4.out hb6)
  have Hrow6 := hid (Hrow4.out.below hb6)
  have Hrow2 := hid hrow2
  have hsame := zsame_all hrow2.len Hrow6.out.len hok2 Hok.out (hvs2.trans Hvs.out.symm)
  have HSS := hid (fun (u : World) (hu : Below w6.heap.size w6 u) => sameSets_any ⟨some ⟨g2, 0, none⟩, N, N, l2⟩ ⟨some ⟨g, 0, none⟩, N, N, l⟩ [] [] u ((Hrow2.out.below hu).zl (by omega)) ((Hrow6.out.below hu).zl (by omega)) (fun z hz => by
    have h1 := ((hrow2.zl (show N ≤ 100000 by omega)).all z hz).len
    have h2 := (hok2 z hz).2.len
    rw [← h1, h2]
    unfold Bs.nw maxLen; omega))
  simp only [hsame] at HSS
  clear hK2 hg2 hrow2 hok2 hvs2 hb6 HB4 Hrow4 HC hsame
  go_wp2_with fail
  refine (HSS.out _ (Below.refl _ _)).mono ?_
  rintro e w7 ⟨rfl, hb7⟩
  have HB7 := hid (below_step HB6.out hb7)
  clear hb7 HSS
  go_wp2_with fail
  refine (sane11_any _).mono ?_
  rintro e w8 ⟨rfl, hb8⟩
  have HB8 := hid (below_step HB7.out hb8)
  clear hb8
  go_wp2_with fail
  go_ret
  exact ⟨rfl, HB8.out⟩
end Go.Proofs.Ytmnbidpoceknlaa

namespace Go.Proofs.Ytmnbidpoceknlaa
set_option maxRecDepth 10000
open Go.ChangeShapes Go.WideShapes Go.ChangeAt Go.RowKit Go.Joins

theorem cells3 : Try.prog.cellsOf 3 = 1 := by kernel_rfl
theorem cells25 : Try.prog.cellsOf 41 = 2 := by kernel_rfl
theorem cells62 : Try.prog.cellsOf 80 = 1 := by kernel_rfl

theorem cell_in {w : World} {a : Addr} {v : Value} (h : w.cell? a = some v) : a.block < w.heap.size := by
  rcases Nat.lt_or_ge a.block w.heap.size with hlt | hge
  · exact hlt
  · unfold World.cell? at h; rw [Array.getElem?_eq_none hge] at h; cases h

theorem wf_u64 {z : Int} (h : (Lit.int .u64 z).wf = true) : 0 ≤ z ∧ z ≤ 18446744073709551615 := by
  have m0 : IntKind.u64.min = 0 := by decide
  have m1 : IntKind.u64.max = 18446744073709551615 := by decide
  simp [Lit.wf] at h
  omega
theorem open_list {H : Type} {enc : TypeId × Value → H} {W : World} {b0 base : Nat} {spare : Nat → Bool} {held : Bool} {v : Value} {d : DataW H} {p : List MemPlace}
    (hv : Value.okWide Try.prog W .any b0 22 v) (h : DataW.Trod enc Try.prog W base spare held 22 v d p) :
    ∃ (A : Option Addr) (n c : Nat) (l : List Int), v = .slice A n c ∧ IArg W A n l ∧ n ≤ maxLen := by
  obtain ⟨A, n, c, rfl⟩ := okWide_slice Try.underlying22 hv
  obtain ⟨fuel, hf⟩ := h
  rcases open_ints Try.underlying22 Try.underlying3 cells3 hf with ⟨hcs, _⟩ | ⟨x, l, c', zs, hcs, _, hl, hm, hz, _, hcell, hwz⟩
  · simp [Value.cells] at hcs
    obtain ⟨rfl, rfl, rfl⟩ := hcs
    exact ⟨none, 0, 0, [], rfl, ⟨.inl rfl, rfl⟩, by simp [maxLen]⟩
  · simp [Value.cells] at hcs
    obtain ⟨rfl, rfl, rfl⟩ := hcs
    have hle : n ≤ zs.length := by rw [hz]; split <;> omega
    refine ⟨some x, n, c, zs.take n, rfl, ⟨?_, by rw [List.length_take]; omega⟩, Nat.le_trans hl hm⟩
    by_cases h0 : n = 0
    · subst h0; exact .inl rfl
    · refine .inr ⟨x, rfl, ?_, fun j u hu => ?_⟩
      · have := cell_in (hcell 0 (by omega)); rwa [add_block] at this
      · unfold ints at hu
        rw [List.getElem?_map] at hu
        have hj : j < n := by
          rcases Nat.lt_or_ge j n with h | h
          · exact h
          · rw [List.getElem?_eq_none (by rw [List.length_take]; omega)] at hu; simp at hu
        rw [List.getElem?_take, if_pos hj, List.getElem?_eq_getElem (by omega)] at hu
        have := hcell j (by omega)
        rw [List.getD_eq_getElem?_getD, List.getElem?_eq_getElem (by omega)] at this
        rw [this]; simpa using hu

theorem open_set {H : Type} {enc : TypeId × Value → H} {W : World} {b0 base : Nat} {spare : Nat → Bool} {held : Bool} {v : Value} {d : DataW H} {p : List MemPlace}
    (hv : Value.okWide Try.prog W .any b0 41 v) (h : DataW.Trod enc Try.prog W base spare held 41 v d p) :
    ∃ (Wd : Int) (A : Option Addr) (n c : Nat) (ws : List Nat), v = .agg #[.int .i64 Wd, .slice A n c] ∧ Arg W A n ws ∧ n ≤ maxLen := by
  obtain ⟨c0, c1, y0, y1, m, rfl, rfl, rfl, hy0, hy1⟩ := open_agg2 Try.underlying41 (by kernel_rfl) cells25 hv h
  obtain ⟨a, e0, _, _⟩ := DataW.trod_int Try.underlying3 hy0
  simp at e0
  subst e0
  rcases open_ints Try.underlying39 Try.underlying80 cells62 hy1 with ⟨hcs, _⟩ | ⟨x, l, c', zs, hcs, _, hl, hm, hz, _, hcell, hwz⟩
  · simp at hcs
    subst hcs
    exact ⟨a, none, 0, 0, [], rfl, Arg.nil _ _, by simp [maxLen]⟩
  · simp at hcs
    subst hcs
    have hle : l ≤ zs.length := by rw [hz]; split <;> omega
    refine ⟨a, some x, l, c', (zs.take l).map Int.toNat, rfl, ⟨?_, by rw [List.length_map, List.length_take]; omega, ?_⟩, Nat.le_trans hl hm⟩
    · by_cases h0 : l = 0
      · subst h0; exact .inl rfl
      · refine .inr ⟨x, rfl, ?_, fun j u hu => ?_⟩
        · have := cell_in (hcell 0 (by omega)); rwa [add_block] at this
        · unfold words at hu
          rw [List.getElem?_map, List.getElem?_map] at hu
          have hj : j < l := by
            rcases Nat.lt_or_ge j l with h | h
            · exact h
            · rw [List.getElem?_eq_none (by rw [List.length_take]; omega)] at hu; simp at hu
          rw [List.getElem?_take, if_pos hj, List.getElem?_eq_getElem (by omega)] at hu
          have := hcell j (by omega)
          rw [List.getD_eq_getElem?_getD, List.getElem?_eq_getElem (by omega)] at this
          have hw := hwz zs[j] (List.getElem_mem _)
          rw [this]
          simp [u64] at hu ⊢
          rw [← hu]
          have h0 := wf_u64 hw
          simp; omega
    · intro y hy
      obtain ⟨z, hz1, rfl⟩ := List.mem_map.1 hy
      have hw := hwz z (List.mem_of_mem_take hz1)
      unfold Bs.W64
      have h0 := wf_u64 hw
      omega
end Go.Proofs.Ytmnbidpoceknlaa

namespace Go.Proofs.Ytmnbidpoceknlaa.fixpointWebs
open Go.ChangeShapes Go.WideShapes Go.ChangeAt Go.RowKit
open Go.ChangeMaps (open_string)
set_option linter.unusedVariables false

theorem own : ownKnob Try.prog.godebug = none := by kernel_rfl
theorem laidOut : laidOutB Try.prog = true := by kernel_rfl

set_option maxRecDepth 100000 in
theorem lifted (os : Os) (started : os.Started) (H : Type) (enc : TypeId × Value → H) :
    ReturnsInHanded {} Try.checked os 6 .any (Rows.fixpointWebsSpec.pre6 enc Try.prog Try.f6 Rows.fixpointWebsRow.domain false) (Rows.fixpointWebsSpec.post enc Try.prog Try.f6 false true false false) := by
  refine returnsInHanded_of_change (C := Try.checked) own started (by kernel_rfl) Try.func6
    (ChangeSpec.witness6 (enc := enc) (C := Try.checked) false ⟨#[], #[.slice none 0 0], []⟩ 8 (by kernel_rfl) (by kernel_rfl) (by kernel_rfl) (by kernel_rfl)) ?_
  intro W base args ds gs before hval0 hW hcnd _
  have hval : ∀ (j : Nat) t v, Try.f6.params[j]? = some t → args[j]? = some v → Value.okWide Try.prog W .any base t v := hval0
  have hW' := hW
  obtain ⟨p, q, hA0, hV, rfl, hfz, hnd⟩ := hW
  have hA : DataW.TrodAll enc Try.prog W 0 (fun _ => true) true Try.f6.params.toList args.toList ds p := hA0
  rw [Try.params6] at hA hval
  obtain ⟨v0, vs0, d0, ds0, p0, q0, hargs, rfl, rfl, h0, r0⟩ := trodAll_cons hA
  obtain ⟨rfl, rfl, rfl⟩ := trodAll_nil r0
  obtain rfl : args = #[v0] := by cases args; simp_all
  obtain ⟨rfl, rfl⟩ := trodVars_none hV
  have k0 := h0
  have lt0 : ∀ x ∈ p0, x.block < W.heap.size := by obtain ⟨m, hm⟩ := k0; exact DataW.trod_lt m _ _ _ hm
  obtain ⟨a0, n0, c0, l0, rfl, g0, m0⟩ := open_list (hval 0 22 v0 rfl rfl) h0
  clear hA0 hval0
  refine (lawWebs a0 n0 c0 l0 W g0 m0).mono fun e W' ⟨he, bel⟩ => ?_
  subst he
  exact ⟨_, rfl, _, _, _, [], _, [], hW', trodAll_mk1 (shut_bool Try.underlying4 _), (trodAll_cons_mk (Below.trod laidOut (by kernel_rfl) (of_decide_eq_true (by kernel_rfl)) k0 bel lt0) trodAll_mk0), rfl, bel.frame _, fun h => by cases h⟩

theorem over : Rows.fixpointWebsRow.holds Try.pinned (OpenSpec.ofChange Rows.fixpointWebsSpec) :=
  OpenClaim.holds_of_wide 6 Try.f6 rfl rfl rfl rfl rfl rfl rfl ⟨rfl, rfl, rfl, rfl, rfl⟩ rfl rfl rfl rfl rfl (by kernel_rfl) Try.func6 (by kernel_rfl)
    (of_decide_eq_true (by kernel_rfl)) (by unfold Func.isWrapper; first | (rw [if_pos (by decide +kernel)]; kernel_rfl) | (rw [if_neg (by decide +kernel)]; exact ⟨rfl, rfl⟩))
    (fun os started H enc _ => lifted os started H enc)

theorem proved : Rows.FixpointWebsSaid := over
#print axioms proved
end Go.Proofs.Ytmnbidpoceknlaa.fixpointWebs
