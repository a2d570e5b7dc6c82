/- FixpointJoins holds for every input: the least solution of a system whose boundary sets are unions is the union of the least solutions. No condition: every list of numbers, in whatever memory, on every schedule. -/
import Derived.Test.YtmnbidpoceknlaaJoinsAlla
import Derived.Test.YtmnbidpoceknlaaDev
import Derived.Test.YtmnbidpoceknlaaPut
import Derived.Test.YtmnbidpoceknlaaEq2
import Derived.Deep.DeepCutAuto
import Derived.Test.YtmnbidpoceknlaaDEq
import Derived.Test.YtmnbidpoceknlaaDMem
import Derived.Test.YtmnbidpoceknlaaMake
import Derived.Test.YtmnbidpoceknlaaSame
import Derived.Deep.RegionHeld3
import Derived.Test.YtmnbidpoceknlaaGen
import Derived.Deep.AppendLies
import Derived.Test.YtmnbidpoceknlaaMembers
import Derived.Lib.SmallJoins
import Derived.ShutString
import Derived.ChangeOld
namespace Go.Proofs.Ytmnbidpoceknlaa
set_option maxRecDepth 20000
set_option linter.unusedVariables false
set_option linter.unusedSimpArgs false
open Go.ChangeShapes Go.WideShapes Go.ChangeAt Go.RowKit

theorem WBok.far0 {w u : World} {x : WB} {ex : List (Option Nat)} (h : WBok w [] x) (hb : Below w.heap.size w u) (he : ∀ k, some k ∈ ex → w.heap.size ≤ k) : WBok u ex x := h.ext hb fun k hk hm => by have := he k hm; omega
theorem emp_round {p : PW} {v N : Nat} (h : PWok p v N) : (List.range N).map (fun _ => Bs.emp v) = p.round 0 := by
  show _ = (List.range p.n).map fun _ => Bs.emp p.v
  rw [h.n, h.v]
theorem Lst0.below {w0 u u' : World} {v N gv gn gc : Nat} {x : WB} {lv ln : List ZH} {cs : List Bool} (h : Lst0 w0 v N gv gn gc x lv ln cs u) (hb : Below u.heap.size u u') : Lst0 w0 v N gv gn gc x lv ln cs u' :=
  ⟨h.wx.below hb h.wx.lt, h.rv.below hb, h.rn.below hb, h.bc.below hb, h.wk.below hb, below_step h.bel hb, h.nvn, h.hv, h.hn, h.okv, h.okn⟩
theorem Lst0.note {w0 u : World} {v N gv gn gc : Nat} {x : WB} {lv ln : List ZH} {cs : List Bool} (h : Lst0 w0 v N gv gn gc x lv ln cs u) (hx : WBok w0 [] x) (hg : w0.heap.size < gc) (k : Nat) (b : Bool) :
    Lst0 w0 v N gv gn gc x lv ln (cs.set k b) (u.setCell ⟨gc, k, none⟩ (.bool b)) := by
  have hv := h.hv
  have hn := h.hn
  have hb := h.bel.setCell (p := ⟨gc, k, none⟩) (by simp; omega) (.bool b)
  exact ⟨h.wx.far (by simp; omega) _, h.rv.bools h.bc (bc_ne_row h.rv h.bc).symm _ _, h.rn.bools h.bc (bc_ne_row h.rn h.bc).symm _ _, h.bc.put k b, hx.far0 hb (fun i hi => by
    simp only [List.mem_cons, Option.some.injEq, List.not_mem_nil, or_false] at hi
    rcases hi with rfl | rfl <;> omega), hb, h.nvn, hv, hn, h.okv, h.okn⟩
set_option maxHeartbeats 12800000 in
theorem lastRound_any (x : WB) (v N : Nat) (w : World) (hx : WBok w [] x) (ho : WOk x v N) :
    Calls Try.prog 58 #[x.a] w (RetLast w v N x.pw) := by
  have hN := ho.n256
  have hv := ho.v256
  have hp := ho.pw hx
  have Hp := hid hp
  have Hx := hid hx
  have Ho := hid ho
  have hW := ho.w
  have hbn := ho.bn
  have hin := ho.inn
  have Hemp := hid (show emptyR v = ((v : Int), Bs.emp v, 0) by unfold emptyR; rw [if_neg (by omega), Int.toNat_natCast])
  clear hx ho hp
  generalize hP : x.pw = p at *
  have HP := hid hP
  clear hP
  obtain ⟨XW, ⟨BA, bn, bc, bl⟩, ⟨IA, inn, ic, il⟩⟩ := x
  unfold WB.a at *
  simp only at *
  subst XW
  subst bn
  subst inn
  have hmk := run_mksets N (by omega)
  have H0 := hid (show Rss w v N (w.heap.size + 1) (.slice BA N bc) (.slice IA N ic) (List.replicate N z0) ((w.alloc (.cells #[.int .i64 v, .slice BA N bc, .slice IA N ic] 56)).alloc (.cells ((List.replicate N z0).flatMap ZH.cs).toArray 41)) from by
    have hb := (Below.refl w.heap.size w).alloc (Nat.le_refl _) (.cells #[.int .i64 v, .slice BA N bc, .slice IA N ic] 56)
    have hr := VRow.new (w.alloc (.cells #[.int .i64 v, .slice BA N bc, .slice IA N ic] 56)) N
    rw [World.size_alloc] at hr
    exact ⟨(Fb.new w _ _).alloc _, hr, by omega, hb.alloc hb.size _⟩)
  have H0' := hid (show Done v 0 (fun _ => Bs.emp v) (List.replicate N z0) from fun i hi => by omega)
  generalize hl0 : List.replicate N z0 = l0 at *
  clear hl0
  go_enter Try.func58, Try.ntmps58
  go_wp2_with fail
  clear hmk
  generalize (w.alloc (.cells #[.int .i64 v, .slice BA N bc, .slice IA N ic] 56)).alloc (.cells (l0.flatMap ZH.cs).toArray 41) = w1 at *
  generalize hg1 : w.heap.size + 1 = g at *
  have Hg := hid hg1
  clear hg1
  go_loopw [5, 16, 19, 20, 21, 22, 23, 24, 25, 26, 27] (fun _ iv _ _ _ _ _ _ _ _ _ wr => ∃ (k : Nat) (l : List ZH), k ≤ N ∧ iv = .int .i64 k ∧ Hid (Rss w v N g (.slice BA N bc) (.slice IA N ic) l wr) ∧ Hid (Done v k (fun _ => Bs.emp v) l)) (fun _ iv _ _ _ _ _ _ _ _ _ _ => N - (intOf iv).toNat)
  case atStart => exact ⟨0, l0, by omega, rfl, H0, H0'⟩
  case round =>
    clear H0 H0'
    obtain ⟨k, l, hk, rfl, HI, HD⟩ := hrel
    by_cases hlt : k < N
    · obtain ⟨q0, q1, q2⟩ := HI.out.wx.three
      go_wp2_with fail
      refine (devEmpty_any v wr).mono ?_
      rw [Hemp.out]
      rintro e w5 ⟨A, n, c, rfl, ha, hb⟩
      clear q0 q1 q2
      have HI5 := hid (HI.out.below hb)
      have Hfin := hid (HI5.out.put (k := k) hlt (z := ⟨v, A, n, c, Bs.emp v⟩) ha)
      have HD5 := hid (HD.out.put (k := k) (by rw [HI.out.row.len]; exact hlt) (z := ⟨v, A, n, c, Bs.emp v⟩) rfl rfl (Bs.fit_emp v))
      simp only at Hfin
      obtain ⟨y, hy, -⟩ := get_at HI5.out.row.len hlt
      obtain ⟨p0, p1⟩ := HI5.out.row.cells hy
      have f0 := HI5.out.row.fb.frozen (k * 2)
      have f1 := HI5.out.row.fb.frozen (k * 2 + 1)
      have hpl := HI5.out.row.lt
      clear ha hb hy
      go_wp2_with fail
      go_roundw
      case rel => exact ⟨k + 1, l.set k ⟨v, A, n, c, Bs.emp v⟩, by omega, by go_num, Hfin, HD5⟩
      case measure => simp [intOf]; omega
    · obtain rfl : k = N := by omega
      obtain ⟨hok, hvs⟩ := HD.out.all HI.out.row.len
      rw [emp_round Hp.out] at hvs
      have hR := rightSides_any ⟨v, ⟨BA, k, bc, bl⟩, ⟨IA, k, ic, il⟩⟩ ⟨some ⟨g, 0, none⟩, k, k, l⟩ v k [] [] wr (Hx.out.below HI.out.bel) (HI.out.row.zl (by omega)) Ho.out ⟨rfl, hok⟩
      rw [HP.out, show ZL.vs ⟨some ⟨g, 0, none⟩, k, k, l⟩ = p.round 0 from hvs] at hR
      have HR := hid hR
      have Hok := hid hok
      have Hvs := hid hvs
      have hmk := run_mkbools k (by omega)
      clear hR hok hvs
      unfold WB.a at HR
      simp only at HR
      obtain ⟨q0, q1, q2⟩ := HI.out.wx.three
      go_wp2_with fail
      refine HR.out.mono ?_
      rintro e w2 ⟨g2, l2, rfl, hg2, hrow2, hok2, hvs2, hb2⟩
      have HI2 := hid (HI.out.below hb2)
      have Hrow2 := hid hrow2
      have Hok2 := hid hok2
      have Hvs2 := hid (show l2.map ZH.ws = p.round 1 from hvs2)
      have hgl := HI.out.row.lt
      clear q0 q1 q2 hrow2 hok2 hvs2 hb2
      obtain ⟨q0, q1, q2⟩ := HI2.out.wx.three
      have HL := hid (show Lst0 w v k g g2 w2.heap.size ⟨v, ⟨BA, k, bc, bl⟩, ⟨IA, k, ic, il⟩⟩ l l2 (List.replicate k false) (w2.alloc (.cells ((List.replicate k false).map Value.bool).toArray 4)) from by
        have hb := (Below.refl w2.heap.size w2).alloc (Nat.le_refl _) (.cells ((List.replicate k false).map Value.bool).toArray 4)
        have hgb := HI.out.gb
        have hbl := HI.out.bel.size
        have hbb := below_step HI2.out.bel hb
        exact ⟨HI2.out.wx.below hb HI2.out.wx.lt, HI2.out.row.below hb, Hrow2.out.below hb, BRow.new w2 k, Hx.out.far0 hbb (fun i hi => by
          simp only [List.mem_cons, Option.some.injEq, List.not_mem_nil, or_false] at hi
          rcases hi with rfl | rfl
          · omega
          · omega), hbb, by omega, hgb, by omega, Hok.out, Hok2.out⟩)
      have HE0 := hid (show ∀ i, i < 0 → (List.replicate k false)[i]? = some (!decide (at0 (p.round 1) i = at0 (p.round 0) i)) from fun i hi => by omega)
      generalize hcs : List.replicate k false = cs0 at *
      clear hcs
      go_wp2_with fail
      clear hmk q0 q1 q2 HR HI HI2 HD
      generalize w2.alloc (.cells (cs0.map Value.bool).toArray 4) = w3 at *
      have Hg3 := hid (show w.heap.size < w2.heap.size from by have := HL.out.hv; have := hgl; have := Hrow2.out.lt; have := HL.out.hn; omega)
      generalize hg3 : w2.heap.size = g3 at *
      clear hg3 hg2 hgl
      go_loopw [8, 38] (fun _ iv wr => ∃ (i : Nat) (cs : List Bool), i ≤ k ∧ iv = .int .i64 i ∧ Hid (Lst0 w v k g g2 g3 ⟨v, ⟨BA, k, bc, bl⟩, ⟨IA, k, ic, il⟩⟩ l l2 cs wr) ∧ Hid (∀ j, j < i → cs[j]? = some (!decide (at0 (p.round 1) j = at0 (p.round 0) j)))) (fun _ iv _ => k - (intOf iv).toNat)
      case atStart => exact ⟨0, cs0, by omega, rfl, HL, HE0⟩
      case round =>
        clear HL HE0
        obtain ⟨i, cs, hi, rfl, HI, HE⟩ := hrel
        by_cases hlt : i < k
        · have HId := hid (HI.out.below (Below.refl _ _).drew)
          obtain ⟨z, hz, hzm⟩ := get_at HId.out.rv.len hlt
          obtain ⟨y, hy, hym⟩ := get_at HId.out.rn.len hlt
          obtain ⟨p0, p1⟩ := HId.out.rv.cells hz
          obtain ⟨r0, r1⟩ := HId.out.rn.cells hy
          obtain ⟨hzW, hzf⟩ := Hok.out z hzm
          obtain ⟨hyW, hyf⟩ := Hok2.out y hym
          have hzA := HId.out.rv.all z hzm
          have hyA := HId.out.rn.all y hym
          have hvl := HId.out.rv.lt
          have hnl := HId.out.rn.lt
          have hz0 : at0 (p.round 0) i = z.ws := by rw [← Hvs.out]; exact at0_get (by rw [List.getElem?_map, hz]; rfl)
          have hy0 : at0 (p.round 1) i = y.ws := by rw [← Hvs2.out]; exact at0_get (by rw [List.getElem?_map, hy]; rfl)
          have hzn : z.n ≤ maxLen := by
            have h1 := hzA.len
            have h2 := hzf.len
            rw [← h1, h2]
            unfold Bs.nw maxLen
            omega
          have hEq : equalB v z.ws v y.ws = decide (at0 (p.round 1) i = at0 (p.round 0) i) := by
            unfold equalB sameB
            rw [Bs.valid_of_fit hzf hv, Bs.valid_of_fit hyf hv, hz0, hy0]
            simp only [decide_true, Bool.true_and]
            exact decide_eq_decide.2 ⟨fun h => h.symm, fun h => h.symm⟩
          have HC := hid (devEqual_any v v z.A y.A z.n z.c y.n y.c z.ws y.ws wr.drew hzA hyA hzn)
          rw [hEq] at HC
          obtain ⟨b0, hb0, -⟩ := get_at HId.out.bc.len hlt
          have hbk := HId.out.bc.cell hb0
          have n0 : (0 : Int) ≤ i := by omega
          have n1 : (i : Int) < k := by omega
          have n2 : (i : Int).toNat = i := by omega
          have HE2 := hid (show ∀ j, j < i + 1 → (cs.set i (!decide (at0 (p.round 1) i = at0 (p.round 0) i)))[j]? = some (!decide (at0 (p.round 1) j = at0 (p.round 0) j)) from fun j hj => by
            by_cases e : j = i
            · subst e
              rw [List.getElem?_set_self (by rw [HId.out.bc.len]; exact hlt)]
            · rw [List.getElem?_set_ne (by omega)]
              exact HE.out j (by omega))
          generalize hbb : decide (at0 (p.round 1) i = at0 (p.round 0) i) = bb at *
          obtain ⟨ZW, ZA, zn, zc, zs⟩ := z
          obtain ⟨YW, YA, yn, yc, ys⟩ := y
          simp only at *
          subst hzW
          subst hyW
          clear hzm hzA hzf hym hyA hyf hzn hEq hb0 hbb HE hz0 hy0 hz hy HI
          go_wp2_with fail
          go_region_with (first
            | (go_at_call 33
               go_must (
               refine HC.out.mono ?_
               rintro e w6 ⟨rfl, hb6⟩
               have HI6 := hid (HId.out.below hb6)
               have Hfin := hid (HI6.out.note Hx.out Hg3.out i (!bb))
               have hb60 := hb6.cell (p := ⟨g3, i, none⟩) HId.out.bc.fb.lt
               have hbk6 := hb60.trans hbk
               have f60 := HI6.out.bc.fb.frozen i
               have hl6 := HI6.out.bc.fb.lt
               clear hb60 hb6)))
          all_goals
            go_wp2_with fail
            go_roundw
            case rel => exact ⟨i + 1, cs.set i (!bb), by omega, by go_num, Hfin, HE2⟩
            case measure => simp [intOf]; omega
        · obtain rfl : i = k := by omega
          have hcs : cs = difB i (p.round 1) (p.round 0) := by
            apply List.ext_getElem?
            intro j
            by_cases hj : j < i
            · rw [HE.out j hj, difB_get hj]
            · rw [List.getElem?_eq_none (by rw [HI.out.bc.len]; omega), List.getElem?_eq_none (by unfold difB; simp; omega)]
          subst hcs
          have Hlr := hid (fun (K : Nat) => advs_eq Hp.out.ok Hp.out.inn Hp.out.n K)
          have Hpv := hid (fun (K : Nat) => PW.round_vals Hp.out.ok K)
          have HI' := hid (show Lst0 w v i g g2 g3 ⟨v, ⟨BA, i, bc, bl⟩, ⟨IA, i, ic, il⟩⟩ l l2 (difB i (p.round (0 + 1)) (p.round 0)) wr from HI.out)
          have HV0 := hid (show l.map ZH.ws = p.round 0 ∧ l2.map ZH.ws = p.round (0 + 1) from ⟨Hvs.out, Hvs2.out⟩)
          have HB0 := hid (show ∀ j, j < 0 → p.round (j + 1) ≠ p.round j from fun j hj => by omega)
          have Hbd := hid (fun (K : Nat) (hb : ∀ j, j < K → p.round (j + 1) ≠ p.round j) => show K ≤ i * v from by
            have h1 := PW.left_round Hp.out.ok Hp.out.inn hb
            rw [Hp.out.n, Hp.out.v] at h1
            omega)
          have hiv : i * v ≤ 65536 := Nat.mul_le_mul hN hv
          clear HE Hok Hok2 Hemp
          go_wp2_with fail
          go_loopw [4, 6, 7, 9] (fun a b c nv wr => ∃ (K gv gn gc : Nat) (lv ln : List ZH), a = .slice (some ⟨gv, 0, none⟩) i i ∧ b = .slice (some ⟨gn, 0, none⟩) i i ∧ c = .slice (some ⟨gc, 0, none⟩) i i ∧ nv = .int .i64 K ∧ Hid (Lst0 w v i gv gn gc ⟨v, ⟨BA, i, bc, bl⟩, ⟨IA, i, ic, il⟩⟩ lv ln (difB i (p.round (K + 1)) (p.round K)) wr) ∧ Hid (lv.map ZH.ws = p.round K ∧ ln.map ZH.ws = p.round (K + 1)) ∧ Hid (∀ j, j < K → p.round (j + 1) ≠ p.round j)) (fun _ _ _ nv _ => i * v + 1 - (intOf nv).toNat)
          case atStart => exact ⟨0, g, g2, g3, l, l2, rfl, rfl, rfl, rfl, HI', HV0, HB0⟩
          case round =>
            clear HI HI' HV0 HB0 Hvs Hvs2
            obtain ⟨K, gv, gn, gc, lv, ln, rfl, rfl, rfl, rfl, HI, HV, HB⟩ := hrel
            have hKb := Hbd.out K HB.out
            have HCt := hid (containsB_any gc i _ wr HI.out.bc (by omega))
            cases hc : (difB i (p.round (K + 1)) (p.round K)).any id with
            | true =>
              rw [hc] at HCt
              have hne := (difB_any Hp.out.n (Hpv.out (K + 1)) (Hpv.out K)).1 hc
              have HB2 := hid (show ∀ j, j < K + 1 → p.round (j + 1) ≠ p.round j from fun j hj => by
                by_cases e : j = K
                · subst e; exact hne
                · exact HB.out j (by omega))
              have hKb2 := Hbd.out (K + 1) HB2.out
              have hA := advance_any ⟨v, ⟨BA, i, bc, bl⟩, ⟨IA, i, ic, il⟩⟩ ln lv (difB i (p.round (K + 1)) (p.round K)) v i gn gv gc wr (HI.out.wk.go (Go2.less wr (by intro k hk; simp only [List.mem_cons, List.not_mem_nil, or_false] at hk ⊢; exact .inr hk))) Ho.out HI.out.rn HI.out.okn HI.out.rv HI.out.bc HI.out.nvn.symm (bc_ne_row HI.out.rv HI.out.bc)
              rw [HP.out, HV.out.2] at hA
              have HA := hid hA
              unfold WB.a at HA
              simp only at HA
              obtain ⟨q0, q1, q2⟩ := HI.out.wx.three
              clear hc hne hA
              go_wp2_with fail
              refine HCt.out.mono ?_
              rintro e w7 ⟨rfl, rfl⟩
              go_wp2_with fail
              refine HA.out.mono ?_
              rintro e w8 ⟨gd, l9, ds9, rfl, hgd, h1, h2, h3, ⟨h4, h5⟩, h6, h7⟩
              have h5' := h5.trans (Hlr.out K)
              have hf : ∀ m, m < i → p.adv (p.round (K + 1)) (fun m => (difB i (p.round (K + 1)) (p.round K)).getD m false) m = at0 (p.round (K + 2)) m := fun m hm => by rw [← Hlr.out K, at0_map hm]
              have h6' : ds9 = difB i (p.round (K + 1 + 1)) (p.round (K + 1)) := by
                rw [h6, HV.out.2]
                show _ = (List.range i).map fun k => !decide (at0 (p.round (K + 2)) k = at0 (p.round (K + 1)) k)
                apply List.map_congr_left
                intro m hm
                rw [hf m (List.mem_range.1 hm)]
              clear hf
              subst h6'
              have HI8 := hid (HI.out.turn h7 h1 h2 h3 h4)
              have HV8 := hid (show ln.map ZH.ws = p.round (K + 1) ∧ l9.map ZH.ws = p.round (K + 1 + 1) from ⟨HV.out.2, h5'⟩)
              clear h1 h2 h3 h4 h5 h5' h6 h7 q0 q1 q2
              go_wp2_with fail
              go_roundw
              case rel => exact ⟨K + 1, gn, gv, gd, ln, l9, rfl, rfl, rfl, by go_num, HI8, HV8, HB2⟩
              case measure => simp [intOf]; omega
            | false =>
              rw [hc] at HCt
              have heq : p.round (K + 1) = p.round K := Classical.byContradiction fun hne => by
                have := (difB_any Hp.out.n (Hpv.out (K + 1)) (Hpv.out K)).2 hne
                rw [hc] at this
                cases this
              have Hr := hid (show RetLast w v i p (.returned (.tuple #[.slice (some ⟨gv, 0, none⟩) i i, .int .i64 K])) wr from ⟨K, gv, lv, ⟨heq, HB.out⟩, rfl, by have := HI.out.hv; omega, HI.out.rv, HI.out.okv, HV.out.1, HI.out.bel⟩)
              clear hc heq
              go_wp2_with fail
              refine HCt.out.mono ?_
              rintro e w7 ⟨rfl, rfl⟩
              go_wp2_with fail
              exact bodyPost_ret (v := .tuple #[.slice (some ⟨gv, 0, none⟩) i i, .int .i64 K]) (by simp [results, Try.results58, go_sem]) rfl Hr.out
end Go.Proofs.Ytmnbidpoceknlaa

namespace Go.Proofs.Ytmnbidpoceknlaa
set_option maxRecDepth 20000
set_option linter.unusedVariables false
set_option linter.unusedSimpArgs false
open Go.ChangeShapes Go.WideShapes Go.ChangeAt Go.RowKit

/-- The web of a system passes linked. -/
theorem WLk.of {x : WB} {s : SY} {v N : Nat} (ho : WOk x v N) (hs : SOk s v N) (hp : x.pw = s.pw) : WLk x N := by
  have e1 : x.I.l.map AL.pa = s.D.l.map fun r => r.l.map s.arc := congrArg PW.arcs hp
  have a1 : (x.I.l.map AL.pa).map (fun l => l.map fun p => (p.1 : Int)) = x.I.l.map fun r => r.l.map AH.m := by
    rw [List.map_map]
    apply List.map_congr_left
    intro r hr
    show (r.l.map AH.pa).map _ = _
    rw [List.map_map]
    apply List.map_congr_left
    intro a ha
    show ((a.m.toNat : Nat) : Int) = a.m
    have := ((ho.arcs r hr).2 a ha).1
    omega
  have a2 : (s.D.l.map fun r => r.l.map s.arc).map (fun l => l.map fun p => (p.1 : Int)) = s.D.v := by
    rw [List.map_map]
    unfold LH.v
    apply List.map_congr_left
    intro r hr
    show (r.l.map s.arc).map _ = _
    rw [List.map_map]
    have : r.l.map ((fun p : Nat × Pf => (p.1 : Int)) ∘ s.arc) = r.l.map id := by
      apply List.map_congr_left
      intro a ha
      show ((a.toNat : Nat) : Int) = a
      have := (hs.d r hr).2 a ha
      omega
    rw [this, List.map_id]
  have e : (x.I.l.map fun r => r.l.map AH.m) = s.D.v := by rw [← a1, e1, a2]
  refine ⟨hs.n1, fun r hr => ?_, by rw [e]; exact hs.tt⟩
  have hm : r.l.map AH.m ∈ s.D.v := by rw [← e]; exact List.mem_map.2 ⟨r, hr, rfl⟩
  obtain ⟨y, hy, h⟩ := List.mem_map.1 hm
  rw [← h]
  exact hs.d y hy
/-- The least solution came back. -/
def RetSol (w : World) (v N : Nat) (p : PW) (e : Ending) (w' : World) : Prop :=
  ∃ (K g : Nat) (l : List ZH), p.Last K ∧ e = .returned (.tuple #[.slice (some ⟨g, 0, none⟩) N N, .int .i64 K, .int .i64 0]) ∧ w.heap.size ≤ g ∧ VRow w' g N l ∧ (∀ z ∈ l, z.W = v ∧ Bs.Fit v z.ws) ∧ l.map ZH.ws = p.round K ∧ Below w.heap.size w w'
def RetSolW (w : World) (v N : Nat) (p : PW) (e : Ending) (w' : World) : Prop :=
  ∃ (K g : Nat) (l : List ZH), p.Last K ∧ e = .returned (.tuple #[.slice (some ⟨g, 0, none⟩) N N, .int .i64 0]) ∧ w.heap.size ≤ g ∧ VRow w' g N l ∧ (∀ z ∈ l, z.W = v ∧ Bs.Fit v z.ws) ∧ l.map ZH.ws = p.round K ∧ Below w.heap.size w w'
theorem webC (s : SY) (v N : Nat) (ex : List (Option Nat)) (w : World) (h : SYok w ex s) (ho : SOk s v N) :
    Calls Try.prog 30 #[.agg #[.int .i64 s.W, .slice s.D.A s.D.n s.D.c, .slice s.T.A s.T.n s.T.c, .slice s.B.A s.B.n s.B.c]] w fun e w' => ∃ (BA : Option Addr) (bc : Nat) (bl : List ZH) (IA : Option Addr) (ic : Nat) (il : List AL), e = .returned (.tuple #[.agg #[.int .i64 v, .slice BA N bc, .slice IA N ic], .int .i64 0]) ∧ WBok w' [] ⟨v, ⟨BA, N, bc, bl⟩, ⟨IA, N, ic, il⟩⟩ ∧ WOk ⟨v, ⟨BA, N, bc, bl⟩, ⟨IA, N, ic, il⟩⟩ v N ∧ (⟨v, ⟨BA, N, bc, bl⟩, ⟨IA, N, ic, il⟩⟩ : WB).pw = s.pw ∧ Below w.heap.size w w' := by
  refine (web_any [] s v N ex w h ho (by simp)).mono ?_
  rintro e w' ⟨⟨XW, ⟨BA, bn, bc, bl⟩, ⟨IA, inn, ic, il⟩⟩, rfl, hx, hox, hpw, hb⟩
  have h1 := hox.w
  have h2 := hox.bn
  have h3 := hox.inn
  simp only at h1 h2 h3
  subst h1
  subst h2
  subst h3
  exact ⟨BA, bc, bl, IA, ic, il, rfl, hx, hox, hpw, hb⟩
set_option maxHeartbeats 3200000 in
theorem solve_any (s : SY) (v N : Nat) (ex : List (Option Nat)) (w : World) (h : SYok w ex s) (ho : SOk s v N) :
    Calls Try.prog 23 #[s.a] w (RetSol w v N s.pw) := by
  have Hb0 := hid ((Below.refl w.heap.size w).alloc (Nat.le_refl _) (.cells s.box 27))
  have HC := hid (fun (u : World) (hu : Below w.heap.size w u) => webC s v N ex u (h.below hu) ho)
  have Hbx := hid (Fb.new w s.box 27)
  clear h ho
  generalize s.pw = p at *
  unfold SY.a at *
  unfold SY.box at *
  go_enter Try.func23, Try.ntmps23
  go_wp2_with fail
  refine (HC.out _ Hb0.out).mono ?_
  rintro e w2 ⟨BA, bc, bl, IA, ic, il, rfl, hx, hox, hpw, hb2⟩
  have hba := (Below.refl w2.heap.size w2).alloc (Nat.le_refl _) (.cells #[.int .i64 v, .slice BA N bc, .slice IA N ic] 56)
  have HR := hid (lastRound_any ⟨v, ⟨BA, N, bc, bl⟩, ⟨IA, N, ic, il⟩⟩ v N _ (hx.below hba) hox)
  have Hb2 := hid (below_step (below_step Hb0.out hb2) hba)
  rw [hpw] at HR
  unfold WB.a at HR
  simp only at HR
  clear hx hox hpw hb2 hba Hb0 HC Hbx
  go_wp2_with fail
  refine HR.out.mono ?_
  rintro e w3 ⟨K, g, l, hK, rfl, hg, hrow, hok, hvs, hb3⟩
  have Hr := hid (show RetSol w v N p (.returned (.tuple #[.slice (some ⟨g, 0, none⟩) N N, .int .i64 K, .int .i64 0])) w3 from ⟨K, g, l, hK, rfl, by have := Hb2.out.size; omega, hrow, hok, hvs, below_step Hb2.out hb3⟩)
  clear hK hg hrow hok hvs hb3 HR
  go_wp2_with fail
  exact bodyPost_ret (v := .tuple #[.slice (some ⟨g, 0, none⟩) N N, .int .i64 K, .int .i64 0]) (by simp [results, Try.results23, go_sem]) rfl Hr.out
set_option maxHeartbeats 3200000 in
theorem solveWeb_any (x : WB) (v N : Nat) (ex : List (Option Nat)) (w : World) (h : WBok w ex x) (ho : WOk x v N) (hk : WLk x N) :
    Calls Try.prog 31 #[x.a] w (RetSolW w v N x.pw) := by
  have h := h.go (Go2.less w (ex' := []) (by simp))
  have hW := ho.w
  have hbn := ho.bn
  have hin := ho.inn
  have HV := hid (fun (u : World) (hu : Below w.heap.size w u) => validWeb_any x v N [] u (h.below hu) ho hk)
  have HR := hid (fun (u : World) (hu : Below w.heap.size w u) => lastRound_any x v N u (h.below hu) ho)
  clear h ho hk
  generalize x.pw = p at *
  obtain ⟨XW, ⟨BA, bn, bc, bl⟩, ⟨IA, inn, ic, il⟩⟩ := x
  simp only at hW hbn hin
  subst hW
  have hbn := hbn.symm
  subst hbn
  have hin := hin.symm
  subst hin
  unfold WB.a at *
  simp only at *
  have Hb0 := hid ((Below.refl w.heap.size w).alloc (Nat.le_refl _) (.cells #[.int .i64 v, .slice BA N bc, .slice IA N ic] 56))
  have Hbx := hid (Fb.new w #[.int .i64 v, .slice BA N bc, .slice IA N ic] 56)
  go_enter Try.func31, Try.ntmps31
  go_wp2_with fail
  refine (HV.out _ Hb0.out).mono ?_
  rintro e w2 ⟨rfl, hb2⟩
  have Hb2 := hid (below_step Hb0.out hb2)
  have Hbx2 := hid (Hbx.out.below hb2 Hbx.out.lt)
  clear hb2 Hb0 Hbx HV
  obtain ⟨c0, c1, c2⟩ := Hbx2.out.three
  go_wp2_with fail
  refine (HR.out _ Hb2.out).mono ?_
  rintro e w3 ⟨K, g, l, hK, rfl, hg, hrow, hok, hvs, hb3⟩
  have Hr := hid (show RetSolW w v N p (.returned (.tuple #[.slice (some ⟨g, 0, none⟩) N N, .int .i64 0])) w3 from ⟨K, g, l, hK, rfl, by have := Hb2.out.size; omega, hrow, hok, hvs, below_step Hb2.out hb3⟩)
  clear hK hg hrow hok hvs hb3 HR c0 c1 c2
  go_wp2_with fail
  exact bodyPost_ret (v := .tuple #[.slice (some ⟨g, 0, none⟩) N N, .int .i64 0]) (by simp [results, Try.results31, go_sem]) rfl Hr.out
end Go.Proofs.Ytmnbidpoceknlaa

namespace Go.Proofs.Ytmnbidpoceknlaa
set_option maxRecDepth 20000
open Go.ChangeShapes Go.WideShapes Go.ChangeAt Go.RowKit

def RetOwn (w : World) (n : Nat) (r : Int × List Nat × Int) (e : Ending) (w' : World) : Prop :=
  ∃ g : Nat, e = .returned (.tuple #[.agg #[.int .i64 r.1, .slice (some ⟨g, 0, none⟩) n n], .int .i64 r.2.2]) ∧ Row w' g r.2.1 ∧ w.heap.size ≤ g ∧ Below w.heap.size w w'
theorem combUnion_own (W : Nat) (A B : Option Addr) (n c d : Nat) (ws xs : List Nat) (w : World) (hA : Arg w A n ws) (hB : Arg w B n xs) (h : Bs.validB W ws = true) (h2 : Bs.validB W xs = true) :
    Calls Try.prog 62 #[.agg #[.int .i64 W, .slice A n c], .agg #[.int .i64 W, .slice B n d], .func (Fn.func 63) #[] #[]] w (RetOwn w n (W, Bs.ofP W (fun i => flag true true true (Bs.bit ws i) (Bs.bit xs i)) W, 0)) := by
  have hf1 := Bs.fit_of_valid h hA.ok
  have hf2 := Bs.fit_of_valid h2 hB.ok
  rw [Int.toNat_natCast] at hf1 hf2
  have hn : n = Bs.nw W := by rw [← hf1.len]; exact hA.len.symm
  have hW : W ≤ 256 := by have := (Bs.validB_iff.1 h).2.1; omega
  have hn5 : n ≤ 5 := by rw [hn]; unfold Bs.nw; omega
  rw [← part_done unionW_op hf1 hf2 hn]
  have Hfit := hid (part_fit unionW_op hf1 hf2 hn).1
  have HA := hid hA; have HB := hid hB; have H := hid h; have H2 := hid h2; have Hf1 := hid hf1; have Hf2 := hid hf2
  have hne : ((W : Int) != W) = false := by simp
  have hm := run_rows n (by omega)
  clear hA hB h h2 hf1 hf2 hn hW
  obtain ⟨hx1, hx2, hx3⟩ := box3 w W W A B n c n d
  have hx4 := below3 w (.cells #[.int .i64 W, .slice A n c] 41) (.cells #[.int .i64 W, .slice B n d] 41) (.cells #[.int .i64 0, .slice none 0 0] 41)
  have Hx1 := hid hx1; have Hx2 := hid hx2; have Hx3 := hid hx3; have Hx4 := hid hx4
  clear hx1 hx2 hx3 hx4
  go_enter Try.func62, Try.ntmps62
  go_wp2_with fail
  refine (devValid_any W A n c ws _ (((HA.out.alloc _).alloc _).alloc _)).mono ?_
  rw [H.out]
  rintro e w1 ⟨rfl, hbl⟩
  have hq2 := Hx2.out.below hbl (by simp)
  have hq20 := hq2.c0
  have hq21 := hq2.c1
  have Hq1 := hid (Hx1.out.below hbl (by simp only [World.size_alloc]; omega))
  have Hq2 := hid hq2
  have Hq3 := hid (Hx3.out.below hbl (by simp))
  have Hb1 := hid (Hx4.out.trans (hbl.mono (by simp only [World.size_alloc]; omega)))
  have hz1 := hbl.size
  simp only [World.size_alloc] at hz1
  clear hbl hq2
  go_wp2_with fail
  refine (devValid_any W B n d xs _ (HB.out.below Hb1.out)).mono ?_
  rw [H2.out]
  rintro e w2 ⟨rfl, hbl⟩
  have hp := Hq1.out.below hbl (by omega)
  have hp0 := hp.c0
  have hp00 := hp.c1
  have hp' := Hq2.out.below hbl (by omega)
  have hp1 := hp'.c0
  have hinv : Comb w W A B n c d w2.heap.size (part unionW ws xs n 0) (w2.alloc (.cells (words (List.replicate n 0)).toArray 80)) := by
    rw [part_zero]
    have hz2 := hbl.size
    exact ⟨hp.alloc _, hp'.alloc _, (Hq3.out.below hbl (by omega)).alloc _, heap_alloc_new w2 _, by omega, (Hb1.out.trans (hbl.mono (by omega))).alloc (by omega) _⟩
  have Hinv := hid hinv
  have hz2 := hbl.size
  clear hbl hp hp' hinv hq20 hq21
  go_wp2_with fail
  clear hp0 hp00 hp1 hne hm Hq1 Hq2 Hq3 Hx1 Hx2 Hx3 Hx4 Hb1
  generalize w2.heap.size = g at Hinv hz2 ⊢
  go_loopw [9, 31] (fun _ i wr => ∃ k : Nat, k ≤ n ∧ i = .int .i64 k ∧ Hid (Comb w W A B n c d g (part unionW ws xs n k) wr)) (fun _ i _ => n - (intOf i).toNat)
  case atStart => exact ⟨0, by omega, rfl, Hinv⟩
  case round =>
    obtain ⟨k, hk, rfl, hG⟩ := hrel
    by_cases hlt : k < n
    · obtain ⟨ad, rfl, had, hcA⟩ := HA.out.lies.cell (words_get (i := k) (by rw [HA.out.len]; exact hlt))
      obtain ⟨bd, rfl, hbd, hcB⟩ := HB.out.lies.cell (words_get (i := k) (by rw [HB.out.len]; exact hlt))
      obtain ⟨g1, g2, g3, g4, g5, g6⟩ := hG.out
      have hc11 := g1.c1
      have hc21 := g2.c1
      have hcA2 := (g6.cell (p := ad.add k) (by rw [add_block]; exact had)).trans hcA
      have hcB2 := (g6.cell (p := bd.add k) (by rw [add_block]; exact hbd)).trans hcB
      have hx := Bs.wd_lt HA.out.ok k
      have hy := Bs.wd_lt HB.out.ok k
      have hst := hG.out.set k (unionW (Bs.wd ws k) (Bs.wd xs k))
      rw [part_set hlt] at hst
      have hcg := (g4.cell k).trans (words_get (by rw [part_len]; exact hlt))
      have hfg := g4.frozen k
      generalize Bs.wd ws k = x at hcA2 hx hst
      generalize Bs.wd xs k = y at hcB2 hy hst
      generalize Bs.wd (part unionW ws xs n k) k = z at hcg
      have Hst := hid hst; have Hx := hid hx; have Hy := hid hy
      clear g1 g2 g3 g4 g5 g6 hcA hcB had hbd hst hx hy Hinv HA HB H H2 Hf1 Hf2 Hfit hG
      go_wp2_with fail
      refine wp_region_still_tail 15 (by kernel_rfl) (by kernel_rfl) ?_
      simp only [List.take_succ_cons, List.take_zero, List.drop_succ_cons, List.drop_zero]
      repeat still_step
      still_call (union1_any _ _ _ Hx.out Hy.out)
      repeat still_step
      try refine wpStill_nil ?_
      change wpList _ _ _ _ _ wr.drew
      go_wp2
      go_roundw
      case rel => exact ⟨k + 1, by omega, by go_num, hid Hst.out.drew⟩
      case measure => simp [intOf]; omega
    · have hkn : k = n := by omega
      subst hkn
      obtain ⟨g1, g2, g3, g4, g5, g6⟩ := hG.out
      have hc10 := g1.c0
      have hr0 := g3.c0
      have hr1 := g3.c1
      have hf0 := g3.f 0
      have hf1 := g3.f 1
      have Hg4 := hid g4; have Hg6 := hid g6
      clear g1 g2 g3 g4 g6 Hinv hG
      go_wp2_with fail
      refine bodyPost_ret (v := .tuple #[.agg #[.int .i64 W, .slice (some ⟨g, 0, none⟩) k k], .int .i64 0]) (by simp [results, Try.results62, go_sem, hr0, hr1]) rfl ⟨g, rfl, ?_, ?_, ?_⟩
      · exact (Hg4.out.far (p := ⟨w.heap.size + 1 + 1, 0, none⟩) (by simp; omega) (.int .i64 W)).far (p := ⟨w.heap.size + 1 + 1, 1, none⟩) (by simp; omega) (.slice (some ⟨g, 0, none⟩) k k)
      · omega
      · exact (Hg6.out.setCell (by simp; omega) _).setCell (by simp; omega) _


theorem devUnion_own (v : Nat) (A B : Option Addr) (n c m d : Nat) (ws xs : List Nat) (w : World) (hA : Arg w A n ws) (hB : Arg w B m xs) (hv : v ≤ 256) (h1 : Bs.Fit v ws) (h2 : Bs.Fit v xs) :
    Calls Try.prog 27 #[.agg #[.int .i64 v, .slice A n c], .agg #[.int .i64 v, .slice B m d]] w (RetOwn w (Bs.nw v) (v, orR v ws xs, 0)) := by
  have hn := hA.len
  rw [h1.len] at hn
  subst hn
  have hm := hB.len
  rw [h2.len] at hm
  subst hm
  have HA := hid hA; have HB := hid hB
  have hC := hid (fun (u : World) (hu : Below w.heap.size w u) => combUnion_own v A B (Bs.nw v) c d ws xs u (hA.below hu) (hB.below hu) (Bs.valid_of_fit h1 hv) (Bs.valid_of_fit h2 hv))
  have hr : (Bs.ofP v (fun i => flag true true true (Bs.bit ws i) (Bs.bit xs i)) v) = orR v ws xs := by
    unfold orR
    refine Bs.ofP_congr fun i _ => ?_
    unfold flag
    cases Bs.bit ws i <;> cases Bs.bit xs i <;> rfl
  rw [hr] at hC
  clear hA hB h1 h2 hr
  generalize Bs.nw v = n at *
  generalize orR v ws xs = zs at *
  obtain ⟨hx1, hx2, hx3⟩ := box3 w v v A B n c n d
  have hx4 := below3 w (.cells #[.int .i64 v, .slice A n c] 41) (.cells #[.int .i64 v, .slice B n d] 41) (.cells #[.int .i64 0, .slice none 0 0] 41)
  have Hx3 := hid hx3; have Hx4 := hid hx4
  clear hx1 hx2 hx3 hx4
  go_enter Try.func27, Try.ntmps27
  go_wp2_with fail
  refine (hC.out _ Hx4.out).mono ?_
  rintro e w1 ⟨g, rfl, hr, hg, hb⟩
  have hq := Hx3.out.below hb (by simp)
  have hq0 := hq.c0
  have hq1 := hq.c1
  have hf0 := hq.f 0
  have hf1 := hq.f 1
  simp only [World.size_alloc] at hg
  have Hr := hid hr; have Hb := hid hb; have Hq := hid hq
  clear hq hr hb hC
  go_wp2_with fail
  refine bodyPost_ret (v := .tuple #[.agg #[.int .i64 v, .slice (some ⟨g, 0, none⟩) n n], .int .i64 0]) (by simp [results, Try.results27, go_sem, hq0, hq1]) rfl ⟨g, rfl, ?_, ?_, ?_⟩
  · exact (Hr.out.far (by simp; omega) _).far (by simp; omega) _
  · omega
  · exact ((Hx4.out.trans (Hb.out.mono (by simp only [World.size_alloc]; omega))).setCell (by simp; omega) _).setCell (by simp; omega) _
end Go.Proofs.Ytmnbidpoceknlaa

namespace Go.Proofs.Ytmnbidpoceknlaa
set_option maxRecDepth 20000
set_option linter.unusedVariables false
set_option linter.unusedSimpArgs false
open Go.ChangeShapes Go.WideShapes Go.ChangeAt Go.RowKit

section
variable {P : Program} {ops : Array Oper} {Q : Exit → Act → World → Prop}
/-- The last three. -/
theorem tail_three {n m i j k : Nat} {o1 o2 o3 : Oper} {a : Act} {w : World} (hr : Region.ready .any ops (tailArr n m) = [i]) (hr2 : Region.ready .any ops ((tailArr n m).setIfInBounds i true) = [j]) (hr3 : Region.ready .any ops (((tailArr n m).setIfInBounds i true).setIfInBounds j true) = [k]) (hr4 : Region.ready .any ops ((((tailArr n m).setIfInBounds i true).setIfInBounds j true).setIfInBounds k true) = [])
    (ho : ops[i]? = some o1) (ho2 : ops[j]? = some o2) (ho3 : ops[k]? = some o3) {K0 : Act → World → Prop} (hq : ∀ a w, K0 a w → Q .normal a w)
    (hw1 : ∀ a : Act, Region.wanted o1 (yielded ops a.tmps) = true) (hw2 : ∀ a : Act, Region.wanted o2 (yielded ops a.tmps) = true) (hw3 : ∀ a : Act, Region.wanted o3 (yielded ops a.tmps) = true)
    (h : Oper.wp P o1 a w (fun a w => Oper.wp P o2 a w (fun a w => Oper.wp P o3 a w K0 Q) Q) Q) : wpAny P .any ops Q 3 (tailArr n m) a w := by
  refine ⟨fun h0 => (by rw [hr] at h0; cases h0), fun x hx => ?_⟩
  rw [hr] at hx
  obtain rfl : x = i := by simpa using hx
  refine wpOp_mono (fun a w h2 => ?_) (wpOp_of (K := fun a w => Oper.wp P o2 a w (fun a w => Oper.wp P o3 a w K0 Q) Q) ho (by rw [if_pos (hw1 a)]; exact h))
  refine ⟨fun h0 => (by rw [hr2] at h0; cases h0), fun x hx => ?_⟩
  rw [hr2] at hx
  obtain rfl : x = j := by simpa using hx
  refine wpOp_mono (fun a w h3 => ?_) (wpOp_of (K := fun a w => Oper.wp P o3 a w K0 Q) ho2 (by rw [if_pos (hw2 a)]; exact h2))
  refine ⟨fun h0 => (by rw [hr3] at h0; cases h0), fun x hx => ?_⟩
  rw [hr3] at hx
  obtain rfl : x = k := by simpa using hx
  exact wpOp_mono (fun a w hk => ⟨hr4, hq a w hk⟩) (wpOp_of ho3 (by rw [if_pos (hw3 a)]; exact h3))
end
def exJ (T bX cX : Nat) (Bb Bc : Value) : List (Option Nat) := [some T, some bX, some cX, Bb.ownBlock, Bc.ownBlock]
structure Jns (w w0 : World) (T : Nat) (s : SY) (v aX bX cX b0 : Nat) (Bb Bc : Value) (lb lc : List ZH) (u : World) : Prop where
  tp : Tape u T
  bel : Below w.heap.size w u
  hT : w.heap.size ≤ T ∧ T < w0.heap.size
  gr : w0.grownBy u (some T)
  ax : Fb u aX s.box 27
  bx : Fb u bX #[.int .i64 v, .slice s.D.A s.D.n s.D.c, .slice s.T.A s.T.n s.T.c, Bb] 27
  cx : Fb u cX #[.int .i64 v, .slice s.D.A s.D.n s.D.c, .slice s.T.A s.T.n s.T.c, Bc] 27
  lo : w0.heap.size ≤ aX ∧ w0.heap.size ≤ bX ∧ w0.heap.size ≤ cX
  hi : aX < b0 ∧ bX < b0 ∧ cX < b0
  ne : aX ≠ bX ∧ aX ≠ cX ∧ bX ≠ cX
  ob : u.ownsRow b0 41 2 Bb lb.length (lb.flatMap ZH.cs)
  oc : u.ownsRow b0 41 2 Bc lc.length (lc.flatMap ZH.cs)
  nbc : Bb.ownBlock = none ∨ Bb.ownBlock ≠ Bc.ownBlock
  eb : ∀ y ∈ lb, ZHok u (exJ T bX cX Bb Bc) y
  ec : ∀ y ∈ lc, ZHok u (exJ T bX cX Bb Bc) y
  sy : SYok u (exJ T bX cX Bb Bc) s
  gb : ∀ y ∈ lb, y.W = v ∧ Bs.Fit v y.ws
  gc : ∀ y ∈ lc, y.W = v ∧ Bs.Fit v y.ws
section
variable {w w0 w1 u u' : World} {T : Nat} {s : SY} {v aX bX cX b0 : Nat} {Bb Bc : Value} {lb lc : List ZH}
theorem jfar {w : World} {v : Value} {ty k n b : Nat} {xs : List Value} (h : w.ownsRow b ty k v n xs) {j : Nat} (hj : j < b) : v.ownBlock = none ∨ v.ownBlock ≠ some j := by
  cases hv : v.ownBlock with
  | none => exact .inl rfl
  | some g => exact .inr fun e => by have := (h.lt g hv).1; have := Option.some.inj e; omega
theorem Jns.step (h : Jns w w0 T s v aX bX cX b0 Bb Bc lb lc u) (ht : Tape u' T) (hg : u.grownBy u' (some T)) : Jns w w0 T s v aX bX cX b0 Bb Bc lb lc u' := by
  have hT := h.hT; have hlo := h.lo; have hhi := h.hi
  have hG : Go2 u (exJ T bX cX Bb Bc) u' (exJ T bX cX Bb Bc) := Go2.same hg (.inr (by simp [exJ]))
  exact ⟨ht, after_app h.bel hg hT.1, hT, grown_trans h.gr hg, h.ax.grown hg (by simp; omega), h.bx.grown hg (by simp; omega), h.cx.grown hg (by simp; omega), hlo, hhi, h.ne, h.ob.kept hg (jfar h.ob (by omega)), h.oc.kept hg (jfar h.oc (by omega)), h.nbc,
    fun y hy => (h.eb y hy).go hG, fun y hy => (h.ec y hy).go hG, h.sy.go hG, h.gb, h.gc⟩
theorem Jns.below (h : Jns w w0 T s v aX bX cX b0 Bb Bc lb lc u) (hb : Below u.heap.size u u') : Jns w w0 T s v aX bX cX b0 Bb Bc lb lc u' := h.step (h.tp.below hb h.tp.lt) (grown_of_below hb _)
theorem Jns.exlt (h : Jns w w0 T s v aX bX cX b0 Bb Bc lb lc u) : ∀ k, some k ∈ exJ T bX cX Bb Bc → k < u.heap.size := by
  intro k hk
  simp only [exJ, List.mem_cons, Option.some.injEq, List.not_mem_nil, or_false] at hk
  rcases hk with rfl | rfl | rfl | hk | hk
  · exact h.tp.lt
  · exact h.bx.lt
  · exact h.cx.lt
  · exact (h.ob.lt k hk.symm).2
  · exact (h.oc.lt k hk.symm).2
theorem Jns.zset (h : Jns w w0 T s v aX bX cX b0 Bb Bc lb lc u) {y : ZH} (hy : ZHok u (exJ T bX cX Bb Bc) y) (ht : Tape u' T) (hg : u.grownBy u' (some T)) : ZHok u' (exJ T bX cX Bb Bc) y := hy.go (Go2.same hg (.inr (by simp [exJ])))
theorem Jns.ntyp (h : Jns w w0 T s v aX bX cX b0 Bb Bc lb lc u) : ∀ k, some k ∈ exJ T bX cX Bb Bc → ¬ Typ u k 80 := by
  intro k hk
  simp only [exJ, List.mem_cons, Option.some.injEq, List.not_mem_nil, or_false] at hk
  rcases hk with rfl | rfl | rfl | hk | hk
  · exact fun h' => h'.ne h.tp.typ (by decide) rfl
  · exact fun h' => h'.ne h.bx.typ (by decide) rfl
  · exact fun h' => h'.ne h.cx.typ (by decide) rfl
  · exact fun h' => h'.ne (own_typ h.ob hk.symm) (by decide) rfl
  · exact fun h' => h'.ne (own_typ h.oc hk.symm) (by decide) rfl
theorem Jns.set (h : Jns w w0 T s v aX bX cX b0 Bb Bc lb lc u) {g : Nat} {ws : List Nat} (hr : Row u g ws) (hf : Bs.Fit v ws) : ZHok u (exJ T bX cX Bb Bc) ⟨v, some ⟨g, 0, none⟩, Bs.nw v, Bs.nw v, ws⟩ :=
  ⟨EAt.fb hr (fun hm => h.ntyp g hm hr.typ) (fun j x hx => by simpa using hx), by have := hf.len; simpa using this, hf.ok⟩
theorem zcs_len (l : List ZH) : (l.flatMap ZH.cs).length = 2 * l.length := by
  induction l with
  | nil => rfl
  | cons a l ih => rw [List.flatMap_cons, List.length_append, ih, List.length_cons]; show 2 + _ = _; omega
theorem last_cs (l : List ZH) (x : ZH) : (l.flatMap ZH.cs ++ x.cs)[2 * l.length + 1]? = some (.slice x.A x.n x.c) := by
  rw [List.getElem?_append_right (by rw [zcs_len]; omega), zcs_len, show 2 * l.length + 1 - 2 * l.length = 1 by omega]; rfl
theorem rows_one {w : World} {b ty k b' ty' k' g n q n' q' j : Nat} {xs ys : List Value} {p p' : Value} (h : w.ownsRow b ty k (.slice (some ⟨g, 0, none⟩) n q) n xs) (h' : w.ownsRow b' ty' k' (.slice (some ⟨g, 0, none⟩) n' q') n' ys) (hx : xs[j]? = some p) (hy : ys[j]? = some p') : p = p' := by
  have a := EAt.own (ex := []) h (by simp)
  have a' := EAt.own (ex := []) h' (by simp)
  rcases a with rfl | ⟨ad, e, _, hc⟩
  · simp at hx
  rcases a' with rfl | ⟨ad', e', _, hc'⟩
  · simp at hy
  obtain rfl := Option.some.inj e
  obtain rfl := Option.some.inj e'
  exact Option.some.inj ((hc j p hx).symm.trans (hc' j p' hy))
/-- What stands below while the two appends run. -/
structure JnK (w1 : World) (T : Nat) (s : SY) (v aX bX cX : Nat) (Bb Bc : Value) (xb yb : Nat) (x y : ZH) (u : World) : Prop where
  gx : GrX w1 (exJ T bX cX Bb Bc) u
  tp : Tape u T
  ax : Fb u aX s.box 27
  bx : Fb u bX #[.int .i64 v, .slice s.D.A s.D.n s.D.c, .slice s.T.A s.T.n s.T.c, Bb] 27
  cx : Fb u cX #[.int .i64 v, .slice s.D.A s.D.n s.D.c, .slice s.T.A s.T.n s.T.c, Bc] 27
  xx : Fb u xb #[.int .i64 x.W, .slice x.A x.n x.c] 41
  yy : Fb u yb #[.int .i64 y.W, .slice y.A y.n y.c] 41
variable {xb yb : Nat} {x y : ZH}
theorem Jns.k (h : Jns w w0 T s v aX bX cX b0 Bb Bc lb lc w1) (hx : Fb w1 xb #[.int .i64 x.W, .slice x.A x.n x.c] 41) (hy : Fb w1 yb #[.int .i64 y.W, .slice y.A y.n y.c] 41) : JnK w1 T s v aX bX cX Bb Bc xb yb x y w1 := ⟨GrX.refl _ _, h.tp, h.ax, h.bx, h.cx, hx, hy⟩
theorem JnK.below (h : JnK w1 T s v aX bX cX Bb Bc xb yb x y u) (hb : Below u.heap.size u u') : JnK w1 T s v aX bX cX Bb Bc xb yb x y u' :=
  ⟨h.gx.below hb, h.tp.below hb h.tp.lt, h.ax.below hb h.ax.lt, h.bx.below hb h.bx.lt, h.cx.below hb h.cx.lt, h.xx.below hb h.xx.lt, h.yy.below hb h.yy.lt⟩
theorem JnK.app {z : Value} {n : Nat} {xs : List Value} (h : JnK w1 T s v aX bX cX Bb Bc xb yb x y u) (hs : Jns w w0 T s v aX bX cX b0 Bb Bc lb lc w1) (hz : z = Bb ∨ z = Bc) (ho : u.ownsRow b0 41 2 z n xs) (hnx : z.ownBlock ≠ some xb) (hny : z.ownBlock ≠ some yb) (hg : u.grownBy u' z.ownBlock) : JnK w1 T s v aX bX cX Bb Bc xb yb x y u' := by
  have hT := hs.hT; have hlo := hs.lo; have hhi := hs.hi
  have far : ∀ j, j < b0 → some j ≠ z.ownBlock := fun j hj e => by have := (ho.lt j e.symm).1; omega
  refine ⟨h.gx.step hg fun g e => .inl ?_, h.tp.keep fun k hk => hg.block k (by have := h.tp.lt; omega) (far k (by omega)), h.ax.grown hg (far _ hhi.1), h.bx.grown hg (far _ hhi.2.1), h.cx.grown hg (far _ hhi.2.2), h.xx.grown hg (Ne.symm hnx), h.yy.grown hg (Ne.symm hny)⟩
  rcases hz with rfl | rfl <;> simp [exJ]
theorem JnK.push (h : JnK w1 T s v aX bX cX Bb Bc xb yb x y u) (hs : Jns w w0 T s v aX bX cX b0 Bb Bc lb lc w1) {g q g' q' : Nat}
    (o : u.ownsRow b0 41 2 (.slice (some ⟨g, 0, none⟩) (lb.length + 1) q) (lb.length + 1) (lb.flatMap ZH.cs ++ x.cs)) (hn : Bb.ownBlock = some g ∨ w1.heap.size ≤ g)
    (o' : u.ownsRow b0 41 2 (.slice (some ⟨g', 0, none⟩) (lc.length + 1) q') (lc.length + 1) (lc.flatMap ZH.cs ++ y.cs)) (hn' : Bc.ownBlock = some g' ∨ w1.heap.size ≤ g') (hll : lb.length = lc.length) (hxy : x.A ≠ y.A)
    (hx : ZHok w1 (exJ T bX cX Bb Bc) x) (hy : ZHok w1 (exJ T bX cX Bb Bc) y) (hxg : x.W = v ∧ Bs.Fit v x.ws) (hyg : y.W = v ∧ Bs.Fit v y.ws) :
    Jns w w0 T s v aX bX cX b0 (.slice (some ⟨g, 0, none⟩) (lb.length + 1) q) (.slice (some ⟨g', 0, none⟩) (lc.length + 1) q') (lb ++ [x]) (lc ++ [y]) ((u.setCell ⟨bX, 3, none⟩ (.slice (some ⟨g, 0, none⟩) (lb.length + 1) q)).setCell ⟨cX, 3, none⟩ (.slice (some ⟨g', 0, none⟩) (lc.length + 1) q')) := by
  have hT := hs.hT; have hlo := hs.lo; have hhi := hs.hi; have hne := hs.ne
  have hgg : g ≠ g' := fun e => by
    subst e
    have := rows_one o o' (last_cs lb x) (by rw [hll]; exact last_cs lc y)
    injection this with h1
    exact hxy h1
  generalize hv : Value.slice (some ⟨g, 0, none⟩) (lb.length + 1) q = Bb' at *
  generalize hv' : Value.slice (some ⟨g', 0, none⟩) (lc.length + 1) q' = Bc' at *
  have kB : Bb'.ownBlock = some g := by rw [← hv]; rfl
  have kC : Bc'.ownBlock = some g' := by rw [← hv']; rfl
  have hG1 : Go2 w1 (exJ T bX cX Bb Bc) u (exJ T bX cX Bb' Bc') := h.gx.go fun k hk hm => by
    simp only [exJ, List.mem_cons, List.not_mem_nil, or_false, kB, kC, Option.some.injEq] at hm ⊢
    rcases hm with e | e | e | e | e
    · exact .inl e
    · exact .inr (.inl e)
    · exact .inr (.inr (.inl e))
    · subst e; rcases hn with n | n
      · exact .inr (.inr (.inr (.inl n.symm)))
      · omega
    · subst e; rcases hn' with n | n
      · exact .inr (.inr (.inr (.inr n.symm)))
      · omega
  have s1 := setCell_grown u ⟨bX, 3, none⟩ Bb'
  have s2 := setCell_grown (u.setCell ⟨bX, 3, none⟩ Bb') ⟨cX, 3, none⟩ Bc'
  have hG := (hG1.trans (Go2.same (ex := exJ T bX cX Bb' Bc') s1 (.inr (by simp [exJ])))).trans (Go2.same (ex := exJ T bX cX Bb' Bc') s2 (.inr (by simp [exJ])))
  have hgw : w0.grownBy u (some T) := h.gx.grown hs.gr fun k hk => by
    simp only [exJ, List.mem_cons, Option.some.injEq, List.not_mem_nil, or_false] at hk
    rcases hk with rfl | rfl | rfl | hk | hk
    · exact .inl rfl
    · exact .inr hlo.2.1
    · exact .inr hlo.2.2
    · exact .inr (by have := (hs.ob.lt k hk.symm).1; omega)
    · exact .inr (by have := (hs.oc.lt k hk.symm).1; omega)
  have hgr := grown_set_new (grown_set_new hgw (p := ⟨bX, 3, none⟩) hlo.2.1 Bb') (p := ⟨cX, 3, none⟩) hlo.2.2 Bc'
  have hbel : Below w.heap.size w u := by
    refine hs.bel.trans ?_ |> fun h => h
    exact ⟨h.gx.os, h.gx.tape, h.gx.output, h.gx.size, fun k hk => h.gx.block k (by have := hs.bel.size; omega) fun hm => by
      simp only [exJ, List.mem_cons, Option.some.injEq, List.not_mem_nil, or_false] at hm
      rcases hm with e | e | e | e | e
      · omega
      · omega
      · omega
      · have := (hs.ob.lt k e.symm).1; omega
      · have := (hs.oc.lt k e.symm).1; omega⟩
  refine ⟨(h.tp.far (by show T < bX; omega) _).far (by show T < cX; omega) _, (hbel.setCell (by show w.heap.size ≤ bX; omega) _).setCell (by show w.heap.size ≤ cX; omega) _, hT, hgr, (h.ax.far (by show aX ≠ bX; exact hne.1) _).far (by show aX ≠ cX; exact hne.2.1) _,
    (h.bx.set 3 _).far (by show bX ≠ cX; exact hne.2.2) _, (h.cx.far (by show cX ≠ bX; exact hne.2.2.symm) _).set 3 _, hlo, hhi, hne, ?_, ?_, .inr (by rw [kB, kC]; exact fun e => hgg (Option.some.inj e)), ?_, ?_, hs.sy.go hG, ?_, ?_⟩
  · rw [List.length_append, List.flatMap_append]
    have : [x].flatMap ZH.cs = x.cs := by simp
    rw [this]
    exact (o.kept s1 (jfar o hhi.2.1)).kept s2 (jfar o hhi.2.2)
  · rw [List.length_append, List.flatMap_append]
    have : [y].flatMap ZH.cs = y.cs := by simp
    rw [this]
    exact (o'.kept s1 (jfar o' hhi.2.1)).kept s2 (jfar o' hhi.2.2)
  · intro z hz
    rcases List.mem_append.1 hz with hz | hz
    · exact (hs.eb z hz).go hG
    · rw [List.mem_singleton.1 hz]; exact hx.go hG
  · intro z hz
    rcases List.mem_append.1 hz with hz | hz
    · exact (hs.ec z hz).go hG
    · rw [List.mem_singleton.1 hz]; exact hy.go hG
  · intro z hz
    rcases List.mem_append.1 hz with hz | hz
    · exact hs.gb z hz
    · rw [List.mem_singleton.1 hz]; exact hxg
  · intro z hz
    rcases List.mem_append.1 hz with hz | hz
    · exact hs.gc z hz
    · rw [List.mem_singleton.1 hz]; exact hyg
end
/-- What the operations of the two appends leave. -/
def jnF (w1 : World) (bX cX b0 : Nat) (Bb Bc : Value) (lb lc : List ZH) (x y : ZH) : Nat → Value → World → Prop
  | 0, v, _ => v = .pointer (some ⟨bX, 3, none⟩)
  | 1, v, _ => v = Bb
  | 2, v, _ => v = .agg #[.int .i64 x.W, .slice x.A x.n x.c]
  | 3, v, u => ∃ g, v = .slice (some ⟨g, 0, none⟩) 1 1 ∧ Fb u g #[.int .i64 x.W, .slice x.A x.n x.c] 41 ∧ w1.heap.size ≤ g
  | 4, v, u => ∃ g q, v = .slice (some ⟨g, 0, none⟩) (lb.length + 1) q ∧ u.ownsRow b0 41 2 (.slice (some ⟨g, 0, none⟩) (lb.length + 1) q) (lb.length + 1) (lb.flatMap ZH.cs ++ x.cs) ∧ (Bb.ownBlock = some g ∨ w1.heap.size ≤ g) ∧ some g ≠ Bc.ownBlock
  | 5, v, _ => v = .pointer (some ⟨cX, 3, none⟩)
  | 6, v, _ => v = Bc
  | 7, v, _ => v = .agg #[.int .i64 y.W, .slice y.A y.n y.c]
  | 8, v, u => ∃ g, v = .slice (some ⟨g, 0, none⟩) 1 1 ∧ Fb u g #[.int .i64 y.W, .slice y.A y.n y.c] 41 ∧ w1.heap.size ≤ g
  | 9, v, u => ∃ g q, v = .slice (some ⟨g, 0, none⟩) (lc.length + 1) q ∧ u.ownsRow b0 41 2 (.slice (some ⟨g, 0, none⟩) (lc.length + 1) q) (lc.length + 1) (lc.flatMap ZH.cs ++ y.cs) ∧ (Bc.ownBlock = some g ∨ w1.heap.size ≤ g) ∧ some g ≠ Bb.ownBlock
  | 10, v, _ => v = .pointer (some ⟨bX, 3, none⟩)
  | _, _, _ => True
def jnU : Nat → Option Nat
  | 3 => some 4
  | 8 => some 9
  | _ => none
def jnG (b0 : Nat) (Bb Bc : Value) (lb lc : List ZH) : Nat → World → Prop
  | 4, u => u.ownsRow b0 41 2 Bb lb.length (lb.flatMap ZH.cs)
  | 9, u => u.ownsRow b0 41 2 Bc lc.length (lc.flatMap ZH.cs)
  | _, _ => True
def jnR (Bb Bc : Value) (j : Nat) (u u' : World) : Prop := ∃ row, u.grownBy u' row ∧ (row = none ∨ (j = 4 ∧ row = Bb.ownBlock) ∨ (j = 9 ∧ row = Bc.ownBlock))
theorem jnR.below {Bb Bc : Value} {j : Nat} {u u' : World} (h : Below u.heap.size u u') : jnR Bb Bc j u u' := ⟨none, grown_of_below h _, .inl rfl⟩
theorem jnR.refl (Bb Bc : Value) (j : Nat) (u : World) : jnR Bb Bc j u u := jnR.below (Below.refl _ _)
theorem jnG_st {b0 : Nat} {Bb Bc : Value} {lb lc : List ZH} (hne : Bb.ownBlock = none ∨ Bb.ownBlock ≠ Bc.ownBlock) (j : Nat) (u u' : World) (c : Nat) (hR : jnR Bb Bc j u u') (hcj : c ≠ j) (h : jnG b0 Bb Bc lb lc c u) : jnG b0 Bb Bc lb lc c u' := by
  obtain ⟨row, hg, hr⟩ := hR
  unfold jnG at h ⊢
  split
  · refine World.ownsRow.kept h hg ?_
    rcases hr with h | ⟨h, _⟩ | ⟨_, h⟩
    · rw [h]; cases Bb.ownBlock <;> simp
    · exact absurd h.symm hcj
    · rw [h]; exact hne
  · refine World.ownsRow.kept h hg ?_
    rcases hr with h | ⟨_, h⟩ | ⟨h, _⟩
    · rw [h]; cases Bc.ownBlock <;> simp
    · rw [h]
      rcases hne with h1 | h1
      · rw [h1]; cases Bc.ownBlock <;> simp
      · exact .inr (Ne.symm h1)
    · exact absurd h.symm hcj
  · trivial
theorem jnF_st {w1 : World} {bX cX b0 : Nat} {Bb Bc : Value} {lb lc : List ZH} {x y : ZH} (hb : ∀ k, Bb.ownBlock = some k → k < w1.heap.size) (hc : ∀ k, Bc.ownBlock = some k → k < w1.heap.size) (j : Nat) (u u' : World) (i : Nat) (v : Value) (hR : jnR Bb Bc j u u') (hne : i ≠ j) (hu : jnU i ≠ some j) (h : jnF w1 bX cX b0 Bb Bc lb lc x y i v u) : jnF w1 bX cX b0 Bb Bc lb lc x y i v u' := by
  obtain ⟨row, hg, hr⟩ := hR
  have hlit : ∀ {g : Nat} {cs : Array Value} {t : Nat}, Fb u g cs t → w1.heap.size ≤ g → Fb u' g cs t := fun hf hw => hf.grown hg fun e => by
    rcases hr with h | ⟨_, h⟩ | ⟨_, h⟩
    · rw [h] at e; cases e
    · rw [h] at e; have := hb _ e.symm; omega
    · rw [h] at e; have := hc _ e.symm; omega
  match i, hne, hu, h with
  | 0, _, _, h => exact h
  | 1, _, _, h => exact h
  | 2, _, _, h => exact h
  | 3, _, _, h => obtain ⟨g, h1, h2, h3⟩ := h; exact ⟨g, h1, hlit h2 h3, h3⟩
  | 4, hne, _, h =>
    obtain ⟨g, q, h1, h2, h3, h4⟩ := h
    refine ⟨g, q, h1, h2.kept hg (.inr ?_), h3, h4⟩
    rcases hr with h | ⟨h, _⟩ | ⟨_, h⟩
    · rw [h]; simp [Value.ownBlock]
    · exact absurd h.symm hne
    · rw [h]; exact h4
  | 5, _, _, h => exact h
  | 6, _, _, h => exact h
  | 7, _, _, h => exact h
  | 8, _, _, h => obtain ⟨g, h1, h2, h3⟩ := h; exact ⟨g, h1, hlit h2 h3, h3⟩
  | 9, hne, _, h =>
    obtain ⟨g, q, h1, h2, h3, h4⟩ := h
    refine ⟨g, q, h1, h2.kept hg (.inr ?_), h3, h4⟩
    rcases hr with h | ⟨_, h⟩ | ⟨h, _⟩
    · rw [h]; simp [Value.ownBlock]
    · rw [h]; exact h4
    · exact absurd h.symm hne
  | 10, _, _, h => exact h
  | i + 11, _, _, h => trivial
section
variable {w w0 u : World} {T : Nat} {s : SY} {v aX bX cX b0 : Nat} {lb lc : List ZH}
theorem Jns.less {Bb Bc : Value} (h : Jns w w0 T s v aX bX cX b0 Bb Bc lb lc u) : Go2 u (exJ T bX cX Bb Bc) u [some T] := Go2.less u fun k hk => by
  simp only [List.mem_cons, List.not_mem_nil, or_false] at hk
  simp only [exJ, List.mem_cons]
  exact .inl hk
theorem Jns.finb {A : Option Addr} {n c : Nat} {Bc : Value} (h : Jns w w0 T s v aX bX cX b0 (.slice A n c) Bc lb lc u) (hl : lb.length = n) (hn : n ≤ 100) : SYok u [some T] ⟨v, s.D, s.T, ⟨A, n, c, lb⟩⟩ := by
  subst hl
  refine ⟨h.sy.d.go h.less, h.sy.t.go h.less, ⟨EAt.own h.ob (fun g hg hm => ?_), rfl, by show lb.length ≤ _; omega, fun y hy => (h.eb y hy).go h.less⟩⟩
  have := (h.ob.lt g hg).1; have := h.hT; have := h.lo; have := h.hi
  simp only [List.mem_cons, List.not_mem_nil, or_false, Option.some.injEq] at hm
  omega
theorem Jns.finc {A : Option Addr} {n c : Nat} {Bb : Value} (h : Jns w w0 T s v aX bX cX b0 Bb (.slice A n c) lb lc u) (hl : lc.length = n) (hn : n ≤ 100) : SYok u [some T] ⟨v, s.D, s.T, ⟨A, n, c, lc⟩⟩ := by
  subst hl
  refine ⟨h.sy.d.go h.less, h.sy.t.go h.less, ⟨EAt.own h.oc (fun g hg hm => ?_), rfl, by show lc.length ≤ _; omega, fun y hy => (h.ec y hy).go h.less⟩⟩
  have := (h.oc.lt g hg).1; have := h.hT; have := h.lo; have := h.hi
  simp only [List.mem_cons, List.not_mem_nil, or_false, Option.some.injEq] at hm
  omega
theorem jn_ok {N c : Nat} {A : Option Addr} (h : SOk s v N) (hg : ∀ y ∈ lb, y.W = v ∧ Bs.Fit v y.ws) : SOk ⟨v, s.D, s.T, ⟨A, N, c, lb⟩⟩ v N := ⟨rfl, h.v256, h.n1, h.n256, h.dn, h.tn, rfl, h.d, h.tt, h.t, hg⟩
end
/-- The sets of the one row are the unions of the others'. -/
def JOr (v : Nat) (l lb lc : List ZH) : Prop := ∀ (k : Nat) (x y z : ZH), lb[k]? = some x → lc[k]? = some y → l[k]? = some z → y.ws = orR v x.ws z.ws
theorem JOr.nil (v : Nat) (l : List ZH) : JOr v l [] [] := fun k x y z h => by simp at h
theorem JOr.push {v : Nat} {l lb lc : List ZH} (h : JOr v l lb lc) (hl : lb.length = lc.length) {x y z : ZH} (hz : l[lb.length]? = some z) (hy : y.ws = orR v x.ws z.ws) : JOr v l (lb ++ [x]) (lc ++ [y]) := by
  intro k x' y' z' h1 h2 h3
  by_cases hk : k < lb.length
  · rw [List.getElem?_append_left hk] at h1
    rw [List.getElem?_append_left (by omega)] at h2
    exact h k x' y' z' h1 h2 h3
  · by_cases hk2 : k = lb.length
    · subst hk2
      rw [List.getElem?_append_right (Nat.le_refl _), Nat.sub_self] at h1
      rw [List.getElem?_append_right (by omega), show lb.length - lc.length = 0 by omega] at h2
      rw [hz] at h3
      obtain rfl := Option.some.inj h1
      obtain rfl := Option.some.inj h2
      obtain rfl := Option.some.inj h3
      exact hy
    · rw [List.getElem?_eq_none (by simp; omega)] at h1
      cases h1
theorem orR_comm (v : Nat) (a b : List Nat) : orR v a b = orR v b a := by unfold orR; exact Bs.ofP_congr fun i _ => by rw [Bool.or_comm]
theorem jn_law {s : SY} {v N c c' : Nat} {A A' : Option Addr} {w : World} {ex : List (Option Nat)} (hs : SYok w ex s) (ho : SOk s v N) {lb lc : List ZH} (hb : lb.length = N) (hc : lc.length = N) (hor : JOr v s.B.l lb lc) {K1 K2 K3 : Nat}
    (l1 : s.pw.Last K1) (l2 : (⟨v, s.D, s.T, ⟨A, N, c, lb⟩⟩ : SY).pw.Last K2) (l3 : (⟨v, s.D, s.T, ⟨A', N, c', lc⟩⟩ : SY).pw.Last K3) {k : Nat} (hk : k < N) :
    at0 ((⟨v, s.D, s.T, ⟨A', N, c', lc⟩⟩ : SY).pw.round K3) k = orR v (at0 (s.pw.round K1) k) (at0 ((⟨v, s.D, s.T, ⟨A, N, c, lb⟩⟩ : SY).pw.round K2) k) := by
  have hv : s.pw.v = v := by show s.W.toNat = v; rw [ho.w]; simp
  have hn : s.pw.n = N := by show (s.D.l.map _).length = N; rw [List.length_map, hs.d.len, ho.dn]
  have := PW.last_or (w1 := s.pw) (w2 := (⟨v, s.D, s.T, ⟨A, N, c, lb⟩⟩ : SY).pw) (w3 := (⟨v, s.D, s.T, ⟨A', N, c', lc⟩⟩ : SY).pw) (fun l hl a ha => by
    obtain ⟨r, hr, rfl⟩ := List.mem_map.1 hl
    obtain ⟨m, hm, rfl⟩ := List.mem_map.1 ha
    rw [hn]
    have := (ho.d r hr).2 m hm
    have := (hs.d.len.trans ho.dn)
    show m.toNat < N
    omega) rfl rfl (by rw [hv]; simp [SY.pw]) (by rw [hv]; simp [SY.pw]) (fun k hk => by
      rw [hn] at hk
      rw [hv]
      obtain ⟨x, hx, -⟩ := get_at hb hk
      obtain ⟨y, hy, -⟩ := get_at hc hk
      obtain ⟨z, hz, -⟩ := get_at (show s.B.l.length = N from hs.b.len.trans ho.bn) hk
      rw [show at0 (⟨v, s.D, s.T, ⟨A', N, c', lc⟩⟩ : SY).pw.bd k = y.ws from at0_get (by show (lc.map ZH.ws)[k]? = _; rw [List.getElem?_map, hy]; rfl),
        show at0 (⟨v, s.D, s.T, ⟨A, N, c, lb⟩⟩ : SY).pw.bd k = x.ws from at0_get (by show (lb.map ZH.ws)[k]? = _; rw [List.getElem?_map, hx]; rfl),
        show at0 s.pw.bd k = z.ws from at0_get (by show (s.B.l.map ZH.ws)[k]? = _; rw [List.getElem?_map, hz]; rfl),
        hor k x y z hx hy hz, orR_comm]) l1 l2 l3
  rw [this, hn, hv, orV, at0_map hk]
end Go.Proofs.Ytmnbidpoceknlaa

namespace Go.Proofs.Ytmnbidpoceknlaa
set_option maxRecDepth 20000
set_option linter.unusedVariables false
set_option linter.unusedSimpArgs false
open Go.ChangeShapes Go.WideShapes Go.ChangeAt Go.RowKit

/-- The identity came back, its words in rows of the call's own. -/
def RetIde (w : World) (W : Nat) (e : Ending) (w' : World) : Prop :=
  ∃ (g1 g2 : Nat), e = .returned (.agg #[.int .i64 W, .slice (some ⟨g1, 0, none⟩) (Bs.nw W) (Bs.nw W), .int .i64 W, .slice (some ⟨g2, 0, none⟩) (Bs.nw W) (Bs.nw W), .slice none 0 0]) ∧ (w.heap.size ≤ g1 ∧ Row w' g1 (Bs.emp W)) ∧ (w.heap.size ≤ g2 ∧ Row w' g2 (Bs.emp W)) ∧ Below w.heap.size w w'
theorem refIdentity_any (W : Nat) (w : World) (hW : W ≤ 256) : Calls Try.prog 78 #[.int .i64 W] w (RetIde w W) := by
  have HR := hid (Fb.new w #[.int .i64 0, .slice none 0 0, .int .i64 0, .slice none 0 0, .slice none 0 0] 70)
  have HB := hid ((Below.refl w.heap.size w).alloc (Nat.le_refl _) (.cells #[.int .i64 0, .slice none 0 0, .int .i64 0, .slice none 0 0, .slice none 0 0] 70))
  go_enter Try.func78, Try.ntmps78
  go_wp2_with fail
  refine (refEmpty_any W _ (by omega)).mono ?_
  rintro e w1 ⟨g1, rfl, hg1, hr1, hb1⟩
  rw [len_emp]
  have HR1 := hid (HR.out.below hb1 HR.out.lt)
  have HB1 := hid (below_step HB.out hb1)
  have Hr1 := hid hr1
  have Hg1 := hid (show w.heap.size + 1 ≤ g1 by rw [World.size_alloc] at hg1; exact hg1)
  clear hg1 hr1 hb1 HR HB
  go_wp2_with fail
  refine (refEmpty_any W _ (by omega)).mono ?_
  rintro e w2 ⟨g2, rfl, hg2, hr2, hb2⟩
  rw [len_emp]
  have HR2 := hid (HR1.out.below hb2 HR1.out.lt)
  have HB2 := hid (below_step HB1.out hb2)
  have Hr12 := hid (Hr1.out.below hb2 Hr1.out.lt)
  have Hr2 := hid hr2
  have Hg2 := hid (show w.heap.size + 1 ≤ g2 by have := HR1.out.lt; omega)
  clear hg2 hr2 hb2 HR1 HB1 Hr1
  obtain ⟨r0, r1, r2, r3, r4⟩ := HR2.out.five
  have f0 := HR2.out.frozen 0
  have f1 := HR2.out.frozen 1
  have f2 := HR2.out.frozen 2
  have f3 := HR2.out.frozen 3
  have f4 := HR2.out.frozen 4
  have hl := HR2.out.lt
  have Hfin := hid (show RetIde w W (.returned (.agg #[.int .i64 W, .slice (some ⟨g1, 0, none⟩) (Bs.nw W) (Bs.nw W), .int .i64 W, .slice (some ⟨g2, 0, none⟩) (Bs.nw W) (Bs.nw W), .slice none 0 0]))
    (((((w2.setCell ⟨w.heap.size, 0, none⟩ (.int .i64 W)).setCell ⟨w.heap.size, 1, none⟩ (.slice (some ⟨g1, 0, none⟩) (Bs.nw W) (Bs.nw W))).setCell ⟨w.heap.size, 2, none⟩ (.int .i64 W)).setCell ⟨w.heap.size, 3, none⟩ (.slice (some ⟨g2, 0, none⟩) (Bs.nw W) (Bs.nw W))).setCell ⟨w.heap.size, 4, none⟩ (.slice none 0 0)) from by
    have h1 := Hg1.out
    have h2 := Hg2.out
    have n1 : g1 ≠ w.heap.size := by omega
    have n2 : g2 ≠ w.heap.size := by omega
    exact ⟨g1, g2, rfl, ⟨by omega, ((((Hr12.out.far n1 _).far n1 _).far n1 _).far n1 _).far n1 _⟩, ⟨by omega, ((((Hr2.out.far n2 _).far n2 _).far n2 _).far n2 _).far n2 _⟩, ((((HB2.out.setCell (by simp) _).setCell (by simp) _).setCell (by simp) _).setCell (by simp) _).setCell (by simp) _⟩)
  go_wp2_with fail
  refine bodyPost_ret (v := .agg #[.int .i64 W, .slice (some ⟨g1, 0, none⟩) (Bs.nw W) (Bs.nw W), .int .i64 W, .slice (some ⟨g2, 0, none⟩) (Bs.nw W) (Bs.nw W), .slice none 0 0]) (by simp [results, Try.results78, go_sem, r0, r1, r2, r3, r4]) rfl ?_
  exact Hfin.out
end Go.Proofs.Ytmnbidpoceknlaa

namespace Go.Proofs.Ytmnbidpoceknlaa
set_option maxRecDepth 20000
set_option linter.unusedVariables false
set_option linter.unusedSimpArgs false
open Go.ChangeShapes Go.WideShapes Go.ChangeAt Go.RowKit

/-- The first error of a list of values. -/
def chkV (N : Nat) (W : Int) (n : Nat) (l : List ZH) : Int :=
  if decide (n = N) = false then 1 else if (l.all fun z => Bs.validB z.W z.ws) = false then 1 else if (l.all fun z => decide (z.W = W)) = false then 2 else 0
def widE (W : Int) (l : List ZH) : Int := if (l.all fun z => decide (z.W = W)) = true then 0 else 2
theorem widE_snoc (W : Int) (l : List ZH) (k : Nat) (z : ZH) (h : l[k]? = some z) : widE W (l.take (k + 1)) = if z.W = W then widE W (l.take k) else 2 := by
  unfold widE
  rw [List.take_add_one, h, List.all_append]
  by_cases e : z.W = W
  · simp [e]
  · simp [e]
theorem ret_e {a b : Int} (h : a = b) : Ending.returned (.int .i64 b) = Ending.returned (.int .i64 a) := by rw [h]
set_option maxHeartbeats 6400000 in
theorem checkValues_any (s : SY) (y : ZL) (ex ex' : List (Option Nat)) (w : World) (h : SYok w ex s) (hy : ZLok w ex' y) :
    Calls Try.prog 94 #[s.a, .slice y.A y.n y.c] w fun e w' => e = .returned (.int .i64 (chkV s.D.n s.W y.n y.l)) ∧ Below w.heap.size w w' := by
  have hdn := h.d.few
  have hyn := hy.few
  have HY := hid hy
  have HL := hid hy.len
  clear h hy
  obtain ⟨W, ⟨DA, dn, dc, dl⟩, ⟨TA, tn, tc, tl⟩, ⟨BA, bn, bc, bl⟩⟩ := s
  obtain ⟨A, n, c, l⟩ := y
  unfold SY.a
  simp only at *
  have HB0 := hid ((Below.refl w.heap.size w).alloc (Nat.le_refl _) (.cells #[.int .i64 W, .slice DA dn dc, .slice TA tn tc, .slice BA bn bc] 27))
  have HG := hid (Fb.new w #[.int .i64 W, .slice DA dn dc, .slice TA tn tc, .slice BA bn bc] 27)
  go_enter Try.func94, Try.ntmps94
  by_cases h1 : n = dn
  · subst h1
    have t1 : ((n : Int) != (n : Int)) = false := by simp
    have Hd := hid (show chkV n W n l = if (l.all fun z => Bs.validB z.W z.ws) = false then 1 else widE W l by
      unfold chkV widE
      simp only [decide_true, Bool.true_eq_false, if_false]
      cases (l.all fun z => decide (z.W = W)) <;> simp)
    generalize chkV n W n l = R at *
    go_wp2_with fail
    clear t1
    generalize w.alloc (.cells #[.int .i64 W, .slice DA n dc, .slice TA tn tc, .slice BA bn bc] 27) = w0 at *
    go_loopw [5, 7, 16] (fun ev _ iv wr => ∃ k : Nat, k ≤ n ∧ iv = .int .i64 k ∧ ev = .int .i64 (widE W (l.take k)) ∧ Hid (Below w.heap.size w wr ∧ Fb wr w.heap.size #[.int .i64 W, .slice DA n dc, .slice TA tn tc, .slice BA bn bc] 27) ∧ Hid (∀ z ∈ l.take k, Bs.validB z.W z.ws = true)) (fun _ _ iv _ => n - (intOf iv).toNat)
    case atStart => exact ⟨0, by omega, rfl, rfl, hid ⟨HB0.out, HG.out⟩, hid (by simp)⟩
    case round =>
      obtain ⟨k, hk, rfl, rfl, HB, hE⟩ := hrel
      by_cases hlt : k < n
      · obtain ⟨y, hy, hym⟩ := get_at HL.out hlt
        have HYr := hid (HY.out.below HB.out.1)
        obtain ⟨ad, hA, had, c0, c1⟩ := HYr.out.cell hy
        simp only at hA
        subst hA
        have HYa := hid ((HYr.out.all y hym).arg.alloc (.cells #[.int .i64 y.W, .slice y.A y.n y.c] 41))
        have Hw := hid (widE_snoc W l k y hy)
        have Hno := hid (fun hp : Bs.validB y.W y.ws = false => show R = 1 by rw [Hd.out, if_pos (all_no (p := fun z => Bs.validB z.W z.ws) hy hp)])
        have Hyes := hid (fun hp : Bs.validB y.W y.ws = true => all_take (p := fun z => Bs.validB z.W z.ws) hE.out hy hp)
        clear hy hym HYr
        obtain ⟨V, yA, yn, yc, ys⟩ := y
        simp only at *
        have hba := (Below.refl wr.heap.size wr).alloc (Nat.le_refl _) (.cells #[.int .i64 V, .slice yA yn yc] 41)
        have HB1 := hid (show Below w.heap.size w (wr.alloc (.cells #[.int .i64 V, .slice yA yn yc] 41)) from below_step HB.out.1 hba)
        have HG1 := hid (HB.out.2.below hba HB.out.2.lt)
        have Hbx := hid (Fb.new wr #[.int .i64 V, .slice yA yn yc] 41)
        clear hba
        go_wp2_with fail
        clear c0 c1
        refine (devValid_any V yA yn yc ys _ HYa.out).mono ?_
        generalize wr.alloc (.cells #[.int .i64 V, .slice yA yn yc] 41) = wv at *
        generalize wr.heap.size = gv at *
        cases hv : Bs.validB V ys with
        | false =>
          rintro e w1 ⟨rfl, hb1⟩
          have Hr := hid (Hno.out hv)
          have Hb := hid (below_step HB1.out hb1)
          clear hv hb1 Hno Hyes
          go_wp2_with fail
          go_ret
          exact ⟨ret_e Hr.out, Hb.out⟩
        | true =>
          rintro e w1 ⟨rfl, hb1⟩
          have HG2 := hid (HG1.out.below hb1 HG1.out.lt)
          have Hb := hid (show Below w.heap.size w w1 ∧ Fb w1 w.heap.size #[.int .i64 W, .slice DA n dc, .slice TA tn tc, .slice BA bn bc] 27 from ⟨below_step HB1.out hb1, HG2.out⟩)
          obtain ⟨d0, d1⟩ := (Hbx.out.below hb1 Hbx.out.lt).two
          obtain ⟨s0, s1, s2, s3⟩ := HG2.out.four
          have Hr := hid (Hyes.out hv)
          clear hv hb1 d1 s1 s2 s3 Hno Hyes
          by_cases h2 : V = W
          · have t2 : (V != W) = false := by simp [h2]
            rw [if_pos h2] at Hw
            clear h2
            go_wp2_with fail
            go_roundw
            case rel => exact ⟨k + 1, by omega, by go_num, by rw [Hw.out], Hb, Hr⟩
            case measure => simp [intOf]; omega
          · have t2 : (V != W) = true := by simp [h2]
            rw [if_neg h2] at Hw
            clear h2
            go_wp2_with fail
            go_roundw
            case rel => exact ⟨k + 1, by omega, by go_num, by rw [Hw.out], Hb, Hr⟩
            case measure => simp [intOf]; omega
      · obtain rfl : k = n := by omega
        have Hr := hid (show R = widE W (l.take k) by
          rw [Hd.out, if_neg (by rw [all_yes (p := fun z => Bs.validB z.W z.ws) HL.out hE.out]; decide), List.take_of_length_le (by rw [HL.out]; exact Nat.le_refl _)])
        go_wp2_with fail
        go_ret
        exact ⟨ret_e Hr.out, HB.out.1⟩
  · have t1 : ((n : Int) != (dn : Int)) = true := by simp; omega
    have Hr := hid (show chkV dn W n l = 1 by unfold chkV; simp [h1])
    clear h1
    go_wp2_with fail
    go_ret
    exact ⟨ret_e Hr.out, HB0.out⟩
end Go.Proofs.Ytmnbidpoceknlaa

namespace Go.Proofs.Ytmnbidpoceknlaa
set_option maxRecDepth 20000
set_option linter.unusedVariables false
set_option linter.unusedSimpArgs false
open Go.ChangeShapes Go.WideShapes Go.ChangeAt Go.RowKit

/-- While a right side is computed. -/
structure Rtw (w0 : World) (s : SY) (v b : Nat) (A : Option Addr) (n c : Nat) (zs : List Nat) (u : World) : Prop where
  sx : Fb u w0.heap.size s.box 27
  rx : Fb u (w0.heap.size + 1) #[.int .i64 0, .slice none 0 0] 41
  bx : Fb u b #[.int .i64 v, .slice A n c] 41
  hb : w0.heap.size + 1 < b
  pv : Arg u A n zs
  ft : Bs.Fit v zs
  bel : Below w0.heap.size w0 u
section
variable {w0 u u' : World} {s : SY} {v b : Nat} {A : Option Addr} {n c : Nat} {zs : List Nat}
theorem Rtw.below (h : Rtw w0 s v b A n c zs u) (hb : Below u.heap.size u u') : Rtw w0 s v b A n c zs u' := ⟨h.sx.below hb h.sx.lt, h.rx.below hb h.rx.lt, h.bx.below hb h.bx.lt, h.hb, h.pv.below hb, h.ft, below_step h.bel hb⟩
theorem Rtw.put (h : Rtw w0 s v b A n c zs u) {A2 : Option Addr} {n2 c2 : Nat} {zs2 : List Nat} (ha : Arg u A2 n2 zs2) (hf : Bs.Fit v zs2) : Rtw w0 s v b A2 n2 c2 zs2 ((u.setCell ⟨b, 0, none⟩ (.int .i64 v)).setCell ⟨b, 1, none⟩ (.slice A2 n2 c2)) := by
  have hb := h.hb
  exact ⟨(h.sx.far (by simp; omega) _).far (by simp; omega) _, (h.rx.far (by simp; omega) _).far (by simp; omega) _, (h.bx.set 0 _).set 1 _, hb, Arg.store ha (show Box u b v A n c from h.bx) v A2 n2 c2, hf, (h.bel.setCell (by simp; omega) _).setCell (by simp; omega) _⟩
end
theorem Rtw.one {w0 u : World} {s : SY} {v b : Nat} {A : Option Addr} {n c : Nat} {zs : List Nat} (h : Rtw w0 s v b A n c zs u) {pb : Nat} (hb : Fb u pb #[.int .i64 0, .slice none 0 0] 41) (hg : b < pb) {A2 : Option Addr} {n2 c2 : Nat} {zs2 : List Nat} (ha : Arg u A2 n2 zs2) :
    Rtw w0 s v b A n c zs ((u.setCell ⟨pb, 0, none⟩ (.int .i64 v)).setCell ⟨pb, 1, none⟩ (.slice A2 n2 c2)) ∧ Fb ((u.setCell ⟨pb, 0, none⟩ (.int .i64 v)).setCell ⟨pb, 1, none⟩ (.slice A2 n2 c2)) pb #[.int .i64 v, .slice A2 n2 c2] 41 ∧ Arg ((u.setCell ⟨pb, 0, none⟩ (.int .i64 v)).setCell ⟨pb, 1, none⟩ (.slice A2 n2 c2)) A2 n2 zs2 := by
  have hb1 := h.hb
  exact ⟨⟨(h.sx.far (by simp; omega) _).far (by simp; omega) _, (h.rx.far (by simp; omega) _).far (by simp; omega) _, (h.bx.far (by simp; omega) _).far (by simp; omega) _, hb1, Arg.store h.pv (show Box u pb 0 none 0 0 from hb) v A2 n2 c2, h.ft, (h.bel.setCell (by simp; omega) _).setCell (by simp; omega) _⟩, (hb.set 0 _).set 1 _, Arg.store ha (show Box u pb 0 none 0 0 from hb) v A2 n2 c2⟩
theorem Rtw.two {w0 u : World} {s : SY} {v b : Nat} {A : Option Addr} {n c : Nat} {zs : List Nat} (h : Rtw w0 s v b A n c zs u) {A2 : Option Addr} {n2 c2 : Nat} {zs2 : List Nat} (ha : Arg u A2 n2 zs2) :
    Rtw w0 s v b A n c zs (u.alloc (.cells #[.int .i64 v, .slice A2 n2 c2] 41)) ∧ Fb (u.alloc (.cells #[.int .i64 v, .slice A2 n2 c2] 41)) u.heap.size #[.int .i64 v, .slice A2 n2 c2] 41 ∧ Arg (u.alloc (.cells #[.int .i64 v, .slice A2 n2 c2] 41)) A2 n2 zs2 := by
  have hba := (Below.refl u.heap.size u).alloc (Nat.le_refl _) (.cells #[.int .i64 v, .slice A2 n2 c2] 41)
  exact ⟨h.below hba, Fb.new _ _ _, ha.below hba⟩
theorem chkV_ok {v N : Nat} {y : ZL} {w : World} {ex : List (Option Nat)} (hv : v ≤ 256) (h : VOk y v N) : chkV N v y.n y.l = 0 := by
  unfold chkV
  rw [h.n]
  have h1 : (y.l.all fun z => Bs.validB z.W z.ws) = true := by
    rw [List.all_eq_true]; intro z hz; obtain ⟨a, b⟩ := h.all z hz; rw [a]; exact Bs.valid_of_fit b hv
  have h2 : (y.l.all fun z => decide (z.W = (v : Int))) = true := by
    rw [List.all_eq_true]; intro z hz; obtain ⟨a, b⟩ := h.all z hz; simpa using a
  rw [h1, h2]; simp
/-- The right side came back. -/
def RetRt (w : World) (v : Nat) (zs : List Nat) (e : Ending) (w' : World) : Prop :=
  ∃ (A : Option Addr) (n c : Nat), e = .returned (.tuple #[.agg #[.int .i64 v, .slice A n c], .int .i64 0]) ∧ Arg w' A n zs ∧ Bs.Fit v zs ∧ Below w.heap.size w w'
theorem SOk.valid2 {s : SY} {v N : Nat} {w : World} {ex : List (Option Nat)} (h : SOk s v N) (hs : SYok w ex s) : sysB s = true := by
  have hl : s.D.v.length = N := by rw [LH.vlen, hs.d.len, h.dn]
  have h1 : linkB s.D.v = true := by
    unfold linkB
    rw [hl]
    simp only [Bool.and_eq_true, decide_eq_true_eq, List.all_eq_true]
    refine ⟨⟨⟨h.n1, h.n256⟩, fun l hm => ?_⟩, h.tt⟩
    obtain ⟨y, hy, rfl⟩ := List.mem_map.1 hm
    exact risB_iff.2 (h.d y hy)
  unfold sysB
  rw [h1]
  simp only [Bool.and_eq_true, decide_eq_true_eq, List.all_eq_true, h.tn, h.dn, h.bn, true_and, and_true]
  refine ⟨fun z hz => ?_, fun f hf => ?_⟩
  · obtain ⟨a, b⟩ := h.b z hz
    unfold zfitB
    rw [a, h.w, Bs.valid_of_fit b h.v256]; simp
  · have := h.t f hf
    unfold ffitB FH.vB
    rw [this.w1, this.w2, h.w, this.ok]; simp
set_option maxHeartbeats 12800000 in
theorem right_any (s : SY) (y : ZL) (v N k : Nat) (ex ex' : List (Option Nat)) (w : World) (h : SYok w ex s) (hy : ZLok w ex' y) (ho : SOk s v N) (hvo : VOk y v N) (hk : k < N) :
    Calls Try.prog 60 #[s.a, .slice y.A y.n y.c, .int .i64 k] w (RetRt w v (s.pw.right y.vs k)) := by
  have hv := ho.v256
  have hN := ho.n256
  have hN1 := ho.n1
  obtain ⟨r, hr, hrm⟩ := get_at (show s.D.l.length = N by rw [h.d.len, ho.dn]) hk
  obtain ⟨z, hz, hzm⟩ := get_at (show s.B.l.length = N by rw [h.b.len, ho.bn]) hk
  obtain ⟨hzW, hzf⟩ := ho.b z hzm
  have hrl := (h.d.all r hrm).len
  have Hgoal := hid (show s.pw.right y.vs k = side v y.vs z.ws ((r.l.take r.n).map s.arc) by
    unfold PW.right
    rw [show s.pw.v = v by show s.W.toNat = v; rw [ho.w]; simp, show at0 s.pw.bd k = z.ws from at0_get (by show (s.B.l.map ZH.ws)[k]? = _; rw [List.getElem?_map, hz]; rfl),
      show s.pw.arcs.getD k [] = r.l.map s.arc by show (s.D.l.map fun r => r.l.map s.arc).getD k [] = _; rw [List.getD_eq_getElem?_getD, List.getElem?_map, hr]; rfl, List.take_of_length_le (by rw [hrl]; exact Nat.le_refl _)])
  have HV := hid (fun (u : World) (hu : Below w.heap.size w u) => (validS_any s ex u (h.below hu)).mono (fun e w' (hr : e = .returned (.bool (sysB s)) ∧ Below u.heap.size u w') => show e = .returned (.bool true) ∧ Below u.heap.size u w' by rw [ho.valid2 h] at hr; exact hr))
  have HCk := hid (fun (u : World) (hu : Below w.heap.size w u) => (checkValues_any s y ex ex' u (h.below hu) (hy.below hu)).mono (fun e w' (hr : e = .returned (.int .i64 (chkV s.D.n s.W y.n y.l)) ∧ Below u.heap.size u w') => show e = .returned (.int .i64 0) ∧ Below u.heap.size u w' by rw [ho.dn, ho.w, chkV_ok (w := w) (ex := ex) hv hvo] at hr; exact hr))
  have Hs := hid h
  have Hy := hid hy
  have Ho := hid ho
  have Hvo := hid hvo
  have hW := ho.w
  have hdn := ho.dn
  have htn := ho.tn
  have hbn := ho.bn
  have hyn := hvo.n
  have Har := hid (fun (m : Nat) (f : FH) (hm : s.T.l[m]? = some f) => SY.arc_at hm)
  have Hza := hid ((h.b.all z hzm).arg)
  have hzn : z.n ≤ 100 := by rw [← (h.b.all z hzm).len, hzf.len]; unfold Bs.nw; omega
  have Hzf := hid hzf
  have Hris := hid (ho.d r hrm)
  have Hr := hid hr; have Hz := hid hz; have Hrm := hid hrm
  generalize s.arc = arc at *
  generalize s.pw.right y.vs k = G at *
  have Hvs := hid (fun (i : Nat) (t : ZH) (h : y.l[i]? = some t) => show at0 y.vs i = t.ws from ZL.vs_at h)
  generalize y.vs = vs at *
  clear h hy ho hvo hr hz hrm hzm hzf
  obtain ⟨W, ⟨DA, dn, dc, dl⟩, ⟨TA, tn, tc, tl⟩, ⟨BA, bn, bc, bl⟩⟩ := s
  obtain ⟨YA, yn, yc, yl⟩ := y
  simp only at hW hdn htn hbn hyn hrl
  subst hW
  have hdn := hdn.symm
  subst hdn
  have htn := htn.symm
  subst htn
  have hbn := hbn.symm
  subst hbn
  have hyn := hyn.symm
  subst hyn
  obtain ⟨adr, hA, -, -⟩ := Hs.out.d.cell Hr.out
  obtain ⟨adb, hA3, -⟩ := Hs.out.b.cell Hz.out
  obtain ⟨x0, hx0, -⟩ := get_at (show tl.length = N from Hs.out.t.len) hN1
  obtain ⟨adt, hA2, -⟩ := Hs.out.t.cell hx0
  clear hx0 x0
  obtain ⟨x0, hx0, -⟩ := get_at (show yl.length = N from Hy.out.len) hN1
  obtain ⟨ady, hA4, -⟩ := Hy.out.cell hx0
  clear hx0 x0
  simp only at hA hA2 hA3 hA4
  subst hA
  subst hA2
  subst hA3
  subst hA4
  unfold SY.a at *
  simp only at *
  have Hb1 := hid (((Below.refl w.heap.size w).alloc (Nat.le_refl _) (.cells #[.int .i64 v, .slice (some adr) N dc, .slice (some adt) N tc, .slice (some adb) N bc] 27)).alloc (by simp) (.cells #[.int .i64 0, .slice none 0 0] 41))
  have Hsx := hid ((Fb.new w #[.int .i64 v, .slice (some adr) N dc, .slice (some adt) N tc, .slice (some adb) N bc] 27).alloc (.cells #[.int .i64 0, .slice none 0 0] 41))
  have Hrx := hid (show Fb ((w.alloc (.cells #[.int .i64 v, .slice (some adr) N dc, .slice (some adt) N tc, .slice (some adb) N bc] 27)).alloc (.cells #[.int .i64 0, .slice none 0 0] 41)) (w.heap.size + 1) #[.int .i64 0, .slice none 0 0] 41 from by
    have := Fb.new (w.alloc (.cells #[.int .i64 v, .slice (some adr) N dc, .slice (some adt) N tc, .slice (some adb) N bc] 27)) #[.int .i64 0, .slice none 0 0] 41
    rwa [World.size_alloc] at this)
  go_enter Try.func60, Try.ntmps60
  go_wp2_with fail
  refine (HV.out _ Hb1.out).mono ?_
  generalize (w.alloc (.cells #[.int .i64 v, .slice (some adr) N dc, .slice (some adt) N tc, .slice (some adb) N bc] 27)).alloc (.cells #[.int .i64 0, .slice none 0 0] 41) = wa at *
  rintro e w2 ⟨rfl, hb2⟩
  have Hb2 := hid (below_step Hb1.out hb2)
  have Hsx2 := hid (Hsx.out.below hb2 Hsx.out.lt)
  have Hrx2 := hid (Hrx.out.below hb2 Hrx.out.lt)
  clear hb2 Hb1 Hsx Hrx HV
  obtain ⟨c0, c1, c2, c3⟩ := Hsx2.out.four
  have k0 : (0 : Int) ≤ k := by omega
  have k1 : (k : Int) < N := by omega
  have k2 : (k : Int).toNat = k := by omega
  go_wp2_with fail
  refine (HCk.out _ Hb2.out).mono ?_
  rintro e w3 ⟨rfl, hb3⟩
  have Hb3 := hid (below_step Hb2.out hb3)
  have Hsx3 := hid (Hsx2.out.below hb3 Hsx2.out.lt)
  have Hrx3 := hid (Hrx2.out.below hb3 Hrx2.out.lt)
  clear hb3 Hb2 Hsx2 Hrx2 HCk c0 c1 c2 c3
  obtain ⟨c0, c1, c2, c3⟩ := Hsx3.out.four
  obtain ⟨ad9, hA9, had9, z0, z1⟩ := (Hs.out.b.below Hb3.out).cell Hz.out
  obtain rfl := Option.some.inj hA9
  go_wp2_with fail
  refine (copiedSet_any v z.A z.n z.c z.ws _ (Hza.out.below Hb3.out) hzn).mono ?_
  rintro e w4 ⟨A4, c4, rfl, hna, hb4⟩
  have HI0 := hid (show Rtw w ⟨v, ⟨some adr, N, dc, dl⟩, ⟨some adt, N, tc, tl⟩, ⟨some adb, N, bc, bl⟩⟩ v w4.heap.size A4 z.n c4 (side v vs z.ws ((r.l.take 0).map arc)) (w4.alloc (.cells #[.int .i64 v, .slice A4 z.n c4] 41)) from by
    have ha := hna.arg Hza.out.len Hza.out.ok
    have hba := (Below.refl w4.heap.size w4).alloc (Nat.le_refl _) (.cells #[.int .i64 v, .slice A4 z.n c4] 41)
    exact ⟨(Hsx3.out.below hb4 Hsx3.out.lt).below hba (by have := hb4.size; have := Hsx3.out.lt; omega), (Hrx3.out.below hb4 Hrx3.out.lt).below hba (by have := hb4.size; have := Hrx3.out.lt; omega), Fb.new _ _ _, by have := hb4.size; have := Hrx3.out.lt; omega, ha.below hba, Hzf.out, below_step (below_step Hb3.out hb4) hba⟩)
  clear hna hb4 c0 c1 c2 c3 z0 z1 Hb3 Hsx3 Hrx3 had9
  go_upto_region 9 with fail
  generalize w4.alloc (.cells #[.int .i64 v, .slice A4 z.n c4] 41) = w5 at *
  generalize w4.heap.size = bR at *
  obtain ⟨c0, c1, c2, c3⟩ := (show Fb w5 w.heap.size #[.int .i64 v, .slice (some adr) N dc, .slice (some adt) N tc, .slice (some adb) N bc] _ from HI0.out.sx).four
  obtain ⟨ad9, hA9, had9, hcr⟩ := (Hs.out.d.below HI0.out.bel).cell Hr.out
  obtain rfl := Option.some.inj hA9
  obtain ⟨rA, rn, rc, rl⟩ := r
  simp only at hcr hrl
  have Hrok := hid (Hs.out.d.all _ Hrm.out)
  have hrn : rn ≤ 256 := by
    have h2 := ris_len Hris.out
    simp only at h2
    omega
  go_wp2_with fail
  clear c0 c1 c2 c3 hcr had9 k0 k1 k2 hzW
  have HG : Hid (G = side v vs z.ws ((rl.take rn).map arc)) := Hgoal
  clear Hgoal
  go_loopw [11, 12, 13, 47] (fun _ _ _ jv wr => ∃ (j : Nat) (A : Option Addr) (n c : Nat), j ≤ rn ∧ jv = .int .i64 j ∧ Hid (Rtw w ⟨v, ⟨some adr, N, dc, dl⟩, ⟨some adt, N, tc, tl⟩, ⟨some adb, N, bc, bl⟩⟩ v bR A n c (side v vs z.ws ((rl.take j).map arc)) wr)) (fun _ _ _ jv _ => rn - (intOf jv).toNat)
  case atStart => exact ⟨0, A4, z.n, c4, by omega, rfl, HI0⟩
  case round =>
    clear HI0
    obtain ⟨j, A, n, c, hj, rfl, HI⟩ := hrel
    by_cases hlt : j < rn
    · obtain ⟨m0, hm, hmm⟩ := get_at hrl hlt
      have hmr := Hris.out.2 m0 hmm
      obtain ⟨m, rfl⟩ := Int.eq_ofNat_of_zero_le hmr.1
      have hmN : m < N := by omega
      obtain ⟨ad9, hA, had9, hcm⟩ := (Hrok.out.below HI.out.bel).cell hm
      simp only at hA
      subst hA
      obtain ⟨f, hf, hfm⟩ := get_at (show tl.length = N from Hs.out.t.len) hmN
      obtain ⟨t, ht, htm⟩ := get_at (show yl.length = N from Hy.out.len) hmN
      obtain ⟨htW, htf⟩ := Hvo.out.all t htm
      have hfo := Ho.out.t f hfm
      have HE := hid (show side v vs z.ws ((rl.take (j + 1)).map arc) = orR v (side v vs z.ws ((rl.take j).map arc)) (valR f.G.ws t.ws (folB v f.K.ws f.cs) v) by
        rw [List.take_add_one, hm, List.map_append]
        refine (side_snoc _ _ _ _ _).trans ?_
        rw [Har.out m f hf, Hvs.out m t ht]
        rfl)
      have Hfm := hid hfm; have Htm := hid htm; have Hft := hid hf; have Htt := hid ht; have Htf := hid htf; have Hfo := hid hfo
      have hz1 := HI.out.bx.lt
      have n0 : (0 : Int) ≤ j := by omega
      have n1 : (j : Int) < rn := by omega
      have n2 : (j : Int).toNat = j := by omega
      clear hm hmm hmr hf ht hfm htm htf hfo
      generalize side v vs z.ws ((rl.take j).map arc) = zs at *
      generalize hzs2 : side v vs z.ws ((rl.take (j + 1)).map arc) = zs2 at *
      have Hzs2 := hid hzs2
      clear hzs2
      obtain ⟨⟨GW, GA, gn, gc, gs⟩, ⟨KW, KA, kn, kc, ks⟩, C, kq, q, cs⟩ := f
      obtain ⟨TW, TA2, tn, tc2, ts⟩ := t
      have hw1 := Hfo.out.w1
      have hw2 := Hfo.out.w2
      simp only at hw1 hw2 htW
      subst hw1
      subst hw2
      subst htW
      have Happ := hid (show applyR v gs v ks cs v ts = ((v : Int), valR gs ts (folB v ks cs) v, 0) by
        unfold applyR
        have h1 := Hfo.out.ok
        simp only at h1
        rw [if_neg (by simp [h1, Bs.valid_of_fit Htf.out hv]), if_neg (by simp), Int.toNat_natCast])
      have Hap := hid (fun (u : World) (hu : Below w.heap.size w u) => devApply_any v v v GA KA C TA2 gn gc kn kc kq q tn tc2 gs ks ts cs u ((Hs.out.t.all _ Hfm.out).below hu).arg.gen ((Hs.out.t.all _ Hfm.out).below hu).arg.kill ((Hs.out.t.all _ Hfm.out).below hu).arg.cops ((Hy.out.all _ Htm.out).below hu).arg)
      rw [Happ.out] at Hap
      simp only at HE
      have Hvf := hid (show Bs.Fit v (valR gs ts (folB v ks cs) v) from fit_valR _ _ _ _)
      generalize valR gs ts (folB v ks cs) v = zp at *
      have HC := hid (fun (u : World) (hu : Rtw w ⟨v, ⟨some adr, N, dc, dl⟩, ⟨some adt, N, tc, tl⟩, ⟨some adb, N, bc, bl⟩⟩ v bR A n c zs u) => And.intro (show Fb u w.heap.size #[.int .i64 v, .slice (some adr) N dc, .slice (some adt) N tc, .slice (some adb) N bc] _ from hu.sx).four (And.intro ((Hs.out.t.below hu.bel).cell Hft.out) ((Hy.out.below hu.bel).cell Htt.out)))
      go_upto_region 12 with fail
      clear n0 n1 n2 hcm had9
      have HId := hid (HI.out.below (Below.refl _ _).drew)
      have Ha := hid (HId.out.below ((Below.refl _ _).alloc (Nat.le_refl _) (.cells #[.int .i64 0, .slice none 0 0] 41)))
      go_cut [12, 13] (fun a b wd => ∃ (pb : Nat) (A2 : Option Addr) (n2 c2 : Nat), a = .pointer (some ⟨pb, 0, none⟩) ∧ b = .int .i64 0 ∧ Hid (Rtw w ⟨v, ⟨some adr, N, dc, dl⟩, ⟨some adt, N, tc, tl⟩, ⟨some adb, N, bc, bl⟩⟩ v bR A n c zs wd ∧ Fb wd pb #[.int .i64 v, .slice A2 n2 c2] 41 ∧ Arg wd A2 n2 zp))
      case first =>
        have k0 : (0 : Int) ≤ m := by omega
        have k1 : (m : Int) < N := by omega
        have k2 : (m : Int).toNat = m := by omega
        obtain ⟨⟨c0, c1, c2, c3⟩, ⟨adt9, e9, hlt9, g0, g1, g2, g3, g4⟩, ⟨ady9, e8, hlt8, y0, y1⟩⟩ := HC.out _ HId.out
        obtain rfl := Option.some.inj e9
        obtain rfl := Option.some.inj e8
        obtain ⟨⟨a0, a1, a2, a3⟩, ⟨adt9, e9, hlt9a, i0, i1, i2, i3, i4⟩, ⟨ady9, e8, hlt8a, x0, x1⟩⟩ := HC.out _ Ha.out
        obtain rfl := Option.some.inj e9
        obtain rfl := Option.some.inj e8
        have b2 : (wr.alloc (.cells #[.int .i64 0, .slice none 0 0] 41)).cell? ⟨w.heap.size, 2, none⟩ = some (.slice (some adt) N tc) := a2
        have j0 : (wr.alloc (.cells #[.int .i64 0, .slice none 0 0] 41)).cell? (adt.add (m * 5)) = some (.int .i64 v) := i0
        have j1 : (wr.alloc (.cells #[.int .i64 0, .slice none 0 0] 41)).cell? ⟨(adt.add (m * 5)).block, (adt.add (m * 5)).off + 1, none⟩ = some (.slice GA gn gc) := i1
        have j2 : (wr.alloc (.cells #[.int .i64 0, .slice none 0 0] 41)).cell? ⟨(adt.add (m * 5)).block, (adt.add (m * 5)).off + 2, none⟩ = some (.int .i64 v) := i2
        have j3 : (wr.alloc (.cells #[.int .i64 0, .slice none 0 0] 41)).cell? ⟨(adt.add (m * 5)).block, (adt.add (m * 5)).off + 3, none⟩ = some (.slice KA kn kc) := i3
        have j4 : (wr.alloc (.cells #[.int .i64 0, .slice none 0 0] 41)).cell? ⟨(adt.add (m * 5)).block, (adt.add (m * 5)).off + 4, none⟩ = some (.slice C kq q) := i4
        have l0 : (wr.alloc (.cells #[.int .i64 0, .slice none 0 0] 41)).cell? (ady.add (m * 2)) = some (.int .i64 v) := x0
        have l1 : (wr.alloc (.cells #[.int .i64 0, .slice none 0 0] 41)).cell? ⟨(ady.add (m * 2)).block, (ady.add (m * 2)).off + 1, none⟩ = some (.slice TA2 tn tc2) := x1
        clear a0 a1 a3 c0 c1 c3
        go_region_law (
          (go_simp
           go_at_call 95
           refine (Hap.out _ (by first | exact HId.out.bel | exact Ha.out.bel)).mono ?_
           rintro e u2 ⟨A2, n2, c2', rfl, ha2, hb2⟩
           have HA2 := hid ha2
           have H2 := hid (Rtw.below (by first | exact HId.out | exact Ha.out) hb2)
           try (have hbx : Fb u2 wr.heap.size #[.int .i64 0, .slice none 0 0] 41 := (Fb.new wr.drew _ _).below hb2 (by simp)
                have z0 := hbx.cell 0
                have z1 := hbx.cell 1
                have f0 := hbx.frozen 0
                have f1 := hbx.frozen 1
                have hbl := hbx.lt)
           clear ha2 hb2))
        all_goals
          go_wp2_with fail
          go_meet
          first
          | exact ⟨_, A2, n2, c2', rfl, rfl, hid (H2.out.one hbx hz1 HA2.out)⟩
          | exact ⟨_, A2, n2, c2', rfl, rfl, hid (H2.out.two HA2.out)⟩
      case rest =>
        obtain ⟨pb, A2, n2, c2, rfl, rfl, HP⟩ := hcut
        clear HC HId Ha Hap HI
        obtain ⟨p0, p1⟩ := HP.out.2.1.two
        obtain ⟨q0, q1⟩ := HP.out.1.bx.two
        have Hun := hid (mixR_or hv HP.out.1.ft Hvf.out)
        go_wp2_with fail
        refine (devUnion_any v v A A2 n c n2 c2 zs zp _ HP.out.1.pv HP.out.2.2).mono ?_
        rw [Hun.out]
        rintro e w6 ⟨A3, n3, c3, rfl, ha3, hb3⟩
        have H6 := hid (HP.out.1.below hb3)
        have Hfin := hid (H6.out.put (c2 := c3) ha3 (fit_orR v zs zp))
        clear p0 p1 q0 q1 ha3 hb3
        obtain ⟨q0, q1⟩ := H6.out.bx.two
        have f0 := H6.out.bx.frozen 0
        have f1 := H6.out.bx.frozen 1
        have hbl := H6.out.bx.lt
        have HF := hid (show Rtw w ⟨v, ⟨some adr, N, dc, dl⟩, ⟨some adt, N, tc, tl⟩, ⟨some adb, N, bc, bl⟩⟩ v bR A3 n3 c3 zs2 ((w6.setCell ⟨bR, 0, none⟩ (.int .i64 v)).setCell ⟨bR, 1, none⟩ (.slice A3 n3 c3)) from by rw [HE.out]; exact Hfin.out)
        rw [← Hzs2.out] at HF
        clear Hfin
        go_wp2_with fail
        go_roundw
        case rel => exact ⟨j + 1, A3, n3, c3, by omega, by go_num, HF⟩
        case measure => simp [intOf]; omega
    · obtain rfl : j = rn := by omega
      obtain ⟨x0, x1⟩ := HI.out.bx.two
      obtain ⟨r0, r1⟩ := HI.out.rx.two
      have f0 := HI.out.rx.frozen 0
      have f1 := HI.out.rx.frozen 1
      have hlr := HI.out.rx.lt
      have Hr9 := hid (show RetRt w v G (.returned (.tuple #[.agg #[.int .i64 v, .slice A n c], .int .i64 0])) ((wr.setCell ⟨w.heap.size + 1, 0, none⟩ (.int .i64 v)).setCell ⟨w.heap.size + 1, 1, none⟩ (.slice A n c)) from by
        rw [HG.out]
        exact ⟨A, n, c, rfl, Arg.store HI.out.pv (show Box wr (w.heap.size + 1) 0 none 0 0 from HI.out.rx) v A n c, HI.out.ft, (HI.out.bel.setCell (by simp) _).setCell (by simp) _⟩)
      go_wp2_with fail
      refine bodyPost_ret (v := .tuple #[.agg #[.int .i64 v, .slice A n c], .int .i64 0]) (by simp [results, Try.results60, go_sem, x0, x1, r0, r1]) rfl ?_
      exact Hr9.out
end Go.Proofs.Ytmnbidpoceknlaa

namespace Go.Proofs.Ytmnbidpoceknlaa
set_option maxRecDepth 20000
set_option linter.unusedVariables false
set_option linter.unusedSimpArgs false
open Go.ChangeShapes Go.WideShapes Go.ChangeAt Go.RowKit

/-- The right sides came back. -/
def RetNext (w : World) (v N : Nat) (vals : List (List Nat)) (e : Ending) (w' : World) : Prop :=
  ∃ (g : Nat) (l : List ZH), e = .returned (.tuple #[.slice (some ⟨g, 0, none⟩) N N, .int .i64 0]) ∧ w.heap.size ≤ g ∧ VRow w' g N l ∧ (∀ z ∈ l, z.W = v ∧ Bs.Fit v z.ws) ∧ l.map ZH.ws = vals ∧ Below w.heap.size w w'
set_option maxHeartbeats 3200000 in
theorem next2_any (s : SY) (y : ZL) (v N : Nat) (ex ex' : List (Option Nat)) (w : World) (h : SYok w ex s) (hy : ZLok w ex' y) (ho : SOk s v N) (hvo : VOk y v N) :
    Calls Try.prog 26 #[s.a, .slice y.A y.n y.c] w (RetNext w v N (s.pw.rights y.vs)) := by
  have hN1 := ho.n1
  have hyn := hvo.n
  have Hb0 := hid ((Below.refl w.heap.size w).alloc (Nat.le_refl _) (.cells s.box 27))
  have HC := hid (fun (u : World) (hu : Below w.heap.size w u) => webC s v N ex u (h.below hu) ho)
  have HRt := hid (fun (u : World) (hu : Below w.heap.size w u) => right_any s y v N 0 ex ex' u (h.below hu) (hy.below hu) ho hvo (by omega))
  have HY := hid (fun (u : World) (hu : Below w.heap.size w u) => hy.below hu)
  have Hvo := hid hvo
  have Hbx := hid (Fb.new w s.box 27)
  clear h ho hy hvo
  generalize hq : s.pw.right y.vs 0 = r0 at *
  clear hq
  generalize s.pw = p at *
  unfold SY.a at *
  unfold SY.box at *
  obtain ⟨YA, yn, yc, yl⟩ := y
  simp only at hyn
  have hyn := hyn.symm
  subst hyn
  simp only at *
  go_enter Try.func26, Try.ntmps26
  go_wp2_with fail
  refine (HRt.out _ Hb0.out).mono ?_
  rintro e w2 ⟨A, n, c, rfl, ha, hf, hb2⟩
  have hba := (Below.refl w2.heap.size w2).alloc (Nat.le_refl _) (.cells #[.int .i64 v, .slice A n c] 41)
  have Hb2 := hid (below_step (below_step Hb0.out hb2) hba)
  have Hbx2 := hid ((Hbx.out.below hb2 Hbx.out.lt).below hba (by have := hb2.size; have := Hbx.out.lt; omega))
  clear ha hf hb2 hba HRt Hbx Hb0
  obtain ⟨c0, c1, c2, c3⟩ := Hbx2.out.four
  go_wp2_with fail
  refine (HC.out _ Hb2.out).mono ?_
  rintro e w3 ⟨BA, bc, bl, IA, ic, il, rfl, hx, hox, hpw, hb3⟩
  have hba := (Below.refl w3.heap.size w3).alloc (Nat.le_refl _) (.cells #[.int .i64 v, .slice BA N bc, .slice IA N ic] 56)
  have Hb3 := hid (below_step (below_step Hb2.out hb3) hba)
  have HR := hid (rightSides_any ⟨v, ⟨BA, N, bc, bl⟩, ⟨IA, N, ic, il⟩⟩ ⟨YA, N, yc, yl⟩ v N [] ex' _ (hx.below hba) (HY.out _ Hb3.out) hox Hvo.out)
  rw [hpw] at HR
  unfold WB.a at HR
  simp only at HR
  clear hx hox hpw hb3 hba HC c0 c1 c2 c3 Hbx2
  go_wp2_with fail
  refine HR.out.mono ?_
  rintro e w4 ⟨g, l, rfl, hg, hrow, hok, hvs, hb4⟩
  have Hr := hid (show RetNext w v N (p.rights (ZL.vs ⟨YA, N, yc, yl⟩)) (.returned (.tuple #[.slice (some ⟨g, 0, none⟩) N N, .int .i64 0])) w4 from ⟨g, l, rfl, by have := Hb3.out.size; omega, hrow, hok, hvs, below_step Hb3.out hb4⟩)
  clear hg hrow hok hvs hb4 HR
  go_wp2_with fail
  exact bodyPost_ret (v := .tuple #[.slice (some ⟨g, 0, none⟩) N N, .int .i64 0]) (by simp [results, Try.results26, go_sem]) rfl Hr.out
end Go.Proofs.Ytmnbidpoceknlaa

namespace Go.Proofs.Ytmnbidpoceknlaa
set_option maxRecDepth 20000
set_option linter.unusedVariables false
set_option linter.unusedSimpArgs false
open Go.ChangeShapes Go.WideShapes Go.ChangeAt Go.RowKit

theorem allz_no {P : ZH → ZH → Bool} {l m : List ZH} {k : Nat} {a b : ZH} (ha : l[k]? = some a) (hb : m[k]? = some b) (h : P a b = false) : (l.zip m).all (fun p => P p.1 p.2) = false := by
  rw [List.all_eq_false]
  refine ⟨(a, b), ?_, by rw [h]; decide⟩
  refine List.mem_of_getElem? (i := k) ?_
  rw [List.getElem?_zip_eq_some]
  exact ⟨ha, hb⟩
set_option maxHeartbeats 3200000 in
theorem equalFnE_any (P : ZH → ZH → Bool) (x y : ZL) (ex ex' : List (Option Nat)) (w : World) (hx : ZLok w ex x) (hy : ZLok w ex' y) (hn : x.n = y.n)
    (hfn : ∀ (a b : ZH) (u : World), a ∈ x.l → b ∈ y.l → Below w.heap.size w u → Calls Try.prog 33 #[.agg #[.int .i64 a.W, .slice a.A a.n a.c], .agg #[.int .i64 b.W, .slice b.A b.n b.c]] u fun e w' => e = .returned (.bool (P a b)) ∧ Below u.heap.size u w') :
    Calls Try.prog 59 #[.slice x.A x.n x.c, .slice y.A y.n y.c, .func (Fn.func 33) #[] #[]] w fun e w' => e = .returned (.bool ((x.l.zip y.l).all fun p => P p.1 p.2)) ∧ Below w.heap.size w w' := by
  have hfew := hx.few
  have HX := hid hx
  have HY := hid hy
  have Hfn := hid hfn
  clear hx hy hfn
  obtain ⟨A, n, c, l⟩ := x
  obtain ⟨B, m, d, k⟩ := y
  simp only at hn hfew
  have hn := hn.symm
  subst hn
  have HL := hid (show l.length = m from HX.out.len)
  have HM := hid (show k.length = m from HY.out.len)
  simp only at *
  generalize hR : ((l.zip k).all fun p => P p.1 p.2) = R at *
  have HR := hid hR
  clear hR
  go_enter Try.func59, Try.ntmps59
  go_wp2_with fail
  go_loopw [7, 8, 9, 17] (fun _ _ _ iv wr => ∃ j : Nat, j ≤ m ∧ iv = .int .i64 j ∧ Hid (Below w.heap.size w wr) ∧ Hid (∀ i a b, i < j → l[i]? = some a → k[i]? = some b → P a b = true)) (fun _ _ _ iv _ => m - (intOf iv).toNat)
  case atStart => exact ⟨0, by omega, rfl, hid (Below.refl _ _), hid (fun i a b hi => by omega)⟩
  case round =>
    obtain ⟨j, hj, rfl, HB, HE⟩ := hrel
    by_cases hlt : j < m
    · obtain ⟨a, ha, ham⟩ := get_at HL.out hlt
      obtain ⟨b, hb, hbm⟩ := get_at HM.out hlt
      obtain ⟨ad, hA, had, c0, c1⟩ := (HX.out.below HB.out).cell ha
      simp only at hA
      subst hA
      have hba := (Below.refl wr.heap.size wr).alloc (Nat.le_refl _) (.cells #[.int .i64 a.W, .slice a.A a.n a.c] 41)
      have HB2 := hid (below_step HB.out hba)
      obtain ⟨ad2, hA2, had2, d0, d1⟩ := (HY.out.below HB2.out).cell hb
      simp only at hA2
      subst hA2
      have HB3 := hid (HB2.out.alloc HB2.out.size (.cells #[.int .i64 b.W, .slice b.A b.n b.c] 41))
      have n0 : (0 : Int) ≤ j := by omega
      have n1 : (j : Int) < m := by omega
      have n2 : (j : Int).toNat = j := by omega
      have HC := hid (Hfn.out a b _ ham hbm HB3.out)
      have Ha := hid ha
      have Hb := hid hb
      clear hba ha hb ham hbm
      go_wp2_with fail
      refine HC.out.mono ?_
      rintro e w5 ⟨rfl, hb5⟩
      have HB5 := hid (below_step HB3.out hb5)
      cases hp : P a b with
      | true =>
        have HE5 := hid (show ∀ i a b, i < j + 1 → l[i]? = some a → k[i]? = some b → P a b = true from fun i a' b' hi h1 h2 => by
          by_cases e : i = j
          · subst e
            rw [Ha.out] at h1
            rw [Hb.out] at h2
            obtain rfl := Option.some.inj h1
            obtain rfl := Option.some.inj h2
            exact hp
          · exact HE.out i a' b' (by omega) h1 h2)
        clear c0 c1 d0 d1 n0 n1 n2 hb5 hp HC
        go_wp2_with fail
        go_roundw
        case rel => exact ⟨j + 1, by omega, by go_num, HB5, HE5⟩
        case measure => simp [intOf]; omega
      | false =>
        have Hr := hid (show R = false by rw [← HR.out]; exact allz_no Ha.out Hb.out hp)
        clear c0 c1 d0 d1 n0 n1 n2 hb5 hp HC
        go_wp2_with fail
        go_ret
        exact ⟨ret_b Hr.out, HB5.out⟩
    · obtain rfl : j = m := by omega
      have Hr := hid (show R = true by
        rw [← HR.out, List.all_eq_true]
        rintro ⟨a, b⟩ hm
        obtain ⟨i, hi, e⟩ := List.mem_iff_getElem.1 hm
        have h1 := List.getElem?_eq_getElem hi
        rw [e, List.getElem?_zip_eq_some] at h1
        exact HE.out i a b (by have := (List.getElem?_eq_some_iff.1 h1.1).1; rw [HL.out] at this; exact this) h1.1 h1.2)
      go_wp2_with fail
      go_ret
      exact ⟨ret_b Hr.out, HB.out⟩
set_option maxHeartbeats 3200000 in
theorem equalFnS_any (P : ZH → ZH → Bool) (x y : ZL) (ex ex' : List (Option Nat)) (w : World) (hx : ZLok w ex x) (hy : ZLok w ex' y) (hn : x.n = y.n)
    (hfn : ∀ (a b : ZH) (u : World), a ∈ x.l → b ∈ y.l → Below w.heap.size w u → Calls Try.prog 29 #[.agg #[.int .i64 a.W, .slice a.A a.n a.c], .agg #[.int .i64 b.W, .slice b.A b.n b.c]] u fun e w' => e = .returned (.bool (P a b)) ∧ Below u.heap.size u w') :
    Calls Try.prog 59 #[.slice x.A x.n x.c, .slice y.A y.n y.c, .func (Fn.func 29) #[] #[]] w fun e w' => e = .returned (.bool ((x.l.zip y.l).all fun p => P p.1 p.2)) ∧ Below w.heap.size w w' := by
  have hfew := hx.few
  have HX := hid hx
  have HY := hid hy
  have Hfn := hid hfn
  clear hx hy hfn
  obtain ⟨A, n, c, l⟩ := x
  obtain ⟨B, m, d, k⟩ := y
  simp only at hn hfew
  have hn := hn.symm
  subst hn
  have HL := hid (show l.length = m from HX.out.len)
  have HM := hid (show k.length = m from HY.out.len)
  simp only at *
  generalize hR : ((l.zip k).all fun p => P p.1 p.2) = R at *
  have HR := hid hR
  clear hR
  go_enter Try.func59, Try.ntmps59
  go_wp2_with fail
  go_loopw [7, 8, 9, 17] (fun _ _ _ iv wr => ∃ j : Nat, j ≤ m ∧ iv = .int .i64 j ∧ Hid (Below w.heap.size w wr) ∧ Hid (∀ i a b, i < j → l[i]? = some a → k[i]? = some b → P a b = true)) (fun _ _ _ iv _ => m - (intOf iv).toNat)
  case atStart => exact ⟨0, by omega, rfl, hid (Below.refl _ _), hid (fun i a b hi => by omega)⟩
  case round =>
    obtain ⟨j, hj, rfl, HB, HE⟩ := hrel
    by_cases hlt : j < m
    · obtain ⟨a, ha, ham⟩ := get_at HL.out hlt
      obtain ⟨b, hb, hbm⟩ := get_at HM.out hlt
      obtain ⟨ad, hA, had, c0, c1⟩ := (HX.out.below HB.out).cell ha
      simp only at hA
      subst hA
      have hba := (Below.refl wr.heap.size wr).alloc (Nat.le_refl _) (.cells #[.int .i64 a.W, .slice a.A a.n a.c] 41)
      have HB2 := hid (below_step HB.out hba)
      obtain ⟨ad2, hA2, had2, d0, d1⟩ := (HY.out.below HB2.out).cell hb
      simp only at hA2
      subst hA2
      have HB3 := hid (HB2.out.alloc HB2.out.size (.cells #[.int .i64 b.W, .slice b.A b.n b.c] 41))
      have n0 : (0 : Int) ≤ j := by omega
      have n1 : (j : Int) < m := by omega
      have n2 : (j : Int).toNat = j := by omega
      have HC := hid (Hfn.out a b _ ham hbm HB3.out)
      have Ha := hid ha
      have Hb := hid hb
      clear hba ha hb ham hbm
      go_wp2_with fail
      refine HC.out.mono ?_
      rintro e w5 ⟨rfl, hb5⟩
      have HB5 := hid (below_step HB3.out hb5)
      cases hp : P a b with
      | true =>
        have HE5 := hid (show ∀ i a b, i < j + 1 → l[i]? = some a → k[i]? = some b → P a b = true from fun i a' b' hi h1 h2 => by
          by_cases e : i = j
          · subst e
            rw [Ha.out] at h1
            rw [Hb.out] at h2
            obtain rfl := Option.some.inj h1
            obtain rfl := Option.some.inj h2
            exact hp
          · exact HE.out i a' b' (by omega) h1 h2)
        clear c0 c1 d0 d1 n0 n1 n2 hb5 hp HC
        go_wp2_with fail
        go_roundw
        case rel => exact ⟨j + 1, by omega, by go_num, HB5, HE5⟩
        case measure => simp [intOf]; omega
      | false =>
        have Hr := hid (show R = false by rw [← HR.out]; exact allz_no Ha.out Hb.out hp)
        clear c0 c1 d0 d1 n0 n1 n2 hb5 hp HC
        go_wp2_with fail
        go_ret
        exact ⟨ret_b Hr.out, HB5.out⟩
    · obtain rfl : j = m := by omega
      have Hr := hid (show R = true by
        rw [← HR.out, List.all_eq_true]
        rintro ⟨a, b⟩ hm
        obtain ⟨i, hi, e⟩ := List.mem_iff_getElem.1 hm
        have h1 := List.getElem?_eq_getElem hi
        rw [e, List.getElem?_zip_eq_some] at h1
        exact HE.out i a b (by have := (List.getElem?_eq_some_iff.1 h1.1).1; rw [HL.out] at this; exact this) h1.1 h1.2)
      go_wp2_with fail
      go_ret
      exact ⟨ret_b Hr.out, HB.out⟩
end Go.Proofs.Ytmnbidpoceknlaa

namespace Go.Proofs.Ytmnbidpoceknlaa
set_option maxRecDepth 20000
set_option linter.unusedVariables false
set_option linter.unusedSimpArgs false
open Go.ChangeShapes Go.WideShapes Go.ChangeAt Go.RowKit

def eqZ (a b : ZH) : Bool := equalB a.W a.ws b.W b.ws
def suZ (a b : ZH) : Bool := subsetB a.W a.ws b.W b.ws
theorem zip_eq {v N : Nat} (hv : v ≤ 256) {l m : List ZH} (hl : l.length = N) (hm : m.length = N) (h1 : ∀ z ∈ l, z.W = v ∧ Bs.Fit v z.ws) (h2 : ∀ z ∈ m, z.W = v ∧ Bs.Fit v z.ws) : (l.zip m).all (fun p => eqZ p.1 p.2) = decide (l.map ZH.ws = m.map ZH.ws) := by
  have key : ∀ (a b : ZH), (a.W = v ∧ Bs.Fit v a.ws) → (b.W = v ∧ Bs.Fit v b.ws) → eqZ a b = decide (a.ws = b.ws) := fun a b ha hb => by
    unfold eqZ equalB sameB
    rw [ha.1, hb.1, Bs.valid_of_fit ha.2 hv, Bs.valid_of_fit hb.2 hv]
    simp
  have len : l.length = m.length := by omega
  clear hl hm
  induction l generalizing m with
  | nil => cases m with
    | nil => simp
    | cons b m => simp at len
  | cons a l ih => cases m with
    | nil => simp at len
    | cons b m =>
      rw [List.zip_cons_cons, List.all_cons, ih (fun z hz => h1 z (List.mem_cons_of_mem _ hz)) (fun z hz => h2 z (List.mem_cons_of_mem _ hz)) (by simpa using len), key a b (h1 a List.mem_cons_self) (h2 b List.mem_cons_self), List.map_cons, List.map_cons, ← Bool.decide_and]
      congr 1
      simp
theorem zl_vrow {w : World} {g N : Nat} {l : List ZH} (h : VRow w g N l) (hN : N ≤ 256) : ZLok w [] ⟨some ⟨g, 0, none⟩, N, N, l⟩ := h.zl (by omega)
set_option maxHeartbeats 3200000 in
theorem isSolution_any (s : SY) (y : ZL) (v N : Nat) (ex ex' : List (Option Nat)) (w : World) (h : SYok w ex s) (hy : ZLok w ex' y) (ho : SOk s v N) (hvo : VOk y v N) :
    Calls Try.prog 24 #[s.a, .slice y.A y.n y.c] w fun e w' => e = .returned (.bool (decide (s.pw.rights y.vs = y.vs))) ∧ Below w.heap.size w w' := by
  have hv := ho.v256
  have hN := ho.n256
  have hyn := hvo.n
  have Hb0 := hid ((Below.refl w.heap.size w).alloc (Nat.le_refl _) (.cells s.box 27))
  have HNx := hid (fun (u : World) (hu : Below w.heap.size w u) => next2_any s y v N ex ex' u (h.below hu) (hy.below hu) ho hvo)
  have HY := hid (fun (u : World) (hu : Below w.heap.size w u) => hy.below hu)
  have Hvo := hid hvo
  clear h ho hy hvo
  generalize hq : s.pw.rights y.vs = vals at *
  clear hq
  unfold SY.a at *
  unfold SY.box at *
  obtain ⟨YA, yn, yc, yl⟩ := y
  simp only at hyn
  have hyn := hyn.symm
  subst hyn
  simp only at *
  go_enter Try.func24, Try.ntmps24
  go_wp2_with fail
  refine (HNx.out _ Hb0.out).mono ?_
  rintro e w2 ⟨g, l, rfl, hg, hrow, hok, hvs, hb2⟩
  have Hb2 := hid (below_step Hb0.out hb2)
  have HE := hid (equalFnE_any eqZ ⟨some ⟨g, 0, none⟩, N, N, l⟩ ⟨YA, N, yc, yl⟩ [] ex' w2 (zl_vrow hrow hN) (HY.out _ Hb2.out) rfl (fun a b u ha hb hu => by
    have hfa := (hok a ha).2
    have hA := ((zl_vrow hrow hN).below hu).all a ha
    have hB := ((HY.out _ Hb2.out).below hu).all b hb
    refine devEqual_any a.W b.W a.A b.A a.n a.c b.n b.c a.ws b.ws u hA.arg hB.arg ?_
    rw [← hA.len, hfa.len]
    unfold Bs.nw maxLen; omega))
  rw [show ((⟨some ⟨g, 0, none⟩, N, N, l⟩ : ZL).l.zip (⟨YA, N, yc, yl⟩ : ZL).l).all (fun p => eqZ p.1 p.2) = decide (vals = ZL.vs ⟨YA, N, yc, yl⟩) by
    rw [zip_eq hv (l := l) (m := yl) hrow.len (HY.out _ Hb2.out).len hok Hvo.out.all, hvs]; rfl] at HE
  simp only at HE
  clear hg hrow hok hvs hb2 HNx Hb0
  go_wp2_with fail
  refine HE.out.mono ?_
  rintro e w3 ⟨rfl, hb3⟩
  have Hb3 := hid (below_step Hb2.out hb3)
  clear hb3 HE
  go_wp2_with fail
  go_ret
  exact ⟨rfl, Hb3.out⟩
end Go.Proofs.Ytmnbidpoceknlaa

namespace Go.Proofs.Ytmnbidpoceknlaa
set_option maxRecDepth 20000
set_option linter.unusedVariables false
set_option linter.unusedSimpArgs false
open Go.ChangeShapes Go.WideShapes Go.ChangeAt Go.RowKit

def loopP : PW := ⟨2, [[0]], [[(0, ⟨[0], [0], []⟩)]]⟩
theorem loop_last : loopP.Last 0 := ⟨by kernel_rfl, fun k hk => by omega⟩
theorem loop_zero : loopP.round 0 = [[0]] := by kernel_rfl
theorem loop_full : loopP.rights [[3]] = [[3]] := by kernel_rfl
def RetLoop (w : World) (e : Ending) (w' : World) : Prop :=
  ∃ s : SY, e = .returned s.a ∧ SYok w' [] s ∧ SOk s 2 1 ∧ s.pw = loopP ∧ Below w.heap.size w w'
theorem loop_sys {w : World} {h h1 hT hB g1 g2 g3 n : Nat} (a1 : Fb w h #[.int .i64 0] 3) (a2 : Fb w h1 #[.slice (some ⟨h, 0, none⟩) 1 1] 22) (a3 : Fb w hT #[.int .i64 2, .slice (some ⟨g1, 0, none⟩) (Bs.nw 2) (Bs.nw 2), .int .i64 2, .slice (some ⟨g2, 0, none⟩) (Bs.nw 2) (Bs.nw 2), .slice none 0 0] 70) (r1 : Row w g1 (Bs.emp 2)) (r2 : Row w g2 (Bs.emp 2)) (a4 : Fb w hB #[.int .i64 2, .slice (some ⟨g3, 0, none⟩) n n] 41) (r3 : Row w g3 (Bs.emp 2)) (hn : n = Bs.nw 2) :
    SYok w [] ⟨2, ⟨some ⟨h1, 0, none⟩, 1, 1, [⟨some ⟨h, 0, none⟩, 1, 1, [0]⟩]⟩, ⟨some ⟨hT, 0, none⟩, 1, 1, [⟨⟨2, some ⟨g1, 0, none⟩, Bs.nw 2, Bs.nw 2, Bs.emp 2⟩, ⟨2, some ⟨g2, 0, none⟩, Bs.nw 2, Bs.nw 2, Bs.emp 2⟩, none, 0, 0, []⟩]⟩, ⟨some ⟨hB, 0, none⟩, 1, 1, [⟨2, some ⟨g3, 0, none⟩, n, n, Bs.emp 2⟩]⟩⟩ := by
  subst hn
  have z : ∀ {g : Nat}, Row w g (Bs.emp 2) → ZHok w [] ⟨2, some ⟨g, 0, none⟩, Bs.nw 2, Bs.nw 2, Bs.emp 2⟩ := fun hr => ⟨EAt.fb hr (by simp) (fun j x hx => by simpa using hx), rfl, (Bs.fit_emp 2).ok⟩
  refine ⟨⟨EAt.fb a2 (by simp) (fun j x hx => by simpa [RH.v] using hx), rfl, by show 1 ≤ 9223372036854775807; omega, fun y hy => ?_⟩, ⟨EAt.fb a3 (by simp) (fun j x hx => by simpa [FH.cells] using hx), rfl, by show 1 ≤ 9223372036854775807; omega, fun y hy => ?_⟩, ⟨EAt.fb a4 (by simp) (fun j x hx => by simpa [ZH.cs] using hx), rfl, by show 1 ≤ 9223372036854775807; omega, fun y hy => ?_⟩⟩
  · rw [List.mem_singleton.1 hy]
    exact ⟨EAt.fb a1 (by simp) (fun j x hx => by simpa [ints] using hx), rfl, by show 1 ≤ 9223372036854775807; omega⟩
  · rw [List.mem_singleton.1 hy]
    exact ⟨z r1, z r2, EAt.nil _ _ _, rfl⟩
  · rw [List.mem_singleton.1 hy]
    exact z r3
theorem loop_ok (h h1 hT hB g1 g2 g3 n : Nat) (hn : n = Bs.nw 2) : SOk ⟨2, ⟨some ⟨h1, 0, none⟩, 1, 1, [⟨some ⟨h, 0, none⟩, 1, 1, [0]⟩]⟩, ⟨some ⟨hT, 0, none⟩, 1, 1, [⟨⟨2, some ⟨g1, 0, none⟩, Bs.nw 2, Bs.nw 2, Bs.emp 2⟩, ⟨2, some ⟨g2, 0, none⟩, Bs.nw 2, Bs.nw 2, Bs.emp 2⟩, none, 0, 0, []⟩]⟩, ⟨some ⟨hB, 0, none⟩, 1, 1, [⟨2, some ⟨g3, 0, none⟩, n, n, Bs.emp 2⟩]⟩⟩ 2 1 := by
  refine ⟨rfl, by omega, by omega, by omega, rfl, rfl, rfl, fun y hy => ?_, by show tot [[0]] ≤ 1024; decide, fun y hy => ?_, fun y hy => ?_⟩
  · rw [List.mem_singleton.1 hy]
    exact ⟨by simp, fun x hx => by rw [List.mem_singleton.1 hx]; omega⟩
  · rw [List.mem_singleton.1 hy]
    exact ⟨rfl, rfl, show validT 2 (Bs.emp 2) 2 (Bs.emp 2) [] = true by kernel_rfl⟩
  · rw [List.mem_singleton.1 hy]
    exact ⟨rfl, Bs.fit_emp 2⟩
theorem loop_any (w : World) : Calls Try.prog 47 #[] w (RetLoop w) := by
  have HR := hid (((Fb.new w #[.int .i64 0, .slice none 0 0, .slice none 0 0, .slice none 0 0] 27).alloc (.cells #[.int .i64 0] 3)).alloc (.cells #[.slice (some ⟨w.heap.size + 1, 0, none⟩) 1 1] 22))
  have HB := hid (((((Below.refl w.heap.size w).alloc (Nat.le_refl _) (.cells #[.int .i64 0, .slice none 0 0, .slice none 0 0, .slice none 0 0] 27)).alloc (by simp) (.cells #[.int .i64 0] 3))).alloc (by simp; omega) (.cells #[.slice (some ⟨w.heap.size + 1, 0, none⟩) 1 1] 22))
  have HA1 := hid (show Fb (((w.alloc (.cells #[.int .i64 0, .slice none 0 0, .slice none 0 0, .slice none 0 0] 27)).alloc (.cells #[.int .i64 0] 3)).alloc (.cells #[.slice (some ⟨w.heap.size + 1, 0, none⟩) 1 1] 22)) (w.heap.size + 1) #[.int .i64 0] 3 from by
    have := (Fb.new (w.alloc (.cells #[.int .i64 0, .slice none 0 0, .slice none 0 0, .slice none 0 0] 27)) #[.int .i64 0] 3).alloc (.cells #[.slice (some ⟨w.heap.size + 1, 0, none⟩) 1 1] 22)
    rwa [World.size_alloc] at this)
  have HA2 := hid (show Fb (((w.alloc (.cells #[.int .i64 0, .slice none 0 0, .slice none 0 0, .slice none 0 0] 27)).alloc (.cells #[.int .i64 0] 3)).alloc (.cells #[.slice (some ⟨w.heap.size + 1, 0, none⟩) 1 1] 22)) (w.heap.size + 2) #[.slice (some ⟨w.heap.size + 1, 0, none⟩) 1 1] 22 from by
    have := Fb.new ((w.alloc (.cells #[.int .i64 0, .slice none 0 0, .slice none 0 0, .slice none 0 0] 27)).alloc (.cells #[.int .i64 0] 3)) #[.slice (some ⟨w.heap.size + 1, 0, none⟩) 1 1] 22
    rwa [World.size_alloc, World.size_alloc] at this)
  go_enter Try.func47, Try.ntmps47
  go_wp2_with fail
  refine (refIdentity_any 2 _ (by omega)).mono ?_
  generalize ((w.alloc (.cells #[.int .i64 0, .slice none 0 0, .slice none 0 0, .slice none 0 0] 27)).alloc (.cells #[.int .i64 0] 3)).alloc (.cells #[.slice (some ⟨w.heap.size + 1, 0, none⟩) 1 1] 22) = w0 at *
  rintro e w1 ⟨g1, g2, rfl, ⟨hg1, hr1⟩, ⟨hg2, hr2⟩, hb1⟩
  have hba := (Below.refl w1.heap.size w1).alloc (Nat.le_refl _) (.cells #[.int .i64 2, .slice (some ⟨g1, 0, none⟩) (Bs.nw 2) (Bs.nw 2), .int .i64 2, .slice (some ⟨g2, 0, none⟩) (Bs.nw 2) (Bs.nw 2), .slice none 0 0] 70)
  have hb2 := below_step hb1 hba
  have HR2 := hid (HR.out.below hb2 HR.out.lt)
  have HB2 := hid (below_step HB.out hb2)
  have HA12 := hid (HA1.out.below hb2 HA1.out.lt)
  have HA22 := hid (HA2.out.below hb2 HA2.out.lt)
  have HT := hid (Fb.new w1 #[.int .i64 2, .slice (some ⟨g1, 0, none⟩) (Bs.nw 2) (Bs.nw 2), .int .i64 2, .slice (some ⟨g2, 0, none⟩) (Bs.nw 2) (Bs.nw 2), .slice none 0 0] 70)
  have Hr1 := hid (hr1.below hba hr1.lt)
  have Hr2 := hid (hr2.below hba hr2.lt)
  have Hgg := hid (And.intro hg1 hg2)
  have Hsz := hid (show w.heap.size + 2 < w0.heap.size from HA2.out.lt)
  have Hs1 := hid hb1.size
  clear hg1 hr1 hg2 hr2 hb1 hba hb2 HR HB HA1 HA2
  go_wp2_with fail
  refine (refEmpty_any 2 _ (by omega)).mono ?_
  have HhT := hid (show w.heap.size + 2 < w1.heap.size by have := Hsz.out; have := Hs1.out; omega)
  generalize w1.alloc (.cells #[.int .i64 2, .slice (some ⟨g1, 0, none⟩) (Bs.nw 2) (Bs.nw 2), .int .i64 2, .slice (some ⟨g2, 0, none⟩) (Bs.nw 2) (Bs.nw 2), .slice none 0 0] 70) = w2 at *
  generalize w1.heap.size = hT at *
  rintro e w3 ⟨g3, rfl, hg3, hr3, hb3⟩
  rw [len_emp]
  have hba := (Below.refl w3.heap.size w3).alloc (Nat.le_refl _) (.cells #[.int .i64 2, .slice (some ⟨g3, 0, none⟩) (Bs.nw 2) (Bs.nw 2)] 41)
  have hb4 := below_step hb3 hba
  have HR3 := hid (HR2.out.below hb3 HR2.out.lt)
  have HB3 := hid (below_step HB2.out hb4)
  have HA13 := hid (HA12.out.below hb4 HA12.out.lt)
  have HA23 := hid (HA22.out.below hb4 HA22.out.lt)
  have HT3 := hid (HT.out.below hb4 HT.out.lt)
  have Hr13 := hid (Hr1.out.below hb4 Hr1.out.lt)
  have Hr23 := hid (Hr2.out.below hb4 Hr2.out.lt)
  have Hr33 := hid (hr3.below hba hr3.lt)
  have Hg3 := hid (show w.heap.size + 2 < g3 by have := HA22.out.lt; omega)
  have Hs3 := hid (show w.heap.size + 2 < w3.heap.size by have := HA22.out.lt; have := hb3.size; omega)
  have HB4 := hid (Fb.new w3 #[.int .i64 2, .slice (some ⟨g3, 0, none⟩) (Bs.nw 2) (Bs.nw 2)] 41)
  clear hg3 hr3 hb3 hba hb4 HR2 HB2 HA12 HA22 HT Hr1 Hr2
  obtain ⟨w4, hw4⟩ : ∃ w4, w4 = w3.alloc (.cells #[.int .i64 2, .slice (some ⟨g3, 0, none⟩) (Bs.nw 2) (Bs.nw 2)] 41) := ⟨_, rfl⟩
  rw [← hw4] at HB3 HA13 HA23 HT3 Hr13 Hr23 Hr33 HB4
  have HA23 : Hid (Fb w4 (w.heap.size + 1 + 1) #[.slice (some ⟨w.heap.size + 1, 0, none⟩) 1 1] 22) := HA23
  have hgr := grown_trans (grown_trans (grown_trans (setCell_grown w4 ⟨w.heap.size, 0, none⟩ (.int .i64 2)) (setCell_grown _ ⟨w.heap.size, 1, none⟩ (.slice (some ⟨w.heap.size + 1 + 1, 0, none⟩) 1 1))) (setCell_grown _ ⟨w.heap.size, 2, none⟩ (.slice (some ⟨hT, 0, none⟩) 1 1))) (setCell_grown _ ⟨w.heap.size, 3, none⟩ (.slice (some ⟨w3.heap.size, 0, none⟩) 1 1))
  have hfin := HB3.out.setCell (p := ⟨w.heap.size, 0, none⟩) (by simp) (.int .i64 2) |>.setCell (p := ⟨w.heap.size, 1, none⟩) (by simp) (.slice (some ⟨w.heap.size + 1 + 1, 0, none⟩) 1 1) |>.setCell (p := ⟨w.heap.size, 2, none⟩) (by simp) (.slice (some ⟨hT, 0, none⟩) 1 1) |>.setCell (p := ⟨w.heap.size, 3, none⟩) (by simp) (.slice (some ⟨w3.heap.size, 0, none⟩) 1 1)
  have n1 := Hgg.out.1
  have n2 := Hgg.out.2
  have n0 := Hsz.out
  have n3 := HhT.out
  have n4 := Hg3.out
  have n5 := Hs3.out
  have far : ∀ {k : Nat}, w.heap.size < k → some k ≠ some (⟨w.heap.size, 0, none⟩ : Addr).block := fun hk e => by have := Option.some.inj e; simp only at this; omega
  have hsys := loop_sys (HA13.out.grown hgr (far (by omega))) (HA23.out.grown hgr (far (by omega))) (HT3.out.grown hgr (far (by omega))) ((hgr.block g1 Hr13.out.lt (far (by omega))).trans Hr13.out) ((hgr.block g2 Hr23.out.lt (far (by omega))).trans Hr23.out) (HB4.out.grown hgr (far (by omega))) ((hgr.block g3 Hr33.out.lt (far (by omega))).trans Hr33.out) rfl
  have Hfin := hid (show RetLoop w (.returned (.agg #[.int .i64 2, .slice (some ⟨w.heap.size + 1 + 1, 0, none⟩) 1 1, .slice (some ⟨hT, 0, none⟩) 1 1, .slice (some ⟨w3.heap.size, 0, none⟩) 1 1])) _ from ⟨_, rfl, hsys, loop_ok _ _ _ _ _ _ _ _ rfl, by kernel_rfl, hfin⟩)
  clear hgr hfin hsys far n0 n1 n2 n3 n4 n5 HB3 HA13 HA23 HT3 Hr13 Hr23 Hr33 HB4
  rw [hw4] at Hfin
  clear hw4
  obtain ⟨r0, r1, r2, r3⟩ := HR3.out.four
  have f0 := HR3.out.frozen 0
  have f1 := HR3.out.frozen 1
  have f2 := HR3.out.frozen 2
  have f3 := HR3.out.frozen 3
  have hl : w.heap.size < w3.heap.size := by have := Hs3.out; omega
  go_wp2_with fail
  refine bodyPost_ret (v := .agg #[.int .i64 2, .slice (some ⟨w.heap.size + 1 + 1, 0, none⟩) 1 1, .slice (some ⟨hT, 0, none⟩) 1 1, .slice (some ⟨w3.heap.size, 0, none⟩) 1 1]) (by simp [results, Try.results47, go_sem, r0, r1, r2, r3, hl]) rfl ?_
  have h := Hfin.out
  simp only [World.setCell_alloc_past, World.size_setCell, hl] at h
  exact h
end Go.Proofs.Ytmnbidpoceknlaa

namespace Go.Proofs.Ytmnbidpoceknlaa
set_option maxRecDepth 20000
set_option linter.unusedVariables false
set_option linter.unusedSimpArgs false
open Go.ChangeShapes Go.WideShapes Go.ChangeAt Go.RowKit

theorem full2b : Bs.ofP 2 (fun _ => true) 2 = [3] := by rfl
theorem emp2b : Bs.emp 2 = [0] := by rfl
theorem loopSol (s : SY) (g n c : Nat) (A : Option Addr) (w : World) (hs : SYok w [] s) (ho : SOk s 2 1) (hp : s.pw = loopP) (hf : Fb w g #[.int .i64 2, .slice A n c] 41) (ha : Arg w A n [3]) :
    Calls Try.prog 24 #[s.a, .slice (some ⟨g, 0, none⟩) 1 1] w fun e w' => e = .returned (.bool true) ∧ Below w.heap.size w w' := by
  have hz : ZHok w [] ⟨2, A, n, c, [3]⟩ := ⟨by
    rcases ha.lies with e | ⟨ad, e, hb, hc⟩
    · exact .inl e
    · exact .inr ⟨ad, e, ⟨hb, by simp⟩, hc⟩, ha.len, ha.ok⟩
  have hy : ZLok w [] ⟨some ⟨g, 0, none⟩, 1, 1, [⟨2, A, n, c, [3]⟩]⟩ := ⟨EAt.fb hf (by simp) (fun j x hx => by simpa [ZH.cs] using hx), rfl, by show 1 ≤ 9223372036854775807; omega, fun y hy => by rw [List.mem_singleton.1 hy]; exact hz⟩
  have hvo : VOk ⟨some ⟨g, 0, none⟩, 1, 1, [⟨2, A, n, c, [3]⟩]⟩ 2 1 := ⟨rfl, fun y hy => by
    rw [List.mem_singleton.1 hy]
    refine ⟨rfl, ?_⟩
    show Bs.Fit 2 [3]
    rw [← full2b]
    exact Bs.fit_ofP 2 (fun _ => true) 2 (Nat.le_refl _)⟩
  refine (isSolution_any s _ 2 1 [] [] w hs hy ho hvo).mono ?_
  rintro e w' ⟨rfl, hb⟩
  refine ⟨?_, hb⟩
  rw [hp, show ZL.vs ⟨some ⟨g, 0, none⟩, 1, 1, [⟨2, A, n, c, [3]⟩]⟩ = [[3]] from rfl, loop_full]
  simp
set_option maxHeartbeats 6400000 in
theorem sane11_any (w : World) : Calls Try.prog 16 #[] w fun e w' => e = .returned (.bool true) ∧ Below w.heap.size w w' := by
  go_enter Try.func16, Try.ntmps16
  go_wp2_with fail
  refine (loop_any _).mono ?_
  rintro e w1 ⟨s, rfl, hs, ho, hp, hb1⟩
  have HC := hid (solve_any s 2 1 [] w1 hs ho)
  have Hp := hid hp
  have Hb1 := hid hb1
  clear hs ho hp hb1
  generalize s.a = sv at *
  go_wp2_with fail
  refine HC.out.mono ?_
  rintro e w2 ⟨K, g, l, hK, rfl, hg, hrow, hok, hvs, hb2⟩
  rw [Hp.out] at hK hvs
  obtain rfl : K = 0 := hK.unique loop_last
  rw [loop_zero] at hvs
  have Hb2 := hid (below_step Hb1.out hb2)
  obtain ⟨z, hz, hzm⟩ := get_at hrow.len (show 0 < 1 by omega)
  obtain ⟨c0, c1⟩ := hrow.cells hz
  obtain ⟨hzW, hzf⟩ := hok z hzm
  have hza := hrow.all z hzm
  have hzs : z.ws = [0] := by
    have h1 := congrArg (fun l => l[0]?) hvs
    simp only [List.getElem?_map, hz, Option.map_some, List.getElem?_cons_zero] at h1
    exact Option.some.inj h1
  obtain ⟨ZW, ZA, zn, zc, zs⟩ := z
  simp only at hzW hzs c0 c1 hza
  subst hzW
  subst hzs
  have hgl := hrow.lt
  have HK := hid (fun (u : World) (hu : Below w2.heap.size w2 u) => And.intro ((hu.cell (p := ⟨g, 0, none⟩) hgl).trans c0) ((hu.cell (p := ⟨g, 1, none⟩) hgl).trans c1))
  have Hza := hid hza
  have hzn : zn ≤ maxLen := by rw [← hza.len]; decide
  have Hcur := hid ((Below.refl w2.heap.size w2).drew)
  clear hK hvs hok hrow hb2 hz hzm hzf hza c0 c1 HC Hp Hb1 hg
  go_upto_region 2 with fail
  go_region_held3 (fun u => u.cell? ⟨g, 0, none⟩ = some (.int .i64 2) ∧ u.cell? ⟨g, 1, none⟩ = some (.slice ZA zn zc))
    (first | exact HK.out _ Hcur.out | exact HK.out _ (Hcur.out.alloc Hcur.out.size _))
    (first
     | (go_at_call 41
        go_must (
        refine (refEmpty_any 2 _ (by omega)).mono ?_
        rw [emp2b]
        rintro e wn ⟨gE, rfl, hgE, hrE, hbk⟩
        have HrE := hid (hrE.arg (by decide))
        have Hcur := hid (below_step Hcur.out hbk)
        clear hgE hrE hbk))
     | (go_at_call 48
        go_must (
        refine (refSame_any 2 2 ZA (some ⟨gE, 0, none⟩) zn zc 1 1 [0] [0] _ (Hza.out.below Hcur.out) HrE.out hzn).mono ?_
        rw [show sameB 2 [0] 2 [0] = true from rfl]
        rintro e wn ⟨rfl, hbk⟩
        have Hcur := hid (below_step Hcur.out hbk)
        clear hbk))
     | (go_at_call 47
        go_must (
        refine (loop_any _).mono ?_
        rintro e wn ⟨s2, rfl, hs2, ho2, hp2, hbk⟩
        have Hs2 := hid hs2
        have Ho2 := hid ho2
        have Hp2 := hid hp2
        have Hcur := hid (below_step Hcur.out hbk)
        clear hs2 ho2 hp2 hbk))
     | (go_at_call 49
        go_must (
        refine (refFull_any 2 _ (by omega)).mono ?_
        rw [full2b]
        rintro e wn ⟨AF, nF, cF, rfl, haF, hbk⟩
        have HaF := hid haF
        have Hs2 := hid (Hs2.out.below hbk)
        have Hcur := hid (below_step Hcur.out hbk)
        clear haF hbk))
     | (go_at_call 24
        go_must (
        refine (loopSol s2 _ nF cF AF _ (Hs2.out.below ((Below.refl _ _).alloc (Nat.le_refl _) _)) Ho2.out Hp2.out (Fb.new _ _ _) (HaF.out.below ((Below.refl _ _).alloc (Nat.le_refl _) _))).mono ?_
        rintro e wn ⟨rfl, hbk⟩
        have Hcur := hid (below_step (Hcur.out.alloc Hcur.out.size _) hbk)
        clear hbk)))
  all_goals
    go_wp2_with fail
    go_ret
    exact ⟨rfl, below_step Hb2.out Hcur.out⟩
end Go.Proofs.Ytmnbidpoceknlaa

namespace Go.Proofs.Ytmnbidpoceknlaa
set_option maxRecDepth 20000
open Go.ChangeShapes Go.WideShapes Go.ChangeAt Go.RowKit

theorem ex1a : applyR 2 [0] 2 [2] [(0, 1)] 2 [1] = (2, [3], 0) := by rfl
theorem ex1b : applyR 2 [0] 2 [2] [(0, 1)] 2 [2] = (2, [0], 0) := by rfl
theorem put0 : Bs.put (Bs.emp 2) 0 = [1] := by rfl
theorem put1 : Bs.put (Bs.emp 2) 1 = [2] := by rfl
theorem emp2 : Bs.emp 2 = [0] := by rfl
theorem full2 : Bs.ofP 2 (fun _ => true) 2 = [3] := by rfl

/-- A function in a variable: its block, its words, its copies. -/
structure VarT (w : World) (b : Nat) (W : Int) (gs ks : List Nat) (cs : List (Int × Int)) (A : Option Addr) (n c : Nat) (B : Option Addr) (m d : Nat) (C : Option Addr) (k q : Nat) : Prop where
  box : Fb w b #[.int .i64 W, .slice A n c, .int .i64 W, .slice B m d, .slice C k q] 70
  gen : Arg w A n gs
  kill : Arg w B m ks
  cops : ArgC w C k cs
theorem VarT.below {w w' : World} {b : Nat} {W : Int} {gs ks : List Nat} {cs : List (Int × Int)} {A : Option Addr} {n c : Nat} {B : Option Addr} {m d : Nat} {C : Option Addr} {k q : Nat} (h : VarT w b W gs ks cs A n c B m d C k q) (hb : Below w.heap.size w w') :
    VarT w' b W gs ks cs A n c B m d C k q := ⟨h.box.below hb h.box.lt, h.gen.below hb, h.kill.below hb, h.cops.below hb⟩
theorem pairs_lit (w : World) (cs : List (Int × Int)) (xs : Array Value) (h : xs.toList = pairs cs) : ArgC (w.alloc (.cells xs 103)) (some ⟨w.heap.size, 0, none⟩) cs.length cs := by
  refine ⟨.inr ⟨_, rfl, by simp, fun j u hu => ?_⟩, rfl⟩
  rw [add_of, World.cell?_alloc_at _ _ _ _ rfl]
  rw [← h] at hu
  simpa using hu


theorem Box.four {w : World} {b : Nat} {W : Int} {A : Option Addr} {n c : Nat} (h : Box w b W A n c) : w.cell? ⟨b, 0, none⟩ = some (.int .i64 W) ∧ w.cell? ⟨b, 1, none⟩ = some (.slice A n c) ∧ w.frozen? ⟨b, 0, none⟩ = false ∧ w.frozen? ⟨b, 1, none⟩ = false := ⟨h.c0, h.c1, h.f 0, h.f 1⟩
/-- The result's variable, made before a call. -/
def Fresh (W w : World) (b : Nat) : Prop := Box w b 0 none 0 0 ∧ W.heap.size ≤ b
theorem Fresh.mk {W w0 w1 : World} (h0 : Below W.heap.size W w0) (hb : Below (w0.alloc (.cells #[.int .i64 0, .slice none 0 0] 41)).heap.size (w0.alloc (.cells #[.int .i64 0, .slice none 0 0] 41)) w1) : Fresh W w1 w0.heap.size :=
  ⟨(Box.new w0 0 none 0 0).below hb (by simp), h0.size⟩
theorem Fresh.mkD {w0 w1 : World} (hb : Below (w0.alloc (.cells #[.int .i64 0, .slice none 0 0] 41)).drew.heap.size (w0.alloc (.cells #[.int .i64 0, .slice none 0 0] 41)).drew w1) : Fresh w0 w1 w0.heap.size :=
  ⟨(show Box (w0.alloc (.cells #[.int .i64 0, .slice none 0 0] 41)).drew w0.heap.size 0 none 0 0 from Box.new w0 0 none 0 0).below hb (by show w0.heap.size < (w0.alloc _).heap.size; simp), Nat.le_refl _⟩
theorem Fresh.below {W w w1 : World} {b : Nat} (h : Fresh W w b) (hb : Below w.heap.size w w1) : Fresh W w1 b := ⟨h.1.below hb h.1.lt, h.2⟩
theorem Fresh.stored {W w : World} {b : Nat} (h : Fresh W w b) (hb : Below W.heap.size W w) (V : Int) (B : Option Addr) (m d : Nat) : Below W.heap.size W ((w.setCell ⟨b, 0, none⟩ (.int .i64 V)).setCell ⟨b, 1, none⟩ (.slice B m d)) :=
  (hb.setCell (by exact h.2) _).setCell (by exact h.2) _

end Go.Proofs.Ytmnbidpoceknlaa

namespace Go.Proofs.Ytmnbidpoceknlaa
set_option maxRecDepth 20000
open Go.ChangeShapes Go.WideShapes Go.ChangeAt Go.RowKit

theorem new_any (A : Option Addr) (n c : Nat) (w : World) :
    Calls Try.prog 11 #[.slice A n c] w fun e w' => e = .returned (.pointer (some ⟨w.heap.size, 0, none⟩)) ∧ w.alloc (.cells #[.slice A n c, .int .i64 0] 65) = w' := by
  go_enter Try.func11, Try.ntmps11
  go_wp2
  go_ret
  exact ⟨rfl, rfl⟩
theorem tape_new {w : World} {A : Option Addr} {n c : Nat} {zs : List Int} (h : IArg w A n zs) (hn : n ≤ maxLen) : Tape (w.alloc (.cells #[.slice A n c, .int .i64 0] 65)) w.heap.size :=
  ⟨A, n, c, 0, zs, heap_alloc_new w _, h.len, hn, Nat.zero_le _, h.lies.keep (fun p hp => World.cell?_alloc_lt w _ p hp) (Nat.le_refl _)⟩

/-- The statement's tape stands, and nothing old has changed. -/
def Going (w : World) (T : Nat) (wr : World) : Prop := Tape wr T ∧ Below w.heap.size w wr ∧ w.heap.size ≤ T
theorem Going.step {w wr w' : World} {T : Nat} (h : Going w T wr) (ht : Tape w' T) (hg : wr.grownBy w' (some T)) : Going w T w' :=
  ⟨ht, after_app h.2.1 hg h.2.2, h.2.2⟩
theorem Going.below {w wr w' : World} {T : Nat} (h : Going w T wr) (hb : Below wr.heap.size wr w') : Going w T w' :=
  h.step (h.1.below hb h.1.lt) (grown_of_below hb _)
theorem Going.alloc {w wr : World} {T : Nat} (h : Going w T wr) (o : Obj) : Going w T (wr.alloc o) := h.below ((Below.refl _ _).alloc (Nat.le_refl _) o)

/-- Copies do not lie in a tape: there two numbers never lie side by side. -/
theorem ArgC.tape {w w' : World} {T : Nat} {A : Option Addr} {n : Nat} {cs : List (Int × Int)} (h : ArgC w A n cs) (ht : Tape w T) (hg : w.grownBy w' (some T)) : ArgC w' A n cs := by
  refine ⟨?_, h.len⟩
  rcases h.lies with h0 | ⟨ad, e, hb, hc⟩
  · exact .inl h0
  · cases cs with
    | nil => exact .inl rfl
    | cons p cs =>
      have hne : ad.block ≠ T := by
        intro he
        have c0 := hc 0 (.int .i64 p.1) rfl
        have c1 := hc 1 (.int .i64 p.2) rfl
        obtain ⟨A', n', c', k', zs, h1, _⟩ := ht
        have ha : ad.add 0 = ad := by unfold Addr.add; simp
        rw [ha] at c0
        unfold World.cell? at c0 c1
        rw [he, h1] at c0
        rw [show (ad.add 1).block = T from by rw [add_block]; exact he, h1] at c1
        have e1 : (ad.add 1).off = ad.off + 1 := by unfold Addr.add; simp
        have e2 : (ad.add 1).spot = none := by unfold Addr.add; simp
        simp only [e1, e2] at c1
        simp only at c0
        split at c0
        · cases c0
        · match hoff : ad.off, c0 with
          | 0, c0 => simp at c0
          | 1, c0 => rw [hoff] at c1; simp at c1
          | n + 2, c0 => simp at c0
      refine .inr ⟨ad, e, by have := hg.size; omega, fun j u hu => hg.cell (hc j u hu) (by rw [add_block]; intro h; injection h with h; exact hne h)⟩
end Go.Proofs.Ytmnbidpoceknlaa

namespace Go.Proofs.Ytmnbidpoceknlaa
set_option maxRecDepth 20000
set_option linter.unusedVariables false
set_option linter.unusedSimpArgs false
open Go.ChangeShapes Go.WideShapes Go.ChangeAt Go.RowKit

/-- The system and its two copies, before the copies' sets go. -/
structure Jst (w w0 : World) (T : Nat) (s : SY) (aX bX cX : Nat) (u : World) : Prop where
  tp : Tape u T
  bel : Below w.heap.size w u
  hT : w.heap.size ≤ T ∧ T < w0.heap.size
  gr : w0.grownBy u (some T)
  ax : Fb u aX s.box 27
  bx : Fb u bX s.box 27
  cx : Fb u cX s.box 27
  lo : w0.heap.size ≤ aX ∧ w0.heap.size ≤ bX ∧ w0.heap.size ≤ cX
  ne : aX ≠ bX ∧ aX ≠ cX ∧ bX ≠ cX
  sy : SYok u (exJ T bX cX (.slice none 0 0) (.slice none 0 0)) s
theorem Jst.one {w w0 w1 : World} {T : Nat} {s : SY} (hs : SYok w1 [some T] s) (ht : Tape w1 T) (hb : Below w.heap.size w w0) (hT : w.heap.size ≤ T ∧ T < w0.heap.size) (hg : w0.grownBy w1 (some T)) {p q : Nat} (hp : p = w1.heap.size + 1 ∧ q = w1.heap.size + 1 + 1 ∨ q = w1.heap.size + 1 ∧ p = w1.heap.size + 1 + 1) :
    Jst w w0 T s w1.heap.size p q (((w1.alloc (.cells s.box 27)).alloc (.cells s.box 27)).alloc (.cells s.box 27)) := by
  have hba := (((Below.refl w1.heap.size w1).alloc (Nat.le_refl _) (.cells s.box 27)).alloc (by simp) (.cells s.box 27)).alloc (by simp; omega) (.cells s.box 27)
  have hg3 := grown_trans hg (grown_of_below hba (some T))
  have hsz := hg.size
  have b1 : Fb (((w1.alloc (.cells s.box 27)).alloc (.cells s.box 27)).alloc (.cells s.box 27)) (w1.heap.size + 1) s.box 27 := by
    have := (Fb.new (w1.alloc (.cells s.box 27)) s.box 27).alloc (.cells s.box 27)
    rwa [World.size_alloc] at this
  have b2 : Fb (((w1.alloc (.cells s.box 27)).alloc (.cells s.box 27)).alloc (.cells s.box 27)) (w1.heap.size + 1 + 1) s.box 27 := by
    have := Fb.new ((w1.alloc (.cells s.box 27)).alloc (.cells s.box 27)) s.box 27
    rwa [World.size_alloc, World.size_alloc] at this
  have hsy : ∀ k, k < w1.heap.size → some k ∈ exJ T p q (.slice none 0 0) (.slice none 0 0) → some k ∈ [some T] := by
    intro k hk hm
    simp only [exJ, Value.ownBlock, List.mem_cons, Option.some.injEq, List.not_mem_nil, or_false] at hm ⊢
    rcases hm with h | h | h | h | h
    · exact h
    · omega
    · omega
    · cases h
    · cases h
  refine ⟨ht.below hba ht.lt, after_app hb hg3 hT.1, hT, hg3, ((Fb.new w1 s.box 27).alloc _).alloc _, ?_, ?_, by omega, by omega, hs.go (Go2.grown (grown_of_below hba none) (.inl rfl) hsy)⟩
  · rcases hp with ⟨rfl, rfl⟩ | ⟨rfl, rfl⟩
    · exact b1
    · exact b2
  · rcases hp with ⟨rfl, rfl⟩ | ⟨rfl, rfl⟩
    · exact b2
    · exact b1
theorem Jst.below {w w0 u u' : World} {T : Nat} {s : SY} {aX bX cX : Nat} (h : Jst w w0 T s aX bX cX u) (hb : Below u.heap.size u u') : Jst w w0 T s aX bX cX u' :=
  ⟨h.tp.below hb h.tp.lt, below_step h.bel hb, h.hT, grown_trans h.gr (grown_of_below hb _), h.ax.below hb h.ax.lt, h.bx.below hb h.bx.lt, h.cx.below hb h.cx.lt, h.lo, h.ne, h.sy.below hb⟩
theorem Jst.go {w w0 u : World} {T : Nat} {s : SY} {v aX bX cX : Nat} (h : Jst w w0 T s aX bX cX u) (hv : s.W = v) : Jns w w0 T s v aX bX cX u.heap.size (.slice none 0 0) (.slice none 0 0) [] [] ((u.setCell ⟨bX, 3, none⟩ (.slice none 0 0)).setCell ⟨cX, 3, none⟩ (.slice none 0 0)) := by
  have hT := h.hT; have hlo := h.lo; have hne := h.ne
  have s1 := setCell_grown u ⟨bX, 3, none⟩ (.slice none 0 0)
  have s2 := setCell_grown (u.setCell ⟨bX, 3, none⟩ (.slice none 0 0)) ⟨cX, 3, none⟩ (.slice none 0 0)
  have hG := (Go2.same (ex := exJ T bX cX (.slice none 0 0) (.slice none 0 0)) s1 (.inr (by simp [exJ]))).trans (Go2.same (ex := exJ T bX cX (.slice none 0 0) (.slice none 0 0)) s2 (.inr (by simp [exJ])))
  have hbx := h.bx
  have hcx := h.cx
  unfold SY.box at hbx hcx
  rw [hv] at hbx hcx
  exact ⟨(h.tp.far (by show T < bX; omega) _).far (by show T < cX; omega) _, (h.bel.setCell (by show w.heap.size ≤ bX; omega) _).setCell (by show w.heap.size ≤ cX; omega) _, hT, grown_set_new (grown_set_new h.gr (p := ⟨bX, 3, none⟩) hlo.2.1 _) (p := ⟨cX, 3, none⟩) hlo.2.2 _,
    (h.ax.far (by show aX ≠ bX; exact hne.1) _).far (by show aX ≠ cX; exact hne.2.1) _, (hbx.set 3 _).far (by show bX ≠ cX; exact hne.2.2) _, (hcx.far (by show cX ≠ bX; exact hne.2.2.symm) _).set 3 _, hlo, ⟨h.ax.lt, h.bx.lt, h.cx.lt⟩, hne,
    World.ownsRow_nil _ _ _ _, World.ownsRow_nil _ _ _ _, .inl rfl, by simp, by simp, h.sy.go hG, by simp, by simp⟩
theorem jn_pt {s : SY} {v N c c' : Nat} {A A' : Option Addr} {w : World} {ex : List (Option Nat)} (hs : SYok w ex s) (ho : SOk s v N) {lb lc : List ZH} (hb : lb.length = N) (hc : lc.length = N) (hor : JOr v s.B.l lb lc) {K1 K2 K3 : Nat} {l1 l2 l3 : List ZH}
    (k1 : s.pw.Last K1) (k2 : (⟨v, s.D, s.T, ⟨A, N, c, lb⟩⟩ : SY).pw.Last K2) (k3 : (⟨v, s.D, s.T, ⟨A', N, c', lc⟩⟩ : SY).pw.Last K3) (e1 : l1.map ZH.ws = s.pw.round K1) (e2 : l2.map ZH.ws = (⟨v, s.D, s.T, ⟨A, N, c, lb⟩⟩ : SY).pw.round K2) (e3 : l3.map ZH.ws = (⟨v, s.D, s.T, ⟨A', N, c', lc⟩⟩ : SY).pw.round K3) :
    ∀ k z1 z2 z3, k < N → l1[k]? = some z1 → l2[k]? = some z2 → l3[k]? = some z3 → z3.ws = orR v z1.ws z2.ws := by
  intro k z1 z2 z3 hk h1 h2 h3
  have := jn_law hs ho hb hc hor k1 k2 k3 hk
  rw [← e1, ← e2, ← e3] at this
  rwa [show at0 (l3.map ZH.ws) k = z3.ws from at0_get (by rw [List.getElem?_map, h3]; rfl), show at0 (l2.map ZH.ws) k = z2.ws from at0_get (by rw [List.getElem?_map, h2]; rfl), show at0 (l1.map ZH.ws) k = z1.ws from at0_get (by rw [List.getElem?_map, h1]; rfl)] at this
/-- The set of a round and its union with the system's own. -/
structure Jxy (w w0 : World) (T : Nat) (s : SY) (v aX bX cX b0 : Nat) (Bb Bc : Value) (lb lc : List ZH) (xb yb : Nat) (x y : ZH) (xs ys : List Nat) (u : World) : Prop where
  j : Jns w w0 T s v aX bX cX b0 Bb Bc lb lc u
  xx : Fb u xb #[.int .i64 x.W, .slice x.A x.n x.c] 41
  yy : Fb u yb #[.int .i64 y.W, .slice y.A y.n y.c] 41
  nx : ∀ z : Value, (z = Bb ∨ z = Bc) → z.ownBlock ≠ some xb ∧ z.ownBlock ≠ some yb
  xy : x.A ≠ y.A
  zx : ZHok u (exJ T bX cX Bb Bc) x
  zy : ZHok u (exJ T bX cX Bb Bc) y
  gx : x.W = v ∧ Bs.Fit v x.ws
  gy : y.W = v ∧ Bs.Fit v y.ws
  ex : x.ws = xs
  ey : y.ws = ys
theorem Jxy.mk2 {w w0 u u' : World} {T : Nat} {s : SY} {v aX bX cX b0 : Nat} {Bb Bc : Value} {lb lc : List ZH} {xb yb gx gy : Nat} {xs ys : List Nat} (h : Jns w w0 T s v aX bX cX b0 Bb Bc lb lc u) (hb : Below u.heap.size u u')
    (hx : Fb u xb #[.int .i64 v, .slice (some ⟨gx, 0, none⟩) (Bs.nw v) (Bs.nw v)] 41) (hr : Row u gx xs) (hf : Bs.Fit v xs)
    (hy : Fb u' yb #[.int .i64 v, .slice (some ⟨gy, 0, none⟩) (Bs.nw v) (Bs.nw v)] 41) (hry : Row u' gy ys) (hfy : Bs.Fit v ys) (hgy : u.heap.size ≤ gy) (hyb : u.heap.size ≤ yb) (hxb : ∀ k, Bb.ownBlock = some k ∨ Bc.ownBlock = some k → k < xb) :
    Jxy w w0 T s v aX bX cX b0 Bb Bc lb lc xb yb ⟨v, some ⟨gx, 0, none⟩, Bs.nw v, Bs.nw v, xs⟩ ⟨v, some ⟨gy, 0, none⟩, Bs.nw v, Bs.nw v, ys⟩ xs ys u' := by
  have hj := h.below hb
  have hgx := hr.lt
  refine ⟨hj, hx.below hb hx.lt, hy, fun z hz => ?_, fun e => ?_, hj.set (hr.below hb hr.lt) hf, hj.set hry hfy, ⟨rfl, hf⟩, ⟨rfl, hfy⟩, rfl, rfl⟩
  · rcases hz with rfl | rfl
    · exact ⟨fun e => by have := hxb _ (.inl e); omega, fun e => by have := (h.ob.lt _ e).2; omega⟩
    · exact ⟨fun e => by have := hxb _ (.inr e); omega, fun e => by have := (h.oc.lt _ e).2; omega⟩
  · have : (⟨gx, 0, none⟩ : Addr) = ⟨gy, 0, none⟩ := Option.some.inj e
    injection this with h1
    omega
set_option maxHeartbeats 12800000 in
theorem lawJoins (At : Option Addr) (nt ct : Nat) (zs : List Int) (w : World) (ht : IArg w At nt zs) (hnt : nt ≤ maxLen) :
    Calls Try.prog 7 #[.slice At nt ct] w fun e w' => e = .returned (.bool true) ∧ Below w.heap.size w w' := by
  obtain ⟨iB, hi, hz0, hz1, hz2⟩ := info_parts info41
  have HIB := hid hi; have HB0 := hid hz0; have HB1 := hid hz1; have HB2 := hid hz2
  clear hi hz0 hz1 hz2
  have HT := hid (tape_new (c := ct) ht hnt)
  have HB := hid ((Below.refl w.heap.size w).alloc (Nat.le_refl _) (.cells #[.slice At nt ct, .int .i64 0] 65))
  clear ht
  go_enter Try.func7, Try.ntmps7
  go_wp2_with fail
  refine (new_any At nt ct w).mono ?_
  rintro e w0 ⟨rfl, rfl⟩
  go_wp2_with fail
  refine (system_any w.heap.size 5 _ HT.out (by omega) (by omega)).mono ?_
  rintro e w1 ⟨s, v, N, rfl, hs, hg, hN, htp, hgr⟩
  have ho := hg.ok hs (by omega)
  have HS1 := hid (Jst.one (p := w1.heap.size + 1) (q := w1.heap.size + 1 + 1) hs htp HB.out ⟨Nat.le_refl _, by simp⟩ hgr (.inl ⟨rfl, rfl⟩))
  have HS2 := hid (Jst.one (q := w1.heap.size + 1) (p := w1.heap.size + 1 + 1) hs htp HB.out ⟨Nat.le_refl _, by simp⟩ hgr (.inr ⟨rfl, rfl⟩))
  have Ho := hid ho
  have hv := ho.v256
  have hN1 := ho.n1
  have hW := ho.w
  have Hbn := hid (ho.bn)
  have Hdn := hid (ho.dn)
  generalize w.alloc (.cells #[.slice At nt ct, .int .i64 0] 65) = w0 at *
  clear hs hg htp hgr ho HT HB
  unfold SY.a
  unfold SY.box at HS1 HS2
  rw [hW] at HS1 HS2
  have HD1 := hid (HS1.out.below (Below.refl _ _).drew)
  have HD2 := hid (HS2.out.below (Below.refl _ _).drew)
  go_upto_region 3 with fail
  go_cut [5, 6] (fun a b wd => ∃ (bX cX : Nat), a = .pointer (some ⟨bX, 0, none⟩) ∧ b = .pointer (some ⟨cX, 0, none⟩) ∧ Hid (Jst w w0 w.heap.size s w1.heap.size bX cX wd))
  case first =>
    go_region_law (fail)
    all_goals
      go_wp2_with fail
      go_meet
      first
      | exact ⟨_, _, rfl, rfl, HD1⟩
      | exact ⟨_, _, rfl, rfl, HD2⟩
  case rest =>
    obtain ⟨bX, cX, rfl, rfl, HJ0⟩ := hcut
    clear HS1 HS2 HD1 HD2
    generalize wc = w3 at *
    generalize w1.heap.size = aX at *
    have HJ1 := hid (HJ0.out.go hW)
    have f1 := HJ0.out.bx.frozen 3
    have f2 := HJ0.out.cx.frozen 3
    have l1 := HJ0.out.bx.lt
    have l2 := HJ0.out.cx.lt
    obtain ⟨p0, p1, p2, p3⟩ := (show Fb w3 bX #[.int .i64 s.W, .slice s.D.A s.D.n s.D.c, .slice s.T.A s.T.n s.T.c, .slice s.B.A s.B.n s.B.c] _ from HJ0.out.bx).four
    obtain ⟨q0, q1, q2, q3⟩ := (show Fb w3 cX #[.int .i64 s.W, .slice s.D.A s.D.n s.D.c, .slice s.T.A s.T.n s.T.c, .slice s.B.A s.B.n s.B.c] _ from HJ0.out.cx).four
    have hbc := HJ0.out.ne.2.2
    have hcb := HJ0.out.ne.2.2.symm
    have HBs0 := hid (show w3.heap.size ≤ ((w3.setCell ⟨bX, 3, none⟩ (.slice none 0 0)).setCell ⟨cX, 3, none⟩ (.slice none 0 0)).heap.size by simp)
    go_wp2_with fail
    generalize w3.heap.size = b0 at *
    generalize (w3.setCell ⟨bX, 3, none⟩ (.slice none 0 0)).setCell ⟨cX, 3, none⟩ (.slice none 0 0) = w4 at *
    clear p0 p1 p2 p3 q0 q1 q2 q3 f1 f2 l1 l2 hbc hcb HJ0
    go_loopw [7, 8, 9, 10] (fun iv _ _ _ wr => ∃ (i : Nat) (Bb Bc : Value) (lb lc : List ZH), i ≤ N ∧ iv = .int .i64 i ∧ Hid (lb.length = i) ∧ Hid (lc.length = i) ∧ Hid (JOr v s.B.l lb lc) ∧ Hid (b0 ≤ wr.heap.size) ∧ Hid (Jns w w0 w.heap.size s v aX bX cX b0 Bb Bc lb lc wr)) (fun iv _ _ _ _ => N - (intOf iv).toNat)
    case atStart => exact ⟨0, _, _, [], [], by omega, rfl, hid rfl, hid rfl, hid (JOr.nil _ _), HBs0, HJ1⟩
    case round =>
      clear HBs0 HJ1
      obtain ⟨i, Bb, Bc, lb, lc, hi, rfl, HLB, HLC, HO, HBs, HJ⟩ := hrel
      by_cases hlt : i < N
      · have n1 : (i : Int) < N := by omega
        obtain ⟨a0, a1, a2, a3⟩ := (show Fb wr aX #[.int .i64 v, .slice s.D.A s.D.n s.D.c, .slice s.T.A s.T.n s.T.c, .slice s.B.A s.B.n s.B.c] _ from by have := HJ.out.ax; unfold SY.box at this; rwa [hW] at this).four
        have hdn := Hdn.out
        obtain ⟨z, hz, hzm⟩ := get_at (show s.B.l.length = N from HJ.out.sy.b.len.trans Hbn.out) hlt
        have Hz := hid hz; have Hzm := hid hzm
        have Hzg := hid (Ho.out.b z hzm)
        clear hz hzm
        go_wp2_with fail
        refine (set3_any w.heap.size v wr HJ.out.tp (by omega)).mono ?_
        rintro e w5 ⟨gx, xs, rfl, hfx, hrx, hgx, htp5, hgr5⟩
        have HJ5 := hid (HJ.out.step htp5 hgr5)
        have hba := (Below.refl w5.heap.size w5).alloc (Nat.le_refl _) (.cells #[.int .i64 v, .slice (some ⟨gx, 0, none⟩) (Bs.nw v) (Bs.nw v)] 41)
        have HJ6 := hid (HJ5.out.below hba)
        have HX6 := hid (Fb.new w5 #[.int .i64 v, .slice (some ⟨gx, 0, none⟩) (Bs.nw v) (Bs.nw v)] 41)
        have HR6 := hid (hrx.below hba hrx.lt)
        have Hfx := hid hfx
        have HBs6 := hid (show b0 ≤ (w5.alloc (.cells #[.int .i64 v, .slice (some ⟨gx, 0, none⟩) (Bs.nw v) (Bs.nw v)] 41)).heap.size by have := HBs.out; have := hgr5.size; simp; omega)
        have Hxb := hid (show ∀ k, Bb.ownBlock = some k ∨ Bc.ownBlock = some k → k < w5.heap.size from fun k h => h.elim (fun h => (HJ5.out.ob.lt k h).2) (fun h => (HJ5.out.oc.lt k h).2))
        clear hfx hrx hgx htp5 hgr5 hba HJ5 HJ HBs a0 a1 a2 a3 hdn
        go_upto_region 9 with fail
        generalize w5.alloc (.cells #[.int .i64 v, .slice (some ⟨gx, 0, none⟩) (Bs.nw v) (Bs.nw v)] 41) = w6 at *
        generalize w5.heap.size = xb at *
        clear n1
        have Hd := hid (Below.refl w6.heap.size w6).drew
        have Hda := hid (Hd.out.alloc (by simp) (.cells #[.int .i64 0, .slice none 0 0] 41))
        obtain ⟨adb, hBA, Hadl, Hc⟩ : ∃ adb : Addr, Hid (s.B.A = some adb) ∧ Hid (adb.block < w6.heap.size) ∧ Hid (∀ u, Below w6.heap.size w6 u → u.cell? (adb.add (i * 2)) = some (.int .i64 v) ∧ u.cell? ⟨(adb.add (i * 2)).block, (adb.add (i * 2)).off + 1, none⟩ = some (.slice z.A z.n z.c)) := by
          obtain ⟨ad, h1, h2, h3, h4⟩ := HJ6.out.sy.b.cell Hz.out
          rw [Hzg.out.1] at h3
          exact ⟨ad, hid h1, hid h2, hid fun u hu => ⟨(hu.cell (by rw [add_block]; exact h2)).trans h3, (hu.cell (by rw [add_block]; exact h2)).trans h4⟩⟩
        have HAx := hid (show ∀ u, Below w6.heap.size w6 u → u.cell? ⟨aX, 3, none⟩ = some (.slice (some adb) N s.B.c) from fun u hu => by
          have := (HJ6.out.ax.below hu HJ6.out.ax.lt).cell 3
          rw [this]
          unfold SY.box
          rw [← hBA.out, ← Hbn.out]; rfl)
        have HXx := hid (show ∀ u, Below w6.heap.size w6 u → u.cell? ⟨xb, 0, none⟩ = some (.int .i64 v) ∧ u.cell? ⟨xb, 1, none⟩ = some (.slice (some ⟨gx, 0, none⟩) (Bs.nw v) (Bs.nw v)) from fun u hu => (HX6.out.below hu HX6.out.lt).two)
        have HU := hid (fun (u : World) (hu : Below w6.heap.size w6 u) => devUnion_own v (some ⟨gx, 0, none⟩) z.A (Bs.nw v) (Bs.nw v) z.n z.c xs z.ws u (by have := Row.arg (HR6.out.below hu HR6.out.lt) Hfx.out.ok; rwa [Hfx.out.len] at this) ((HJ6.out.sy.b.all z Hzm.out).arg.below hu) hv Hfx.out Hzg.out.2)
        have Hfit := hid (fit_orR v xs z.ws)
        generalize hzs : orR v xs z.ws = ys at *
        have Hzs := hid hzs
        clear hzs
        go_cut [9, 10] (fun a b wd => ∃ (yb : Nat) (x y : ZH), a = .pointer (some ⟨yb, 0, none⟩) ∧ b = .int .i64 0 ∧ Hid (Jxy w w0 w.heap.size s v aX bX cX b0 Bb Bc lb lc xb yb x y xs ys wd ∧ w6.heap.size ≤ wd.heap.size))
        case first =>
          have k0 : (0 : Int) ≤ i := by omega
          have k1 : (i : Int) < N := by omega
          have k2 : (i : Int).toNat = i := by omega
          obtain ⟨g0, g1⟩ := Hc.out _ Hd.out
          obtain ⟨g2, g3⟩ := Hc.out _ Hda.out
          have g4 := HAx.out _ Hd.out
          have g5 := HAx.out _ Hda.out
          obtain ⟨g6, g7⟩ := HXx.out _ Hd.out
          obtain ⟨g8, g9⟩ := HXx.out _ Hda.out
          have j2 : (w6.alloc (.cells #[.int .i64 0, .slice none 0 0] 41)).cell? (adb.add (i * 2)) = some (.int .i64 v) := g2
          have j3 : (w6.alloc (.cells #[.int .i64 0, .slice none 0 0] 41)).cell? ⟨(adb.add (i * 2)).block, (adb.add (i * 2)).off + 1, none⟩ = some (.slice z.A z.n z.c) := g3
          have j5 : (w6.alloc (.cells #[.int .i64 0, .slice none 0 0] 41)).cell? ⟨aX, 3, none⟩ = some (.slice (some adb) N s.B.c) := g5
          have j8 : (w6.alloc (.cells #[.int .i64 0, .slice none 0 0] 41)).cell? ⟨xb, 0, none⟩ = some (.int .i64 v) := g8
          have j9 : (w6.alloc (.cells #[.int .i64 0, .slice none 0 0] 41)).cell? ⟨xb, 1, none⟩ = some (.slice (some ⟨gx, 0, none⟩) (Bs.nw v) (Bs.nw v)) := g9
          go_region_law (
            (go_simp
             go_at_call 27
             refine (HU.out _ (by first | exact Hd.out | exact Hda.out)).mono ?_
             rintro e u2 ⟨gy, rfl, hry, hgy, hb2⟩
             have Hb2 := hid (below_step (by first | exact Hd.out | exact Hda.out) hb2)
             have Hry := hid hry
             have hg2 : w6.heap.size ≤ gy := Nat.le_trans (by simp) hgy
             try (have hbx : Fb u2 w6.heap.size #[.int .i64 0, .slice none 0 0] 41 := (Fb.new w6.drew _ _).below hb2 (by simp)
                  have z0 := hbx.cell 0
                  have z1 := hbx.cell 1
                  have f0 := hbx.frozen 0
                  have f1 := hbx.frozen 1
                  have hbl := hbx.lt
                  have Hgy2 := hid (show w6.heap.size + 1 ≤ gy by simpa using hgy))
             clear hry hb2 hgy))
          all_goals
            go_wp2_with fail
            go_meet
            first
            | exact ⟨_, _, _, rfl, rfl, hid ⟨Jxy.mk2 HJ6.out ((Hb2.out.setCell (by simp) _).setCell (by simp) _) HX6.out HR6.out Hfx.out ((hbx.set 0 _).set 1 _) ((Hry.out.far (by have := Hgy2.out; simp; omega) _).far (by have := Hgy2.out; simp; omega) _) Hfit.out hg2 (Nat.le_refl _) Hxb.out, by have := Hb2.out.size; simpa using this⟩⟩
            | exact ⟨_, _, _, rfl, rfl, hid ⟨Jxy.mk2 HJ6.out (Hb2.out.alloc Hb2.out.size _) HX6.out HR6.out Hfx.out (Fb.new _ _ _) (Hry.out.alloc _) Hfit.out hg2 Hb2.out.size Hxb.out, by have := Hb2.out.size; simp; omega⟩⟩
            | (trace_state; sorry)
        case rest =>
          obtain ⟨yb, x, y, rfl, rfl, HP⟩ := hcut
          go_upto_region 10 with fail
          rename_i Kx hKx
          have HJ := hid HP.out.1.j
          have HXB := hid HP.out.1.xx; have HYB := hid HP.out.1.yy
          have HN := hid HP.out.1.nx; have HXY := hid HP.out.1.xy; have HZX := hid HP.out.1.zx; have HZY := hid HP.out.1.zy; have HGX := hid HP.out.1.gx; have HGY := hid HP.out.1.gy
          have HEX := hid HP.out.1.ex; have HEY := hid HP.out.1.ey
          have HBs := hid (Nat.le_trans HBs6.out HP.out.2)
          have hlb := HLB.out
          have hlc := HLC.out
          have HLL := hid (hlb.trans hlc.symm)
          have HON := hid (HO.out.push HLL.out (x := x) (y := y) (z := z) (by rw [hlb]; exact Hz.out) (by rw [HEX.out, HEY.out]; exact Hzs.out.symm))
          clear HP HJ6 HX6 HR6 HBs6 Hxb Hd Hda hBA Hadl Hc HAx HXx HU Hfit Hfx Hzs HEX HEY HO
          generalize wc = w1 at *
          refine wp_region_factsG (jnG b0 Bb Bc lb lc) (jnF w1 bX cX b0 Bb Bc lb lc x y) (JnK w1 w.heap.size s v aX bX cX Bb Bc xb yb x y) jnU (jnR Bb Bc) Kx (fun _ _ h => h) 14 11 [some 52, some 53, some 54, some 55, some 56, some 57, some 58, some 59, some 60, some 61, some 62, none, some 63, none] (by kernel_rfl) (by kernel_rfl) (by kernel_rfl) (by kernel_rfl) (by kernel_rfl) (by kernel_rfl) (by decide)
            (jnF_st (fun k h => (HJ.out.ob.lt k h).2) (fun k h => (HJ.out.oc.lt k h).2)) ?bs ?gs (jnG_st HJ.out.nbc) ?ar ?en
          case bs => exact (HJ.out.k HXB.out HYB.out).below (Below.refl _ _).drew
          case gs =>
            intro c
            unfold jnG
            split
            · exact HJ.out.ob.kept (grown_of_below (Below.refl w1.heap.size w1).drew none) (by cases Bb.ownBlock <;> simp)
            · exact HJ.out.oc.kept (grown_of_below (Below.refl w1.heap.size w1).drew none) (by cases Bc.ownBlock <;> simp)
            · trivial
          case ar =>
            intro j o f u ho hi hB hGi hpre K hK
            match j, ho, hpre, hK with
            | 0, ho, hpre, hK =>
              obtain rfl := Option.some.inj ho
              refine wpOp_step rfl fun K' hK' => ?_
              simp only [putL, updV]
              go_simp
              have hz := hK' _ _ (hK (.pointer (some ⟨bX, 3, none⟩)) (u) (hB) (jnR.refl _ _ _ _) (rfl))
              refine Eq.mp (congrArg (fun a => K' a (u)) ?_) hz
              kernel_rfl
            | 1, ho, hpre, hK =>
              obtain rfl := Option.some.inj ho
              obtain ⟨c0, c1, c2, c3⟩ := hB.bx.four
              have hlt := hB.bx.lt
              have e0 : f 0 = .pointer (some ⟨bX, 3, none⟩) := hpre ⟨0, .data⟩ (by simp) rfl (.inl rfl)
              obtain ⟨f, rfl⟩ := fixG f 0 _ e0
              clear e0
              refine wpOp_step rfl fun K' hK' => ?_
              simp only [putL, updV]
              go_simp
              have hz := hK' _ _ (hK (Bb) (u) (hB) (jnR.refl _ _ _ _) (rfl))
              refine Eq.mp (congrArg (fun a => K' a (u)) ?_) hz
              kernel_rfl
            | 2, ho, hpre, hK =>
              obtain rfl := Option.some.inj ho
              obtain ⟨c0, c1⟩ := hB.xx.two
              have hlt := hB.xx.lt
              refine wpOp_step rfl fun K' hK' => ?_
              simp only [putL, updV]
              go_simp
              have hz := hK' _ _ (hK (.agg #[.int .i64 x.W, .slice x.A x.n x.c]) (u) (hB) (jnR.refl _ _ _ _) (rfl))
              refine Eq.mp (congrArg (fun a => K' a (u)) ?_) hz
              kernel_rfl
            | 3, ho, hpre, hK =>
              obtain rfl := Option.some.inj ho
              have e2 : f 2 = .agg #[.int .i64 x.W, .slice x.A x.n x.c] := hpre ⟨2, .data⟩ (by simp) rfl (.inl rfl)
              obtain ⟨f, rfl⟩ := fixG f 2 _ e2
              clear e2
              have hbw := (Below.refl u.heap.size u).alloc (Nat.le_refl _) (.cells #[.int .i64 x.W, .slice x.A x.n x.c] 41)
              refine wpOp_step rfl fun K' hK' => ?_
              simp only [putL, updV]
              go_simp
              have hz := hK' _ _ (hK (.slice (some ⟨u.heap.size, 0, none⟩) 1 1) (u.alloc (.cells #[.int .i64 x.W, .slice x.A x.n x.c] 41)) (hB.below hbw) (jnR.below hbw) (⟨_, rfl, Fb.new _ _ _, hB.gx.size⟩))
              refine Eq.mp (congrArg (fun a => K' a (u.alloc (.cells #[.int .i64 x.W, .slice x.A x.n x.c] 41))) ?_) hz
              kernel_rfl
            | 4, ho, hpre, hK =>
              obtain rfl := Option.some.inj ho
              have e1 : f 1 = Bb := hpre ⟨1, .data⟩ (by simp) rfl (.inl rfl)
              obtain ⟨g, e3, hf, hg⟩ : ∃ g : Nat, f 3 = .slice (some ⟨g, 0, none⟩) 1 1 ∧ Fb u g #[.int .i64 x.W, .slice x.A x.n x.c] 41 ∧ w1.heap.size ≤ g := hpre ⟨3, .data⟩ (by simp) rfl (.inr rfl)
              have ho : u.ownsRow b0 41 2 Bb lb.length (lb.flatMap ZH.cs) := hGi
              have hbase : b0 ≤ u.heap.size := by have := HBs.out; have := hB.gx.size; omega
              obtain ⟨f, rfl⟩ := fixG f 1 _ e1
              rw [updV_ne _ _ (by decide)] at e3
              obtain ⟨f, rfl⟩ := fixG f 3 _ e3
              clear e1 e3
              refine wpOp_step rfl fun K' hK' => ?_
              refine step_append_lies _ rfl (.tmp 53) (.tmp 55) 25 rfl b0 41 iB _ 2 32 Try.underlying25 HIB.out HB0.out HB1.out HB2.out rfl (by decide) Bb lb.length (lb.flatMap ZH.cs) (by kernel_rfl) ho ⟨g, 0, none⟩ 1 1 [.int .i64 x.W, .slice x.A x.n x.c] (by kernel_rfl) rfl (fun j x hx => World.news_of_block hf j x hx) (one_zcs x) (by omega) (by unfold maxLen; omega) (by omega) hbase _ rfl ?_
              intro g9 q9 w9 hown hgr hat _
              have hB9 := hB.app HJ.out (.inl rfl) ho (HN.out Bb (.inl rfl)).1 (HN.out Bb (.inl rfl)).2 hgr
              have hn9 : Bb.ownBlock = some g9 ∨ w1.heap.size ≤ g9 := hat.imp (fun e => e) (fun e => by rw [e]; exact hB.gx.size)
              have hne9 : some g9 ≠ Bc.ownBlock := by
                intro e
                rcases hat with e' | e'
                · rcases HJ.out.nbc with h | h
                  · rw [h] at e'; cases e'
                  · exact h (e'.trans e)
                · have := (HJ.out.oc.lt g9 e.symm).2; have := hB.gx.size; omega
              have hz := hK' _ _ (hK (.slice (some ⟨g9, 0, none⟩) (lb.length + 1) q9) (w9) (hB9) (⟨_, hgr, .inr (.inl ⟨rfl, rfl⟩)⟩) (⟨g9, q9, rfl, hown, hn9, hne9⟩))
              refine Eq.mp (congrArg (fun a => K' a (w9)) ?_) hz
              kernel_rfl
            | 5, ho, hpre, hK =>
              obtain rfl := Option.some.inj ho
              refine wpOp_step rfl fun K' hK' => ?_
              simp only [putL, updV]
              go_simp
              have hz := hK' _ _ (hK (.pointer (some ⟨cX, 3, none⟩)) (u) (hB) (jnR.refl _ _ _ _) (rfl))
              refine Eq.mp (congrArg (fun a => K' a (u)) ?_) hz
              kernel_rfl
            | 6, ho, hpre, hK =>
              obtain rfl := Option.some.inj ho
              obtain ⟨c0, c1, c2, c3⟩ := hB.cx.four
              have hlt := hB.cx.lt
              have e5 : f 5 = .pointer (some ⟨cX, 3, none⟩) := hpre ⟨5, .data⟩ (by simp) rfl (.inl rfl)
              obtain ⟨f, rfl⟩ := fixG f 5 _ e5
              clear e5
              refine wpOp_step rfl fun K' hK' => ?_
              simp only [putL, updV]
              go_simp
              have hz := hK' _ _ (hK (Bc) (u) (hB) (jnR.refl _ _ _ _) (rfl))
              refine Eq.mp (congrArg (fun a => K' a (u)) ?_) hz
              kernel_rfl
            | 7, ho, hpre, hK =>
              obtain rfl := Option.some.inj ho
              obtain ⟨c0, c1⟩ := hB.yy.two
              have hlt := hB.yy.lt
              refine wpOp_step rfl fun K' hK' => ?_
              simp only [putL, updV]
              go_simp
              have hz := hK' _ _ (hK (.agg #[.int .i64 y.W, .slice y.A y.n y.c]) (u) (hB) (jnR.refl _ _ _ _) (rfl))
              refine Eq.mp (congrArg (fun a => K' a (u)) ?_) hz
              kernel_rfl
            | 8, ho, hpre, hK =>
              obtain rfl := Option.some.inj ho
              have e7 : f 7 = .agg #[.int .i64 y.W, .slice y.A y.n y.c] := hpre ⟨7, .data⟩ (by simp) rfl (.inl rfl)
              obtain ⟨f, rfl⟩ := fixG f 7 _ e7
              clear e7
              have hbw := (Below.refl u.heap.size u).alloc (Nat.le_refl _) (.cells #[.int .i64 y.W, .slice y.A y.n y.c] 41)
              refine wpOp_step rfl fun K' hK' => ?_
              simp only [putL, updV]
              go_simp
              have hz := hK' _ _ (hK (.slice (some ⟨u.heap.size, 0, none⟩) 1 1) (u.alloc (.cells #[.int .i64 y.W, .slice y.A y.n y.c] 41)) (hB.below hbw) (jnR.below hbw) (⟨_, rfl, Fb.new _ _ _, hB.gx.size⟩))
              refine Eq.mp (congrArg (fun a => K' a (u.alloc (.cells #[.int .i64 y.W, .slice y.A y.n y.c] 41))) ?_) hz
              kernel_rfl
            | 9, ho, hpre, hK =>
              obtain rfl := Option.some.inj ho
              have e6 : f 6 = Bc := hpre ⟨6, .data⟩ (by simp) rfl (.inl rfl)
              obtain ⟨g, e8, hf, hg⟩ : ∃ g : Nat, f 8 = .slice (some ⟨g, 0, none⟩) 1 1 ∧ Fb u g #[.int .i64 y.W, .slice y.A y.n y.c] 41 ∧ w1.heap.size ≤ g := hpre ⟨8, .data⟩ (by simp) rfl (.inr rfl)
              have ho : u.ownsRow b0 41 2 Bc lc.length (lc.flatMap ZH.cs) := hGi
              have hbase : b0 ≤ u.heap.size := by have := HBs.out; have := hB.gx.size; omega
              obtain ⟨f, rfl⟩ := fixG f 6 _ e6
              rw [updV_ne _ _ (by decide)] at e8
              obtain ⟨f, rfl⟩ := fixG f 8 _ e8
              clear e6 e8
              refine wpOp_step rfl fun K' hK' => ?_
              refine step_append_lies _ rfl (.tmp 58) (.tmp 60) 25 rfl b0 41 iB _ 2 32 Try.underlying25 HIB.out HB0.out HB1.out HB2.out rfl (by decide) Bc lc.length (lc.flatMap ZH.cs) (by kernel_rfl) ho ⟨g, 0, none⟩ 1 1 [.int .i64 y.W, .slice y.A y.n y.c] (by kernel_rfl) rfl (fun j x hx => World.news_of_block hf j x hx) (one_zcs y) (by omega) (by unfold maxLen; omega) (by omega) hbase _ rfl ?_
              intro g9 q9 w9 hown hgr hat _
              have hB9 := hB.app HJ.out (.inr rfl) ho (HN.out Bc (.inr rfl)).1 (HN.out Bc (.inr rfl)).2 hgr
              have hn9 : Bc.ownBlock = some g9 ∨ w1.heap.size ≤ g9 := hat.imp (fun e => e) (fun e => by rw [e]; exact hB.gx.size)
              have hne9 : some g9 ≠ Bb.ownBlock := by
                intro e
                rcases hat with e' | e'
                · rcases HJ.out.nbc with h | h
                  · rw [h] at e; cases e
                  · exact h (e.symm.trans e'.symm)
                · have := (HJ.out.ob.lt g9 e.symm).2; have := hB.gx.size; omega
              have hz := hK' _ _ (hK (.slice (some ⟨g9, 0, none⟩) (lc.length + 1) q9) (w9) (hB9) (⟨_, hgr, .inr (.inr ⟨rfl, rfl⟩)⟩) (⟨g9, q9, rfl, hown, hn9, hne9⟩))
              refine Eq.mp (congrArg (fun a => K' a (w9)) ?_) hz
              kernel_rfl
            | 10, ho, hpre, hK =>
              obtain rfl := Option.some.inj ho
              refine wpOp_step rfl fun K' hK' => ?_
              simp only [putL, updV]
              go_simp
              have hz := hK' _ _ (hK (.pointer (some ⟨bX, 3, none⟩)) (u) (hB) (jnR.refl _ _ _ _) (rfl))
              refine Eq.mp (congrArg (fun a => K' a (u)) ?_) hz
              kernel_rfl
            | j + 11, ho, hpre, hK => exact absurd hi (by omega)
          case en =>
            intro Q2 hQ2 f u hB hF
            obtain ⟨g4, q4, e4, o4, n4, m4⟩ := hF 4 (by decide) rfl
            obtain ⟨g9, q9, e9, o9, n9, m9⟩ := hF 9 (by decide) rfl
            have e10 : f 10 = .pointer (some ⟨bX, 3, none⟩) := hF 10 (by decide) rfl
            have HJn := hid (hB.push HJ.out o4 n4 o9 n9 HLL.out HXY.out HZX.out HZY.out HGX.out HGY.out)
            have HBn := hid (show b0 ≤ ((u.setCell ⟨bX, 3, none⟩ (.slice (some ⟨g4, 0, none⟩) (lb.length + 1) q4)).setCell ⟨cX, 3, none⟩ (.slice (some ⟨g9, 0, none⟩) (lc.length + 1) q9)).heap.size from by have := HBs.out; have := hB.gx.size; simp only [World.size_setCell]; omega)
            obtain ⟨x0, x1, x2, x3⟩ := hB.bx.four
            obtain ⟨y0, y1, y2, y3⟩ := hB.cx.four
            have f1 := hB.bx.frozen 3
            have f2 := hB.cx.frozen 3
            have l1 := hB.bx.lt
            have l2 := hB.cx.lt
            have hne := HJ.out.ne.2.2
            obtain ⟨f, rfl⟩ := fixG f 4 _ e4
            rw [updV_ne _ _ (by decide)] at e9 e10
            obtain ⟨f, rfl⟩ := fixG f 9 _ e9
            rw [updV_ne _ _ (by decide)] at e10
            obtain ⟨f, rfl⟩ := fixG f 10 _ e10
            clear hF o4 n4 m4 o9 n9 m9 e4 e9 e10 hB
            show wpAny _ _ _ _ 3 (tailArr 14 11) _ _
            generalize hA : putL _ _ _ _ = aa
            refine tail_three (i := 11) (j := 12) (k := 13) ?q1 ?q2 ?q3 ?q4 rfl rfl rfl hQ2 ?w1 ?w2 ?w3 ?q5
            case q1 => kernel_rfl
            case q2 => kernel_rfl
            case q3 => kernel_rfl
            case q4 => kernel_rfl
            case w1 => intro a; rfl
            case w2 => intro a; rfl
            case w3 => intro a; rfl
            simp only [putL, updV] at hA
            rw [← hA]
            clear hA
            go_simp
            refine hKx _ _ ?_
            rw [hlb, hlc] at HJn HBn
            have HLB5 := hid (show (lb ++ [x]).length = i + 1 by rw [List.length_append, hlb]; rfl)
            have HLC5 := hid (show (lc ++ [y]).length = i + 1 by rw [List.length_append, hlc]; rfl)
            go_wp2_with fail
            go_roundw
            case rel => exact ⟨i + 1, _, _, lb ++ [x], lc ++ [y], by omega, by go_num, HLB5, HLC5, HON, HBn, HJn⟩
            case measure => simp [intOf]; omega
      · have eN : N = i := by omega
        subst eN
        obtain ⟨A1, c1, e1⟩ := own_slice3 HJ.out.ob
        obtain ⟨A2, c2, e2⟩ := own_slice3 HJ.out.oc
        rw [HLB.out] at e1
        rw [HLC.out] at e2
        subst e1
        subst e2
        have hdn := Hdn.out
        obtain ⟨a0, a1, a2, a3⟩ := (show Fb wr aX #[.int .i64 v, .slice s.D.A s.D.n s.D.c, .slice s.T.A s.T.n s.T.c, .slice s.B.A s.B.n s.B.c] _ from by have := HJ.out.ax; unfold SY.box at this; rwa [hW] at this).four
        have HCa := hid (solve_any s v N _ wr HJ.out.sy Ho.out)
        have HCb := hid (fun (u : World) (hu : Below wr.heap.size wr u) => solve_any ⟨v, s.D, s.T, ⟨A1, N, c1, lb⟩⟩ v N _ u ((HJ.out.finb HLB.out (by omega)).below hu) (jn_ok Ho.out HJ.out.gb))
        have HCc := hid (fun (u : World) (hu : Below wr.heap.size wr u) => solve_any ⟨v, s.D, s.T, ⟨A2, N, c2, lc⟩⟩ v N _ u ((HJ.out.finc HLC.out (by omega)).below hu) (jn_ok Ho.out HJ.out.gc))
        have HPt := hid (fun (K1 K2 K3 : Nat) (l1 l2 l3 : List ZH) k1 k2 k3 e1 e2 e3 => jn_pt (A := A1) (c := c1) (A' := A2) (c' := c2) (K1 := K1) (K2 := K2) (K3 := K3) (l1 := l1) (l2 := l2) (l3 := l3) HJ.out.sy Ho.out HLB.out HLC.out HO.out k1 k2 k3 e1 e2 e3)
        generalize hp1 : s.pw = p1 at *
        generalize hp2 : (⟨v, s.D, s.T, ⟨A1, N, c1, lb⟩⟩ : SY).pw = p2 at *
        generalize hp3 : (⟨v, s.D, s.T, ⟨A2, N, c2, lc⟩⟩ : SY).pw = p3 at *
        unfold SY.a at HCa HCb HCc
        simp only at HCb HCc
        rw [hW, hdn] at HCa
        simp only [hdn] at HCb HCc
        clear hp1 hp2 hp3
        go_wp2_with fail
        refine HCa.out.mono ?_
        rintro e w5 ⟨K1, g1, l1, hK1, rfl, hg1, hrow1, hok1, hvs1, hb1⟩
        have HB5 := hid hb1
        have HR1 := hid hrow1
        have Hok1 := hid hok1
        have HK1 := hid (And.intro hK1 hvs1)
        clear hK1 hg1 hrow1 hok1 hvs1 hb1 a0 a1 a2 a3 HCa
        obtain ⟨b1, b2, b3, b4⟩ := (HJ.out.bx.below HB5.out HJ.out.bx.lt).four
        go_wp2_with fail
        refine (HCb.out _ HB5.out).mono ?_
        rintro e w6 ⟨K2, g2, l2, hK2, rfl, hg2, hrow2, hok2, hvs2, hb2⟩
        have HB6 := hid (below_step HB5.out hb2)
        have HR1' := hid (HR1.out.below hb2)
        have HR2 := hid hrow2
        have Hok2 := hid hok2
        have HK2 := hid (And.intro hK2 hvs2)
        clear hK2 hg2 hrow2 hok2 hvs2 hb2 HCb b1 b2 b3 b4 HB5 HR1
        obtain ⟨b1, b2, b3, b4⟩ := (HJ.out.cx.below HB6.out HJ.out.cx.lt).four
        go_wp2_with fail
        refine (HCc.out _ HB6.out).mono ?_
        rintro e w7 ⟨K3, g3, l3, hK3, rfl, hg3, hrow3, hok3, hvs3, hb3⟩
        have HB7 := hid (below_step HJ.out.bel (below_step HB6.out hb3))
        have HR1 := hid (HR1'.out.below hb3)
        have HR2' := hid (HR2.out.below hb3)
        have HR3 := hid hrow3
        have Hok3 := hid hok3
        have HP := hid (HPt.out K1 K2 K3 l1 l2 l3 HK1.out.1 HK2.out.1 hK3 HK1.out.2 HK2.out.2 hvs3)
        clear hK3 hg3 hrow3 hok3 hvs3 hb3 HCc b1 b2 b3 b4 HB6 HR1' HR2 HPt HK1 HK2 HJ HO HLB HLC HBs hdn Hdn Hbn Ho
        have hnn : ((N : Int) != N) = false := by simp
        go_wp2_with fail
        have HR2 := hid HR2'.out
        clear HR2'
        go_loopw [20, 21, 22] (fun kv _ _ wr => ∃ k : Nat, k ≤ N ∧ kv = .int .i64 k ∧ Hid (Below w7.heap.size w7 wr)) (fun kv _ _ _ => N - (intOf kv).toNat)
        case atStart => exact ⟨0, by omega, rfl, hid (Below.refl _ _)⟩
        case round =>
          obtain ⟨k, hk, rfl, HI⟩ := hrel
          by_cases hlt : k < N
          · obtain ⟨x, hx, hxm⟩ := get_at HR1.out.len hlt
            obtain ⟨y, hy, hym⟩ := get_at HR2.out.len hlt
            obtain ⟨z, hz, hzm⟩ := get_at HR3.out.len hlt
            have Hpt := hid (HP.out k x y z hlt hx hy hz)
            have Hxg := hid (Hok1.out x hxm)
            have Hyg := hid (Hok2.out y hym)
            have Hzg := hid (Hok3.out z hzm)
            have Hcx := hid (fun (u : World) (hu : Below w7.heap.size w7 u) => (HR1.out.below hu).cells hx)
            have Hcy := hid (fun (u : World) (hu : Below w7.heap.size w7 u) => (HR2.out.below hu).cells hy)
            have Hcz := hid (fun (u : World) (hu : Below w7.heap.size w7 u) => (HR3.out.below hu).cells hz)
            have Hax := hid (fun (u : World) (hu : Below w7.heap.size w7 u) => (HR1.out.below hu).all x hxm)
            have Hay := hid (fun (u : World) (hu : Below w7.heap.size w7 u) => (HR2.out.below hu).all y hym)
            have Haz := hid (fun (u : World) (hu : Below w7.heap.size w7 u) => (HR3.out.below hu).all z hzm)
            obtain ⟨XW, XA, xn, xc, xs⟩ := x
            obtain ⟨YW, YA, yn, yc, ys⟩ := y
            obtain ⟨ZW, ZA, zn, zc, zs⟩ := z
            have hxW := Hxg.out.1
            have hyW := Hyg.out.1
            have hzW := Hzg.out.1
            simp only at hxW hyW hzW
            subst hxW
            subst hyW
            subst hzW
            have n0 : (0 : Int) ≤ k := by omega
            have n1 : (k : Int) < N := by omega
            have n2 : (k : Int).toNat = k := by omega
            clear hx hxm hy hym hz hzm
            go_upto_region 19 with fail
            have Hd := hid (below_step HI.out (Below.refl wr.heap.size wr).drew)
            have Hda := hid (below_step HI.out ((Below.refl wr.heap.size wr).drew.alloc (by simp) (.cells #[.int .i64 0, .slice none 0 0] 41)))
            have HU := hid (fun (u : World) (hu : Below w7.heap.size w7 u) => devUnion_own v XA YA xn xc yn yc xs ys u (Hax.out u hu) (Hay.out u hu) hv Hxg.out.2 Hyg.out.2)
            have hpt := Hpt.out
            have hzf := Hzg.out.2
            simp only at hpt hzf
            rw [← hpt] at HU
            clear hpt hzf
            go_cut [21, 22] (fun a b wd => ∃ (pb gy : Nat), a = .pointer (some ⟨pb, 0, none⟩) ∧ b = .int .i64 0 ∧ Hid (Fb wd pb #[.int .i64 v, .slice (some ⟨gy, 0, none⟩) (Bs.nw v) (Bs.nw v)] 41 ∧ Row wd gy zs ∧ Below w7.heap.size w7 wd))
            case first =>
              obtain ⟨x0, x1⟩ := Hcx.out _ Hd.out
              obtain ⟨y0, y1⟩ := Hcy.out _ Hd.out
              obtain ⟨x2, x3⟩ := Hcx.out _ Hda.out
              obtain ⟨y2, y3⟩ := Hcy.out _ Hda.out
              have j0 : (wr.alloc (.cells #[.int .i64 0, .slice none 0 0] 41)).cell? ⟨g1, k * 2, none⟩ = some (.int .i64 v) := x2
              have j1 : (wr.alloc (.cells #[.int .i64 0, .slice none 0 0] 41)).cell? ⟨g1, k * 2 + 1, none⟩ = some (.slice XA xn xc) := x3
              have j2 : (wr.alloc (.cells #[.int .i64 0, .slice none 0 0] 41)).cell? ⟨g2, k * 2, none⟩ = some (.int .i64 v) := y2
              have j3 : (wr.alloc (.cells #[.int .i64 0, .slice none 0 0] 41)).cell? ⟨g2, k * 2 + 1, none⟩ = some (.slice YA yn yc) := y3
              clear x2 x3 y2 y3
              go_region_law (
                (go_simp
                 go_at_call 27
                 refine (HU.out _ (by first | exact Hd.out | exact Hda.out)).mono ?_
                 rintro e u2 ⟨gy, rfl, hry, hgy, hb2⟩
                 have Hb2 := hid (below_step (by first | exact Hd.out | exact Hda.out) hb2)
                 have Hry := hid hry
                 have hs7 : w7.heap.size ≤ wr.heap.size := HI.out.size
                 try (have hbx : Fb u2 wr.heap.size #[.int .i64 0, .slice none 0 0] 41 := (Fb.new wr.drew _ _).below hb2 (by simp)
                      have z0 := hbx.cell 0
                      have z1 := hbx.cell 1
                      have f0 := hbx.frozen 0
                      have f1 := hbx.frozen 1
                      have hbl := hbx.lt
                      have Hgy2 := hid (show wr.heap.size + 1 ≤ gy by simpa using hgy))
                 clear hry hb2 hgy))
              all_goals
                go_wp2_with fail
                go_meet
                first
                | exact ⟨_, gy, rfl, rfl, hid ⟨(hbx.set 0 _).set 1 _, (Hry.out.far (by have := Hgy2.out; simp; omega) _).far (by have := Hgy2.out; simp; omega) _, (Hb2.out.setCell (by simpa using hs7) _).setCell (by simpa using hs7) _⟩⟩
                | exact ⟨_, gy, rfl, rfl, hid ⟨Fb.new _ _ _, Hry.out.alloc _, Hb2.out.alloc Hb2.out.size _⟩⟩
                | (trace_state; sorry)
            case rest =>
              obtain ⟨pb, gy, rfl, rfl, HQ⟩ := hcut
              clear Hd Hda HU Hcx Hcy Hax Hay Hxg Hyg HI
              generalize wc = w8 at *
              have HQ2 := hid (HQ.out.2.2.drew)
              obtain ⟨p0, p1⟩ := HQ.out.1.two
              obtain ⟨z0, z1⟩ := Hcz.out _ HQ.out.2.2
              have HE := hid (devEqual_any v v (some ⟨gy, 0, none⟩) ZA (Bs.nw v) (Bs.nw v) zn zc zs zs w8.drew (by
                have := Row.arg (HQ.out.2.1.below (Below.refl _ _).drew HQ.out.2.1.lt) Hzg.out.2.ok
                have hl := Hzg.out.2.len
                simp only at hl
                rwa [hl] at this) (Haz.out _ HQ2.out) (by unfold Bs.nw maxLen; omega))
              have hE : equalB v zs v zs = true := by
                unfold equalB sameB
                rw [Bs.valid_of_fit Hzg.out.2 hv]; simp
              rw [hE] at HE
              clear hE
              go_wp2_with fail
              go_region_with (first
                | (go_at_call 33
                   go_must (
                   refine HE.out.mono ?_
                   rintro e w9 ⟨rfl, hb9⟩
                   have Hb9 := hid (below_step HQ2.out hb9)
                   clear hb9)))
              all_goals
                go_wp2_with fail
                go_roundw
                case rel => exact ⟨k + 1, by omega, by go_num, Hb9⟩
                case measure => simp [intOf]; omega
          · obtain rfl : k = N := by omega
            go_wp2_with fail
            refine (sane11_any _).mono ?_
            rintro e w8 ⟨rfl, hb8⟩
            have HB8 := hid (below_step HB7.out (below_step HI.out hb8))
            clear hb8
            go_wp2_with fail
            go_ret
            exact ⟨rfl, HB8.out⟩
end Go.Proofs.Ytmnbidpoceknlaa

namespace Go.Proofs.Ytmnbidpoceknlaa
set_option maxRecDepth 10000
open Go.ChangeShapes Go.WideShapes Go.ChangeAt Go.RowKit Go.Joins

theorem cells3 : Try.prog.cellsOf 3 = 1 := by kernel_rfl
theorem cells25 : Try.prog.cellsOf 41 = 2 := by kernel_rfl
theorem cells62 : Try.prog.cellsOf 80 = 1 := by kernel_rfl

theorem cell_in {w : World} {a : Addr} {v : Value} (h : w.cell? a = some v) : a.block < w.heap.size := by
  rcases Nat.lt_or_ge a.block w.heap.size with hlt | hge
  · exact hlt
  · unfold World.cell? at h; rw [Array.getElem?_eq_none hge] at h; cases h

theorem wf_u64 {z : Int} (h : (Lit.int .u64 z).wf = true) : 0 ≤ z ∧ z ≤ 18446744073709551615 := by
  have m0 : IntKind.u64.min = 0 := by decide
  have m1 : IntKind.u64.max = 18446744073709551615 := by decide
  simp [Lit.wf] at h
  omega
theorem open_list {H : Type} {enc : TypeId × Value → H} {W : World} {b0 base : Nat} {spare : Nat → Bool} {held : Bool} {v : Value} {d : DataW H} {p : List MemPlace}
    (hv : Value.okWide Try.prog W .any b0 22 v) (h : DataW.Trod enc Try.prog W base spare held 22 v d p) :
    ∃ (A : Option Addr) (n c : Nat) (l : List Int), v = .slice A n c ∧ IArg W A n l ∧ n ≤ maxLen := by
  obtain ⟨A, n, c, rfl⟩ := okWide_slice Try.underlying22 hv
  obtain ⟨fuel, hf⟩ := h
  rcases open_ints Try.underlying22 Try.underlying3 cells3 hf with ⟨hcs, _⟩ | ⟨x, l, c', zs, hcs, _, hl, hm, hz, _, hcell, hwz⟩
  · simp [Value.cells] at hcs
    obtain ⟨rfl, rfl, rfl⟩ := hcs
    exact ⟨none, 0, 0, [], rfl, ⟨.inl rfl, rfl⟩, by simp [maxLen]⟩
  · simp [Value.cells] at hcs
    obtain ⟨rfl, rfl, rfl⟩ := hcs
    have hle : n ≤ zs.length := by rw [hz]; split <;> omega
    refine ⟨some x, n, c, zs.take n, rfl, ⟨?_, by rw [List.length_take]; omega⟩, Nat.le_trans hl hm⟩
    by_cases h0 : n = 0
    · subst h0; exact .inl rfl
    · refine .inr ⟨x, rfl, ?_, fun j u hu => ?_⟩
      · have := cell_in (hcell 0 (by omega)); rwa [add_block] at this
      · unfold ints at hu
        rw [List.getElem?_map] at hu
        have hj : j < n := by
          rcases Nat.lt_or_ge j n with h | h
          · exact h
          · rw [List.getElem?_eq_none (by rw [List.length_take]; omega)] at hu; simp at hu
        rw [List.getElem?_take, if_pos hj, List.getElem?_eq_getElem (by omega)] at hu
        have := hcell j (by omega)
        rw [List.getD_eq_getElem?_getD, List.getElem?_eq_getElem (by omega)] at this
        rw [this]; simpa using hu

theorem open_set {H : Type} {enc : TypeId × Value → H} {W : World} {b0 base : Nat} {spare : Nat → Bool} {held : Bool} {v : Value} {d : DataW H} {p : List MemPlace}
    (hv : Value.okWide Try.prog W .any b0 41 v) (h : DataW.Trod enc Try.prog W base spare held 41 v d p) :
    ∃ (Wd : Int) (A : Option Addr) (n c : Nat) (ws : List Nat), v = .agg #[.int .i64 Wd, .slice A n c] ∧ Arg W A n ws ∧ n ≤ maxLen := by
  obtain ⟨c0, c1, y0, y1, m, rfl, rfl, rfl, hy0, hy1⟩ := open_agg2 Try.underlying41 (by kernel_rfl) cells25 hv h
  obtain ⟨a, e0, _, _⟩ := DataW.trod_int Try.underlying3 hy0
  simp at e0
  subst e0
  rcases open_ints Try.underlying39 Try.underlying80 cells62 hy1 with ⟨hcs, _⟩ | ⟨x, l, c', zs, hcs, _, hl, hm, hz, _, hcell, hwz⟩
  · simp at hcs
    subst hcs
    exact ⟨a, none, 0, 0, [], rfl, Arg.nil _ _, by simp [maxLen]⟩
  · simp at hcs
    subst hcs
    have hle : l ≤ zs.length := by rw [hz]; split <;> omega
    refine ⟨a, some x, l, c', (zs.take l).map Int.toNat, rfl, ⟨?_, by rw [List.length_map, List.length_take]; omega, ?_⟩, Nat.le_trans hl hm⟩
    · by_cases h0 : l = 0
      · subst h0; exact .inl rfl
      · refine .inr ⟨x, rfl, ?_, fun j u hu => ?_⟩
        · have := cell_in (hcell 0 (by omega)); rwa [add_block] at this
        · unfold words at hu
          rw [List.getElem?_map, List.getElem?_map] at hu
          have hj : j < l := by
            rcases Nat.lt_or_ge j l with h | h
            · exact h
            · rw [List.getElem?_eq_none (by rw [List.length_take]; omega)] at hu; simp at hu
          rw [List.getElem?_take, if_pos hj, List.getElem?_eq_getElem (by omega)] at hu
          have := hcell j (by omega)
          rw [List.getD_eq_getElem?_getD, List.getElem?_eq_getElem (by omega)] at this
          have hw := hwz zs[j] (List.getElem_mem _)
          rw [this]
          simp [u64] at hu ⊢
          rw [← hu]
          have h0 := wf_u64 hw
          simp; omega
    · intro y hy
      obtain ⟨z, hz1, rfl⟩ := List.mem_map.1 hy
      have hw := hwz z (List.mem_of_mem_take hz1)
      unfold Bs.W64
      have h0 := wf_u64 hw
      omega
end Go.Proofs.Ytmnbidpoceknlaa

namespace Go.Proofs.Ytmnbidpoceknlaa.fixpointJoins
open Go.ChangeShapes Go.WideShapes Go.ChangeAt Go.RowKit
open Go.ChangeMaps (open_string)
set_option linter.unusedVariables false

theorem own : ownKnob Try.prog.godebug = none := by kernel_rfl
theorem laidOut : laidOutB Try.prog = true := by kernel_rfl

set_option maxRecDepth 100000 in
theorem lifted (os : Os) (started : os.Started) (H : Type) (enc : TypeId × Value → H) :
    ReturnsInHanded {} Try.checked os 7 .any (Rows.fixpointJoinsSpec.pre6 enc Try.prog Try.f7 Rows.fixpointJoinsRow.domain false) (Rows.fixpointJoinsSpec.post enc Try.prog Try.f7 false true false false) := by
  refine returnsInHanded_of_change (C := Try.checked) own started (by kernel_rfl) Try.func7
    (ChangeSpec.witness6 (enc := enc) (C := Try.checked) false ⟨#[], #[.slice none 0 0], []⟩ 8 (by kernel_rfl) (by kernel_rfl) (by kernel_rfl) (by kernel_rfl)) ?_
  intro W base args ds gs before hval0 hW hcnd _
  have hval : ∀ (j : Nat) t v, Try.f7.params[j]? = some t → args[j]? = some v → Value.okWide Try.prog W .any base t v := hval0
  have hW' := hW
  obtain ⟨p, q, hA0, hV, rfl, hfz, hnd⟩ := hW
  have hA : DataW.TrodAll enc Try.prog W 0 (fun _ => true) true Try.f7.params.toList args.toList ds p := hA0
  rw [Try.params7] at hA hval
  obtain ⟨v0, vs0, d0, ds0, p0, q0, hargs, rfl, rfl, h0, r0⟩ := trodAll_cons hA
  obtain ⟨rfl, rfl, rfl⟩ := trodAll_nil r0
  obtain rfl : args = #[v0] := by cases args; simp_all
  obtain ⟨rfl, rfl⟩ := trodVars_none hV
  have k0 := h0
  have lt0 : ∀ x ∈ p0, x.block < W.heap.size := by obtain ⟨m, hm⟩ := k0; exact DataW.trod_lt m _ _ _ hm
  obtain ⟨a0, n0, c0, l0, rfl, g0, m0⟩ := open_list (hval 0 22 v0 rfl rfl) h0
  clear hA0 hval0
  refine (lawJoins a0 n0 c0 l0 W g0 m0).mono fun e W' ⟨he, bel⟩ => ?_
  subst he
  exact ⟨_, rfl, _, _, _, [], _, [], hW', trodAll_mk1 (shut_bool Try.underlying4 _), (trodAll_cons_mk (Below.trod laidOut (by kernel_rfl) (of_decide_eq_true (by kernel_rfl)) k0 bel lt0) trodAll_mk0), rfl, bel.frame _, fun h => by cases h⟩

theorem over : Rows.fixpointJoinsRow.holds Try.pinned (OpenSpec.ofChange Rows.fixpointJoinsSpec) :=
  OpenClaim.holds_of_wide 7 Try.f7 rfl rfl rfl rfl rfl rfl rfl ⟨rfl, rfl, rfl, rfl, rfl⟩ rfl rfl rfl rfl rfl (by kernel_rfl) Try.func7 (by kernel_rfl)
    (of_decide_eq_true (by kernel_rfl)) (by unfold Func.isWrapper; first | (rw [if_pos (by decide +kernel)]; kernel_rfl) | (rw [if_neg (by decide +kernel)]; exact ⟨rfl, rfl⟩))
    (fun os started H enc _ => lifted os started H enc)

theorem proved : Rows.FixpointJoinsSaid := over
#print axioms proved
end Go.Proofs.Ytmnbidpoceknlaa.fixpointJoins
