/- Texts that the proof leans on, merged. -/
import Derived.Test.YtmbelhdkaepohaaGreatDoorMga
import Derived.Test.YtmbelhdkaepohaaGreatDoorMpp
import Derived.Test.YtmbelhdkaepohaaGreatDoorSup
import Derived.Lib.SmallJoins
import Derived.ShutString
import Derived.ChangeOld
import Derived.Test.YtmbelhdkaepohaaGreatDoorTie
import Derived.Test.YtmbelhdkaepohaaGreatDoorCards
import Derived.Deep.DeepHandedRow
import Derived.Deep.DeepWitnessRowRef
import Derived.LaidMore
import Derived.Lib.LaidTab
import Derived.Test.YtmbelhdkaepohaaGreatDoorPrg
import Derived.Deep.Slices
import Derived.Deep.Fields
import Derived.ChangeSame
import Derived.SliceStrings
namespace Go.Proofs.YtmbelhdkaepohaaGreatDoor
set_option maxRecDepth 20000
set_option linter.unusedVariables false
set_option linter.unusedSimpArgs false
open Go.ChangeShapes Go.WideShapes Go.ChangeAt Go.RowKit

theorem getD_at {l : List Int} {k : Nat} {a : Int} (h : l[k]? = some a) : l.getD k 0 = a := by rw [List.getD_eq_getElem?_getD, h]; rfl
set_option maxHeartbeats 3200000 in
theorem rising_any (x : RH) (N : Nat) (ex : List (Option Nat)) (w : World) (h : RHok w ex x) (hN : N ≤ 9223372036854775807) :
    Calls Tryz.prog 26 #[.slice x.A x.n x.c, .int .i64 N] w (RetQ w (.bool (risB N x.l))) := by
  have hn := h.few
  have HX := hid h
  have HL := hid h.len
  clear h
  obtain ⟨A, n, c, l⟩ := x
  simp only at *
  go_enter Tryz.func26, Tryz.ntmps26
  go_wp2_with fail
  go_loopw [5] (fun iv wr => ∃ (k q : Nat), k ≤ n ∧ iv = .int .i64 k ∧ wr = w.drewN q ∧ Hid (risB N l = ascG N (prevI l k) (l.drop k)) ∧ Hid (-1 ≤ prevI l k)) (fun iv _ => n - (intOf iv).toNat)
  case atStart => exact ⟨0, 0, by omega, rfl, rfl, hid rfl, hid (by rw [prevI_zero]; omega)⟩
  case round =>
    obtain ⟨k, q, hk, rfl, rfl, hE, hP⟩ := hrel
    by_cases hlt : k < n
    · obtain ⟨a, ha, -⟩ := get_at HL.out hlt
      obtain ⟨ad, hA, had, hc⟩ := HX.out.cell ha
      simp only at hA
      subst hA
      have Ha := hid ha
      have Hs := hid (prevI_succ ha)
      clear ha
      by_cases h1 : a < 0
      · have t1 : decide (a < 0) = true := by simpa using h1
        as_aux_lemma =>
          have Hr := hid (risB_low hE.out Ha.out (by have := hP.out; omega))
          go_wp2_with fail
          go_quiet (fail)
          go_wp2_with fail
          go_ret
          first | exact RetQ.mk Hr.out | exact RetQ.mk2 Hr.out
      · have t1 : decide (a < 0) = false := by simpa using h1
        by_cases h2 : (N : Int) ≤ a
        · have t2 : decide ((N : Int) ≤ a) = true := by simpa using h2
          as_aux_lemma =>
            have Hr := hid (risB_high hE.out Ha.out h2)
            go_wp2_with fail
            go_quiet (fail)
            go_wp2_with fail
            go_ret
            first | exact RetQ.mk Hr.out | exact RetQ.mk2 Hr.out
        · have t2 : decide ((N : Int) ≤ a) = false := by simpa using h2
          by_cases hk0 : k = 0
          · have t5 : decide (0 < (k : Int)) = false := by simp; omega
            have t5n : decide (0 < k) = false := by simp; omega
            have Hr := hid (risB_next hE.out Ha.out (by rw [hk0, prevI_zero]; omega) h2)
            clear hk0
            as_aux_lemma =>
              go_wp2_with fail
              go_quiet (fail)
              go_wp2_with fail
              go_roundw
              case rel => exact ⟨k + 1, _, by omega, by go_num, rfl, hid (by rw [Hs.out]; exact Hr.out), hid (by rw [Hs.out]; omega)⟩
              case measure => simp [intOf]; omega
          · obtain ⟨p, hp, -⟩ := get_at HL.out (show k - 1 < n by omega)
            obtain ⟨ad2, hA2, -, hc2⟩ := HX.out.cell hp
            obtain rfl := Option.some.inj hA2
            have Hp := hid (show prevI l k = p by have := prevI_succ hp; rwa [Nat.sub_add_cancel (by omega)] at this)
            clear hp
            have e1 : ((k : Int) - 1).toNat = k - 1 := by omega
            have e2 : 1 ≤ (k : Int) := by omega
            have e3 : (k : Int) - 1 < n := by omega
            have e4 : IntKind.i64.wrap ((k : Int) - 1) = (k : Int) - 1 := IntWalk.i64_in _ (by omega)
            have e5 : 0 < (k : Int) := by omega
            have t5 : decide (0 < (k : Int)) = true := by simp; omega
            have t5n : decide (0 < k) = true := by simp; omega
            have e2n : 1 ≤ k := by omega
            by_cases h3 : a ≤ p
            · have t6 : decide (a ≤ p) = true := by simpa using h3
              as_aux_lemma =>
                have Hr := hid (risB_low hE.out Ha.out (by rw [Hp.out]; exact h3))
                go_wp2_with fail
                go_quiet (fail)
                go_wp2_with fail
                go_ret
                first | exact RetQ.mk Hr.out | exact RetQ.mk2 Hr.out
            · have t6 : decide (a ≤ p) = false := by simpa using h3
              as_aux_lemma =>
                have Hr := hid (risB_next hE.out Ha.out (by rw [Hp.out]; exact h3) h2)
                go_wp2_with fail
                go_quiet (fail)
                go_wp2_with fail
                go_roundw
                case rel => exact ⟨k + 1, _, by omega, by go_num, rfl, hid (by rw [Hs.out]; exact Hr.out), hid (by rw [Hs.out]; omega)⟩
                case measure => simp [intOf]; omega
    · obtain rfl : k = n := by omega
      have Hr := hid (risB_done hE.out (Nat.le_of_eq HL.out))
      go_wp2_with fail
      go_ret
      exact RetQ.mk Hr.out
/-- A number that tells whether the elements are more than a limit, and if not, how many they are. -/
def RetTot (w : World) (M t : Nat) (e : Ending) (w' : World) : Prop := ∃ r : Nat, e = .returned (.int .i64 r) ∧ w = w' ∧ (r ≤ M ∧ r = t ∨ M < r ∧ M < t)
set_option maxHeartbeats 1600000 in
theorem total_any (x : LH) (M : Nat) (ex : List (Option Nat)) (w : World) (h : LHok w ex x) (hM : M ≤ 100000) :
    Calls Tryz.prog 25 #[.slice x.A x.n x.c, .int .i64 M] w (RetTot w M (tot x.v)) := by
  have hn := h.few
  have HX := hid h
  have HL := hid h.len
  have Hat := hid (fun (k : Nat) (y : RH) (hy : x.l[k]? = some y) => LH.at hy)
  have Hvl := hid (LH.vlen x)
  clear h
  generalize hv : LH.v x = v at *
  clear hv
  obtain ⟨A, n, c, l⟩ := x
  simp only at *
  go_enter Tryz.func25, Tryz.ntmps25
  go_wp2_with fail
  go_loop [5, 6] (fun sv iv => ∃ (k t : Nat), k ≤ n ∧ iv = .int .i64 k ∧ sv = .int .i64 t ∧ t ≤ 200001 ∧ Hid (t ≤ M ∧ t = tot (v.take k) ∨ M < t ∧ M < tot (v.take k))) (fun _ iv => n - (intOf iv).toNat)
  case atStart => exact ⟨0, 0, by omega, rfl, rfl, by omega, hid (.inl ⟨by omega, rfl⟩)⟩
  case round =>
    obtain ⟨k, t, hk, rfl, rfl, ht, hE⟩ := hrel
    by_cases hlt : k < n
    · by_cases htM : t ≤ M
      · obtain ⟨y, hy, hym⟩ := get_at HL.out hlt
        obtain ⟨ad, hA, had, hc⟩ := HX.out.cell hy
        simp only at hA
        subst hA
        have hyn := (HX.out.all y hym).few
        have Hs := hid (show tot (v.take (k + 1)) = t + y.n by
          rw [tot_takeS (Hat.out k y hy), (HX.out.all y hym).len]
          rcases hE.out with h | h
          · omega
          · omega)
        clear hy hym
        obtain ⟨yA, yn, yc, yl⟩ := y
        simp only at *
        by_cases hmin : yn ≤ M + 1
        · as_aux_lemma =>
            have e1 : min (yn : Int) ((M : Int) + 1) = yn := by omega
            go_wp2_with fail
            all_goals
              go_round
              case rel => exact ⟨k + 1, t + yn, by omega, by go_num, by go_num, by omega, hid (by rw [Hs.out]; omega)⟩
              case measure => simp [intOf]; omega
        · as_aux_lemma =>
            have e1 : min (yn : Int) ((M : Int) + 1) = (M : Int) + 1 := by omega
            go_wp2_with fail
            all_goals
              go_round
              case rel => exact ⟨k + 1, t + (M + 1), by omega, by go_num, by go_num, by omega, hid (by rw [Hs.out]; omega)⟩
              case measure => simp [intOf]; omega
      · as_aux_lemma =>
          have Hr := hid (show M < tot v by rcases hE.out with h | h <;> have := tot_pre (S := v) (k := k) <;> omega)
          go_wp2_with fail
          go_ret
          exact ⟨t, rfl, rfl, .inr ⟨by omega, Hr.out⟩⟩
    · obtain rfl : k = n := by omega
      have Hr := hid (show t ≤ M ∧ t = tot v ∨ M < t ∧ M < tot v by have := hE.out; rwa [List.take_of_length_le (by rw [Hvl.out, HL.out]; omega)] at this)
      go_wp2_with fail
      go_ret
      exact ⟨t, rfl, rfl, Hr.out⟩
end Go.Proofs.YtmbelhdkaepohaaGreatDoor

namespace Go.Proofs.YtmbelhdkaepohaaGreatDoor
set_option maxRecDepth 20000
set_option linter.unusedVariables false
set_option linter.unusedSimpArgs false
open Go.ChangeShapes Go.WideShapes Go.ChangeAt Go.RowKit

theorem all_at {S : List (List Int)} {p : List Int → Bool} {k : Nat} {l : List Int} (h : S.all p = true) (hk : S[k]? = some l) : p l = true := List.all_eq_true.1 h l (List.mem_of_getElem? hk)
theorem upto_next {S : List (List Int)} {p : List Int → Bool} {k : Nat} {a : List Int} (h : ∀ (j : Nat) (l : List Int), j < k → S[j]? = some l → p l = true) (ha : S[k]? = some a) (hp : p a = true) : ∀ (j : Nat) (l : List Int), j < k + 1 → S[j]? = some l → p l = true := by
  intro j l hj hl
  by_cases e : j = k
  · subst e; rw [ha] at hl; rw [← Option.some.inj hl]; exact hp
  · exact h j l (by omega) hl
/-- Of the first j of a row all point back to i. -/
def Pt (P : List (List Int)) (i : Nat) (l : List Int) (j : Nat) : Prop := ∀ (k b : Nat), k < j → l[k]? = some (b : Int) → (i : Int) ∈ rw0 P b
theorem Pt.zero (P : List (List Int)) (i : Nat) (l : List Int) : Pt P i l 0 := fun k b h => by omega
theorem Pt.step {P : List (List Int)} {i : Nat} {l m : List Int} {j b : Nat} (h : Pt P i l j) (hj : l[j]? = some (b : Int)) (hm : P[b]? = some m) (hh : hasI m i = true) : Pt P i l (j + 1) := by
  intro k c hk hc
  by_cases e : k = j
  · subst e
    rw [hj] at hc
    have := Option.some.inj hc
    obtain rfl : b = c := by omega
    rw [rw0_at hm]
    unfold hasI at hh
    simpa using hh
  · exact h k c (by omega) hc
theorem Pt.all {P : List (List Int)} {i n : Nat} {l : List Int} (h : Pt P i l n) (hl : l.length = n) : ∀ (k b : Nat), l[k]? = some (b : Int) → (i : Int) ∈ rw0 P b :=
  fun k b hb => h k b (by have := (List.getElem?_eq_some_iff.1 hb).1; omega) hb
theorem not_has {l : List Int} {i : Int} (h : hasI l i = false) : ¬ i ∈ l := by
  unfold hasI at h; simpa using h
set_option maxHeartbeats 12800000 in
theorem refValidGraph_any (x : GH) (ex : List (Option Nat)) (w : World) (h : GHok w ex x) :
    Calls Tryz.prog 12 #[x.a] w (RetVb w (.bool (validB x.n x.S.v x.P.v))) := by
  have HG := hid (GW.start h)
  have hn0 := h.few
  have hs0 := h.s.few
  have hp0 := h.p.few
  have HL := hid h.s.len
  have HLp := hid h.p.len
  have HvS := hid ((LH.vlen x.S).trans h.s.len)
  have HvP := hid ((LH.vlen x.P).trans h.p.len)
  have HatS := hid (fun (k : Nat) (z : RH) (hz : x.S.l[k]? = some z) => LH.at hz)
  have HatP := hid (fun (k : Nat) (z : RH) (hz : x.P.l[k]? = some z) => LH.at hz)
  have HtS := hid (fun (v : World) (hv : GW w w.heap.size ex x v) => total_any x.S 1024 ex v hv.g.s (by omega))
  have HtP := hid (fun (v : World) (hv : GW w w.heap.size ex x v) => total_any x.P 1024 ex v hv.g.p (by omega))
  have hR : ∃ R, validB x.n x.S.v x.P.v = R := ⟨_, rfl⟩
  obtain ⟨R, hR⟩ := hR
  have HNo := hid (show ∀ Q : Prop, (ValG x.n x.S.v x.P.v → Q) → ¬Q → R = false by rw [← hR]; exact fun Q h1 h2 => valid_no h1 h2)
  have HYes := hid (show ValG x.n x.S.v x.P.v → R = true by rw [← hR]; exact valid_yes)
  rw [hR]
  unfold GH.a
  clear h hR
  have HK := hid (fun (v u : World) (h : GW w w.heap.size ex x v) (hb : Below v.heap.size v u) => h.below hb)
  generalize hsv : x.S.v = Sv at *
  generalize hpv : x.P.v = Pv at *
  clear hsv hpv
  obtain ⟨A, n, c, ns, ⟨SA, sn, sc, sl⟩, ⟨PA, pn, pc, pl⟩⟩ := x
  simp only at *
  go_enter Tryz.func12, Tryz.ntmps12
  have hG : ∃ G, w.heap.size = G := ⟨_, rfl⟩
  obtain ⟨G, hG⟩ := hG
  have HGe := hid hG
  rw [hG] at HG HtS HtP HK
  clear hG
  by_cases h1 : 1 ≤ n
  · by_cases h2 : n ≤ 256
    · by_cases h3 : sn = n
      · by_cases h4 : pn = n
        · subst h3
          subst h4
          go_wp2_with fail
          rw [HGe.out]
          generalize w.alloc (.cells #[.slice A pn c, .slice SA pn sc, .slice PA pn pc] 26) = w0 at HG ⊢
          obtain ⟨c0, c1, c2⟩ := HG.out.box.thr
          have hGl := HG.out.box.lt
          refine (HtS.out _ HG.out).mono ?_
          rintro e w1 ⟨r, rfl, rfl, hr⟩
          have Hrr := hid hr
          clear hr
          by_cases hr1 : r ≤ 1024
          · have t1 : decide ((1024 : Int) < (r : Int)) = false := by simp; omega
            have HmS := hid (show tot Sv ≤ 1024 by rcases Hrr.out with h | h <;> omega)
            clear Hrr
            go_wp2_with fail
            refine (HtP.out _ HG.out).mono ?_
            rintro e w1 ⟨r2, rfl, rfl, hr⟩
            have Hrr := hid hr
            clear hr
            by_cases hr2 : r2 ≤ 1024
            · have t2 : decide ((1024 : Int) < (r2 : Int)) = false := by simp; omega
              clear Hrr
              go_wp2_with fail
              clear t1 t2 hr1 hr2 c0 c1 c2
              go_loopw [4] (fun iv wr => ∃ k : Nat, k ≤ pn ∧ iv = .int .i64 k ∧ Hid (GW w G ex ⟨A, pn, c, ns, ⟨SA, pn, sc, sl⟩, ⟨PA, pn, pc, pl⟩⟩ wr) ∧ Hid (∀ (j : Nat) (l : List Int), j < k → Sv[j]? = some l → risB pn l = true) ∧ Hid (∀ (j : Nat) (l : List Int), j < k → Pv[j]? = some l → risB pn l = true)) (fun iv _ => pn - (intOf iv).toNat)
              case atStart => exact ⟨0, by omega, rfl, HG, hid (fun j l h => by omega), hid (fun j l h => by omega)⟩
              case round =>
                clear HG
                obtain ⟨k, hk, rfl, HG, hE, hF⟩ := hrel
                obtain ⟨c0, c1, c2⟩ := HG.out.box.thr
                have hGl := HG.out.box.lt
                by_cases hlt : k < pn
                · obtain ⟨y, hy, hym⟩ := get_at HL.out hlt
                  obtain ⟨z, hz, hzm⟩ := get_at HLp.out hlt
                  obtain ⟨ad, hA, had, hc⟩ := HG.out.g.s.cell hy
                  obtain ⟨ad2, hA2, had2, hc2⟩ := HG.out.g.p.cell hz
                  simp only at hA hA2
                  subst hA
                  subst hA2
                  have Hy := hid (HatS.out k y hy)
                  have Hz := hid (HatP.out k z hz)
                  have HC := hid (rising_any y pn ex wr (HG.out.g.s.all y hym) (by omega))
                  have HC2 := hid (fun (q : Nat) => rising_any z pn ex (wr.drewN q) ((HG.out.g.p.all z hzm).below (below_drewN (Below.refl _ _) _)) (by omega))
                  clear hy hym hz hzm
                  obtain ⟨yA, yn, yc, yl⟩ := y
                  obtain ⟨zA, zn, zc, zl⟩ := z
                  simp only at *
                  cases hr : risB pn yl with
                  | false =>
                    as_aux_lemma =>
                      rw [hr] at HC
                      have Hr := hid (HNo.out (risB pn yl = true) (fun h => risB_iff.2 (h.ris yl (List.mem_of_getElem? Hy.out))) (by rw [hr]; simp))
                      clear hr
                      go_wp2_with fail
                      refine HC.out.mono ?_
                      rintro e w1 ⟨rfl, q1, rfl⟩
                      go_wp2_with fail
                      go_ret
                      exact retVb_b Hr.out (below_drewN HG.out.bel _)
                  | true =>
                    cases hr2 : risB pn zl with
                    | false =>
                      as_aux_lemma =>
                        rw [hr] at HC
                        rw [hr2] at HC2
                        have Hr := hid (HNo.out (risB pn zl = true) (fun h => risB_iff.2 (h.pris zl (List.mem_of_getElem? Hz.out))) (by rw [hr2]; simp))
                        clear hr hr2
                        go_wp2_with fail
                        refine HC.out.mono ?_
                        rintro e w1 ⟨rfl, q1, rfl⟩
                        go_wp2_with fail
                        refine (HC2.out _).mono ?_
                        rintro e w1 ⟨rfl, q2, rfl⟩
                        go_wp2_with fail
                        go_ret
                        exact retVb_b Hr.out (below_drewN HG.out.bel _)
                    | true =>
                      as_aux_lemma =>
                        rw [hr] at HC
                        rw [hr2] at HC2
                        have Hr := hid (upto_next hE.out Hy.out hr)
                        have Hr2 := hid (upto_next hF.out Hz.out hr2)
                        clear hr hr2 hE hF
                        go_wp2_with fail
                        refine HC.out.mono ?_
                        rintro e w1 ⟨rfl, q1, rfl⟩
                        go_wp2_with fail
                        refine (HC2.out _).mono ?_
                        rintro e w1 ⟨rfl, q2, rfl⟩
                        go_wp2_with fail
                        go_roundw
                        case rel => exact ⟨k + 1, by omega, by go_num, hid (HK.out _ _ HG.out (below_drewN (Below.refl _ _) _)), Hr, Hr2⟩
                        case measure => simp [intOf]; omega
                · obtain rfl : k = pn := by omega
                  have HaS := hid (all_true HvS.out hE.out)
                  have HaP := hid (all_true HvP.out hF.out)
                  clear hE hF
                  go_wp2_with fail
                  clear c0 c1 c2 hGl
                  go_loopw [5, 6, 7] (fun iv _ _ wr => ∃ i : Nat, i ≤ k ∧ iv = .int .i64 i ∧ Hid (GW w G ex ⟨A, k, c, ns, ⟨SA, k, sc, sl⟩, ⟨PA, k, pc, pl⟩⟩ wr) ∧ Hid (Bck Sv Pv i) ∧ Hid (Bck Pv Sv i)) (fun iv _ _ _ => k - (intOf iv).toNat)
                  case atStart => exact ⟨0, by omega, rfl, HG, hid (Bck.zero _ _), hid (Bck.zero _ _)⟩
                  case round =>
                    clear HG
                    obtain ⟨i, hi, rfl, HG, hE, hF⟩ := hrel
                    obtain ⟨c0, c1, c2⟩ := HG.out.box.thr
                    have hGl := HG.out.box.lt
                    by_cases hlt : i < k
                    · obtain ⟨y, hy, hym⟩ := get_at HL.out hlt
                      obtain ⟨z, hz, hzm⟩ := get_at HLp.out hlt
                      have HyS := hid hy
                      have HzP := hid hz
                      have Hy := hid (HatS.out i y hy)
                      have Hz := hid (HatP.out i z hz)
                      have Hyl := hid (HG.out.g.s.all y hym).len
                      have Hzl := hid (HG.out.g.p.all z hzm).len
                      have hyn := (HG.out.g.s.all y hym).few
                      have hzn := (HG.out.g.p.all z hzm).few
                      have HyR := hid (fun (v : World) (h : GW w G ex ⟨A, k, c, ns, ⟨SA, k, sc, sl⟩, ⟨PA, k, pc, pl⟩⟩ v) => h.g.s.all y hym)
                      have HzR := hid (fun (v : World) (h : GW w G ex ⟨A, k, c, ns, ⟨SA, k, sc, sl⟩, ⟨PA, k, pc, pl⟩⟩ v) => h.g.p.all z hzm)
                      have Hyr := hid (risB_iff.1 (all_at HaS.out Hy.out))
                      have Hzr := hid (risB_iff.1 (all_at HaP.out Hz.out))
                      clear hy hym hz hzm
                      obtain ⟨yA, yn, yc, yl⟩ := y
                      obtain ⟨zA, zn, zc, zl⟩ := z
                      simp only at *
                      go_wp2_with fail
                      clear c0 c1 c2 hGl
                      go_loopw [6] (fun jv wr => ∃ j : Nat, j ≤ yn ∧ jv = .int .i64 j ∧ Hid (GW w G ex ⟨A, k, c, ns, ⟨SA, k, sc, sl⟩, ⟨PA, k, pc, pl⟩⟩ wr) ∧ Hid (Pt Pv i yl j)) (fun jv _ => yn - (intOf jv).toNat)
                      case atStart => exact ⟨0, by omega, rfl, HG, hid (Pt.zero _ _ _)⟩
                      case round =>
                        clear HG
                        obtain ⟨j, hj, rfl, HG, hP⟩ := hrel
                        obtain ⟨c0, c1, c2⟩ := HG.out.box.thr
                        have hGl := HG.out.box.lt
                        obtain ⟨ad, hA, had, hc⟩ := HG.out.g.s.cell HyS.out
                        simp only at hA
                        subst hA
                        by_cases hjt : j < yn
                        · obtain ⟨a, ha, ham⟩ := get_at Hyl.out hjt
                          have har := Hyr.out.2 a ham
                          obtain ⟨b, rfl⟩ : ∃ b : Nat, a = (b : Int) := ⟨a.toNat, by omega⟩
                          have hbk : b < k := by omega
                          obtain ⟨m, hm, hmm⟩ := get_at HLp.out hbk
                          obtain ⟨ad3, hA3, had3, hc3⟩ := (HyR.out _ HG.out).cell ha
                          obtain ⟨ad4, hA4, had4, hc4⟩ := HG.out.g.p.cell hm
                          simp only at hA3 hA4
                          subst hA3
                          subst hA4
                          have Hm := hid (HatP.out b m hm)
                          have HC := hid (fun (q : Nat) => has_any m i ex (wr.drewN q) ((HG.out.g.p.all m hmm).below (below_drewN (Below.refl _ _) _)))
                          have Ha := hid ha
                          clear ha ham har hm hmm
                          obtain ⟨mA, mn, mc, ml⟩ := m
                          simp only at *
                          cases hh : hasI ml i with
                          | false =>
                            as_aux_lemma =>
                              rw [hh] at HC
                              have Hr := hid (HNo.out _ (fun h => valG_hasP h Hy.out Ha.out Hm.out) (not_has hh))
                              clear hh
                              go_wp2_with fail
                              go_quiet ((go_at_call 27; exact quiet_same (HC.out _)))
                              go_wp2_with fail
                              go_ret
                              exact retVb_b Hr.out (below_drewN HG.out.bel _)
                          | true =>
                            as_aux_lemma =>
                              rw [hh] at HC
                              have Hr := hid (hP.out.step Ha.out Hm.out hh)
                              clear hh
                              go_wp2_with fail
                              go_quiet ((go_at_call 27; exact quiet_same (HC.out _)))
                              go_wp2_with fail
                              go_roundw
                              case rel => exact ⟨j + 1, by omega, by go_num, hid (HK.out _ _ HG.out (below_drewN (Below.refl _ _) _)), Hr⟩
                              case measure => simp [intOf]; omega
                        · obtain rfl : j = yn := by omega
                          have HbS := hid (hE.out.step Hy.out (hP.out.all Hyl.out))
                          clear hP hE
                          go_wp2_with fail
                          clear c0 c1 c2 hGl hc had
                          go_loopw [7] (fun jv wr => ∃ j : Nat, j ≤ zn ∧ jv = .int .i64 j ∧ Hid (GW w G ex ⟨A, k, c, ns, ⟨some ad, k, sc, sl⟩, ⟨PA, k, pc, pl⟩⟩ wr) ∧ Hid (Pt Sv i zl j)) (fun jv _ => zn - (intOf jv).toNat)
                          case atStart => exact ⟨0, by omega, rfl, HG, hid (Pt.zero _ _ _)⟩
                          case round =>
                            clear HG
                            obtain ⟨u, hu, rfl, HG, hP⟩ := hrel
                            obtain ⟨c0, c1, c2⟩ := HG.out.box.thr
                            have hGl := HG.out.box.lt
                            obtain ⟨ad2, hA, had, hc⟩ := HG.out.g.p.cell HzP.out
                            simp only at hA
                            subst hA
                            by_cases hjt : u < zn
                            · obtain ⟨a, ha, ham⟩ := get_at Hzl.out hjt
                              have har := Hzr.out.2 a ham
                              obtain ⟨b, rfl⟩ : ∃ b : Nat, a = (b : Int) := ⟨a.toNat, by omega⟩
                              have hbk : b < k := by omega
                              obtain ⟨m, hm, hmm⟩ := get_at HL.out hbk
                              obtain ⟨ad3, hA3, had3, hc3⟩ := (HzR.out _ HG.out).cell ha
                              obtain ⟨ad4, hA4, had4, hc4⟩ := HG.out.g.s.cell hm
                              simp only at hA3 hA4
                              subst hA3
                              obtain rfl := Option.some.inj hA4
                              have Hm := hid (HatS.out b m hm)
                              have HC := hid (fun (q : Nat) => has_any m i ex (wr.drewN q) ((HG.out.g.s.all m hmm).below (below_drewN (Below.refl _ _) _)))
                              have Ha := hid ha
                              clear ha ham har hm hmm
                              obtain ⟨mA, mn, mc, ml⟩ := m
                              simp only at *
                              cases hh : hasI ml i with
                              | false =>
                                as_aux_lemma =>
                                  rw [hh] at HC
                                  have Hr := hid (HNo.out _ (fun h => valG_hasS h Hz.out Ha.out Hm.out) (not_has hh))
                                  clear hh
                                  go_wp2_with fail
                                  go_quiet ((go_at_call 27; exact quiet_same (HC.out _)))
                                  go_wp2_with fail
                                  go_ret
                                  exact retVb_b Hr.out (below_drewN HG.out.bel _)
                              | true =>
                                as_aux_lemma =>
                                  rw [hh] at HC
                                  have Hr := hid (hP.out.step Ha.out Hm.out hh)
                                  clear hh
                                  go_wp2_with fail
                                  go_quiet ((go_at_call 27; exact quiet_same (HC.out _)))
                                  go_wp2_with fail
                                  go_roundw
                                  case rel => exact ⟨u + 1, by omega, by go_num, hid (HK.out _ _ HG.out (below_drewN (Below.refl _ _) _)), Hr⟩
                                  case measure => simp [intOf]; omega
                            · as_aux_lemma =>
                                obtain rfl : u = zn := by omega
                                have HbP := hid (hF.out.step Hz.out (hP.out.all Hzl.out))
                                clear hP hF
                                go_wp2_with fail
                                go_roundw
                                case rel => exact ⟨i + 1, by omega, by go_num, HG, HbS, HbP⟩
                                case measure => simp [intOf]; omega
                    · as_aux_lemma =>
                        obtain rfl : i = k := by omega
                        have Hr := hid (HYes.out (valid_of h1 h2 HvS.out HvP.out HaS.out HaP.out HmS.out hE.out hF.out))
                        clear hE hF
                        go_wp2_with fail
                        go_ret
                        exact retVb_b Hr.out HG.out.bel
            · as_aux_lemma =>
                have t2 : decide ((1024 : Int) < (r2 : Int)) = true := by simp; omega
                have Hr := hid (HNo.out (tot Pv ≤ 1024) (fun h => by have h1 := h.tot; have h2 := h.most; omega) (by rcases Hrr.out with h | h <;> omega))
                clear Hrr
                go_wp2_with fail
                go_ret
                exact retVb_b Hr.out HG.out.bel
          · as_aux_lemma =>
              have t1 : decide ((1024 : Int) < (r : Int)) = true := by simp; omega
              have Hr := hid (HNo.out (tot Sv ≤ 1024) (fun h => h.most) (by rcases Hrr.out with h | h <;> omega))
              clear Hrr
              go_wp2_with fail
              go_ret
              exact retVb_b Hr.out HG.out.bel
        · as_aux_lemma =>
            have Hr := hid (HNo.out (Pv.length = n) (fun h => h.plen) (by rw [HvP.out]; exact h4))
            have t1 : ((pn : Int) == (n : Int)) = false := by simp; omega
            have t2 : ((pn : Int) != (n : Int)) = true := by simp; omega
            subst h3
            clear h4
            go_wp2_with fail
            go_ret
            exact retVb_b Hr.out HG.out.bel
      · as_aux_lemma =>
          have Hr := hid (HNo.out (Sv.length = n) (fun h => h.slen) (by rw [HvS.out]; exact h3))
          have t1 : ((sn : Int) == (n : Int)) = false := by simp; omega
          have t2 : ((sn : Int) != (n : Int)) = true := by simp; omega
          clear h3
          go_wp2_with fail
          go_ret
          exact retVb_b Hr.out HG.out.bel
    · as_aux_lemma =>
        have Hr := hid (HNo.out (n ≤ 256) (fun h => h.few) h2)
        go_wp2_with fail
        go_ret
        exact retVb_b Hr.out HG.out.bel
  · as_aux_lemma =>
      have Hr := hid (HNo.out (1 ≤ n) (fun h => h.some) h1)
      go_wp2_with fail
      go_ret
      exact retVb_b Hr.out HG.out.bel
set_option maxHeartbeats 1600000 in
theorem refEdges_any (x : GH) (ex : List (Option Nat)) (w : World) (h : GHok w ex x) :
    Calls Tryz.prog 16 #[x.a] w (RetVb w (.int .i64 (edgN x.n x.S.v x.P.v : Nat))) := by
  have HG := hid (GW.start h)
  have HV := hid (fun (v : World) (hv : GW w w.heap.size ex x v) => refValidGraph_any x ex v hv.g)
  have HT := hid (fun (v : World) (hv : GW w w.heap.size ex x v) => total_any x.S 1024 ex v hv.g.s (by omega))
  have HK := hid (fun (v u : World) (h : GW w w.heap.size ex x v) (hb : Below v.heap.size v u) => h.below hb)
  have Hm := hid (fun (hv : validB x.n x.S.v x.P.v = true) => (validB_iff.1 hv).most)
  have He := hid (show edgN x.n x.S.v x.P.v = if validB x.n x.S.v x.P.v then tot x.S.v else 0 from rfl)
  generalize edgN x.n x.S.v x.P.v = E at *
  unfold GH.a at *
  clear h
  generalize hvb : validB x.n x.S.v x.P.v = V at *
  clear hvb
  generalize tot x.S.v = t at *
  go_enter Tryz.func16, Tryz.ntmps16
  have hG : ∃ G, w.heap.size = G := ⟨_, rfl⟩
  obtain ⟨G, hG⟩ := hG
  have HGe := hid hG
  rw [hG] at HG HV HT HK
  clear hG
  have c0 := HG.out.box.thr.1
  have c1 := HG.out.box.thr.2.1
  have c2 := HG.out.box.thr.2.2
  have hl := HG.out.box.lt
  rw [← HGe.out] at c0 c1 c2 hl
  go_wp2_with fail
  clear c0 c1 c2 hl
  rw [HGe.out]
  generalize w.alloc (.cells #[.slice x.A x.n x.c, .slice x.S.A x.S.n x.S.c, .slice x.P.A x.P.n x.P.c] 26) = w0 at HG ⊢
  refine (HV.out _ HG.out).mono ?_
  rintro e w1 ⟨rfl, hb1⟩
  have HG1 := hid (HK.out _ _ HG.out hb1)
  clear hb1 HG
  obtain ⟨c0, c1, c2⟩ := HG1.out.box.thr
  have hl := HG1.out.box.lt
  cases V with
  | false =>
    have Hr := hid (show E = 0 by rw [He.out]; rfl)
    clear He
    go_wp2_with fail
    go_ret
    exact retVb_i (by rw [Hr.out]; rfl) HG1.out.bel
  | true =>
    have Hr := hid (show E = t by rw [He.out]; rfl)
    have Hm2 := hid (Hm.out rfl)
    clear He Hm
    go_wp2_with fail
    refine (HT.out _ HG1.out).mono ?_
    rintro e w2 ⟨r, rfl, rfl, hr⟩
    have Hrr := hid (show (r : Int) = (E : Int) by have h1 := Hm2.out; have h2 := Hr.out; rcases hr with h | h <;> omega)
    clear hr
    go_wp2_with fail
    go_ret
    exact retVb_i Hrr.out.symm HG1.out.bel
end Go.Proofs.YtmbelhdkaepohaaGreatDoor

namespace Go.Proofs.YtmbelhdkaepohaaGreatDoor
set_option linter.unusedVariables false

/-- A number put behind a list that lacks it. -/
def addI (R : List Int) (a : Int) : List Int := if a ∈ R then R else R ++ [a]
theorem addI_yes {R : List Int} {a : Int} (h : a ∈ R) : addI R a = R := by unfold addI; rw [if_pos h]
theorem addI_no {R : List Int} {a : Int} (h : a ∉ R) : addI R a = R ++ [a] := by unfold addI; rw [if_neg h]
theorem addI_mem {R : List Int} {a x : Int} : x ∈ addI R a ↔ x ∈ R ∨ x = a := by
  by_cases h : a ∈ R
  · rw [addI_yes h]
    exact ⟨.inl, fun h2 => h2.elim id (fun e => e ▸ h)⟩
  · rw [addI_no h]; simp
theorem addI_nodup {R : List Int} {a : Int} (h : R.Nodup) : (addI R a).Nodup := by
  by_cases h2 : a ∈ R
  · rw [addI_yes h2]; exact h
  · rw [addI_no h2, List.nodup_append]
    refine ⟨h, by simp, fun x hx y hy e => ?_⟩
    simp at hy
    subst hy
    subst e
    exact h2 hx
theorem addI_pre {R : List Int} {a : Int} : R <+: addI R a := by
  by_cases h2 : a ∈ R
  · rw [addI_yes h2]; exact List.prefix_refl R
  · rw [addI_no h2]; exact List.prefix_append R [a]
/-- A whole list visited. -/
def visI (R l : List Int) : List Int := l.foldl addI R
theorem visI_take {R l : List Int} {k : Nat} {a : Int} (h : l[k]? = some a) : visI R (l.take (k + 1)) = addI (visI R (l.take k)) a := by
  unfold visI; rw [List.take_add_one, h, List.foldl_append]; rfl
theorem visI_mem {R l : List Int} {x : Int} : x ∈ visI R l ↔ x ∈ R ∨ x ∈ l := by
  unfold visI
  induction l generalizing R with
  | nil => simp
  | cons a l ih => rw [List.foldl_cons, ih, addI_mem, List.mem_cons, or_assoc]
theorem visI_nodup {R l : List Int} (h : R.Nodup) : (visI R l).Nodup := by
  unfold visI
  induction l generalizing R with
  | nil => exact h
  | cons a l ih => rw [List.foldl_cons]; exact ih (addI_nodup h)
theorem visI_pre {R l : List Int} : R <+: visI R l := by
  unfold visI
  induction l generalizing R with
  | nil => exact List.prefix_refl R
  | cons a l ih => rw [List.foldl_cons]; exact List.IsPrefix.trans addI_pre ih
theorem pre_get {R T : List Int} (h : R <+: T) {j : Nat} (hj : j < R.length) : T[j]? = R[j]? := by
  obtain ⟨u, rfl⟩ := h
  rw [List.getElem?_append_left hj]
theorem nodup_few : ∀ (V S : List Int), V.Nodup → (∀ x ∈ V, x ∈ S) → V.length ≤ S.length := by
  intro V
  induction V with
  | nil => intro S _ _; simp
  | cons v V ih =>
    intro S hd hm
    rw [List.nodup_cons] at hd
    have hv := hm v (List.mem_cons_self ..)
    have h1 := ih (S.erase v) hd.2 (fun x hx => (List.mem_erase_of_ne (fun e => by subst e; exact hd.1 hx)).2 (hm x (List.mem_cons_of_mem _ hx)))
    rw [List.length_erase_of_mem hv] at h1
    have := List.length_pos_of_mem hv
    rw [List.length_cons]; omega
theorem nodup_below {N : Nat} {V : List Int} (h : V.Nodup) (hr : ∀ x ∈ V, 0 ≤ x ∧ x < (N : Int)) : V.length ≤ N := by
  have h1 := nodup_few V ((List.range N).map Int.ofNat) h (fun x hx => by
    have := hr x hx
    refine List.mem_map.2 ⟨x.toNat, List.mem_range.2 (by omega), ?_⟩
    show ((x.toNat : Nat) : Int) = x
    omega)
  simpa using h1
/-- What has been marked. -/
def fnd (N : Nat) (R : List Int) : List Bool := (List.range N).map fun k : Nat => decide ((k : Int) ∈ R)
theorem fnd_len (N : Nat) (R : List Int) : (fnd N R).length = N := by simp [fnd]
theorem fnd_nil (N : Nat) : fnd N [] = List.replicate N false := by
  apply List.ext_getElem?
  intro i
  unfold fnd
  rw [List.getElem?_map, List.getElem?_replicate]
  by_cases h : i < N
  · rw [List.getElem?_range h, if_pos h]; simp
  · rw [List.getElem?_eq_none (by simpa using h), if_neg h]; rfl
theorem fnd_at {N : Nat} {R : List Int} {k : Nat} (h : k < N) : (fnd N R)[k]? = some (decide ((k : Int) ∈ R)) := by
  unfold fnd; rw [List.getElem?_map, List.getElem?_range h]; rfl
theorem fnd_set {N : Nat} {R : List Int} {k : Nat} (h : k < N) : (fnd N R).set k true = fnd N (R ++ [(k : Int)]) := by
  apply List.ext_getElem?
  intro i
  by_cases hi : i < N
  · rw [List.getElem?_set, fnd_at hi, fnd_at hi, fnd_len]
    by_cases e : k = i
    · subst e; rw [if_pos rfl, if_pos hi]; simp
    · rw [if_neg e]
      have : ((i : Int) ∈ R ++ [(k : Int)]) ↔ (i : Int) ∈ R := by simp; omega
      simp only [this]
  · rw [List.getElem?_eq_none (by rw [List.length_set, fnd_len]; omega), List.getElem?_eq_none (by rw [fnd_len]; omega)]
/-- What stands while the list of the reached grows: the first i of it have been left. -/
structure RcG (N : Nat) (S : List (List Int)) (F R : List Int) (i : Nat) : Prop where
  nd : R.Nodup
  rng : ∀ x ∈ R, 0 ≤ x ∧ x < (N : Int)
  st : ∀ x ∈ F, x ∈ R
  rch : ∀ k : Nat, (k : Int) ∈ R → Rch S F k
  cl : ∀ (j : Nat) (a : Int), j < i → R[j]? = some a → ∀ b ∈ rw0 S a.toNat, b ∈ R
theorem RcG.start {N : Nat} {S : List (List Int)} {F : List Int} (hF : ∀ x ∈ F, 0 ≤ x ∧ x < (N : Int)) : RcG N S F (visI [] F) 0 :=
  ⟨visI_nodup List.nodup_nil, fun x hx => by rcases visI_mem.1 hx with h | h; cases h; exact hF x h, fun x hx => visI_mem.2 (.inr hx),
    fun k hk => by rcases visI_mem.1 hk with h | h; cases h; exact .start h, fun j a hj => by omega⟩
theorem RcG.few {N : Nat} {S : List (List Int)} {F R : List Int} {i : Nat} (h : RcG N S F R i) : R.length ≤ N := nodup_below h.nd h.rng
theorem RcG.step {N : Nat} {S : List (List Int)} {F R : List Int} {i : Nat} {a : Int} (h : RcG N S F R i) (hS : ∀ l ∈ S, RisP N l) (ha : R[i]? = some a) : RcG N S F (visI R (rw0 S a.toNat)) (i + 1) := by
  have ham := List.mem_of_getElem? ha
  have har := h.rng a ham
  have hae : ((a.toNat : Nat) : Int) = a := by omega
  refine ⟨visI_nodup h.nd, fun x hx => ?_, fun x hx => visI_mem.2 (.inl (h.st x hx)), fun k hk => ?_, fun j c hj hc b hb => ?_⟩
  · rcases visI_mem.1 hx with h1 | h1
    · exact h.rng x h1
    · exact (rw0_ris hS _).2 x h1
  · rcases visI_mem.1 hk with h1 | h1
    · exact h.rch k h1
    · exact .step (h.rch _ (by rw [hae]; exact ham)) h1
  · rw [pre_get visI_pre (by have := (List.getElem?_eq_some_iff.1 ha).1; omega)] at hc
    by_cases e : j = i
    · subst e
      obtain rfl := Option.some.inj (ha.symm.trans hc)
      exact visI_mem.2 (.inr hb)
    · exact visI_mem.2 (.inl (h.cl j c (by omega) hc b hb))
theorem RcG.done {N : Nat} {S : List (List Int)} {F R l : List Int} {i : Nat} (h : RcG N S F R i) (hi : R.length ≤ i) (hp : l.Perm R) (hs : l.Pairwise (· ≤ ·)) : l = rchL N S F := by
  have hnd : l.Nodup := hp.nodup_iff.2 h.nd
  have hm : ∀ x, x ∈ l ↔ x ∈ R := fun x => hp.mem_iff
  refine rchL_of ⟨?_, fun x hx => h.rng x ((hm x).1 hx)⟩ (fun x hx => (hm x).2 (h.st x hx)) (fun a b ha hb => ?_) (fun k hk => h.rch k ((hm _).1 hk))
  · refine (hs.and (List.nodup_iff_pairwise_ne.1 hnd)).imp fun {x y} h => ?_
    have := h.1
    have := h.2
    omega
  · obtain ⟨j, hj, he⟩ := List.mem_iff_getElem.1 ((hm _).1 ha)
    refine (hm _).2 (h.cl j a (by omega) (by rw [List.getElem?_eq_getElem hj, he]) b ?_)
    simpa using hb
end Go.Proofs.YtmbelhdkaepohaaGreatDoor

namespace Go.Proofs.YtmbelhdkaepohaaGreatDoor
set_option maxRecDepth 20000
set_option linter.unusedVariables false
set_option linter.unusedSimpArgs false
open Go.ChangeShapes Go.WideShapes Go.ChangeAt Go.RowKit

structure Rsv (W : World) (F fb rb N : Nat) (B : List Bool) (R : List Int) (v : Value) (wr : World) : Prop where
  own : wr.ownsRow W.heap.size 3 1 v R.length (ints R)
  fnd : Fb wr F (B.map Value.bool).toArray 4
  fbx : Fb wr fb #[.slice (some ⟨F, 0, none⟩) N N] 62
  rbx : Fb wr rb #[v] 22
  bl : B.length = N
  bel : Below W.heap.size W wr
  lo : W.heap.size ≤ F ∧ W.heap.size ≤ fb ∧ W.heap.size ≤ rb
  ne : F ≠ fb ∧ F ≠ rb ∧ fb ≠ rb
section
variable {W wr w' : World} {F fb rb N : Nat} {B : List Bool} {R : List Int} {v : Value}
theorem Rsv.below (h : Rsv W F fb rb N B R v wr) (hb : Below wr.heap.size wr w') : Rsv W F fb rb N B R v w' :=
  ⟨own_below h.own hb, h.fnd.below hb h.fnd.lt, h.fbx.below hb h.fbx.lt, h.rbx.below hb h.rbx.lt, h.bl, below_step h.bel hb, h.lo, h.ne⟩
theorem Rsv.alloc (h : Rsv W F fb rb N B R v wr) (o : Obj) : Rsv W F fb rb N B R v (wr.alloc o) := h.below ((Below.refl _ _).alloc (Nat.le_refl _) o)
theorem Rsv.mark (h : Rsv W F fb rb N B R v wr) (a : Nat) : Rsv W F fb rb N (B.set a true) R v (wr.setCell ⟨F, a, none⟩ (.bool true)) := by
  have h1 := h.lo
  have h2 := h.ne
  have hset := setCell_grown wr ⟨F, a, none⟩ (.bool true)
  refine ⟨h.own.kept hset (.inr fun e => (fb_ne_own h.fnd h.own (by decide)) e.symm), ?_, h.fbx.grown hset (by intro e; injection e with e; simp only at e; omega), h.rbx.grown hset (by intro e; injection e with e; simp only at e; omega), by rw [List.length_set]; exact h.bl, h.bel.setCell (p := ⟨F, a, none⟩) h1.1 _, h.lo, h.ne⟩
  have := h.fnd.set a (.bool true)
  simpa [List.map_set] using this
theorem Rsv.cellF (h : Rsv W F fb rb N B R v wr) {a : Nat} {u : Bool} (ha : B[a]? = some u) : wr.cell? ⟨F, a, none⟩ = some (.bool u) ∧ wr.frozen? ⟨F, a, none⟩ = false := by
  refine ⟨?_, h.fnd.frozen a⟩
  rw [h.fnd.cell]
  simp [ha]
/-- What stands behind the append, ahead of the store into the box. -/
theorem Rsv.grown (h : Rsv W F fb rb N B R v wr) (hg : wr.grownBy w' v.ownBlock) : w'.cell? ⟨rb, 0, none⟩ = some v ∧ w'.frozen? ⟨rb, 0, none⟩ = false := by
  have := h.rbx.grown hg (fb_ne_own h.rbx h.own (by decide))
  exact ⟨this.onec, this.frozen 0⟩
theorem Rsv.push {g cap : Nat} {a : Int} (h : Rsv W F fb rb N B R v wr) (hown : w'.ownsRow W.heap.size 3 1 (.slice (some ⟨g, 0, none⟩) (R.length + 1) cap) (R.length + 1) (ints R ++ [.int .i64 a])) (hg : wr.grownBy w' v.ownBlock) :
    Rsv W F fb rb N B (R ++ [a]) (.slice (some ⟨g, 0, none⟩) (R.length + 1) cap) (w'.setCell ⟨rb, 0, none⟩ (.slice (some ⟨g, 0, none⟩) (R.length + 1) cap)) := by
  have h1 := h.lo
  have h2 := h.ne
  have e1 := fb_ne_own h.fnd h.own (by decide)
  have e2 := fb_ne_own h.fbx h.own (by decide)
  have e3 := fb_ne_own h.rbx h.own (by decide)
  have f1 := h.fnd.grown hg e1
  have f2 := h.fbx.grown hg e2
  have f3 := h.rbx.grown hg e3
  have hset := setCell_grown w' ⟨rb, 0, none⟩ (.slice (some ⟨g, 0, none⟩) (R.length + 1) cap)
  refine ⟨?_, f1.grown hset (by intro e; injection e with e; simp only at e; omega), f2.grown hset (by intro e; injection e with e; simp only at e; omega), ?_, h.bl, ?_, h.lo, h.ne⟩
  · rw [ints_snoc, List.length_append]
    exact hown.kept hset (.inr fun e => (fb_ne_own f3 hown (by decide)) e.symm)
  · have := f3.set 0 (.slice (some ⟨g, 0, none⟩) (R.length + 1) cap)
    simpa using this
  · exact ((h.bel).grown hg h.bel.size (fun k hk => (h.own.lt k hk).1)).setCell (p := ⟨rb, 0, none⟩) h1.2.2 _
end
set_option maxHeartbeats 3200000 in
theorem visit_any (x : RH) (N F fb rb : Nat) (R0 : List Int) (v0 : Value) (W w : World) (hx : RHok W [] x) (hr : ∀ a ∈ x.l, 0 ≤ a ∧ a < (N : Int)) (hd : R0.Nodup) (hR : ∀ a ∈ R0, 0 ≤ a ∧ a < (N : Int)) (hN : N ≤ 100000) (h : Rsv W F fb rb N (fnd N R0) R0 v0 w) :
    Calls Tryz.prog 34 #[.slice x.A x.n x.c, .pointer (some ⟨fb, 0, none⟩), .pointer (some ⟨rb, 0, none⟩)] w fun e w' => e = .returned (.tuple #[]) ∧ ∃ v, Rsv W F fb rb N (fnd N (visI R0 x.l)) (visI R0 x.l) v w' := by
  obtain ⟨i1, hi, hz0, hz1, hz2⟩ := info_parts info3
  have Hi := hid hi; have Hz0 := hid hz0; have Hz1 := hid hz1; have Hz2 := hid hz2
  clear hi hz0 hz1 hz2
  have hn := hx.few
  have HX := hid hx
  have HL := hid hx.len
  have HR := hid hr
  have HD := hid hd
  have HRR := hid hR
  have H0 := hid h
  clear hx hr hd hR h
  obtain ⟨A, n, c, l⟩ := x
  simp only at *
  go_enter Tryz.func34, Tryz.ntmps34
  go_wp2_with fail
  go_loopw [5, 8] (fun _ iv wr => ∃ (k : Nat) (v : Value), k ≤ n ∧ iv = .int .i64 k ∧ Hid (Rsv W F fb rb N (fnd N (visI R0 (l.take k))) (visI R0 (l.take k)) v wr)) (fun _ iv _ => n - (intOf iv).toNat)
  case atStart => exact ⟨0, v0, by omega, rfl, hid (by rw [List.take_zero]; exact H0.out)⟩
  case round =>
    clear H0
    obtain ⟨k, v, hk, rfl, hS⟩ := hrel
    by_cases hlt : k < n
    · obtain ⟨a, ha, ham⟩ := get_at HL.out hlt
      obtain ⟨ad, hA, had, hc⟩ := (HX.out.below hS.out.bel).cell ha
      simp only at hA
      subst hA
      have har := HR.out a ham
      obtain ⟨j, rfl⟩ : ∃ j : Nat, a = (j : Int) := ⟨a.toNat, by omega⟩
      have hjN : j < N := by omega
      have Htk := hid (visI_take (R := R0) ha)
      have Hnd := hid (visI_nodup (l := l.take k) HD.out)
      have Hrg := hid (show ∀ z ∈ visI R0 (l.take k), 0 ≤ z ∧ z < (N : Int) from fun z hz => by
        rcases visI_mem.1 hz with h1 | h1
        · exact HRR.out z h1
        · exact HR.out z (List.mem_of_mem_take h1))
      have hfew : (visI R0 (l.take k)).length ≤ N := nodup_below Hnd.out Hrg.out
      clear ha ham har
      generalize visI R0 (l.take k) = R at *
      have hb0 := hS.out.fbx.onec
      obtain ⟨hf0, hf1⟩ := hS.out.cellF (fnd_at (R := R) hjN)
      have hfl := hS.out.fnd.lt
      cases hm : decide ((j : Int) ∈ R) with
      | true =>
        rw [hm] at hf0
        as_aux_lemma =>
          have Hr := hid (show visI R0 (l.take (k + 1)) = R by rw [Htk.out, addI_yes (by simpa using hm)])
          clear hm
          go_wp2_with fail
          go_roundw
          case rel => exact ⟨k + 1, v, by omega, by go_num, hid (by rw [Hr.out]; exact hS.out)⟩
          case measure => simp [intOf]; omega
      | false =>
        rw [hm] at hf0
        as_aux_lemma =>
          have Hr := hid (show visI R0 (l.take (k + 1)) = R ++ [(j : Int)] by rw [Htk.out, addI_no (by simpa using hm)])
          clear hm
          have H1 := hid (hS.out.mark j)
          rw [fnd_set hjN] at H1
          have hv1 := H1.out.rbx.onec
          have hb1 := H1.out.fbx.onec
          have hrl := H1.out.rbx.lt
          have H2 := hid (H1.out.alloc (.cells #[.int .i64 (j : Int)] 3))
          have hnew := int_new (wr.setCell ⟨F, j, none⟩ (.bool true)) (j : Int) 3
          rw [show (wr.setCell ⟨F, j, none⟩ (.bool true)).heap.size = wr.heap.size by simp [World.setCell]] at hnew
          have Hnew := hid hnew
          clear hnew
          obtain ⟨sA, sc, hsv⟩ := own_any_slice H1.out.own
          subst hsv
          go_wp2_with ((
            at_builtin
            go_must (refine wpList_append_lies _ rfl _ _ 22 rfl W.heap.size 3 i1 _ 1 8 Tryz.underlying22 Hi.out Hz0.out Hz1.out Hz2.out rfl (by decide) _ R.length (ints R) rfl H2.out.own ⟨wr.heap.size, 0, none⟩ 1 1 [.int .i64 (j : Int)] rfl rfl Hnew.out (one_int1 _) (by omega) (by unfold maxLen; omega) (by omega) H2.out.bel.size _ rfl ?_)
            intro g5 cap5 w5 hown5 hgr5 hat5 hlt5
            obtain ⟨y0, y1⟩ := H2.out.grown hgr5
            have H5 := hid (H2.out.push hown5 hgr5)
            clear hown5 hgr5 hat5 hlt5))
          go_roundw
          case rel => exact ⟨k + 1, _, by omega, by go_num, hid (by rw [Hr.out]; exact H5.out)⟩
          case measure => simp [intOf]; omega
    · obtain rfl : k = n := by omega
      have Hr := hid (show l.take k = l from List.take_of_length_le (by rw [HL.out]; omega))
      go_wp2_with fail
      refine bodyPost_end (v := .tuple #[]) (by simp [results, Tryz.results34]) rfl ⟨rfl, v, by rw [← Hr.out]; exact hS.out⟩
end Go.Proofs.YtmbelhdkaepohaaGreatDoor

namespace Go.Proofs.YtmbelhdkaepohaaGreatDoor
set_option maxRecDepth 20000
set_option linter.unusedVariables false
set_option linter.unusedSimpArgs false
open Go.ChangeShapes Go.WideShapes Go.ChangeAt Go.RowKit

theorem info4 : (Tryz.prog.info? 4).map (fun i => (i.zero, i.size, i.bytes)) = some (some (.bool false), 1, 1) := by kernel_rfl
theorem run_mkbools (n : Nat) (hn : n ≤ 100000) (w : World) :
    (Instr.makeSlice 62 (.int .i64 (n : Int)) (.int .i64 (n : Int))).run Tryz.prog w = .ok (.slice (some ⟨w.heap.size, 0, none⟩) n n) (w.alloc (.cells (Array.replicate n (Value.bool false)) 4)) := by
  obtain ⟨i, hi, hz0, hz1, hz2⟩ := info_parts info4
  have h := run_make (P := Tryz.prog) w 62 4 i (.bool false) Tryz.underlying62 hi hz0 .i64 .i64 n n (by omega) (by omega) (by rw [hz2]; omega) (by omega)
  rw [h, hz1]
  simp only [Int.toNat_natCast, Nat.mul_one]
  have e2 : madeCells (Value.bool false).cells n = Array.replicate n (Value.bool false) := by
    apply Array.toList_inj.1
    rw [show (Value.bool false).cells = #[Value.bool false] from rfl, toList_madeCells_one]
    simp
  rw [e2]
/-- A row came back, in new memory. -/
def RetRw (w : World) (l : List Int) (e : Ending) (w' : World) : Prop :=
  ∃ y : RH, e = .returned (.slice y.A y.n y.c) ∧ y.l = l ∧ y.n ≤ 100000 ∧ (∀ ex : List (Option Nat), (∀ k, some k ∈ ex → k < w.heap.size) → RHok w' ex y) ∧ Below w.heap.size w w'
theorem ris_at {N : Nat} {S : List (List Int)} (h : ∀ l ∈ S, RisP N l) {i : Nat} {l : List Int} (hi : S[i]? = some l) : ∀ a ∈ l, 0 ≤ a ∧ a < (N : Int) := (h l (List.mem_of_getElem? hi)).2
set_option maxHeartbeats 6400000 in
theorem reach_yes (x : GH) (f : RH) (w : World) (h : GHok w [] x) (hf : RHok w [] f) (hval : ValG x.n x.S.v x.P.v) (hfr : ∀ a ∈ f.l, 0 ≤ a ∧ a < (x.n : Int)) :
    Calls Tryz.prog 18 #[x.a, .slice f.A f.n f.c] w (RetRw w (rchL x.n x.S.v f.l)) := by
  have hb0 := (Below.refl w.heap.size w).alloc (Nat.le_refl _) (.cells #[.slice x.A x.n x.c, .slice x.S.A x.S.n x.S.c, .slice x.P.A x.P.n x.P.c] 26)
  have HB0 := hid hb0
  have HX0 := hid (h.below hb0)
  have HF0 := hid (hf.below hb0)
  have HG0 := hid (Fb.new w #[.slice x.A x.n x.c, .slice x.S.A x.S.n x.S.c, .slice x.P.A x.P.n x.P.c] 26)
  have HVa := hid (fun (v : World) (h : GHok v [] x) => valid_graph x [] v h)
  rw [validB_iff.2 hval] at HVa
  have HV := hid hval
  have HFr := hid hfr
  have Hfl := hid hf.len
  have hfn := hf.few
  have Hgl := hid (show x.S.l.length = x.n by have := hval.slen; rw [LH.vlen] at this; exact this)
  have Hsn := hid (show x.S.n = x.n by rw [← h.s.len]; exact Hgl.out)
  have hN := hval.few
  have hN1 := hval.some
  clear h hf hval hfr hb0
  unfold GH.a at *
  go_enter Tryz.func18, Tryz.ntmps18
  have c0 := HG0.out.thr.1
  have c1 := HG0.out.thr.2.1
  have c2 := HG0.out.thr.2.2
  have hl := HG0.out.lt
  go_wp2_with fail
  clear c0 c1 c2 hl
  generalize w.alloc (.cells #[.slice x.A x.n x.c, .slice x.S.A x.S.n x.S.c, .slice x.P.A x.P.n x.P.c] 26) = w0 at *
  refine (HVa.out _ HX0.out).mono ?_
  rintro e w1 ⟨rfl, hb1⟩
  have HB1 := hid (below_step HB0.out hb1)
  have HX1 := hid (HX0.out.below hb1)
  have HF1 := hid (HF0.out.below hb1)
  have HG1 := hid (HG0.out.below hb1 HG0.out.lt)
  clear hb1 HB0 HX0 HF0 HG0 HVa
  go_wp2_with fail
  go_loop [6, 16] (fun _ iv => ∃ k : Nat, k ≤ f.n ∧ iv = .int .i64 k) (fun _ iv => f.n - (intOf iv).toNat)
  case atStart => exact ⟨0, by omega, rfl⟩
  case round =>
    obtain ⟨k, hk, rfl⟩ := hrel
    by_cases hlt : k < f.n
    · obtain ⟨a, ha, ham⟩ := get_at Hfl.out hlt
      obtain ⟨ad, hA, had, hc⟩ := HF1.out.cell ha
      rw [hA]
      have har := HFr.out a ham
      have t1 : decide (a < 0) = false := by simp; omega
      have c0 := HG1.out.thr.1
      clear ha ham
      as_aux_lemma =>
        go_wp2_with fail
        go_round
        case rel => exact ⟨k + 1, by omega, by go_num⟩
        case measure => simp [intOf]; omega
    · obtain rfl : k = f.n := by omega
      as_aux_lemma =>
        have hmb := run_mkbools x.n (by omega)
        have c0 := HG1.out.thr.1
        have hgl := HG1.out.lt
        have HS0 := hid (show Rsv w1 (w1.heap.size + 1) (w1.heap.size + 1 + 1) w1.heap.size x.n (fnd x.n []) [] (.slice none 0 0) (((w1.alloc (.cells #[.slice none 0 0] 22)).alloc (.cells (Array.replicate x.n (Value.bool false)) 4)).alloc (.cells #[.slice (some ⟨w1.heap.size + 1, 0, none⟩) x.n x.n] 62)) from by
          have hb : Below w1.heap.size w1 (((w1.alloc (.cells #[.slice none 0 0] 22)).alloc (.cells (Array.replicate x.n (Value.bool false)) 4)).alloc (.cells #[.slice (some ⟨w1.heap.size + 1, 0, none⟩) x.n x.n] 62)) :=
            (((Below.refl _ _).alloc (Nat.le_refl _) _).alloc (by rw [World.size_alloc]; omega) _).alloc (by rw [World.size_alloc, World.size_alloc]; omega) _
          refine ⟨World.ownsRow_nil _ _ _ _, ?_, ?_, ((Fb.new w1 _ _).alloc _).alloc _, fnd_len _ _, hb, by omega, by omega⟩
          · rw [fnd_nil, show ((List.replicate x.n false).map Value.bool).toArray = Array.replicate x.n (Value.bool false) by simp]
            have := (Fb.new (w1.alloc (.cells #[.slice none 0 0] 22)) (Array.replicate x.n (Value.bool false)) 4).alloc (.cells #[.slice (some ⟨w1.heap.size + 1, 0, none⟩) x.n x.n] 62)
            rw [World.size_alloc] at this
            exact this
          · have := Fb.new ((w1.alloc (.cells #[.slice none 0 0] 22)).alloc (.cells (Array.replicate x.n (Value.bool false)) 4)) #[.slice (some ⟨w1.heap.size + 1, 0, none⟩) x.n x.n] 62
            rw [World.size_alloc, World.size_alloc] at this
            exact this)
        go_wp2_with fail
        clear hmb c0 hgl
        have HF0 := HS0.out.lo
        refine (visit_any f x.n (w1.heap.size + 1) (w1.heap.size + 1 + 1) w1.heap.size [] _ w1 _ HF1.out HFr.out List.nodup_nil (by simp) (by omega) HS0.out).mono ?_
        rintro e w5 ⟨rfl, v5, hst⟩
        have H5 := hid hst
        have HR5 := hid (RcG.start (S := x.S.v) HFr.out)
        clear hst HS0 HF0
        generalize w1.heap.size + 1 + 1 = fb at *
        generalize w1.heap.size + 1 = F at *
        generalize hrb : w1.heap.size = rb at *
        have Hrb := hid hrb
        clear hrb
        go_wp2_with fail
        go_loopw [10] (fun iv wr => ∃ (i : Nat) (R : List Int) (v : Value), i ≤ R.length ∧ iv = .int .i64 i ∧ Hid (Rsv w1 F fb rb x.n (fnd x.n R) R v wr) ∧ Hid (RcG x.n x.S.v f.l R i)) (fun iv _ => x.n - (intOf iv).toNat)
        case atStart => exact ⟨0, _, v5, by omega, rfl, H5, HR5⟩
        case round =>
          clear H5 HR5
          obtain ⟨i, R, v, hi, rfl, hS, hC⟩ := hrel
          have hfew := hC.out.few
          obtain ⟨vA, vc, rfl⟩ := own_any_slice hS.out.own
          have hb0 := hS.out.rbx.onec
          have hrl := hS.out.rbx.lt
          have HG2 := hid (HG1.out.below (by have := hS.out.bel; exact this) HG1.out.lt)
          by_cases hlt : i < R.length
          · obtain ⟨a, ha, ham⟩ := get_at (rfl : R.length = R.length) hlt
            have har := hC.out.rng a ham
            obtain ⟨j, rfl⟩ : ∃ j : Nat, a = (j : Int) := ⟨a.toNat, by omega⟩
            have hjN : j < x.n := by omega
            obtain ⟨ad, hA, -, hc⟩ := (EAt.own (ex := []) hS.out.own (by simp)).one (i := i) (u := .int .i64 (j : Int)) (by unfold ints; rw [List.getElem?_map, ha]; rfl)
            subst hA
            obtain ⟨y, hy, hym⟩ := get_at Hgl.out hjN
            obtain ⟨adS, hAS, hadS, hcS⟩ := (HX1.out.below hS.out.bel).s.cell hy
            have Hstep := hid (show RcG x.n x.S.v f.l (visI R y.l) (i + 1) by have := hC.out.step HV.out.ris ha; rw [show ((j : Int)).toNat = j from rfl, LH.rw hy] at this; exact this)
            have Hlen := hid (show i + 1 ≤ (visI R y.l).length by have := (visI_pre (R := R) (l := y.l)).length_le; omega)
            have HVi := hid (fun (v : Value) (wv : World) (h : Rsv w1 F fb rb x.n (fnd x.n R) R v wv) => visit_any y x.n F fb rb R v w1 wv (HX1.out.s.all y hym) (ris_at HV.out.ris (LH.at hy)) hC.out.nd hC.out.rng (by omega) h)
            have HS1 := hid (hS.out.below ((Below.refl wr.heap.size wr).drew))
            have c1 := HG2.out.thr.2.1
            rw [hAS, Hsn.out] at c1
            have hjn : (j : Int) < (x.n : Int) := by omega
            have hir : (i : Int) < (R.length : Int) := by omega
            have hj0 : (0 : Int) ≤ (j : Int) := by omega
            have hi0 : (0 : Int) ≤ (i : Int) := by omega
            clear ha ham har hy hym hAS hadS hS hC
            as_aux_lemma =>
              go_wp2_with fail
              refine wp_region_still_tail 9 (by kernel_rfl) (by kernel_rfl) ?_
              simp only [List.take_succ_cons, List.take_zero, List.drop_succ_cons, List.drop_zero]
              repeat still_step
              try refine wpStill_nil ?_
              change wpList _ _ _ _ _ wr.drew
              go_wp2_with fail
              refine (HVi.out _ _ HS1.out).mono ?_
              rintro e w7 ⟨rfl, v7, hst7⟩
              have H7 := hid hst7
              clear hst7
              go_wp2_with fail
              go_roundw
              case rel => exact ⟨i + 1, _, v7, Hlen.out, by go_num, H7, Hstep⟩
              case measure => simp [intOf]; omega
          · as_aux_lemma =>
              obtain rfl : i = R.length := by omega
              go_wp2_with fail
              refine (sort_own hS.out.own rfl (by omega)).mono ?_
              rintro e w8 ⟨rfl, hown8, hgr8⟩
              have hb8 := (hS.out.rbx.grown hgr8 (fb_ne_own hS.out.rbx hS.out.own (by decide))).onec
              have HO := hid hown8
              have HB8 := hid (below_step HB1.out (hS.out.bel.grown hgr8 hS.out.bel.size (fun k hk => (hS.out.own.lt k hk).1)))
              clear hown8 hgr8
              go_wp2_with fail
              go_ret
              exact ⟨⟨vA, R.length, vc, srtI R⟩, rfl, hC.out.done (Nat.le_refl _) (srtI_perm R) (srtI_sorted R), by show R.length ≤ _; omega, fun ex hex => ⟨EAt.own HO.out (fun g hg hm => by have h1 := (HO.out.lt g hg).1; have h2 := hex g hm; have h3 := HB1.out.size; omega), srtI_len R, by show R.length ≤ _; omega⟩, HB8.out⟩
end Go.Proofs.YtmbelhdkaepohaaGreatDoor

namespace Go.Proofs.YtmbelhdkaepohaaGreatDoor
set_option maxRecDepth 20000
set_option linter.unusedVariables false
set_option linter.unusedSimpArgs false
open Go.ChangeShapes Go.WideShapes Go.ChangeAt Go.RowKit

/-- A row came back. -/
def RetR0 (w : World) (l : List Int) (e : Ending) (w' : World) : Prop := ∃ y : RH, e = .returned (.slice y.A y.n y.c) ∧ y.l = l ∧ RHok w' [] y ∧ Below w.heap.size w w'
theorem retR0_none {w w' : World} {L : List Int} (h : L = []) (hb : Below w.heap.size w w') : RetR0 w L (.returned (.slice none 0 0)) w' :=
  ⟨⟨none, 0, 0, []⟩, rfl, h.symm, ⟨.inl rfl, rfl, Nat.zero_le _⟩, hb⟩
/-- The list that grows, beside the graph. -/
structure Rg8 (w : World) (G : Nat) (x : GH) (L : List Int) (y : RH) (v : World) : Prop where
  gw : GW w G [] x v
  ok : RHok v [] y
  cap : y.n ≤ y.c
  eq : y.l = L
theorem Rg8.below {w v v' : World} {G : Nat} {x : GH} {L : List Int} {y : RH} (h : Rg8 w G x L y v) (hb : Below v.heap.size v v') : Rg8 w G x L y v' :=
  ⟨h.gw.below hb, h.ok.below hb, h.cap, h.eq⟩
theorem Rg8.len {w v : World} {G : Nat} {x : GH} {L : List Int} {y : RH} (h : Rg8 w G x L y v) {N : Nat} (hr : RisP N L) : y.n ≤ N := by
  rw [← h.ok.len, h.eq]; exact ris_len hr
theorem insA_part {N : Nat} {R l : List Int} (hR : RisP N R) (hl : ∀ a ∈ l, 0 ≤ a ∧ a < (N : Int)) (k : Nat) : RisP N (insA R (l.take k)) :=
  insA_ris hR fun x hx => hl x (List.mem_of_mem_take hx)
theorem ints_eq0 {l : List Int} (h : l.length = 0) : l = [] := List.length_eq_zero_iff.1 h
set_option maxHeartbeats 12800000 in
theorem refReach_any (x : GH) (f : RH) (L : List Int) (w : World) (h : GHok w [] x) (hf : RHok w [] f)
    (h0 : validB x.n x.S.v x.P.v = false → L = []) (h1 : (∃ a ∈ f.l, ¬(0 ≤ a ∧ a < (x.n : Int))) → L = []) (h2 : ValG x.n x.S.v x.P.v → (∀ a ∈ f.l, 0 ≤ a ∧ a < (x.n : Int)) → L = rchL x.n x.S.v f.l) :
    Calls Tryz.prog 19 #[x.a, .slice f.A f.n f.c] w (RetR0 w L) := by
  obtain ⟨i1, hi, hz0, hz1, hz2⟩ := info_parts info3
  have Hi := hid hi; have Hz0 := hid hz0; have Hz1 := hid hz1; have Hz2 := hid hz2
  clear hi hz0 hz1 hz2
  have HG := hid (GW.start h)
  have HF := hid (hf.below ((Below.refl w.heap.size w).alloc (Nat.le_refl _) (.cells #[.slice x.A x.n x.c, .slice x.S.A x.S.n x.S.c, .slice x.P.A x.P.n x.P.c] 26)))
  have HV := hid (fun (v : World) (hv : GW w w.heap.size [] x v) => refValidGraph_any x [] v hv.g)
  have Hv0 := hid h0
  have Hv1 := hid h1
  have Hv2 := hid h2
  have Hvi := hid (fun (h : validB x.n x.S.v x.P.v = true) => validB_iff.1 h)
  have Hfl := hid hf.len
  have hfn := hf.few
  have Hsl := hid h.s.len
  unfold GH.a at *
  clear h hf h0 h1 h2
  cases hvb : validB x.n x.S.v x.P.v with
  | false =>
    rw [hvb] at HV Hv0
    have Hr := hid (Hv0.out rfl)
    clear Hv0 Hv1 Hv2 hvb Hvi
    go_enter Tryz.func19, Tryz.ntmps19
    have hG : ∃ G, w.heap.size = G := ⟨_, rfl⟩
    obtain ⟨G, hG⟩ := hG
    have HGe := hid hG
    rw [hG] at HG HV
    clear hG
    have c0 := HG.out.box.thr.1
    have c1 := HG.out.box.thr.2.1
    have c2 := HG.out.box.thr.2.2
    have hl := HG.out.box.lt
    rw [← HGe.out] at c0 c1 c2 hl
    go_wp2_with fail
    clear c0 c1 c2 hl
    rw [HGe.out]
    generalize w.alloc (.cells #[.slice x.A x.n x.c, .slice x.S.A x.S.n x.S.c, .slice x.P.A x.P.n x.P.c] 26) = w0 at HG ⊢
    refine (HV.out _ HG.out).mono ?_
    rintro e w1 ⟨rfl, hb1⟩
    have HG1 := hid (HG.out.below hb1)
    clear hb1 HG
    go_wp2_with fail
    go_ret
    exact retR0_none Hr.out HG1.out.bel
  | true =>
    have HVal := hid (Hvi.out hvb)
    rw [hvb] at HV
    have hN := HVal.out.few
    have hN1 := HVal.out.some
    have Hsn := hid (show x.S.n = x.n by rw [← Hsl.out, ← LH.vlen]; exact HVal.out.slen)
    have Hgl := hid (show x.S.l.length = x.n by rw [← LH.vlen]; exact HVal.out.slen)
    clear Hv0 hvb Hvi
    go_enter Tryz.func19, Tryz.ntmps19
    have hG : ∃ G, w.heap.size = G := ⟨_, rfl⟩
    obtain ⟨G, hG⟩ := hG
    have HGe := hid hG
    rw [hG] at HG HV
    clear hG
    have c0 := HG.out.box.thr.1
    have c1 := HG.out.box.thr.2.1
    have c2 := HG.out.box.thr.2.2
    have hl := HG.out.box.lt
    rw [← HGe.out] at c0 c1 c2 hl
    go_wp2_with fail
    clear c0 c1 c2 hl
    rw [HGe.out]
    generalize w.alloc (.cells #[.slice x.A x.n x.c, .slice x.S.A x.S.n x.S.c, .slice x.P.A x.P.n x.P.c] 26) = w0 at HG HF ⊢
    refine (HV.out _ HG.out).mono ?_
    rintro e w1 ⟨rfl, hb1⟩
    have HG1 := hid (HG.out.below hb1)
    have HF1 := hid (HF.out.below hb1)
    clear hb1 HG HF HV
    go_wp2_with fail
    go_loopw [5, 6] (fun ov iv wr => ∃ (k : Nat) (y : RH), k ≤ f.n ∧ iv = .int .i64 k ∧ ov = .slice y.A y.n y.c ∧ Hid (Rg8 w G x (insA [] (f.l.take k)) y wr) ∧ Hid (∀ a ∈ f.l.take k, 0 ≤ a ∧ a < (x.n : Int)) ∧ Hid (RHok wr [] f)) (fun _ iv _ => f.n - (intOf iv).toNat)
    case atStart => exact ⟨0, ⟨none, 0, 0, []⟩, by omega, rfl, rfl, hid ⟨HG1.out, ⟨.inl rfl, rfl, Nat.zero_le _⟩, by simp, rfl⟩, hid (by simp), HF1⟩
    case round =>
      clear HG1 HF1
      obtain ⟨k, y, hk, rfl, rfl, hR, hT, hF⟩ := hrel
      have hris := hid (insA_ris (RisP.nil x.n) hT.out)
      have hyn := hR.out.len hris.out
      by_cases hlt : k < f.n
      · obtain ⟨a, ha, ham⟩ := get_at Hfl.out hlt
        obtain ⟨ad, hA, had, hc⟩ := hF.out.cell ha
        rw [hA]
        have c0 := hR.out.gw.box.thr.1
        have hl := hR.out.gw.box.lt
        by_cases hlo : a < 0
        · have Hr := hid (Hv1.out ⟨a, ham, by omega⟩)
          clear ha ham
          as_aux_lemma =>
            go_wp2_with fail
            go_quiet (fail)
            go_wp2_with fail
            go_ret
            exact retR0_none Hr.out (below_drewN hR.out.gw.bel _)
        · by_cases hhi : (x.n : Int) ≤ a
          · have Hr := hid (Hv1.out ⟨a, ham, by omega⟩)
            clear ha ham
            as_aux_lemma =>
              go_wp2_with fail
              go_quiet (fail)
              go_wp2_with fail
              go_ret
              exact retR0_none Hr.out (below_drewN hR.out.gw.bel _)
          · have Hs := hid (insA_take (R := []) ha)
            have Ht := hid (show ∀ b ∈ f.l.take (k + 1), 0 ≤ b ∧ b < (x.n : Int) by
              intro b hb
              rw [List.take_add_one, ha] at hb
              rcases List.mem_append.1 hb with h | h
              · exact hT.out b h
              · simp at h; subst h; omega)
            have HC := hid (fun (v : World) (hv : Rg8 w G x (insA [] (f.l.take k)) y v) => insert_any y a [] v hv.ok hv.cap (by omega) (by simp))
            clear ha ham hT
            as_aux_lemma =>
              go_wp2_with fail
              go_quiet (fail)
              have hR2 := hid (fun n : Nat => hR.out.below (below_drewN (Below.refl wr.heap.size wr) n))
              have hF2 := hid (fun n : Nat => hF.out.below (below_drewN (Below.refl wr.heap.size wr) n))
              clear hR hF
              go_wp2_with fail
              refine (HC.out _ (hR2.out _)).mono ?_
              rintro e w5 ⟨z, rfl, hzl, hzok, hzc, hb5⟩
              have H5 := hid (show Rg8 w G x (insA [] (f.l.take (k + 1))) z w5 from ⟨(hR2.out _).gw.below hb5, hzok, hzc, by rw [hzl, (hR2.out 0).eq, Hs.out]⟩)
              have hF5 := hid ((hF2.out _).below hb5)
              clear hzl hzok hb5
              go_wp2_with fail
              go_roundw
              case rel => exact ⟨k + 1, z, by omega, by go_num, rfl, H5, Ht, hF5⟩
              case measure => simp [intOf]; omega
      · obtain rfl : k = f.n := by omega
        have Htk := hid (show f.l.take f.n = f.l from List.take_of_length_le (Nat.le_of_eq Hfl.out))
        rw [Htk.out] at hR hT
        have HL := hid (Hv2.out HVal.out hT.out)
        have Hst := hid (RcR.start (S := x.S.v) hT.out)
        clear Hv1 Hv2 hF hris
        go_wp2_with fail
        go_loopw [5, 7, 8, 9, 10, 11] (fun ov sv _ _ _ _ wr => ∃ (y : RH) (s : Int) (R : List Int), ov = .slice y.A y.n y.c ∧ sv = .int .i64 s ∧ -1 ≤ s ∧ s ≤ y.n ∧ Hid (Rg8 w G x R y wr) ∧ Hid (RcR x.n x.S.v f.l R) ∧ Hid (s = y.n → R = rchL x.n x.S.v f.l)) (fun _ sv _ _ _ _ _ => x.n + 1 - (intOf sv + 1).toNat)
        case atStart => exact ⟨y, -1, _, rfl, rfl, by omega, by omega, hR, Hst, hid (fun h => by omega)⟩
        case round =>
          clear hR Hst hyn hT
          obtain ⟨y, s, R, rfl, rfl, hs1, hs2, hR, hC, hE⟩ := hrel
          have hyn := hR.out.len hC.out.ris
          by_cases hse : s = y.n
          · have Hr := hid (hE.out hse)
            subst hse
            clear hE
            as_aux_lemma =>
              go_wp2_with fail
              go_ret
              exact ⟨y, rfl, by rw [hR.out.eq, Hr.out, HL.out], hR.out.ok, hR.out.gw.bel⟩
          · have t1 : (s == (y.n : Int)) = false := by simpa using hse
            have t2 : (s != (y.n : Int)) = true := by simpa using hse
            have hsy : s < y.n := by omega
            have Hrn := hid (fun (i : Nat) (hi : i ≤ R.length) => (hC.out.rnd HVal.out.ris i hi).1.ris)
            have Hgr := hid (hC.out.grows HVal.out.ris)
            have HRl := hid (show R.length = y.n by rw [← hR.out.eq, hR.out.ok.len])
            have Hdn := hid (fun (h : (Go.Proofs.YtmbelhdkaepohaaGreatDoor.rnd x.S.v R R.length).length = R.length) => hC.out.done HVal.out.ris h)
            have HRr := hid hC.out.ris
            have HC0 := hC
            clear hE hC hse
            obtain ⟨yA, yn, yc, yl⟩ := y
            simp only at *
            have HB1 := hid ((Below.refl wr.heap.size wr).alloc (Nat.le_refl _) (.cells #[] 3))
            have HO := hid (World.ownsRow_lit (base := wr.heap.size) (e := 3) (size := 1) wr #[] 0 (Nat.le_refl _) (by unfold maxLen; omega) rfl)
            by_cases hy0 : yn = 0
            · subst hy0
              have Hl0 := hid (show R = [] from ints_eq0 HRl.out)
              have Hch := hid (show R = rchL x.n x.S.v f.l by have := Hdn.out (by rw [Hl0.out]; rfl); rw [Hl0.out] at this ⊢; exact this)
              have hRa := hid (hR.out.below HB1.out)
              clear Hdn Hgr Hrn
              rcases yA with _ | ad
              all_goals
                as_aux_lemma =>
                  go_wp2_with fail
                  go_loopw [5, 9, 10, 11] (fun ov iv _ _ wr => iv = .int .i64 0 ∧ (∃ y : RH, ov = .slice y.A y.n y.c ∧ y.n = 0 ∧ Hid (Rg8 w G x R y wr))) (fun _ _ _ _ _ => 0)
                  case atStart => exact ⟨rfl, ⟨_, 0, yc, yl⟩, rfl, rfl, hRa⟩
                  case round =>
                    clear hRa hR
                    obtain ⟨rfl, z, rfl, hz0, hR⟩ := hrel
                    go_wp2_with fail
                    go_roundw
                    case rel => exact ⟨z, 0, R, rfl, rfl, by omega, by omega, hR, HC0, hid (fun _ => Hch.out)⟩
                    case measure => simp [intOf]; omega
            · obtain ⟨ad, rfl, had, hcl⟩ : ∃ ad, yA = some ad ∧ Safe wr [] ad.block ∧ ∀ j u, (ints yl)[j]? = some u → wr.cell? (ad.add j) = some u := by
                rcases hR.out.ok.lies with h | h
                · have h := congrArg List.length h; simp [ints] at h; have := hR.out.ok.len; simp only at this; rw [h] at this; simp at this; omega
                · exact h
              have Htk := hid (show (ints yl).length = yn * 1 by unfold ints; rw [List.length_map, hR.out.ok.len]; simp)
              have Htc := hid (fun (u : World) (hb : Below wr.heap.size wr u) (j : Nat) (z : Value) (hj : (ints yl)[j]? = some z) => show u.cell? (ad.add j) = some z from (hb.cell (p := ad.add j) (by rw [add_block]; exact had.1)).trans (hcl j z hj))
              have Hyl := hid (show yl = R from hR.out.eq)
              clear hcl had
              go_wp2_with (
                first
                | (
                 at_builtin
                 refine wpList_append_lies _ rfl _ _ 22 rfl wr.heap.size 3 i1 _ 1 8 Tryz.underlying22 Hi.out Hz0.out Hz1.out Hz2.out rfl (by decide) _ 0 [] rfl HO.out ad yn yc (ints yl) rfl Htk.out (Htc.out _ HB1.out) (one_ints _) (by omega) (by unfold maxLen; omega) (by omega) (HB1.out).size _ rfl ?_
                 intro g3 cap3 w3 hown3 hgr3 hat3 hlt3
                 try rw [Nat.zero_add] at hown3
                 try rw [List.nil_append] at hown3
                 have HB3 := hid (own_step (HB1.out) HO.out hgr3)
                 have H3 := hid hown3
                 clear hown3 hgr3 hat3 hlt3
                 clear HO))
              have HR3 := hid (hR.out.below HB3.out)
              have HZ := hid (show RHok w3 [] ⟨some ⟨g3, 0, none⟩, yn, cap3, yl⟩ from ⟨EAt.own (ex := []) H3.out (by simp), hR.out.ok.len, hR.out.ok.few⟩)
              clear H3 HB3 HB1 Htk Htc hR
              go_loopw [5, 9, 10, 11] (fun ov iv _ _ wr => ∃ (i : Nat) (z : RH), i ≤ yn ∧ iv = .int .i64 i ∧ ov = .slice z.A z.n z.c ∧ Hid (Rg8 w G x (Go.Proofs.YtmbelhdkaepohaaGreatDoor.rnd x.S.v R i) z wr) ∧ Hid (RHok wr [] ⟨some ⟨g3, 0, none⟩, yn, cap3, yl⟩)) (fun _ iv _ _ _ => yn - (intOf iv).toNat)
              case atStart => exact ⟨0, ⟨some ad, yn, yc, yl⟩, by omega, rfl, rfl, HR3, HZ⟩
              case round =>
                clear HR3 HZ
                obtain ⟨i, z, hi, rfl, rfl, hR, hZ⟩ := hrel
                by_cases hlt : i < yn
                · obtain ⟨a, ha, ham⟩ := get_at (show yl.length = yn from hZ.out.len) hlt
                  obtain ⟨ad2, hA, had, hc⟩ := hZ.out.cell ha
                  obtain rfl := Option.some.inj hA
                  have har := HRr.out.2 a (by rw [← Hyl.out]; exact ham)
                  obtain ⟨j, rfl⟩ : ∃ j : Nat, a = (j : Int) := ⟨a.toNat, by omega⟩
                  have hjN : j < x.n := by omega
                  obtain ⟨y2, hy2, hym⟩ := get_at Hgl.out hjN
                  obtain ⟨adS, hAS, hadS, hcS⟩ := hR.out.gw.g.s.cell hy2
                  have c1 := hR.out.gw.box.thr.2.1
                  have hl := hR.out.gw.box.lt
                  rw [hAS, Hsn.out] at c1
                  have Hy2 := hid (fun (v : World) (h : GW w G [] x v) => h.g.s.all y2 hym)
                  have Hy2l := hid (Hy2.out _ hR.out.gw).len
                  have hy2f := (Hy2.out _ hR.out.gw).few
                  have Hy2r := hid (HVal.out.ris y2.l (List.mem_of_getElem? (LH.at hy2)))
                  have Hnx := hid (show Go.Proofs.YtmbelhdkaepohaaGreatDoor.rnd x.S.v R (i + 1) = insA (Go.Proofs.YtmbelhdkaepohaaGreatDoor.rnd x.S.v R i) y2.l from rnd_succ (by rw [← Hyl.out]; exact ha) (LH.at hy2))
                  have Hri := hid (Hrn.out i (by have := HRl.out; omega))
                  have hc9 : wr.cell? ⟨g3, i, none⟩ = some (.int .i64 (j : Int)) := by rw [← add_of]; exact hc
                  have hjn : (j : Int) < (x.n : Int) := by omega
                  have hit : (i : Int) < (yn : Int) := by omega
                  clear ha ham har hy2 hym hAS
                  go_wp2_with fail
                  go_quiet (fail)
                  have HR4 := hid (fun n : Nat => hR.out.below (below_drewN (Below.refl wr.heap.size wr) n))
                  have HZ4 := hid (fun n : Nat => hZ.out.below (below_drewN (Below.refl wr.heap.size wr) n))
                  go_wp2_with fail
                  clear hR hZ c1 hl hcS hadS hc had hc9
                  go_loopw [5, 11] (fun ov kv wr => ∃ (k : Nat) (z : RH), k ≤ y2.n ∧ kv = .int .i64 k ∧ ov = .slice z.A z.n z.c ∧ Hid (Rg8 w G x (insA (Go.Proofs.YtmbelhdkaepohaaGreatDoor.rnd x.S.v R i) (y2.l.take k)) z wr) ∧ Hid (RHok wr [] ⟨some ⟨g3, 0, none⟩, yn, cap3, yl⟩)) (fun _ kv _ => y2.n - (intOf kv).toNat)
                  case atStart => exact ⟨0, z, by omega, rfl, rfl, hid (HR4.out _), hid (HZ4.out _)⟩
                  case round =>
                    clear HR4 HZ4
                    obtain ⟨k, z, hk, rfl, rfl, hR, hZ⟩ := hrel
                    by_cases hlk : k < y2.n
                    · obtain ⟨b, hb, hbm⟩ := get_at Hy2l.out hlk
                      obtain ⟨ad3, hA3, had3, hc3⟩ := (Hy2.out _ hR.out.gw).cell hb
                      rw [hA3]
                      have Hs := hid (insA_take (R := Go.Proofs.YtmbelhdkaepohaaGreatDoor.rnd x.S.v R i) hb)
                      have hzn := hR.out.len (insA_part Hri.out Hy2r.out.2 k)
                      have HC := hid (insert_any z b [] wr hR.out.ok hR.out.cap (by omega) (by simp))
                      clear hb hbm
                      as_aux_lemma =>
                        go_wp2_with fail
                        refine HC.out.mono ?_
                        rintro e w5 ⟨z2, rfl, hzl, hzok, hzc, hb5⟩
                        have H5 := hid (show Rg8 w G x (insA (Go.Proofs.YtmbelhdkaepohaaGreatDoor.rnd x.S.v R i) (y2.l.take (k + 1))) z2 w5 from ⟨hR.out.gw.below hb5, hzok, hzc, by rw [hzl, hR.out.eq, Hs.out]⟩)
                        have HZ5 := hid (hZ.out.below hb5)
                        clear hzl hzok hb5
                        go_wp2_with fail
                        go_roundw
                        case rel => exact ⟨k + 1, z2, by omega, by go_num, rfl, H5, HZ5⟩
                        case measure => simp [intOf]; omega
                    · as_aux_lemma =>
                        obtain rfl : k = y2.n := by omega
                        have Hto := hid (show y2.l.take y2.n = y2.l from List.take_of_length_le (Nat.le_of_eq Hy2l.out))
                        rw [Hto.out, ← Hnx.out] at hR
                        go_wp2_with fail
                        go_roundw
                        case rel => exact ⟨i + 1, z, by omega, by go_num, rfl, hR, hZ⟩
                        case measure => simp [intOf]; omega
                · have hiyn : i = yn := by omega
                  subst hiyn
                  have hR9 := hid (show Rg8 w G x (Go.Proofs.YtmbelhdkaepohaaGreatDoor.rnd x.S.v R R.length) z wr by have h := hR.out; rw [HRl.out]; exact h)
                  have hzl := hid (show z.n = (Go.Proofs.YtmbelhdkaepohaaGreatDoor.rnd x.S.v R R.length).length by rw [← hR9.out.eq, hR9.out.ok.len])
                  clear hR
                  have Hle := hid (show i ≤ z.n by have h1 := Hgr.out.2; have h2 := HRl.out; have h3 := hzl.out; omega)
                  have Hdd := hid (show (i : Int) = (z.n : Int) → Go.Proofs.YtmbelhdkaepohaaGreatDoor.rnd x.S.v R R.length = rchL x.n x.S.v f.l from fun h => Hdn.out (by have h2 := HRl.out; have h3 := hzl.out; omega))
                  have Hg1 := hid Hgr.out.1
                  clear hzl
                  go_wp2_with fail
                  go_roundw
                  case rel => exact ⟨z, (i : Int), _, rfl, rfl, by omega, by have := Hle.out; omega, hR9, Hg1, Hdd⟩
                  case measure => simp [intOf]; omega
end Go.Proofs.YtmbelhdkaepohaaGreatDoor

namespace Go.Proofs.YtmbelhdkaepohaaGreatDoor
set_option maxRecDepth 20000
set_option linter.unusedVariables false
set_option linter.unusedSimpArgs false
open Go.ChangeShapes Go.WideShapes Go.ChangeAt Go.RowKit

set_option maxHeartbeats 6400000 in
theorem reach_bad (x : GH) (f : RH) (w : World) (h : GHok w [] x) (hf : RHok w [] f) (hval : validB x.n x.S.v x.P.v = false) :
    Calls Tryz.prog 18 #[x.a, .slice f.A f.n f.c] w (RetR0 w []) := by
  have hb0 := (Below.refl w.heap.size w).alloc (Nat.le_refl _) (.cells #[.slice x.A x.n x.c, .slice x.S.A x.S.n x.S.c, .slice x.P.A x.P.n x.P.c] 26)
  have HB0 := hid hb0
  have HX0 := hid (h.below hb0)
  have HG0 := hid (Fb.new w #[.slice x.A x.n x.c, .slice x.S.A x.S.n x.S.c, .slice x.P.A x.P.n x.P.c] 26)
  have HVa := hid (fun (v : World) (h : GHok v [] x) => valid_graph x [] v h)
  rw [hval] at HVa
  clear h hf hval hb0
  unfold GH.a at *
  go_enter Tryz.func18, Tryz.ntmps18
  have c0 := HG0.out.thr.1
  have c1 := HG0.out.thr.2.1
  have c2 := HG0.out.thr.2.2
  have hl := HG0.out.lt
  go_wp2_with fail
  clear c0 c1 c2 hl
  generalize w.alloc (.cells #[.slice x.A x.n x.c, .slice x.S.A x.S.n x.S.c, .slice x.P.A x.P.n x.P.c] 26) = w0 at *
  refine (HVa.out _ HX0.out).mono ?_
  rintro e w1 ⟨rfl, hb1⟩
  have HB1 := hid (below_step HB0.out hb1)
  clear hb1 HB0 HX0 HG0 HVa
  go_wp2_with fail
  go_ret
  exact retR0_none rfl HB1.out
set_option maxHeartbeats 6400000 in
theorem reach_out (x : GH) (f : RH) (w : World) (h : GHok w [] x) (hf : RHok w [] f) (hval : ValG x.n x.S.v x.P.v) (hbad : ∃ a ∈ f.l, ¬(0 ≤ a ∧ a < (x.n : Int))) :
    Calls Tryz.prog 18 #[x.a, .slice f.A f.n f.c] w (RetR0 w []) := by
  have hb0 := (Below.refl w.heap.size w).alloc (Nat.le_refl _) (.cells #[.slice x.A x.n x.c, .slice x.S.A x.S.n x.S.c, .slice x.P.A x.P.n x.P.c] 26)
  have HB0 := hid hb0
  have HX0 := hid (h.below hb0)
  have HF0 := hid (hf.below hb0)
  have HG0 := hid (Fb.new w #[.slice x.A x.n x.c, .slice x.S.A x.S.n x.S.c, .slice x.P.A x.P.n x.P.c] 26)
  have HVa := hid (fun (v : World) (h : GHok v [] x) => valid_graph x [] v h)
  rw [validB_iff.2 hval] at HVa
  have HBad := hid hbad
  have Hfl := hid hf.len
  have hfn := hf.few
  have hN := hval.few
  have hN1 := hval.some
  clear h hf hval hbad hb0
  unfold GH.a at *
  go_enter Tryz.func18, Tryz.ntmps18
  have c0 := HG0.out.thr.1
  have c1 := HG0.out.thr.2.1
  have c2 := HG0.out.thr.2.2
  have hl := HG0.out.lt
  go_wp2_with fail
  clear c0 c1 c2 hl
  generalize w.alloc (.cells #[.slice x.A x.n x.c, .slice x.S.A x.S.n x.S.c, .slice x.P.A x.P.n x.P.c] 26) = w0 at *
  refine (HVa.out _ HX0.out).mono ?_
  rintro e w1 ⟨rfl, hb1⟩
  have HB1 := hid (below_step HB0.out hb1)
  have HF1 := hid (HF0.out.below hb1)
  have HG1 := hid (HG0.out.below hb1 HG0.out.lt)
  clear hb1 HB0 HX0 HF0 HG0 HVa
  go_wp2_with fail
  go_loop [6, 16] (fun _ iv => ∃ k : Nat, k ≤ f.n ∧ iv = .int .i64 k ∧ Hid (∀ a ∈ f.l.take k, 0 ≤ a ∧ a < (x.n : Int))) (fun _ iv => f.n - (intOf iv).toNat)
  case atStart => exact ⟨0, by omega, rfl, hid (by simp)⟩
  case round =>
    obtain ⟨k, hk, rfl, hT⟩ := hrel
    by_cases hlt : k < f.n
    · obtain ⟨a, ha, ham⟩ := get_at Hfl.out hlt
      obtain ⟨ad, hA, had, hc⟩ := HF1.out.cell ha
      rw [hA]
      have c0 := HG1.out.thr.1
      have Hnx := hid (fun (h : 0 ≤ a ∧ a < (x.n : Int)) => (show ∀ b ∈ f.l.take (k + 1), 0 ≤ b ∧ b < (x.n : Int) from fun b hb => by
        rw [List.take_add_one, ha] at hb
        rcases List.mem_append.1 hb with hb | hb
        · exact hT.out b hb
        · simp at hb; subst hb; exact h))
      clear ha ham
      by_cases hlo : a < 0
      · have t1 : decide (a < 0) = true := by simp; omega
        as_aux_lemma =>
          go_wp2_with fail
          go_ret
          exact retR0_none rfl HB1.out
      · have t1 : decide (a < 0) = false := by simp; omega
        by_cases hhi : a < (x.n : Int)
        · have har : 0 ≤ a ∧ a < (x.n : Int) := ⟨by omega, hhi⟩
          have Hn2 := hid (Hnx.out har)
          clear Hnx
          as_aux_lemma =>
            go_wp2_with fail
            go_round
            case rel => exact ⟨k + 1, by omega, by go_num, Hn2⟩
            case measure => simp [intOf]; omega
        · have hge : (x.n : Int) ≤ a := by omega
          clear Hnx
          as_aux_lemma =>
            go_wp2_with fail
            go_ret
            exact retR0_none rfl HB1.out
    · obtain rfl : k = f.n := by omega
      exfalso
      obtain ⟨a, ha, hn⟩ := HBad.out
      exact hn (hT.out a (by rw [← Hfl.out, List.take_length]; exact ha))
theorem devReach_any (x : GH) (f : RH) (L : List Int) (w : World) (h : GHok w [] x) (hf : RHok w [] f)
    (h0 : validB x.n x.S.v x.P.v = false → L = []) (h1 : (∃ a ∈ f.l, ¬(0 ≤ a ∧ a < (x.n : Int))) → L = []) (h2 : ValG x.n x.S.v x.P.v → (∀ a ∈ f.l, 0 ≤ a ∧ a < (x.n : Int)) → L = rchL x.n x.S.v f.l) :
    Calls Tryz.prog 18 #[x.a, .slice f.A f.n f.c] w (RetR0 w L) := by
  cases hv : validB x.n x.S.v x.P.v with
  | false => rw [h0 hv]; exact reach_bad x f w h hf hv
  | true =>
    have hval := validB_iff.1 hv
    by_cases hb : ∃ a ∈ f.l, ¬(0 ≤ a ∧ a < (x.n : Int))
    · rw [h1 hb]; exact reach_out x f w h hf hval hb
    · have hall : ∀ a ∈ f.l, 0 ≤ a ∧ a < (x.n : Int) := fun a ha => Classical.byContradiction fun hn => hb ⟨a, ha, hn⟩
      rw [h2 hval hall]
      exact (reach_yes x f w h hf hval hall).mono fun e w' ⟨y, e1, e2, _, e3, e4⟩ => ⟨y, e1, e2, e3 [] (by simp), e4⟩
/-- What both Reach answer. -/
noncomputable def rchD (x : GH) (f : RH) : List Int := if validB x.n x.S.v x.P.v = true ∧ ∀ a ∈ f.l, 0 ≤ a ∧ a < (x.n : Int) then rchL x.n x.S.v f.l else []
theorem rchD_0 {x : GH} {f : RH} (h : validB x.n x.S.v x.P.v = false) : rchD x f = [] := by unfold rchD; rw [if_neg]; rintro ⟨h1, _⟩; rw [h] at h1; cases h1
theorem rchD_1 {x : GH} {f : RH} (h : ∃ a ∈ f.l, ¬(0 ≤ a ∧ a < (x.n : Int))) : rchD x f = [] := by unfold rchD; rw [if_neg]; rintro ⟨_, h1⟩; obtain ⟨a, ha, hn⟩ := h; exact hn (h1 a ha)
theorem rchD_2 {x : GH} {f : RH} (h : ValG x.n x.S.v x.P.v) (h2 : ∀ a ∈ f.l, 0 ≤ a ∧ a < (x.n : Int)) : rchD x f = rchL x.n x.S.v f.l := by unfold rchD; rw [if_pos ⟨validB_iff.2 h, h2⟩]
theorem devReach_all (x : GH) (f : RH) (w : World) (h : GHok w [] x) (hf : RHok w [] f) :
    Calls Tryz.prog 18 #[x.a, .slice f.A f.n f.c] w (RetR0 w (rchD x f)) := devReach_any x f _ w h hf rchD_0 rchD_1 rchD_2
theorem refReach_all (x : GH) (f : RH) (w : World) (h : GHok w [] x) (hf : RHok w [] f) :
    Calls Tryz.prog 19 #[x.a, .slice f.A f.n f.c] w (RetR0 w (rchD x f)) := refReach_any x f _ w h hf rchD_0 rchD_1 rchD_2
end Go.Proofs.YtmbelhdkaepohaaGreatDoor

namespace Go.Proofs.YtmbelhdkaepohaaGreatDoor
set_option maxRecDepth 10000
open Go.ChangeShapes Go.WideShapes Go.ChangeAt Go.RowKit Go.Joins

theorem cells3 : Tryz.prog.cellsOf 3 = 1 := by kernel_rfl
theorem cell_in {w : World} {a : Addr} {v : Value} (h : w.cell? a = some v) : a.block < w.heap.size := by
  rcases Nat.lt_or_ge a.block w.heap.size with hlt | hge
  · exact hlt
  · unfold World.cell? at h; rw [Array.getElem?_eq_none hge] at h; cases h

theorem wf_u64 {z : Int} (h : (Lit.int .u64 z).wf = true) : 0 ≤ z ∧ z ≤ 18446744073709551615 := by
  have m0 : IntKind.u64.min = 0 := by decide
  have m1 : IntKind.u64.max = 18446744073709551615 := by decide
  simp [Lit.wf] at h
  omega
theorem open_list {H : Type} {enc : TypeId × Value → H} {W : World} {b0 base : Nat} {spare : Nat → Bool} {held : Bool} {v : Value} {d : DataW H} {p : List MemPlace}
    (hv : Value.okWide Tryz.prog W .any b0 22 v) (h : DataW.Trod enc Tryz.prog W base spare held 22 v d p) :
    ∃ (A : Option Addr) (n c : Nat) (l : List Int), v = .slice A n c ∧ IArg W A n l ∧ n ≤ maxLen := by
  obtain ⟨A, n, c, rfl⟩ := okWide_slice Tryz.underlying22 hv
  obtain ⟨fuel, hf⟩ := h
  rcases open_ints Tryz.underlying22 Tryz.underlying3 cells3 hf with ⟨hcs, _⟩ | ⟨x, l, c', zs, hcs, _, hl, hm, hz, _, hcell, hwz⟩
  · simp [Value.cells] at hcs
    obtain ⟨rfl, rfl, rfl⟩ := hcs
    exact ⟨none, 0, 0, [], rfl, ⟨.inl rfl, rfl⟩, by simp [maxLen]⟩
  · simp [Value.cells] at hcs
    obtain ⟨rfl, rfl, rfl⟩ := hcs
    have hle : n ≤ zs.length := by rw [hz]; split <;> omega
    refine ⟨some x, n, c, zs.take n, rfl, ⟨?_, by rw [List.length_take]; omega⟩, Nat.le_trans hl hm⟩
    by_cases h0 : n = 0
    · subst h0; exact .inl rfl
    · refine .inr ⟨x, rfl, ?_, fun j u hu => ?_⟩
      · have := cell_in (hcell 0 (by omega)); rwa [add_block] at this
      · unfold ints at hu
        rw [List.getElem?_map] at hu
        have hj : j < n := by
          rcases Nat.lt_or_ge j n with h | h
          · exact h
          · rw [List.getElem?_eq_none (by rw [List.length_take]; omega)] at hu; simp at hu
        rw [List.getElem?_take, if_pos hj, List.getElem?_eq_getElem (by omega)] at hu
        have := hcell j (by omega)
        rw [List.getD_eq_getElem?_getD, List.getElem?_eq_getElem (by omega)] at this
        rw [this]; simpa using hu

end Go.Proofs.YtmbelhdkaepohaaGreatDoor

namespace Go.Proofs.YtmbelhdkaepohaaGreatDoor
set_option maxRecDepth 100000
set_option linter.unusedVariables false
open Go.ChangeShapes Go.WideShapes Go.ChangeAt Go.RowKit

theorem own : ownKnob Tryz.prog.godebug = none := by kernel_rfl
theorem laidOut : laidOutB Tryz.prog = true := by kernel_rfl
theorem gShp : Tryz.prog.globalNamed "flowquery/syntax.shapes" = some 0 := by kernel_rfl
theorem gShpType : (Tryz.prog.globals[0]?).map (·.type) = some 159 := by kernel_rfl
theorem undArr : Tryz.prog.underlying 159 = some (.array 10 158) := by kernel_rfl
theorem undShape : ∃ fs : Array Field, Tryz.prog.underlying 158 = some (.struct fs) ∧ (fs.toList.map fun f => (f.type, f.offset)) = [(9, 0), (4, 1), (3, 2), (3, 3), (3, 4)] := by
  have h : (match Tryz.prog.underlying 158 with | some (.struct fs) => some (fs.toList.map fun f => (f.type, f.offset)) | _ => none) = some [(9, 0), (4, 1), (3, 2), (3, 3), (3, 4)] := by kernel_rfl
  split at h
  · next fs e => exact ⟨fs, e, Option.some.inj h⟩
  · cases h
theorem cArr : Tryz.prog.cellsOf 159 = 50 := by kernel_rfl
theorem cShape : Tryz.prog.cellsOf 158 = 5 := by kernel_rfl
theorem cStr : Tryz.prog.cellsOf 9 = 1 := by kernel_rfl
theorem cBool : Tryz.prog.cellsOf 4 = 1 := by kernel_rfl
theorem cInt : Tryz.prog.cellsOf 3 = 1 := by kernel_rfl
abbrev Sh := List UInt8 × Bool × Int × Int × Int
def dataSh (t : Sh) : DataW Unit := .agg [.lit (.string t.1), .lit (.bool t.2.1), .lit (.int .i64 t.2.2.1), .lit (.int .i64 t.2.2.2.1), .lit (.int .i64 t.2.2.2.2)]
def cellsSh (t : Sh) : List Value := [.string ⟨t.1.toArray⟩, .bool t.2.1, .int .i64 t.2.2.1, .int .i64 t.2.2.2.1, .int .i64 t.2.2.2.2]
def shpT : List Sh := [([], false, 0, 0, 0), ([], true, 0, 4, 0), ([117, 115, 101], false, 1, 4, 0), ([99, 97, 108, 108], false, 0, 0, 1), ([115, 111, 117, 114, 99, 101], true, 0, 0, 0), ([115, 105, 110, 107], false, 1, 1, 0), ([115, 97, 110, 105, 116, 105, 122, 101], true, 0, 0, 0), ([103, 111, 116, 111], false, 0, 0, 1), ([98, 114, 97, 110, 99, 104], false, 1, 1, 2), ([114, 101, 116, 117, 114, 110], false, 0, 0, 0)]
theorem shp_data : (Rows.laid_flowquery_syntax_shapes : DataW Unit) = .agg (shpT.map dataSh) := by kernel_rfl
theorem shp_cells : shpCells = shpT.flatMap cellsSh := by rfl
theorem one_of_drop {cs : List Value} {i : Nat} {v : Value} (h : (cs.drop i).take 1 = [v]) : cs[i]? = some v := by
  have := congrArg (·[0]?) h
  simpa [List.getElem?_take, List.getElem?_drop] using this
theorem shape_of {enc : TypeId × Value → Unit} {w : World} {base : Nat} {sp : Nat → Bool} {held : Bool} {fuel : Nat} {cs : List Value} {t : Sh} {p : List MemPlace}
    (h : DataW.trod enc Tryz.prog w base sp held fuel 158 cs = some (dataSh t, p)) : cs = cellsSh t := by
  obtain ⟨fs, hu, hfs⟩ := undShape
  obtain ⟨xs, n, -, hx, hl, hxl, hf⟩ := DataW.trod_struct hu h
  rw [cShape] at hl
  have hxs : xs.map (·.1) = [.lit (.string t.1), .lit (.bool t.2.1), .lit (.int .i64 t.2.2.1), .lit (.int .i64 t.2.2.2.1), .lit (.int .i64 t.2.2.2.2)] := by
    have := congrArg Prod.fst hx
    unfold dataSh at this
    simpa using this.symm
  have key : ∀ (i : Nat) (ty off : Nat), [((9 : Nat), 0), (4, 1), (3, 2), (3, 3), (3, 4)][i]? = some (ty, off) → Tryz.prog.cellsOf ty = 1 → ∀ d, (xs.map (·.1))[i]? = some d →
      ∃ q, DataW.trod enc Tryz.prog w base sp held n ty ((cs.drop off).take 1) = some (d, q) := by
    intro i ty off hi hc d hd
    have h1 := congrArg (·[i]?) hfs
    try simp only at h1
    rw [hi, List.getElem?_map] at h1
    obtain ⟨f, hf1, hf2⟩ := Option.map_eq_some_iff.1 h1
    injection hf2 with e1 e2
    have h2 := hf i f (by simpa using hf1)
    rw [e1, e2, hc] at h2
    rw [List.getElem?_map] at hd
    obtain ⟨x, hx1, hx2⟩ := Option.map_eq_some_iff.1 hd
    rw [hx1] at h2
    subst hx2
    exact ⟨x.2, h2⟩
  obtain ⟨q0, k0⟩ := key 0 9 0 rfl cStr _ (by rw [hxs]; rfl)
  obtain ⟨q1, k1⟩ := key 1 4 1 rfl cBool _ (by rw [hxs]; rfl)
  obtain ⟨q2, k2⟩ := key 2 3 2 rfl cInt _ (by rw [hxs]; rfl)
  obtain ⟨q3, k3⟩ := key 3 3 3 rfl cInt _ (by rw [hxs]; rfl)
  obtain ⟨q4, k4⟩ := key 4 3 4 rfl cInt _ (by rw [hxs]; rfl)
  obtain ⟨s, c0, d0, -⟩ := DataW.trod_string Tryz.underlying9 k0
  obtain ⟨bb, c1, d1⟩ := DataW.trod_bool Tryz.underlying4 k1
  obtain ⟨z2, c2, d2, -⟩ := DataW.trod_int Tryz.underlying3 k2
  obtain ⟨z3, c3, d3, -⟩ := DataW.trod_int Tryz.underlying3 k3
  obtain ⟨z4, c4, d4, -⟩ := DataW.trod_int Tryz.underlying3 k4
  have g0 := one_of_drop c0
  have g1 := one_of_drop c1
  have g2 := one_of_drop c2
  have g3 := one_of_drop c3
  have g4 := one_of_drop c4
  simp only [Prod.mk.injEq, DataW.lit.injEq, Lit.string.injEq, Lit.bool.injEq, Lit.int.injEq, true_and] at d0 d1 d2 d3 d4
  have es : s = ⟨t.1.toArray⟩ := ext_list (by simpa using d0.1.symm)
  have hc : cellsSh t = [.string s, .bool bb, .int .i64 z2, .int .i64 z3, .int .i64 z4] := by
    unfold cellsSh
    rw [es, d1.1, d2.1, d3.1, d4.1]
  rw [hc]
  apply List.ext_getElem?
  intro i
  match i with
  | 0 => exact g0
  | 1 => exact g1
  | 2 => exact g2
  | 3 => exact g3
  | 4 => exact g4
  | i + 5 => rw [List.getElem?_eq_none (by omega), List.getElem?_eq_none (by simp)]
theorem cells_of_shp {enc : TypeId × Value → Unit} {w : World} {base : Nat} {sp : Nat → Bool} {held : Bool} {fuel : Nat} {cs : List Value} {p : List MemPlace}
    (h : DataW.trod enc Tryz.prog w base sp held fuel 159 cs = some (.agg (shpT.map dataSh), p)) : cs = shpT.flatMap cellsSh := by
  cases fuel with
  | zero => simp [DataW.trod] at h
  | succ fuel =>
    unfold DataW.trod at h
    rw [undArr] at h
    try simp only at h
    rw [cShape, cArr] at h
    split at h
    · rename_i hl
      obtain ⟨xs, hm, hx⟩ := Option.map_eq_some_iff.1 h
      have hxs : xs.map (·.1) = shpT.map dataSh := by
        have := congrArg Prod.fst hx
        simpa using this
      have hlen : (shpT.flatMap cellsSh).length = 50 := by rw [flat_len (k := 5) (fun _ => rfl)]; rfl
      apply List.ext_getElem?
      intro j
      by_cases hj : j < 50
      · have hi : j / 5 < 10 := by omega
        obtain ⟨b, hb, hf⟩ := Lib.mapM_at hm (j / 5) (j / 5) (by simp [hi])
        have h1 := congrArg (·[j / 5]?) hxs
        simp only [List.getElem?_map, hb, Option.map_some] at h1
        have hti : shpT[j / 5]? = some (shpT[j / 5]'(by show j / 5 < 10; exact hi)) := List.getElem?_eq_getElem _
        rw [hti] at h1
        simp only [Option.map_some, Option.some.injEq] at h1
        obtain ⟨b1, b2⟩ := b
        try simp only at h1
        subst h1
        have hc := shape_of hf
        have hr : j % 5 < 5 := Nat.mod_lt _ (by omega)
        have h2 : (cellsSh (shpT[j / 5]'(by show j / 5 < 10; exact hi)))[j % 5]? = cs[j]? := by
          rw [← hc, List.getElem?_take, List.getElem?_drop, if_pos hr]
          congr 1
          omega
        cases h3 : cs[j]? with
        | none =>
          rw [List.getElem?_eq_none_iff] at h3
          omega
        | some u =>
          rw [h3] at h2
          have := flat_get (f := cellsSh) (k := 5) (fun _ => rfl) shpT hti h2
          rw [show j / 5 * 5 + j % 5 = j by omega] at this
          exact this.symm
      · rw [List.getElem?_eq_none (by omega), List.getElem?_eq_none (by omega)]
    · cases h

theorem wf_u8 {z : Int} (h : (Lit.int .u8 z).wf = true) : 0 ≤ z ∧ z < 256 := by
  have m0 : IntKind.u8.min = 0 := by decide
  have m1 : IntKind.u8.max = 255 := by decide
  simp [Lit.wf] at h
  omega
/-- The rows' list. -/
def listS1 : List (String × DataW Unit) := Rows.graphReadsRow.laid
theorem shp_of {W : World} {n1 : String} {d1 : DataW Unit} {rest : List (String × DataW Unit)} (h : laidMet Tryz.prog ((n1, d1) :: rest) W) (hn : n1 = "flowquery/syntax.shapes") (hd : d1 = .agg (shpT.map dataSh)) : Shp W := by
  subst hn; subst hd
  obtain ⟨ps, ⟨g0, t0, cs0, f0, p0, q0, hg0, ht0, hv0, hd0, _, _⟩, _, _⟩ := h
  obtain rfl := Option.some.inj (gShp.symm.trans hg0)
  obtain rfl := Option.some.inj (gShpType.symm.trans ht0)
  have hc := cells_of_shp hd0
  intro j u hu
  rw [shp_cells, ← hc] at hu
  have := World.var?_cell gShp hv0 j
  rw [this]
  simpa using hu
theorem shp1 {W : World} (h : laidMetH Tryz.prog listS1 W) : Shp W := shp_of h rfl shp_data

/-- The heap that the program's own start leaves. -/
noncomputable def door (os : Os) : World := World.doorLaid Tryz.prog 400 os
theorem door_met (os : Os) (args : Array Value) : laidMet Tryz.prog listS1 ((door os).forCall (fun _ _ => 0) ⟨#[], args, []⟩).memory :=
  laidMet_of_run' 8 (by kernel_rfl) (by kernel_rfl)
theorem door_vars (os : Os) (args : Array Value) : ((door os).forCall (fun _ _ => 0) ⟨#[], args, []⟩).variablesRefB Tryz.prog = true := by kernel_rfl
theorem door_rest (os : Os) (args : Array Value) : (((door os).forCall (fun _ _ => 0) ⟨#[], args, []⟩).heap.toList.drop Tryz.prog.globals.size).take ((begin Tryz.prog (fun _ _ => 0) default).world.heap.size - Tryz.prog.globals.size) =
    (begin Tryz.prog (fun _ _ => 0) default).world.heap.toList.drop Tryz.prog.globals.size := by kernel_rfl
end Go.Proofs.YtmbelhdkaepohaaGreatDoor

namespace Go.Proofs.YtmbelhdkaepohaaGreatDoor
set_option maxRecDepth 20000
set_option linter.unusedVariables false
set_option linter.unusedSimpArgs false
open Go.Joins Go.ChangeShapes Go.WideShapes Go.ChangeAt Go.RowKit Go.Deep

theorem flat_at {α β : Type} {f : α → List β} {c : Nat} (hc : ∀ x, (f x).length = c) : ∀ (l : List α) (k : Nat) (u : β), (l.flatMap f)[k]? = some u → ∃ (i : Nat) (x : α) (j : Nat), l[i]? = some x ∧ (f x)[j]? = some u ∧ k = i * c + j := by
  intro l
  induction l with
  | nil => intro k u h; simp at h
  | cons x l ih =>
    intro k u h
    rw [List.flatMap_cons] at h
    rcases Nat.lt_or_ge k (f x).length with hk | hk
    · rw [List.getElem?_append_left hk] at h
      exact ⟨0, x, k, rfl, h, by omega⟩
    · rw [List.getElem?_append_right hk] at h
      obtain ⟨i, y, j, h1, h2, h3⟩ := ih _ _ h
      refine ⟨i + 1, y, j, by simpa using h1, h2, ?_⟩
      rw [hc] at hk h3
      rw [Nat.succ_mul]
      omega
theorem choose_list {α : Type} {P : Nat → α → Prop} : ∀ n : Nat, (∀ i, i < n → ∃ x, P i x) → ∃ l : List α, l.length = n ∧ ∀ (i : Nat) (x : α), l[i]? = some x → P i x := by
  intro n
  induction n with
  | zero => intro _; exact ⟨[], rfl, fun i x h => by simp at h⟩
  | succ n ih =>
    intro h
    obtain ⟨l, hl, hp⟩ := ih fun i hi => h i (by omega)
    obtain ⟨x, hx⟩ := h n (by omega)
    refine ⟨l ++ [x], by simp [hl], fun i y hy => ?_⟩
    rcases Nat.lt_or_ge i l.length with hi | hi
    · rw [List.getElem?_append_left hi] at hy; exact hp i y hy
    · rw [List.getElem?_append_right hi] at hy
      have e : i = n := by
        have : i - l.length < 1 := by simpa using (List.getElem?_eq_some_iff.1 hy).1
        omega
      subst e
      rw [hl, Nat.sub_self] at hy
      simp at hy
      subst hy
      exact hx
section
variable {H : Type} {enc : TypeId × Value → H} {w : World} {base : Nat} {spare : Nat → Bool} {held : Bool}
/-- A slice of structs of one-cell fields: each field's cell and its own reading. -/
theorem open_fields {P : Program} {t e : TypeId} {fs : Array Field} {fuel : Nat} {v : Value} {x : DataW H × List MemPlace} (ht : P.underlying t = some (.slice e)) (he : P.underlying e = some (.struct fs))
    (hone : oneCellFields P fs = true) (hC : P.cellsOf e = fs.size) (h : DataW.trod enc P w base spare held fuel t [v] = some x) :
    ∃ (A : Option Addr) (n c : Nat), v = .slice A n c ∧ n ≤ 9223372036854775807 ∧ (∀ i, i < n → ∃ a, A = some a ∧ ∀ (j : Nat) (f : Field), fs[j]? = some f → ∃ (u : Value) (y : DataW H × List MemPlace) (k : Nat), w.cell? (a.add (i * fs.size + j)) = some u ∧ DataW.trod enc P w base spare held k f.type [u] = some y) := by
  rcases open_slice ht h with ⟨e1, -⟩ | ⟨a, len, cap, m, n, D, Pl, e1, -, hl, hcap, hm, -, hi⟩
  · injection e1 with e1
    exact ⟨none, 0, 0, e1, by omega, fun i hi => by omega⟩
  · injection e1 with e1
    refine ⟨some a, len, cap, e1, by unfold maxLen at hcap; omega, fun i him => ⟨a, rfl, ?_⟩⟩
    have him2 : i < m := by rw [hm]; split <;> omega
    obtain ⟨cs', hc, ht'⟩ := hi i him2
    rw [hC] at hc
    obtain ⟨ys, n', hn', hy, hlen, hyl, hf⟩ := DataW.trod_struct he ht'
    obtain ⟨_, hcl, hat⟩ := World.cells?_some hc
    intro j f hj
    obtain ⟨ho, hk⟩ := hone_of hone j f hj
    have hjl : j < fs.size := (Array.getElem?_eq_some_iff.1 hj).1
    have hcell := hat j hjl
    have hv : cs'[j]? = some (cs'[j]'(by omega)) := List.getElem?_eq_getElem (by omega)
    have h1 := hf j f hj
    rw [ho, hk] at h1
    have hone' : (cs'.drop j).take 1 = [cs'[j]'(by omega)] := by
      rw [List.drop_eq_getElem_cons (by omega)]
      rfl
    rw [hone'] at h1
    have hys : ys[j]? = some (ys[j]'(by omega)) := List.getElem?_eq_getElem (by omega)
    refine ⟨_, _, _, ?_, h1.trans hys⟩
    rw [← Go.Deep.add_add, hcell, hv]
theorem lies_of {α : Type} {f : α → List Value} {c : Nat} (hc : ∀ x, (f x).length = c) (hc0 : 0 < c) {A : Option Addr} {l : List α}
    (h : ∀ (i : Nat) (x : α), l[i]? = some x → ∃ a, A = some a ∧ ∀ (j : Nat) (u : Value), (f x)[j]? = some u → w.cell? (a.add (i * c + j)) = some u) : EAt w [] A (l.flatMap f) := by
  cases l with
  | nil => exact .inl rfl
  | cons x l =>
    obtain ⟨a, rfl, h0⟩ := h 0 x rfl
    have hu : (f x)[0]? = some ((f x)[0]'(by rw [hc]; exact hc0)) := List.getElem?_eq_getElem _
    have hlt := World.block_lt_of_cell? w _ (h0 0 _ hu)
    rw [add_block] at hlt
    refine .inr ⟨a, rfl, ⟨hlt, by simp⟩, fun k u hk => ?_⟩
    obtain ⟨i, y, j, h1, h2, rfl⟩ := flat_at hc _ _ _ hk
    obtain ⟨a', e, h3⟩ := h i y h1
    injection e with e
    subst e
    exact h3 j u h2
end
end Go.Proofs.YtmbelhdkaepohaaGreatDoor

namespace Go.Proofs.YtmbelhdkaepohaaGreatDoor
set_option maxRecDepth 20000
set_option linter.unusedVariables false
set_option linter.unusedSimpArgs false
open Go.Joins Go.ChangeShapes Go.WideShapes Go.ChangeAt Go.RowKit Go.Deep

section
variable {H : Type} {enc : TypeId × Value → H} {w : World} {base : Nat} {spare : Nat → Bool} {held : Bool}
/-- A slice of one-cell elements: each element's cell and its own reading. -/
theorem open_ones {P : Program} {t e : TypeId} {fuel : Nat} {v : Value} {x : DataW H × List MemPlace} (ht : P.underlying t = some (.slice e)) (hC : P.cellsOf e = 1) (h : DataW.trod enc P w base spare held fuel t [v] = some x) :
    ∃ (A : Option Addr) (n c : Nat), v = .slice A n c ∧ n ≤ c ∧ n ≤ 9223372036854775807 ∧ (∀ i, i < n → ∃ a, A = some a ∧ ∃ (u : Value) (y : DataW H × List MemPlace) (k : Nat), w.cell? (a.add i) = some u ∧ DataW.trod enc P w base spare held k e [u] = some y) := by
  rcases open_slice ht h with ⟨e1, -⟩ | ⟨a, len, cap, m, n, D, Pl, e1, -, hl, hcap, hm, -, hi⟩
  · injection e1 with e1
    exact ⟨none, 0, 0, e1, by omega, by omega, fun i hi => by omega⟩
  · injection e1 with e1
    refine ⟨some a, len, cap, e1, hl, by unfold maxLen at hcap; omega, fun i him => ⟨a, rfl, ?_⟩⟩
    have him2 : i < m := by rw [hm]; split <;> omega
    obtain ⟨cs', hc, ht'⟩ := hi i him2
    rw [hC, Nat.mul_one] at hc
    obtain ⟨_, hcl, hat⟩ := World.cells?_some hc
    match cs', hcl with
    | [u], _ =>
      refine ⟨u, _, _, ?_, ht'⟩
      have := hat 0 (by omega)
      rw [show (a.add i).add 0 = a.add i from by rw [Go.Deep.add_add, Nat.add_zero]] at this
      rw [this]; rfl
theorem eat_ones {A : Option Addr} {xs : List Value} (h : ∀ (i : Nat) (u : Value), xs[i]? = some u → ∃ a, A = some a ∧ w.cell? (a.add i) = some u) : EAt w [] A xs := by
  cases xs with
  | nil => exact .inl rfl
  | cons x l =>
    obtain ⟨a, rfl, h0⟩ := h 0 x rfl
    have hlt := World.block_lt_of_cell? w _ h0
    rw [add_block] at hlt
    refine .inr ⟨a, rfl, ⟨hlt, by simp⟩, fun k u hk => ?_⟩
    obtain ⟨a', e, h3⟩ := h k u hk
    injection e with e
    subst e
    exact h3
theorem open_rowR {fuel : Nat} {v : Value} {y : DataW H × List MemPlace} (h : DataW.trod enc Tryz.prog w base spare held fuel 22 [v] = some y) : ∃ x : RH, v = x.v ∧ RHok w [] x ∧ x.n ≤ x.c := by
  obtain ⟨A, n, c, rfl, hnc, hn, hf⟩ := open_ones Tryz.underlying22 (by kernel_rfl) h
  obtain ⟨l, hl, hp⟩ := choose_list (P := fun i (z : Int) => ∃ a, A = some a ∧ w.cell? (a.add i) = some (.int .i64 z)) n fun i hi => by
    obtain ⟨a, ha, u, y, k, hc, ht⟩ := hf i hi
    obtain ⟨z, e0, -⟩ := DataW.trod_int Tryz.underlying3 ht
    injection e0 with e0
    subst e0
    exact ⟨z, a, ha, hc⟩
  refine ⟨⟨A, n, c, l⟩, rfl, ⟨eat_ones fun i u hu => ?_, hl, hn⟩, hnc⟩
  unfold ints at hu
  rw [List.getElem?_map] at hu
  obtain ⟨z, hz, rfl⟩ := Option.map_eq_some_iff.1 hu
  exact hp i z hz
theorem open_rowsR {fuel : Nat} {v : Value} {y : DataW H × List MemPlace} (h : DataW.trod enc Tryz.prog w base spare held fuel 24 [v] = some y) : ∃ x : LH, v = .slice x.A x.n x.c ∧ LHok w [] x ∧ (∀ y ∈ x.l, y.n ≤ y.c) ∧ x.n ≤ x.c := by
  obtain ⟨A, n, c, rfl, hnc, hn, hf⟩ := open_ones Tryz.underlying24 (by kernel_rfl) h
  obtain ⟨l, hl, hp⟩ := choose_list (P := fun i (z : RH) => (∃ a, A = some a ∧ w.cell? (a.add i) = some z.v) ∧ RHok w [] z ∧ z.n ≤ z.c) n fun i hi => by
    obtain ⟨a, ha, u, y, k, hc, ht⟩ := hf i hi
    obtain ⟨x, e0, hx, hxc⟩ := open_rowR ht
    subst e0
    exact ⟨x, ⟨a, ha, hc⟩, hx, hxc⟩
  have hm : ∀ y ∈ l, RHok w [] y ∧ y.n ≤ y.c := fun y hy => by
    obtain ⟨i, hi, e⟩ := List.mem_iff_getElem.1 hy
    exact (hp i y (by rw [← e]; exact List.getElem?_eq_getElem hi)).2
  refine ⟨⟨A, n, c, l⟩, rfl, ⟨eat_ones fun i u hu => ?_, hl, hn, fun y hy => (hm y hy).1⟩, fun y hy => (hm y hy).2, hnc⟩
  rw [List.getElem?_map] at hu
  obtain ⟨z, hz, rfl⟩ := Option.map_eq_some_iff.1 hu
  exact (hp i z hz).1
theorem open_nodesR {fuel : Nat} {v : Value} {y : DataW H × List MemPlace} (h : DataW.trod enc Tryz.prog w base spare held fuel 23 [v] = some y) :
    ∃ (A : Option Addr) (n c : Nat) (l : List Nd), v = .slice A n c ∧ n ≤ 9223372036854775807 ∧ l.length = n ∧ EAt w [] A (l.flatMap ndc) := by
  obtain ⟨A, n, c, rfl, hn, hf⟩ := open_fields Tryz.underlying23 Tryz.underlying55 (by kernel_rfl) (by kernel_rfl) h
  obtain ⟨l, hl, hp⟩ := choose_list (P := fun i (s : Nd) => (∃ a, A = some a ∧ ∀ (j : Nat) (u : Value), (ndc s)[j]? = some u → w.cell? (a.add (i * 4 + j)) = some u)) n fun i hi => by
    obtain ⟨a, ha, hj⟩ := hf i hi
    obtain ⟨u0, y0, k0, c0, t0⟩ := hj 0 _ rfl
    obtain ⟨u1, y1, k1, c1, t1⟩ := hj 1 _ rfl
    obtain ⟨u2, y2, k2, c2, t2⟩ := hj 2 _ rfl
    obtain ⟨u3, y3, k3, c3, t3⟩ := hj 3 _ rfl
    obtain ⟨z0, e0, -⟩ := DataW.trod_int Tryz.underlying3 t0
    obtain ⟨z1, e1, -⟩ := DataW.trod_int Tryz.underlying3 t1
    obtain ⟨z2, e2, -⟩ := DataW.trod_int Tryz.underlying3 t2
    obtain ⟨z3, e3, -⟩ := DataW.trod_int Tryz.underlying3 t3
    injection e0 with e0; injection e1 with e1; injection e2 with e2; injection e3 with e3
    subst e0; subst e1; subst e2; subst e3
    refine ⟨⟨z0, z1, z2, z3⟩, a, ha, fun j u hu => ?_⟩
    match j, hu with
    | 0, hu => simp [ndc] at hu; subst hu; exact c0
    | 1, hu => simp [ndc] at hu; subst hu; exact c1
    | 2, hu => simp [ndc] at hu; subst hu; exact c2
    | 3, hu => simp [ndc] at hu; subst hu; exact c3
    | j + 4, hu => simp [ndc] at hu
  exact ⟨A, n, c, l, rfl, hn, hl, lies_of ndc_len (by omega) (fun i x hx => hp i x hx)⟩
/-- A raw graph, by value. -/
theorem open_graphR {r : Reach} {b0 : Nat} {v : Value} {d : DataW H} {p : List MemPlace} (hv : Value.okWide Tryz.prog w r b0 26 v) (h : DataW.Trod enc Tryz.prog w base spare held 26 v d p) :
    ∃ x : GH, v = x.a ∧ GHok w [] x ∧ (∀ y ∈ x.S.l, y.n ≤ y.c) ∧ (∀ y ∈ x.P.l, y.n ≤ y.c) := by
  obtain ⟨c0, c1, c2, y0, y1, y2, m, rfl, -, -, h0, h1, h2⟩ := open_agg3 Tryz.underlying26 (by kernel_rfl) (by kernel_rfl) hv h
  obtain ⟨A, n, c, ns, rfl, hn, hl, hE⟩ := open_nodesR h0
  obtain ⟨S, rfl, hS, hSc, -⟩ := open_rowsR h1
  obtain ⟨P, rfl, hP, hPc, -⟩ := open_rowsR h2
  exact ⟨⟨A, n, c, ns, S, P⟩, rfl, ⟨hE, hl, hn, hS, hP⟩, hSc, hPc⟩
end
end Go.Proofs.YtmbelhdkaepohaaGreatDoor
