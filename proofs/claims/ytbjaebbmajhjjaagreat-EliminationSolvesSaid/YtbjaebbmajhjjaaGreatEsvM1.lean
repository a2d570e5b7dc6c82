/- Merged texts: what YtbjaebbmajhjjaaGreatEliminationSolvesProof leans on. -/
import Derived.Deep.DeepCutAuto
import Derived.Deep.AppendLies
import Derived.Test.YtbjaebbmajhjjaaGreatEsvM0b
import Derived.Test.YtbjaebbmajhjjaaGreatEsvM0a
namespace Go.Proofs.YtbjaebbmajhjjaaGreat
set_option maxRecDepth 20000
set_option linter.unusedVariables false
set_option linter.unusedSimpArgs false
open Go.ChangeShapes Go.WideShapes Go.ChangeAt Go.RowKit
structure GSy (s : SY) (v N : Nat) : Prop where
  w : s.W = v
  v4 : v ≤ 4
  n1 : 1 ≤ N
  dn : s.D.n = N
  tn : s.T.n = N
  bn : s.B.n = N
  d : ∀ y ∈ s.D.l, gD N y
  t : ∀ y ∈ s.T.l, gT v y
  b : ∀ y ∈ s.B.l, gB v y
def RetSys (w : World) (T n : Nat) (e : Ending) (w' : World) : Prop :=
  ∃ (s : SY) (v N : Nat), e = .returned s.a ∧ SYok w' [some T] s ∧ GSy s v N ∧ N ≤ n ∧ Tape w' T ∧ w.grownBy w' (some T)
theorem insI_len (l : List Int) (n : Int) : (insI l n).length ≤ l.length + 1 := by
  induction l with
  | nil => simp [insI]
  | cons a l ih =>
    unfold insI
    repeat' split
    all_goals simp only [List.length_cons]; omega
theorem flat_lhc (l : List RH) : l.flatMap lhc = l.map RH.v := by
  induction l with
  | nil => rfl
  | cons a l ih => rw [List.flatMap_cons, List.map_cons, ih]; rfl
theorem Sg.fin {w u : World} {T bS W N n : Nat} {A1 A2 A3 : Option Addr} {c1 c2 c3 : Nat} {lD : List RH} {lB : List ZH} {lT : List FH} (h : Sg w T bS W N (.slice A1 N c1) (.slice A2 N c2) (.slice A3 N c3) lD lB lT u) (h1 : lD.length = N) (h2 : lB.length = N) (h3 : lT.length = N) (hW : W ≤ 4) (hN : 1 ≤ N) (hn : N ≤ n) (hn2 : n ≤ 100) :
    RetSys w T n (.returned (.agg #[.int .i64 W, .slice A1 N c1, .slice A3 N c3, .slice A2 N c2])) ((((u.setCell ⟨w.heap.size, 0, none⟩ (.int .i64 W)).setCell ⟨w.heap.size, 1, none⟩ (.slice A1 N c1)).setCell ⟨w.heap.size, 2, none⟩ (.slice A3 N c3)).setCell ⟨w.heap.size, 3, none⟩ (.slice A2 N c2)) := by
  have hT := h.hT; have hb := h.hb
  generalize hu' : (((u.setCell ⟨w.heap.size, 0, none⟩ (.int .i64 W)).setCell ⟨w.heap.size, 1, none⟩ (.slice A1 N c1)).setCell ⟨w.heap.size, 2, none⟩ (.slice A3 N c3)).setCell ⟨w.heap.size, 3, none⟩ (.slice A2 N c2) = u'
  have hgu : u.grownBy u' (some w.heap.size) := by
    rw [← hu']
    exact grown_trans (grown_trans (grown_trans (setCell_grown u ⟨w.heap.size, 0, none⟩ _) (setCell_grown _ ⟨w.heap.size, 1, none⟩ _)) (setCell_grown _ ⟨w.heap.size, 2, none⟩ _)) (setCell_grown _ ⟨w.heap.size, 3, none⟩ _)
  have hgw : w.grownBy u' (some T) := by
    rw [← hu']
    exact grown_set_new (grown_set_new (grown_set_new (grown_set_new h.gr (by simp) _) (by simp) _) (by simp) _) (by simp) _
  have htp : Tape u' T := h.tp.keep fun k hk => hgu.block k (by have := h.tp.lt; omega) (by simp; omega)
  have hG : Go2 u (exS T w.heap.size bS (.slice A1 N c1) (.slice A2 N c2) (.slice A3 N c3)) u' [some T] := Go2.grown hgu (.inr (by simp [exS])) fun k _ hm => by
    simp only [List.mem_cons, List.not_mem_nil, or_false] at hm
    simp only [exS, List.mem_cons]
    exact .inl hm
  have far : ∀ {v : Value} {ty k n : Nat} {xs : List Value}, u.ownsRow (bS + 1) ty k v n xs → u'.ownsRow (bS + 1) ty k v n xs := fun ho => ho.kept hgu (Sg.far ho (by omega))
  have nT : ∀ {v : Value} {ty k n : Nat} {xs : List Value}, u'.ownsRow (bS + 1) ty k v n xs → ∀ g, v.ownBlock = some g → some g ∉ [some T] := fun ho g hg hm => by
    have := (ho.lt g hg).1
    simp only [List.mem_cons, List.not_mem_nil, or_false, Option.some.injEq] at hm
    omega
  have oD := far h.oD
  have oB := far h.oB
  have oT := far h.oT
  rw [h1, flat_lhc] at oD
  rw [h2] at oB
  rw [h3] at oT
  exact ⟨⟨W, ⟨A1, N, c1, lD⟩, ⟨A3, N, c3, lT⟩, ⟨A2, N, c2, lB⟩⟩, W, N, rfl,
    ⟨⟨EAt.own oD (nT oD), h1, by show N ≤ _; omega, fun y hy => (h.eD y hy).go hG⟩, ⟨EAt.own oT (nT oT), h3, by show N ≤ _; omega, fun y hy => (h.eT y hy).go hG⟩, ⟨EAt.own oB (nT oB), h2, by show N ≤ _; omega, fun y hy => (h.eB y hy).go hG⟩⟩,
    ⟨rfl, hW, hN, rfl, rfl, rfl, h.okD, h.okT, h.okB⟩, hn, htp, hgw⟩
set_option maxHeartbeats 12800000 in
theorem system_any (T n : Nat) (w : World) (ht : Tape w T) (hn1 : 1 ≤ n) (hn : n ≤ 100) : Calls Tryz.prog 24 #[.pointer (some ⟨T, 0, none⟩), .int .i64 n] w (RetSys w T n) := by
  obtain ⟨iD, hi, hz0, hz1, hz2⟩ := info_parts info22
  have HD := hid hi; have HD0 := hid hz0; have HD1 := hid hz1; have HD2 := hid hz2
  clear hi hz0 hz1 hz2
  obtain ⟨iB, hi, hz0, hz1, hz2⟩ := info_parts info41
  have HB := hid hi; have HB0 := hid hz0; have HB1 := hid hz1; have HB2 := hid hz2
  clear hi hz0 hz1 hz2
  obtain ⟨iT, hi, hz0, hz1, hz2⟩ := info_parts info70
  have HT := hid hi; have HT0 := hid hz0; have HT1 := hid hz1; have HT2 := hid hz2
  clear hi hz0 hz1 hz2
  have Ht := hid ht
  have hTl := ht.lt
  clear ht
  have HR := hid (Fb.new w #[.int .i64 0, .slice none 0 0, .slice none 0 0, .slice none 0 0] 62)
  have Hb0 := hid ((Below.refl w.heap.size w).alloc (Nat.le_refl _) (.cells #[.int .i64 0, .slice none 0 0, .slice none 0 0, .slice none 0 0] 62))
  go_enter Tryz.func24, Tryz.ntmps24
  go_wp2_with fail
  refine (width_any T _ (Ht.out.alloc _)).mono ?_
  rintro e w3 ⟨v0, rfl, hv0, ht3, hg3⟩
  obtain ⟨W, hW⟩ : ∃ W : Nat, W = v0 % 5 := ⟨_, rfl⟩
  have hW4 : W ≤ 4 := by omega
  have hrem : (v0 : Int) % 5 = (W : Int) := by rw [hW]; omega
  clear hW
  have hbS : w.heap.size < w3.heap.size := by have := hg3.size; rw [World.size_alloc] at this; omega
  have H0 := hid (show ∀ N, Sg w T w3.heap.size W N (.slice none 0 0) (.slice none 0 0) (.slice none 0 0) [] [] [] (w3.alloc (.cells #[.int .i64 W, .slice none 0 0, .slice none 0 0, .slice none 0 0] 62)) from fun N =>
    ⟨ht3.alloc _, hTl, hbS, grown_trans (grown_trans (grown_of_below Hb0.out _) hg3) (grown_of_below ((Below.refl _ _).alloc (Nat.le_refl _) _) _), (HR.out.grown hg3 (by simp; omega)).alloc _, Fb.new _ _ _, World.ownsRow_nil _ _ _ _, World.ownsRow_nil _ _ _ _, World.ownsRow_nil _ _ _ _,
      by simp, by simp, by simp, by simp, by simp, by simp⟩)
  clear ht3 hg3 HR Hb0
  go_wp2_with fail
  clear hrem hv0
  generalize hbq : w3.heap.size = bS at *
  clear hbq
  generalize w3.alloc (.cells #[.int .i64 W, .slice none 0 0, .slice none 0 0, .slice none 0 0] 62) = w4 at *
  refine (next_any T n _ (H0.out 0).tp (by omega)).mono ?_
  rintro e w5 ⟨r, rfl, hr0, hr1, ht5, hg5, -⟩
  obtain ⟨N, hN⟩ : ∃ N : Nat, (1 : Int) + r = (N : Int) := ⟨(1 + r).toNat, by omega⟩
  have hN1 : 1 ≤ N := by omega
  have hNn : N ≤ n := by omega
  have H5 := hid ((H0.out N).step ht5 hg5)
  clear ht5 hg5 H0
  go_wp2_with fail
  clear hN hr0 hr1
  go_loopw [6, 7, 8, 9] (fun iv _ _ _ wr => ∃ (i : Nat) (D B Tr : Value) (lD : List RH) (lB : List ZH) (lT : List FH), i ≤ N ∧ iv = .int .i64 i ∧ (lD.length = i ∧ lB.length = i ∧ lT.length = i) ∧ Hid (Sg w T bS W N D B Tr lD lB lT wr)) (fun iv _ _ _ _ => N - (intOf iv).toNat)
  case atStart => exact ⟨0, _, _, _, [], [], [], by omega, rfl, ⟨rfl, rfl, rfl⟩, H5⟩
  case round =>
    clear H5
    obtain ⟨i, D, B, Tr, lD, lB, lT, hi, rfl, ⟨hlD, hlB, hlT⟩, HS0⟩ := hrel
    by_cases hlt : i < N
    · go_wp2_with fail
      refine (next_any T 4 _ HS0.out.tp (by omega)).mono ?_
      rintro e w6 ⟨k0, rfl, hk0, hk1, ht6, hg6, -⟩
      have HS6 := hid (HS0.out.step ht6 hg6)
      obtain ⟨k0, rfl⟩ := Int.eq_ofNat_of_zero_le hk0
      have hk3 : k0 ≤ 3 := by omega
      clear ht6 hg6 HS0 hk0 hk1
      go_wp2_with fail
      rename_i Kx hKx K6 Q6
      go_loopw [7, 8] (fun dv kv wr => ∃ (k : Nat) (d : RH), kv = .int .i64 k ∧ dv = .slice d.A d.n d.c ∧ d.n + k ≤ 3 ∧ d.n ≤ d.c ∧ Hid (RisP N d.l) ∧ Hid (RHok wr (exS T w.heap.size bS D B Tr) d) ∧ Hid (Sg w T bS W N D B Tr lD lB lT wr)) (fun _ kv _ => (intOf kv).toNat)
      case atStart => exact ⟨k0, ⟨none, 0, 0, []⟩, rfl, rfl, by show 0 + k0 ≤ 3; omega, Nat.le_refl _, hid (RisP.nil _), hid ⟨EAt.nil _ _ _, rfl, by show 0 ≤ _; omega⟩, HS6⟩
      case round =>
        clear HS6 hk3
        obtain ⟨k, d, rfl, rfl, hdk, hdc, Hris, Hd, HS⟩ := hrel
        by_cases hpos : 0 < k
        · go_wp2_with fail
          refine (next_any T N _ HS.out.tp (by omega)).mono ?_
          rintro e w7 ⟨q, rfl, hq0, hq1, ht7, hg7, -⟩
          have Hd7 := hid (HS.out.drow Hd.out ht7 hg7)
          have HS7 := hid (HS.out.step ht7 hg7)
          have Hq := hid (And.intro hq0 (show q < N by omega))
          clear ht7 hg7 HS Hd hq0 hq1
          go_wp2_with fail
          refine (insert_any d q (exS T w.heap.size bS D B Tr) _ Hd7.out hdc (by omega) HS7.out.exlt).mono ?_
          rintro e w8 ⟨y, rfl, hyl, hyo, hyc, hb8⟩
          have HS8 := hid (HS7.out.below hb8)
          have Hy := hid hyo
          have Hyr := hid (show RisP N y.l by rw [hyl]; exact insI_ris Hris.out Hq.out.1 Hq.out.2)
          have hyn : y.n + (k - 1) ≤ 3 := by
            have h1 := insI_len d.l q
            have h2 := Hd7.out.len
            have h3 := hyo.len
            rw [hyl] at h3
            omega
          clear hyl hyo hb8 HS7 Hd7
          go_wp2_with fail
          go_roundw
          case rel => exact ⟨k - 1, y, by first | go_num | (congr 1; omega), rfl, hyn, hyc, Hyr, Hy, HS8⟩
          case measure => simp [intOf]; omega
        · obtain rfl : k = 0 := by omega
          clear hpos
          have Hgd := hid (show gD N d from ⟨Hris.out, by omega⟩)
          clear Hris hdk hdc
          obtain ⟨b0, b1, b2, b3⟩ := HS.out.bx.four
          go_wp2_with fail
          refine (refEmpty_any W _ (by omega)).mono ?_
          rintro e w9 ⟨g9, rfl, hg9, hr9, hb9⟩
          rw [len_emp]
          have hb9a := (Below.refl w9.heap.size w9).alloc (Nat.le_refl _) (.cells #[.int .i64 W, .slice (some ⟨g9, 0, none⟩) (Bs.nw W) (Bs.nw W)] 24)
          have HSw := hid (HS.out.below hb9)
          have Hdw := hid (Hd.out.below hb9)
          have HS9 := hid (HSw.out.below hb9a)
          have Hz9 := hid (HS9.out.set (hr9.below hb9a hr9.lt) (Bs.fit_emp W))
          have Hbb9 := hid (Fb.new w9 #[.int .i64 W, .slice (some ⟨g9, 0, none⟩) (Bs.nw W) (Bs.nw W)] 24)
          have Hg9 := hid (grown_of_below hb9a (some T))
          have HbbB := hid (show B.ownBlock ≠ some w9.heap.size from fun e => by
            have := (HSw.out.oB.lt _ e).2
            omega)
          have hbbw : w9.heap.size ≤ w9.heap.size := Nat.le_refl _
          have hTbb : T < w9.heap.size := HSw.out.tp.lt
          clear hr9 hb9 hb9a b0 b1 b2 b3 HS Hd hg9
          go_upto_region 12 with fail
          generalize hbq : w9.heap.size = bb at HbbB Hbb9 hTbb ⊢
          clear hbbw
          have Hbq := hid (show w9.heap.size ≤ bb by omega)
          clear hbq
          generalize w9.alloc (.cells #[.int .i64 W, .slice (some ⟨g9, 0, none⟩) (Bs.nw W) (Bs.nw W)] 24) = w10 at *
          go_wp2_with fail
          refine (next_any T 3 _ HS9.out.tp (by omega)).mono ?_
          rintro e w11 ⟨r, rfl, hr0, hr1, ht11, hg11, -⟩
          have HS11 := hid (HS9.out.step ht11 hg11)
          have Hz11 := hid (HS9.out.zset Hz9.out ht11 hg11)
          have Hg11 := hid (grown_trans Hg9.out hg11)
          have Hbb11 := hid (Hbb9.out.grown hg11 fun e => (Hbb9.out.typ.ne HS9.out.tp.typ (by decide)) (Option.some.inj e))
          clear ht11 hg11 HS9 Hz9 hr1 Hg9 Hbb9
          go_upto_if 39 with fail
          go_cut [] (fun wd => ∃ b : ZH, Hid (Fb wd bb b.cs.toArray 24) ∧ Hid (ZHok wd (exS T w.heap.size bS D B Tr) b) ∧ Hid (gB W b) ∧ Hid (RHok wd (exS T w.heap.size bS D B Tr) d) ∧ Hid (Sg w T bS W N D B Tr lD lB lT wd))
          case first =>
            by_cases h1 : r = 1
            · have t : (r == 1) = true := by simp [h1]
              clear h1
              obtain ⟨b0, b1, b2, b3⟩ := HS11.out.bx.four
              go_wp2_with fail
              refine (set3_any T W _ HS11.out.tp (by omega)).mono ?_
              rintro e w12 ⟨g12, ws, rfl, hf12, hr12, -, ht12, hg12⟩
              have Hg12 := hid (grown_trans Hg11.out hg12)
              have Ht12 := hid ht12
              have Hr12 := hid hr12
              have Hbb12 := hid (Hbb11.out.grown hg12 fun e => (Hbb11.out.typ.ne HS11.out.tp.typ (by decide)) (Option.some.inj e))
              have Hf12 := hid hf12
              clear hr12 ht12 hg12 hf12 HS11 b0 b1 b2 b3
              obtain ⟨x0, x1⟩ := (show Fb w12 bb #[.int .i64 W, .slice (some ⟨g9, 0, none⟩) (Bs.nw W) (Bs.nw W)] 24 from Hbb12.out).two
              have f0 := Hbb12.out.frozen 0
              have f1 := Hbb12.out.frozen 1
              have fl := Hbb12.out.lt
              go_wp2_with fail
              go_meet
              have hne : g12 ≠ bb := Hr12.out.typ.ne Hbb12.out.typ (by decide)
              have hgf := grown_set_new (grown_set_new Hg12.out (p := ⟨bb, 0, none⟩) Hbq.out (.int .i64 W)) (p := ⟨bb, 1, none⟩) Hbq.out (.slice (some ⟨g12, 0, none⟩) (Bs.nw W) (Bs.nw W))
              have htf := (Ht12.out.far (p := ⟨bb, 0, none⟩) hTbb (.int .i64 W)).far (p := ⟨bb, 1, none⟩) hTbb (.slice (some ⟨g12, 0, none⟩) (Bs.nw W) (Bs.nw W))
              have hSf := HSw.out.step htf hgf
              have hrf := (Hr12.out.far (p := ⟨bb, 0, none⟩) hne (.int .i64 W)).far (p := ⟨bb, 1, none⟩) hne (.slice (some ⟨g12, 0, none⟩) (Bs.nw W) (Bs.nw W))
              exact ⟨⟨W, some ⟨g12, 0, none⟩, Bs.nw W, Bs.nw W, ws⟩, hid ((Hbb12.out.set 0 _).set 1 _), hid (hSf.set hrf Hf12.out), hid ⟨rfl, Hf12.out⟩, hid (HSw.out.drow Hdw.out htf hgf), hid hSf⟩
            · have t : (r == 1) = false := by simp [h1]
              clear h1
              go_wp2_with fail
              go_meet
              exact ⟨⟨W, some ⟨g9, 0, none⟩, Bs.nw W, Bs.nw W, Bs.emp W⟩, Hbb11, Hz11, hid ⟨rfl, Bs.fit_emp W⟩, hid (HSw.out.drow Hdw.out HS11.out.tp Hg11.out), HS11⟩
          case rest =>
            obtain ⟨b, Hbb, Hz, Hgb, Hd, HS⟩ := hcut
            clear HS11 Hz11 Hbb11 HSw Hdw Hg11 Hbq hTbb
            go_upto_region 14 with fail
            generalize wc = w1 at *
            have HL := hid (And.intro hlD (And.intro hlB hlT))
            have hl1 : lD.length < N := by omega
            have hl2 : lB.length < N := by omega
            have hl3 : lT.length < N := by omega
            clear hlD hlB hlT
            refine wp_region_factsG (sgG bS D B Tr lD lB lT) (sgF w1 T bS W D B Tr lD lB lT d b) (SgB w w1 T bS W D B Tr bb b) sgU (fun j u u' => Stp1 (tyO j) u u') Kx (fun _ _ h => h) 24 19 [some 44, some 45, some 46, some 47, some 48, some 49, some 50, some 51, some 52, some 53, some 54, some 55, some 56, some 57, some 58, some 59, some 60, some 61, some 62, none, some 63, none, some 64, none] (by kernel_rfl) (by kernel_rfl) (by kernel_rfl) (by kernel_rfl) (by kernel_rfl) (by kernel_rfl) (by decide)
              sgF_st ?bs ?gs sgG_st ?ar ?en
            case bs => exact (HS.out.sgB Hbb.out).below (Below.refl _ _).drew
            case gs => exact (HS.out.below (Below.refl _ _).drew).sgG
            case ar =>
              intro j o f u ho hi hB hGi hpre K hK
              match j, ho, hpre, hK with
              | 0, ho, hpre, hK =>
                obtain rfl := Option.some.inj ho
                refine wpOp_step rfl fun K' hK' => ?_
                simp only [putL, updV]
                go_simp
                have hz := hK' _ _ (hK (.pointer (some ⟨bS, 1, none⟩)) (u) (hB) (Stp1.refl _ _) (rfl))
                refine Eq.mp (congrArg (fun a => K' a (u)) ?_) hz
                kernel_rfl
              | 1, ho, hpre, hK =>
                obtain rfl := Option.some.inj ho
                obtain ⟨c0, c1, c2, c3⟩ := hB.bx.four
                have hlt := hB.bx.lt
                have e0 : f 0 = .pointer (some ⟨bS, 1, none⟩) := hpre ⟨0, .data⟩ (by simp) rfl (.inl rfl)
                obtain ⟨f, rfl⟩ := fixG f 0 _ e0
                clear e0
                refine wpOp_step rfl fun K' hK' => ?_
                simp only [putL, updV]
                go_simp
                have hz := hK' _ _ (hK (D) (u) (hB) (Stp1.refl _ _) (rfl))
                refine Eq.mp (congrArg (fun a => K' a (u)) ?_) hz
                kernel_rfl
              | 2, ho, hpre, hK =>
                obtain rfl := Option.some.inj ho
                refine wpOp_step rfl fun K' hK' => ?_
                simp only [putL, updV]
                go_simp
                have hz := hK' _ _ (hK (.slice d.A d.n d.c) (u) (hB) (Stp1.refl _ _) (rfl))
                refine Eq.mp (congrArg (fun a => K' a (u)) ?_) hz
                kernel_rfl
              | 3, ho, hpre, hK =>
                obtain rfl := Option.some.inj ho
                have e2 : f 2 = .slice d.A d.n d.c := hpre ⟨2, .data⟩ (by simp) rfl (.inl rfl)
                obtain ⟨f, rfl⟩ := fixG f 2 _ e2
                clear e2
                have hbw := (Below.refl u.heap.size u).alloc (Nat.le_refl _) (.cells #[.slice d.A d.n d.c] 45)
                refine wpOp_step rfl fun K' hK' => ?_
                simp only [putL, updV]
                go_simp
                have hz := hK' _ _ (hK (.slice (some ⟨u.heap.size, 0, none⟩) 1 1) (u.alloc (.cells #[.slice d.A d.n d.c] 45)) (hB.below hbw) (Stp1.below hbw) (⟨_, rfl, Fb.new _ _ _⟩))
                refine Eq.mp (congrArg (fun a => K' a (u.alloc (.cells #[.slice d.A d.n d.c] 45))) ?_) hz
                kernel_rfl
              | 4, ho, hpre, hK =>
                obtain rfl := Option.some.inj ho
                have e1 : f 1 = D := hpre ⟨1, .data⟩ (by simp) rfl (.inl rfl)
                obtain ⟨g, e3, hf⟩ : ∃ g, f 3 = .slice (some ⟨g, 0, none⟩) 1 1 ∧ Fb u g (lhc d).toArray 45 := hpre ⟨3, .data⟩ (by simp) rfl (.inr rfl)
                have ho : u.ownsRow (bS + 1) 45 1 D lD.length (lD.flatMap lhc) := hGi
                have hbb : D.ownBlock ≠ some bb := (by rcases own_noteq ho hB.bb.typ (by decide) with h | h; (rw [h]; simp); exact h)
                have hsz := hB.bx.lt
                obtain ⟨f, rfl⟩ := fixG f 1 _ e1
                rw [updV_ne _ _ (by decide)] at e3
                obtain ⟨f, rfl⟩ := fixG f 3 _ e3
                clear e1 e3
                refine wpOp_step rfl fun K' hK' => ?_
                refine step_append_lies _ rfl (.tmp 45) (.tmp 47) 59 rfl (bS + 1) 45 iD _ 1 24 Tryz.underlying59 HD.out HD0.out HD1.out HD2.out rfl (by decide) D lD.length (lD.flatMap lhc) (by kernel_rfl) ho ⟨g, 0, none⟩ 1 1 (lhc d) (by kernel_rfl) rfl (fun j x hx => World.news_of_block hf j x hx) (one_lhc d) (by omega) (by unfold maxLen; omega) (by omega) (by omega) _ rfl ?_
                intro g9 q9 w9 hown hgr hat _
                have hB9 := hB.app HS.out (.inl rfl) ho hbb hgr
                have hR9 : Stp1 (tyO 4) u w9 := ⟨_, hgr, fun g e => own_typ ho e⟩
                have hn9 := hat.imp (fun e => e) (fun e => show w1.heap.size ≤ g9 by rw [e]; exact hB.gx.size)
                have hz := hK' _ _ (hK (.slice (some ⟨g9, 0, none⟩) (lD.length + 1) q9) (w9) (hB9) (hR9) (⟨g9, q9, rfl, hown, hn9⟩))
                refine Eq.mp (congrArg (fun a => K' a (w9)) ?_) hz
                kernel_rfl
              | 5, ho, hpre, hK =>
                obtain rfl := Option.some.inj ho
                refine wpOp_step rfl fun K' hK' => ?_
                simp only [putL, updV]
                go_simp
                have hz := hK' _ _ (hK (.pointer (some ⟨bS, 3, none⟩)) (u) (hB) (Stp1.refl _ _) (rfl))
                refine Eq.mp (congrArg (fun a => K' a (u)) ?_) hz
                kernel_rfl
              | 6, ho, hpre, hK =>
                obtain rfl := Option.some.inj ho
                obtain ⟨c0, c1, c2, c3⟩ := hB.bx.four
                have hlt := hB.bx.lt
                have e5 : f 5 = .pointer (some ⟨bS, 3, none⟩) := hpre ⟨5, .data⟩ (by simp) rfl (.inl rfl)
                obtain ⟨f, rfl⟩ := fixG f 5 _ e5
                clear e5
                refine wpOp_step rfl fun K' hK' => ?_
                simp only [putL, updV]
                go_simp
                have hz := hK' _ _ (hK (B) (u) (hB) (Stp1.refl _ _) (rfl))
                refine Eq.mp (congrArg (fun a => K' a (u)) ?_) hz
                kernel_rfl
              | 7, ho, hpre, hK =>
                obtain rfl := Option.some.inj ho
                obtain ⟨c0, c1⟩ := (show Fb u bb #[.int .i64 b.W, .slice b.A b.n b.c] _ from hB.bb).two
                refine wpOp_step rfl fun K' hK' => ?_
                simp only [putL, updV]
                go_simp
                have hz := hK' _ _ (hK (.agg #[.int .i64 b.W, .slice b.A b.n b.c]) (u) (hB) (Stp1.refl _ _) (rfl))
                refine Eq.mp (congrArg (fun a => K' a (u)) ?_) hz
                kernel_rfl
              | 8, ho, hpre, hK =>
                obtain rfl := Option.some.inj ho
                have e7 : f 7 = .agg #[.int .i64 b.W, .slice b.A b.n b.c] := hpre ⟨7, .data⟩ (by simp) rfl (.inl rfl)
                obtain ⟨f, rfl⟩ := fixG f 7 _ e7
                clear e7
                have hbw := (Below.refl u.heap.size u).alloc (Nat.le_refl _) (.cells #[.int .i64 b.W, .slice b.A b.n b.c] 24)
                refine wpOp_step rfl fun K' hK' => ?_
                simp only [putL, updV]
                go_simp
                have hz := hK' _ _ (hK (.slice (some ⟨u.heap.size, 0, none⟩) 1 1) (u.alloc (.cells #[.int .i64 b.W, .slice b.A b.n b.c] 24)) (hB.below hbw) (Stp1.below hbw) (⟨_, rfl, Fb.new _ _ _⟩))
                refine Eq.mp (congrArg (fun a => K' a (u.alloc (.cells #[.int .i64 b.W, .slice b.A b.n b.c] 24))) ?_) hz
                kernel_rfl
              | 9, ho, hpre, hK =>
                obtain rfl := Option.some.inj ho
                have e6 : f 6 = B := hpre ⟨6, .data⟩ (by simp) rfl (.inl rfl)
                obtain ⟨g, e8, hf⟩ : ∃ g, f 8 = .slice (some ⟨g, 0, none⟩) 1 1 ∧ Fb u g b.cs.toArray 24 := hpre ⟨8, .data⟩ (by simp) rfl (.inr rfl)
                have ho : u.ownsRow (bS + 1) 24 2 B lB.length (lB.flatMap ZH.cs) := hGi
                have hbb : B.ownBlock ≠ some bb := HbbB.out
                have hsz := hB.bx.lt
                obtain ⟨f, rfl⟩ := fixG f 6 _ e6
                rw [updV_ne _ _ (by decide)] at e8
                obtain ⟨f, rfl⟩ := fixG f 8 _ e8
                clear e6 e8
                refine wpOp_step rfl fun K' hK' => ?_
                refine step_append_lies _ rfl (.tmp 50) (.tmp 52) 31 rfl (bS + 1) 24 iB _ 2 32 Tryz.underlying31 HB.out HB0.out HB1.out HB2.out rfl (by decide) B lB.length (lB.flatMap ZH.cs) (by kernel_rfl) ho ⟨g, 0, none⟩ 1 1 (b.cs) (by kernel_rfl) rfl (fun j x hx => World.news_of_block hf j x hx) (one_zcs b) (by omega) (by unfold maxLen; omega) (by omega) (by omega) _ rfl ?_
                intro g9 q9 w9 hown hgr hat _
                have hB9 := hB.app HS.out (.inr (.inl rfl)) ho hbb hgr
                have hR9 : Stp1 (tyO 9) u w9 := ⟨_, hgr, fun g e => own_typ ho e⟩
                have hn9 := hat.imp (fun e => e) (fun e => show w1.heap.size ≤ g9 by rw [e]; exact hB.gx.size)
                have hz := hK' _ _ (hK (.slice (some ⟨g9, 0, none⟩) (lB.length + 1) q9) (w9) (hB9) (hR9) (⟨g9, q9, rfl, hown, hn9⟩))
                refine Eq.mp (congrArg (fun a => K' a (w9)) ?_) hz
                kernel_rfl
              | 10, ho, hpre, hK =>
                obtain rfl := Option.some.inj ho
                refine wpOp_step rfl fun K' hK' => ?_
                simp only [putL, updV]
                go_simp
                have hz := hK' _ _ (hK (.pointer (some ⟨bS, 2, none⟩)) (u) (hB) (Stp1.refl _ _) (rfl))
                refine Eq.mp (congrArg (fun a => K' a (u)) ?_) hz
                kernel_rfl
              | 11, ho, hpre, hK =>
                obtain rfl := Option.some.inj ho
                obtain ⟨c0, c1, c2, c3⟩ := hB.bx.four
                have hlt := hB.bx.lt
                have e10 : f 10 = .pointer (some ⟨bS, 2, none⟩) := hpre ⟨10, .data⟩ (by simp) rfl (.inl rfl)
                obtain ⟨f, rfl⟩ := fixG f 10 _ e10
                clear e10
                refine wpOp_step rfl fun K' hK' => ?_
                simp only [putL, updV]
                go_simp
                have hz := hK' _ _ (hK (Tr) (u) (hB) (Stp1.refl _ _) (rfl))
                refine Eq.mp (congrArg (fun a => K' a (u)) ?_) hz
                kernel_rfl
              | 12, ho, hpre, hK =>
                obtain rfl := Option.some.inj ho
                refine wpOp_step rfl fun K' hK' => ?_
                simp only [putL, updV]
                go_simp
                have hz := hK' _ _ (hK (.pointer (some ⟨T, 0, none⟩)) (u) (hB) (Stp1.refl _ _) (rfl))
                refine Eq.mp (congrArg (fun a => K' a (u)) ?_) hz
                kernel_rfl
              | 13, ho, hpre, hK =>
                obtain rfl := Option.some.inj ho
                refine wpOp_step rfl fun K' hK' => ?_
                simp only [putL, updV]
                go_simp
                have hz := hK' _ _ (hK (.pointer (some ⟨bS, 0, none⟩)) (u) (hB) (Stp1.refl _ _) (rfl))
                refine Eq.mp (congrArg (fun a => K' a (u)) ?_) hz
                kernel_rfl
              | 14, ho, hpre, hK =>
                obtain rfl := Option.some.inj ho
                obtain ⟨c0, c1, c2, c3⟩ := hB.bx.four
                have hlt := hB.bx.lt
                have e13 : f 13 = .pointer (some ⟨bS, 0, none⟩) := hpre ⟨13, .data⟩ (by simp) rfl (.inl rfl)
                obtain ⟨f, rfl⟩ := fixG f 13 _ e13
                clear e13
                refine wpOp_step rfl fun K' hK' => ?_
                simp only [putL, updV]
                go_simp
                have hz := hK' _ _ (hK (.int .i64 (W : Int)) (u) (hB) (Stp1.refl _ _) (rfl))
                refine Eq.mp (congrArg (fun a => K' a (u)) ?_) hz
                kernel_rfl
              | 15, ho, hpre, hK =>
                obtain rfl := Option.some.inj ho
                have e12 : f 12 = .pointer (some ⟨T, 0, none⟩) := hpre ⟨12, .data⟩ (by simp) rfl (.inl rfl)
                have e14 : f 14 = .int .i64 (W : Int) := hpre ⟨14, .data⟩ (by simp) rfl (.inl rfl)
                obtain ⟨f, rfl⟩ := fixG f 12 _ e12
                rw [updV_ne _ _ (by decide)] at e14
                obtain ⟨f, rfl⟩ := fixG f 14 _ e14
                clear e12 e14
                refine wpOp_step rfl fun K' hK' => ?_
                simp only [putL, updV]
                go_simp
                go_at_call 38
                refine (transfer3_any T W _ hB.tp (by omega)).mono ?_
                rintro e u5 ⟨g1, g2, b0, C, k, q, gs, ks, cs, rfl, ⟨r1, f1, n1⟩, ⟨r2, f2, n2⟩, ⟨o3, -, l3⟩, hv, h12, ht, hg⟩
                have hFt : Ft u5 W ⟨⟨W, some ⟨g1, 0, none⟩, Bs.nw W, Bs.nw W, gs⟩, ⟨W, some ⟨g2, 0, none⟩, Bs.nw W, Bs.nw W, ks⟩, C, k, q, cs⟩ := ⟨⟨g1, rfl, r1⟩, ⟨g2, rfl, r2⟩, ⟨b0, o3⟩, ⟨rfl, f1, rfl⟩, ⟨rfl, f2, rfl⟩, ⟨l3, by show k ≤ 12; omega⟩, hv⟩
                have hB5 := hB.tape HS.out ht hg
                have hR5 : Stp1 (tyO 15) u u5 := ⟨_, hg, fun g e => by obtain rfl := Option.some.inj e; exact hB.tp.typ⟩
                clear r1 f1 n1 r2 f2 n2 o3 l3 hv h12 ht hg
                have hz := hK' _ _ (hK (.agg #[.int .i64 W, .slice (some ⟨g1, 0, none⟩) (Bs.nw W) (Bs.nw W), .int .i64 W, .slice (some ⟨g2, 0, none⟩) (Bs.nw W) (Bs.nw W), .slice C k q]) (u5) (hB5) (hR5) (⟨_, rfl, hFt⟩))
                refine Eq.mp (congrArg (fun a => K' a (u5)) ?_) hz
                kernel_rfl
              | 16, ho, hpre, hK =>
                obtain rfl := Option.some.inj ho
                obtain ⟨F, e15, hF⟩ : ∃ F : FH, f 15 = F.a ∧ Ft u W F := hpre ⟨15, .data⟩ (by simp) rfl (.inl rfl)
                have e15 : f 15 = .agg #[.int .i64 F.G.W, .slice F.G.A F.G.n F.G.c, .int .i64 F.K.W, .slice F.K.A F.K.n F.K.c, .slice F.C F.k F.q] := e15
                obtain ⟨f, rfl⟩ := fixG f 15 _ e15
                clear e15
                have hbw := (Below.refl u.heap.size u).alloc (Nat.le_refl _) (.cells #[.int .i64 F.G.W, .slice F.G.A F.G.n F.G.c, .int .i64 F.K.W, .slice F.K.A F.K.n F.K.c, .slice F.C F.k F.q] 30)
                refine wpOp_step rfl fun K' hK' => ?_
                simp only [putL, updV]
                go_simp
                have hz := hK' _ _ (hK (.slice (some ⟨u.heap.size, 0, none⟩) 1 1) (u.alloc (.cells #[.int .i64 F.G.W, .slice F.G.A F.G.n F.G.c, .int .i64 F.K.W, .slice F.K.A F.K.n F.K.c, .slice F.C F.k F.q] 30)) (hB.below hbw) (Stp1.below hbw) (⟨F, _, rfl, Fb.new _ _ _, (Stp1.below (t := tyO 16) hbw).ft hF (tyO_u 16) (tyO_c 16)⟩))
                refine Eq.mp (congrArg (fun a => K' a (u.alloc (.cells #[.int .i64 F.G.W, .slice F.G.A F.G.n F.G.c, .int .i64 F.K.W, .slice F.K.A F.K.n F.K.c, .slice F.C F.k F.q] 30))) ?_) hz
                kernel_rfl
              | 17, ho, hpre, hK =>
                obtain rfl := Option.some.inj ho
                have e11 : f 11 = Tr := hpre ⟨11, .data⟩ (by simp) rfl (.inl rfl)
                obtain ⟨F, g, e16, hf, hF⟩ : ∃ (F : FH) (g : Nat), f 16 = .slice (some ⟨g, 0, none⟩) 1 1 ∧ Fb u g F.cells.toArray 30 ∧ Ft u W F := hpre ⟨16, .data⟩ (by simp) rfl (.inr rfl)
                have ho : u.ownsRow (bS + 1) 30 5 Tr lT.length (lT.flatMap FH.cells) := hGi
                have hbb : Tr.ownBlock ≠ some bb := (by rcases own_noteq ho hB.bb.typ (by decide) with h | h; (rw [h]; simp); exact h)
                have hsz := hB.bx.lt
                obtain ⟨f, rfl⟩ := fixG f 11 _ e11
                rw [updV_ne _ _ (by decide)] at e16
                obtain ⟨f, rfl⟩ := fixG f 16 _ e16
                clear e11 e16
                refine wpOp_step rfl fun K' hK' => ?_
                refine step_append_lies _ rfl (.tmp 55) (.tmp 60) 60 rfl (bS + 1) 30 iT _ 5 88 Tryz.underlying60 HT.out HT0.out HT1.out HT2.out rfl (by decide) Tr lT.length (lT.flatMap FH.cells) (by kernel_rfl) ho ⟨g, 0, none⟩ 1 1 (F.cells) (by kernel_rfl) rfl (fun j x hx => World.news_of_block hf j x hx) (one_fcells F) (by omega) (by unfold maxLen; omega) (by omega) (by omega) _ rfl ?_
                intro g9 q9 w9 hown hgr hat _
                have hB9 := hB.app HS.out (.inr (.inr rfl)) ho hbb hgr
                have hR9 : Stp1 (tyO 17) u w9 := ⟨_, hgr, fun g e => own_typ ho e⟩
                have hn9 := hat.imp (fun e => e) (fun e => show w1.heap.size ≤ g9 by rw [e]; exact hB.gx.size)
                have hz := hK' _ _ (hK (.slice (some ⟨g9, 0, none⟩) (lT.length + 1) q9) (w9) (hB9) (hR9) (⟨F, g9, q9, rfl, hown, hn9, hR9.ft hF (tyO_u 17) (tyO_c 17)⟩))
                refine Eq.mp (congrArg (fun a => K' a (w9)) ?_) hz
                kernel_rfl
              | 18, ho, hpre, hK =>
                obtain rfl := Option.some.inj ho
                refine wpOp_step rfl fun K' hK' => ?_
                simp only [putL, updV]
                go_simp
                have hz := hK' _ _ (hK (.pointer (some ⟨bS, 1, none⟩)) (u) (hB) (Stp1.refl _ _) (rfl))
                refine Eq.mp (congrArg (fun a => K' a (u)) ?_) hz
                kernel_rfl
              | j + 19, ho, hpre, hK => exact absurd hi (by omega)
            case en =>
              intro Q2 hQ2 f u hB hF
              obtain ⟨g1, q1, e4, o1, n1⟩ : ∃ g q, f 4 = .slice (some ⟨g, 0, none⟩) (lD.length + 1) q ∧ u.ownsRow (bS + 1) 45 1 (.slice (some ⟨g, 0, none⟩) (lD.length + 1) q) (lD.length + 1) (lD.flatMap lhc ++ lhc d) ∧ (D.ownBlock = some g ∨ w1.heap.size ≤ g) := hF 4 (by decide) rfl
              obtain ⟨g2, q2, e9, o2, n2⟩ : ∃ g q, f 9 = .slice (some ⟨g, 0, none⟩) (lB.length + 1) q ∧ u.ownsRow (bS + 1) 24 2 (.slice (some ⟨g, 0, none⟩) (lB.length + 1) q) (lB.length + 1) (lB.flatMap ZH.cs ++ b.cs) ∧ (B.ownBlock = some g ∨ w1.heap.size ≤ g) := hF 9 (by decide) rfl
              obtain ⟨F, g3, q3, e17, o3, n3, hFt⟩ : ∃ (F : FH) (g q : Nat), f 17 = .slice (some ⟨g, 0, none⟩) (lT.length + 1) q ∧ u.ownsRow (bS + 1) 30 5 (.slice (some ⟨g, 0, none⟩) (lT.length + 1) q) (lT.length + 1) (lT.flatMap FH.cells ++ F.cells) ∧ (Tr.ownBlock = some g ∨ w1.heap.size ≤ g) ∧ Ft u W F := hF 17 (by decide) rfl
              have e18 : f 18 = .pointer (some ⟨bS, 1, none⟩) := hF 18 (by decide) rfl
              have HSn := hid (hB.done HS.out Hd.out Hz.out Hgd.out Hgb.out o1 n1 o2 n2 o3 n3 hFt)
              clear hF o1 n1 o2 n2 o3 n3 hFt
              show wpAny _ _ _ _ 5 (tailArr 24 19) _ _
              refine wpAny_inv (TlI (.slice (some ⟨g1, 0, none⟩) (lD.length + 1) q1) (.slice (some ⟨g2, 0, none⟩) (lB.length + 1) q2) (.slice (some ⟨g3, 0, none⟩) (lT.length + 1) q3) bS u) [some 44, some 45, some 46, some 47, some 48, some 49, some 50, some 51, some 52, some 53, some 54, some 55, some 56, some 57, some 58, some 59, some 60, some 61, some 62, none, some 63, none, some 64, none] _ (by kernel_rfl) (by kernel_rfl) (by kernel_rfl) ?hs ?he 5 (tailArr 24 19) f u (by kernel_rfl) ⟨by decide, e4, e9, e17, fun _ => e18, fun h => absurd h (by decide), fun h => absurd h (by decide), fun h => absurd h (by decide), fun h => absurd h (by decide), fun _ => rfl, fun h => absurd h (by decide), fun h => absurd h (by decide), fun h => absurd h (by decide)⟩ (by kernel_rfl)
              case hs =>
                clear HSn
                intro j o L f u' ho hL hdep hI K hK
                match j, ho, hL, hdep, hK with
                | 0, ho, hL, hdep, hK => exact absurd (hI.pre 0 (by decide)) (by rw [hL]; decide)
                | 1, ho, hL, hdep, hK => exact absurd (hI.pre 1 (by decide)) (by rw [hL]; decide)
                | 2, ho, hL, hdep, hK => exact absurd (hI.pre 2 (by decide)) (by rw [hL]; decide)
                | 3, ho, hL, hdep, hK => exact absurd (hI.pre 3 (by decide)) (by rw [hL]; decide)
                | 4, ho, hL, hdep, hK => exact absurd (hI.pre 4 (by decide)) (by rw [hL]; decide)
                | 5, ho, hL, hdep, hK => exact absurd (hI.pre 5 (by decide)) (by rw [hL]; decide)
                | 6, ho, hL, hdep, hK => exact absurd (hI.pre 6 (by decide)) (by rw [hL]; decide)
                | 7, ho, hL, hdep, hK => exact absurd (hI.pre 7 (by decide)) (by rw [hL]; decide)
                | 8, ho, hL, hdep, hK => exact absurd (hI.pre 8 (by decide)) (by rw [hL]; decide)
                | 9, ho, hL, hdep, hK => exact absurd (hI.pre 9 (by decide)) (by rw [hL]; decide)
                | 10, ho, hL, hdep, hK => exact absurd (hI.pre 10 (by decide)) (by rw [hL]; decide)
                | 11, ho, hL, hdep, hK => exact absurd (hI.pre 11 (by decide)) (by rw [hL]; decide)
                | 12, ho, hL, hdep, hK => exact absurd (hI.pre 12 (by decide)) (by rw [hL]; decide)
                | 13, ho, hL, hdep, hK => exact absurd (hI.pre 13 (by decide)) (by rw [hL]; decide)
                | 14, ho, hL, hdep, hK => exact absurd (hI.pre 14 (by decide)) (by rw [hL]; decide)
                | 15, ho, hL, hdep, hK => exact absurd (hI.pre 15 (by decide)) (by rw [hL]; decide)
                | 16, ho, hL, hdep, hK => exact absurd (hI.pre 16 (by decide)) (by rw [hL]; decide)
                | 17, ho, hL, hdep, hK => exact absurd (hI.pre 17 (by decide)) (by rw [hL]; decide)
                | 18, ho, hL, hdep, hK => exact absurd (hI.pre 18 (by decide)) (by rw [hL]; decide)
                | 19, ho, hL, hdep, hK =>
                  obtain rfl := Option.some.inj ho
                  have e18 : f 18 = .pointer (some ⟨bS, 1, none⟩) := hI.a18 (hdep ⟨18, .data⟩ (by simp) rfl)
                  have e4 : f 4 = .slice (some ⟨g1, 0, none⟩) (lD.length + 1) q1 := hI.v4
                  obtain ⟨hu, hI9⟩ := hI.op19 hL undef
                  have hu := hu.symm
                  subst hu
                  obtain ⟨f, rfl⟩ := fixG f 18 _ e18
                  rw [updV_ne _ _ (by decide)] at e4
                  obtain ⟨f, rfl⟩ := fixG f 4 _ e4
                  clear e18 e4
                  have c9 := (hB.bx).cell 1
                  have f9 := (hB.bx).frozen 1
                  have l9 := (hB.bx).lt
                  simp only [Array.getElem?_setIfInBounds_ne, ne_eq, Nat.reduceEqDiff, not_false_eq_true, List.getElem?_toArray, List.getElem?_cons_succ, List.getElem?_cons_zero] at c9
                  refine wpOp_step rfl fun K' hK' => ?_
                  simp only [putL, updV]
                  go_simp
                  have hz := hK' _ _ (hK (undef) (u.setCell ⟨bS, 1, none⟩ (.slice (some ⟨g1, 0, none⟩) (lD.length + 1) q1)) (hI9))
                  refine Eq.mp (congrArg (fun a => K' a (u.setCell ⟨bS, 1, none⟩ (.slice (some ⟨g1, 0, none⟩) (lD.length + 1) q1))) ?_) hz
                  kernel_rfl
                | 20, ho, hL, hdep, hK =>
                  obtain rfl := Option.some.inj ho
                  refine wpOp_step rfl fun K' hK' => ?_
                  simp only [putL, updV]
                  go_simp
                  have hz := hK' _ _ (hK (.pointer (some ⟨bS, 3, none⟩)) (u') (hI.op20))
                  refine Eq.mp (congrArg (fun a => K' a (u')) ?_) hz
                  kernel_rfl
                | 21, ho, hL, hdep, hK =>
                  obtain rfl := Option.some.inj ho
                  have e20 : f 20 = .pointer (some ⟨bS, 3, none⟩) := hI.a20 (hdep ⟨20, .data⟩ (by simp) rfl)
                  have e9 : f 9 = .slice (some ⟨g2, 0, none⟩) (lB.length + 1) q2 := hI.v9
                  have l19 : L 19 = true := hdep ⟨19, .chain⟩ (by simp) rfl
                  obtain ⟨hu, hI9⟩ := hI.op21 hL l19 undef
                  have hu := hu.symm
                  subst hu
                  obtain ⟨f, rfl⟩ := fixG f 20 _ e20
                  rw [updV_ne _ _ (by decide)] at e9
                  obtain ⟨f, rfl⟩ := fixG f 9 _ e9
                  clear e20 e9
                  have c9 := (hB.bx.set 1 (.slice (some ⟨g1, 0, none⟩) (lD.length + 1) q1)).cell 3
                  have f9 := (hB.bx.set 1 (.slice (some ⟨g1, 0, none⟩) (lD.length + 1) q1)).frozen 3
                  have l9 := (hB.bx.set 1 (.slice (some ⟨g1, 0, none⟩) (lD.length + 1) q1)).lt
                  simp only [Array.getElem?_setIfInBounds_ne, ne_eq, Nat.reduceEqDiff, not_false_eq_true, List.getElem?_toArray, List.getElem?_cons_succ, List.getElem?_cons_zero] at c9
                  refine wpOp_step rfl fun K' hK' => ?_
                  simp only [putL, updV]
                  go_simp
                  have hz := hK' _ _ (hK (undef) (((u.setCell ⟨bS, 1, none⟩ (.slice (some ⟨g1, 0, none⟩) (lD.length + 1) q1))).setCell ⟨bS, 3, none⟩ (.slice (some ⟨g2, 0, none⟩) (lB.length + 1) q2)) (hI9))
                  refine Eq.mp (congrArg (fun a => K' a (((u.setCell ⟨bS, 1, none⟩ (.slice (some ⟨g1, 0, none⟩) (lD.length + 1) q1))).setCell ⟨bS, 3, none⟩ (.slice (some ⟨g2, 0, none⟩) (lB.length + 1) q2))) ?_) hz
                  kernel_rfl
                | 22, ho, hL, hdep, hK =>
                  obtain rfl := Option.some.inj ho
                  refine wpOp_step rfl fun K' hK' => ?_
                  simp only [putL, updV]
                  go_simp
                  have hz := hK' _ _ (hK (.pointer (some ⟨bS, 2, none⟩)) (u') (hI.op22))
                  refine Eq.mp (congrArg (fun a => K' a (u')) ?_) hz
                  kernel_rfl
                | 23, ho, hL, hdep, hK =>
                  obtain rfl := Option.some.inj ho
                  have e22 : f 22 = .pointer (some ⟨bS, 2, none⟩) := hI.a22 (hdep ⟨22, .data⟩ (by simp) rfl)
                  have e17 : f 17 = .slice (some ⟨g3, 0, none⟩) (lT.length + 1) q3 := hI.v17
                  have l21 : L 21 = true := hdep ⟨21, .chain⟩ (by simp) rfl
                  obtain ⟨hu, hI9⟩ := hI.op23 hL l21 undef
                  have hu := hu.symm
                  subst hu
                  obtain ⟨f, rfl⟩ := fixG f 22 _ e22
                  rw [updV_ne _ _ (by decide)] at e17
                  obtain ⟨f, rfl⟩ := fixG f 17 _ e17
                  clear e22 e17
                  have c9 := ((hB.bx.set 1 (.slice (some ⟨g1, 0, none⟩) (lD.length + 1) q1)).set 3 (.slice (some ⟨g2, 0, none⟩) (lB.length + 1) q2)).cell 2
                  have f9 := ((hB.bx.set 1 (.slice (some ⟨g1, 0, none⟩) (lD.length + 1) q1)).set 3 (.slice (some ⟨g2, 0, none⟩) (lB.length + 1) q2)).frozen 2
                  have l9 := ((hB.bx.set 1 (.slice (some ⟨g1, 0, none⟩) (lD.length + 1) q1)).set 3 (.slice (some ⟨g2, 0, none⟩) (lB.length + 1) q2)).lt
                  simp only [Array.getElem?_setIfInBounds_ne, ne_eq, Nat.reduceEqDiff, not_false_eq_true, List.getElem?_toArray, List.getElem?_cons_succ, List.getElem?_cons_zero] at c9
                  refine wpOp_step rfl fun K' hK' => ?_
                  simp only [putL, updV]
                  go_simp
                  have hz := hK' _ _ (hK (undef) ((((u.setCell ⟨bS, 1, none⟩ (.slice (some ⟨g1, 0, none⟩) (lD.length + 1) q1)).setCell ⟨bS, 3, none⟩ (.slice (some ⟨g2, 0, none⟩) (lB.length + 1) q2))).setCell ⟨bS, 2, none⟩ (.slice (some ⟨g3, 0, none⟩) (lT.length + 1) q3)) (hI9))
                  refine Eq.mp (congrArg (fun a => K' a ((((u.setCell ⟨bS, 1, none⟩ (.slice (some ⟨g1, 0, none⟩) (lD.length + 1) q1)).setCell ⟨bS, 3, none⟩ (.slice (some ⟨g2, 0, none⟩) (lB.length + 1) q2))).setCell ⟨bS, 2, none⟩ (.slice (some ⟨g3, 0, none⟩) (lT.length + 1) q3))) ?_) hz
                  kernel_rfl
                | j + 24, ho, hL, hdep, hK => exact absurd (Array.getElem?_eq_some_iff.1 ho).1 (by simp)
              case he =>
                intro L f u' hall hI
                have hu := hI.w3 (hall 23 (by decide))
                subst hu
                clear hI hall hB e4 e9 e17 e18
                refine hQ2 _ _ ?_
                simp only [putL]
                go_simp
                refine hKx _ _ ?_
                obtain ⟨hlD, hlB, hlT⟩ := HL.out
                subst hlD
                have HN := hid (show (lD ++ [d]).length = lD.length + 1 ∧ (lB ++ [b]).length = lD.length + 1 ∧ (lT ++ [F]).length = lD.length + 1 from ⟨by simp, by simp [hlB], by simp [hlT]⟩)
                clear hlB hlT
                go_wp2_with fail
                go_roundw
                case rel => exact ⟨lD.length + 1, _, _, _, lD ++ [d], lB ++ [b], lT ++ [F], by omega, by go_num, HN.out, HSn⟩
                case measure => simp [intOf]; omega
    · obtain rfl : i = N := by omega
      obtain ⟨b0, b1, b2, b3⟩ := HS0.out.bx.four
      obtain ⟨r0, r1, r2, r3⟩ := HS0.out.rx.four
      have f0 := HS0.out.rx.frozen 0
      have f1 := HS0.out.rx.frozen 1
      have f2 := HS0.out.rx.frozen 2
      have f3 := HS0.out.rx.frozen 3
      have hlr := HS0.out.rx.lt
      obtain ⟨A1, c1, e1⟩ := own_slice3 HS0.out.oD
      obtain ⟨A2, c2, e2⟩ := own_slice3 HS0.out.oB
      obtain ⟨A3, c3, e3⟩ := own_slice3 HS0.out.oT
      rw [hlD] at e1
      rw [hlB] at e2
      rw [hlT] at e3
      subst e1
      subst e2
      subst e3
      have Hfin := hid (HS0.out.fin hlD hlB hlT hW4 hN1 hNn hn)
      clear hlD hlB hlT
      go_wp2_with fail
      refine bodyPost_ret (v := .agg #[.int .i64 W, .slice A1 i c1, .slice A3 i c3, .slice A2 i c2]) (by simp [results, Tryz.results24, go_sem, b0, b1, b2, b3, r0, r1, r2, r3]) rfl ?_
      exact Hfin.out
end Go.Proofs.YtbjaebbmajhjjaaGreat
namespace Go.Proofs.YtbjaebbmajhjjaaGreat
set_option maxRecDepth 20000
set_option linter.unusedVariables false
open Go.ChangeShapes Go.WideShapes Go.ChangeAt Go.RowKit
theorem tot_le {m : Nat} : ∀ {S : List (List Int)}, (∀ l ∈ S, l.length ≤ m) → tot S ≤ S.length * m := by
  intro S
  induction S with
  | nil => intro _; simp [tot]
  | cons l S ih =>
    intro h
    have h1 := h l List.mem_cons_self
    have h2 := ih fun x hx => h x (List.mem_cons_of_mem _ hx)
    have e : tot (l :: S) = l.length + tot S := by simp [tot]
    rw [e, List.length_cons, Nat.succ_mul]
    omega
theorem GSy.ok {s : SY} {v N : Nat} {w : World} {ex : List (Option Nat)} (h : GSy s v N) (hs : SYok w ex s) (hN : N ≤ 100) : SOk s v N := by
  have := h.v4
  refine ⟨h.w, by omega, h.n1, by omega, h.dn, h.tn, h.bn, fun y hy => (h.d y hy).1, ?_, fun y hy => (h.t y hy).1, h.b⟩
  have h1 : ∀ l ∈ s.D.v, l.length ≤ 3 := fun l hl => by
    obtain ⟨y, hy, rfl⟩ := List.mem_map.1 hl
    rw [(hs.d.all y hy).len]
    exact (h.d y hy).2
  have h2 := tot_le h1
  rw [LH.vlen, hs.d.len, h.dn] at h2
  omega
end Go.Proofs.YtbjaebbmajhjjaaGreat
namespace Go.Proofs.YtbjaebbmajhjjaaGreat
set_option maxRecDepth 20000
open Go.ChangeShapes Go.WideShapes Go.ChangeAt Go.RowKit
theorem new_any (A : Option Addr) (n c : Nat) (w : World) :
    Calls Tryz.prog 14 #[.slice A n c] w fun e w' => e = .returned (.pointer (some ⟨w.heap.size, 0, none⟩)) ∧ w.alloc (.cells #[.slice A n c, .int .i64 0] 78) = w' := by
  go_enter Tryz.func14, Tryz.ntmps14
  go_wp2
  go_ret
  exact ⟨rfl, rfl⟩
theorem tape_new {w : World} {A : Option Addr} {n c : Nat} {zs : List Int} (h : IArg w A n zs) (hn : n ≤ maxLen) : Tape (w.alloc (.cells #[.slice A n c, .int .i64 0] 78)) w.heap.size :=
  ⟨A, n, c, 0, zs, heap_alloc_new w _, h.len, hn, Nat.zero_le _, h.lies.keep (fun p hp => World.cell?_alloc_lt w _ p hp) (Nat.le_refl _)⟩
end Go.Proofs.YtbjaebbmajhjjaaGreat
