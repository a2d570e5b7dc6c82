/- The walk of the package's canonical. -/
import Derived.Test.YtmbelhdkaepohaaCnl
namespace Go.Proofs.Ytmbelhdkaepohaa
set_option maxRecDepth 20000
open Go.ChangeShapes Go.WideShapes Go.ChangeAt Go.RowKit

theorem restB_snoc (W : Int) (gs : List Nat) (cs : List (Int × Int)) (p : Int × Int) : (cs ++ [p]).filter (restB W gs) = cs.filter (restB W gs) ++ (if restB W gs p then [p] else []) := by
  rw [List.filter_append]
  cases h : restB W gs p <;> simp [h]

/-- The canonical function, or the error where it has too many copies. -/
def RetCanon (w : World) (W : Nat) (gs ks : List Nat) (cs : List (Int × Int)) (e : Ending) (w' : World) : Prop :=
  if (ord (cs.filter (restB W gs))).length ≤ 64 then RetT w W gs (killC W gs ks cs) (ord (cs.filter (restB W gs))) 0 e w' else RetT w 0 [] [] [] 7 e w'
/-- Words do not lie in a block whose cells are none. -/
theorem Arg.apart {w : World} {A : Option Addr} {n : Nat} {ws : List Nat} {g t : Nat} {cs : Array Value} (h : Arg w A n ws) (hf : Fb w g cs t) (hn : ∀ v ∈ cs.toList, ∀ x : Int, v ≠ .int .u64 x) : ws = [] ∨ ∃ ad, A = some ad ∧ ad.block ≠ g := by
  rcases h.lies with h0 | ⟨ad, e, hb, hc⟩
  · left
    cases ws with
    | nil => rfl
    | cons x xs => simp [words] at h0
  · cases ws with
    | nil => exact .inl rfl
    | cons x xs =>
      refine .inr ⟨ad, e, fun he => ?_⟩
      have h0 := hc 0 (.int .u64 x) rfl
      have ha : ad.add 0 = ad := by unfold Addr.add; simp
      rw [ha] at h0
      unfold World.cell? at h0
      rw [he, show w.heap[g]? = _ from hf] at h0
      simp only at h0
      split at h0
      · cases h0
      · have hm : Value.int .u64 x ∈ cs.toList := by
          rw [← Array.getElem?_toList] at h0
          exact List.mem_of_getElem? h0
        exact hn _ hm x rfl
theorem Arg.farB {w : World} {A : Option Addr} {n : Nat} {ws : List Nat} {g : Nat} (h : Arg w A n ws) (ha : ws = [] ∨ ∃ ad, A = some ad ∧ ad.block ≠ g) (j : Nat) (u : Value) : Arg (w.setCell ⟨g, j, none⟩ u) A n ws := by
  refine ⟨?_, h.len, h.ok⟩
  rcases ha with rfl | ⟨ad, rfl, hne⟩
  · exact .inl rfl
  · rcases h.lies with h0 | ⟨ad', e, hb, hc⟩
    · exact .inl h0
    · cases e
      refine .inr ⟨ad, rfl, by simpa [World.setCell] using hb, fun j' u' hu => ?_⟩
      rw [World.cell?_setCell_other _ _ _ _ (by intro e; have := congrArg Addr.block e; rw [add_block] at this; exact hne this.symm)]
      exact hc j' u' hu
def stored5 (w : World) (R : Nat) (a b c d e : Value) : World := ((((w.setCell ⟨R, 0, none⟩ a).setCell ⟨R, 1, none⟩ b).setCell ⟨R, 2, none⟩ c).setCell ⟨R, 3, none⟩ d).setCell ⟨R, 4, none⟩ e
theorem Arg.stored5 {w : World} {A : Option Addr} {n : Nat} {ws : List Nat} {R : Nat} (h : Arg w A n ws) (ha : ws = [] ∨ ∃ ad, A = some ad ∧ ad.block ≠ R) (a b c d e : Value) : Arg (stored5 w R a b c d e) A n ws :=
  ((((h.farB ha 0 a).farB ha 1 b).farB ha 2 c).farB ha 3 d).farB ha 4 e
theorem Cops.stored5 {w : World} {base : Nat} {v : Value} {rs : List (Int × Int)} {R : Nat} (h : Cops w base v rs) (hR : R < base) (a b c d e : Value) : Cops (stored5 w R a b c d e) base v rs :=
  ((((h.setLow (p := ⟨R, 0, none⟩) hR a).setLow (p := ⟨R, 1, none⟩) hR b).setLow (p := ⟨R, 2, none⟩) hR c).setLow (p := ⟨R, 3, none⟩) hR d).setLow (p := ⟨R, 4, none⟩) hR e
theorem below_stored5 {w0 w : World} {B R : Nat} (h : Below B w0 w) (hR : B ≤ R) (a b c d e : Value) : Below B w0 (stored5 w R a b c d e) :=
  ((((h.setCell (by exact hR) _).setCell (by exact hR) _).setCell (by exact hR) _).setCell (by exact hR) _).setCell (by exact hR) _
theorem zero5 : ∀ v ∈ (#[.int .i64 0, .slice none 0 0, .int .i64 0, .slice none 0 0, .slice none 0 0] : Array Value).toList, ∀ x : Int, v ≠ .int .u64 x := by
  intro v hv x e
  subst e
  simp at hv

set_option maxHeartbeats 3200000 in
theorem devCanonical_any (W : Nat) (A B C : Option Addr) (n c m d k q : Nat) (gs ks : List Nat) (cs : List (Int × Int)) (w : World)
    (hA : Arg w A n gs) (hB : Arg w B m ks) (hC : ArgC w C k cs) (hW : W ≤ 256) (hg : Bs.Fit W gs) (hk : Bs.Fit W ks) (hc : ∀ p ∈ cs, inW W p = true) (hk5 : k ≤ 5000) :
    Calls Try.prog 36 #[.agg #[.int .i64 W, .slice A n c], .agg #[.int .i64 W, .slice B m d], .slice C k q] w (RetCanon w W gs ks cs) := by
  obtain ⟨i0, hi, hz0, hz1, hz2⟩ := info_parts info35
  have Hi := hid hi; have Hz0 := hid hz0; have Hz1 := hid hz1; have Hz2 := hid hz2
  have HA := hid hA; have HB := hid hB; have HC := hid hC; have Hg := hid hg; have Hk := hid hk; have Hc := hid hc
  have hst := Caning.start w W A B n c m d hB
  rw [← killJ_nil hk] at hst
  have Hst := hid hst
  clear hA hB hC hi hz0 hz1 hz2 hg hk hc hst
  go_enter Try.func36, Try.ntmps36
  go_wp2_with fail
  generalize ((w.alloc (.cells #[.int .i64 W, .slice A n c] 25)).alloc (.cells #[.int .i64 W, .slice B m d] 25)).alloc (.cells #[.int .i64 0, .slice none 0 0, .int .i64 0, .slice none 0 0, .slice none 0 0] 28) = w1 at *
  go_loopw [8, 10, 14] (fun v _ i wr => ∃ j : Nat, j ≤ k ∧ i = .int .i64 j ∧ Hid (Caning w W A n c v ((cs.take j).filter (restB W gs)) (killJ W ks (cs.take j)) wr)) (fun _ _ i _ => k - (intOf i).toNat)
  case atStart => exact ⟨0, by omega, rfl, Hst.out⟩
  case round =>
    obtain ⟨j, hj, rfl, hG⟩ := hrel
    clear Hst
    by_cases hlt : j < k
    · have hjl : j < cs.length := by rw [HC.out.len]; exact hlt
      have hget : cs[j]? = some cs[j] := List.getElem?_eq_getElem _
      have hsn := take_snoc cs j hjl
      have hin := Hc.out cs[j] (List.getElem_mem hjl)
      generalize cs[j] = p at hget hsn hin
      obtain ⟨p1, p2⟩ := p
      obtain ⟨ad, rfl, had, g1, g2⟩ := (HC.out.below hG.out.2.2.2.2.1).cell hget
      have hin2 := hin
      unfold inW at hin2
      simp at hin2
      obtain ⟨b, rfl⟩ := Int.eq_ofNat_of_zero_le hin2.1.2
      have hb : b < W := by omega
      have Hsn := hid hsn
      clear hget hsn hin hin2
      have H5 := hid (hG.out.below ((Below.refl _ _).alloc (Nat.le_refl _) (.cells #[.int .i64 p1, .int .i64 b] 48)))
      have Hbx := hid (Fb.new wr #[.int .i64 p1, .int .i64 b] 48)
      obtain ⟨b0, b1⟩ := Hbx.out.two
      by_cases hpb : p1 = b
      · subst hpb
        obtain ⟨-, ⟨Bk, mk, dk, hbk, hkw⟩, -⟩ := H5.out
        obtain ⟨t0, t1⟩ := And.intro hbk.c0 hbk.c1
        have Ha := hid (hkw.arg H5.out.2.2.2.2.1.size (fit_killJ W ks (cs.take j)).ok)
        have tt : ((b : Int) == (b : Int)) = true := by simp
        clear hbk hkw
        go_wp2_with fail
        clear g1 g2 b0 b1 tt
        generalize wr.alloc (.cells #[.int .i64 (b : Int), .int .i64 (b : Int)] 48) = wv at *
        generalize wr.heap.size = gv at *
        refine (devWithout_own W Bk mk dk (killJ W ks (cs.take j)) b _ Ha.out (Bs.valid_of_fit (fit_killJ W ks (cs.take j)) hW) hb).mono ?_
        rintro e w6 ⟨g6, c6, rfl, ho6, hb6⟩
        have H6 := hid (H5.out.below hb6)
        obtain ⟨-, ⟨B7, m7, d7, hbk7, -⟩, -⟩ := H6.out
        obtain ⟨t7, t8, f7, f8⟩ := hbk7.four
        have hl7 := hbk7.lt
        have Hkw := hid (show KW w6 w.heap.size (w.heap.size + 3) (some ⟨g6, 0, none⟩) mk (cutB (killJ W ks (cs.take j)) b) from
          ⟨ho6.len, .inr ⟨g6, c6, rfl, OwnW.less ho6 H5.out.2.2.2.2.2⟩⟩)
        have Hfin := hid (H6.out.kill c6 Hkw.out)
        clear ho6 hb6 t0 t1 hbk7
        have Hr := hid (show (cs.take (j + 1)).filter (restB W gs) = (cs.take j).filter (restB W gs) by rw [Hsn.out, restB_snoc]; simp [restB])
        have Hkj := hid (show killJ W ks (cs.take (j + 1)) = cutB (killJ W ks (cs.take j)) b by rw [Hsn.out, killJ_self hb])
        go_wp2_with fail
        go_roundw
        case rel => exact ⟨j + 1, by omega, by go_num, by rw [Hr.out, Hkj.out]; exact Hfin⟩
        case measure => simp [intOf]; omega
      · have tt : (p1 == (b : Int)) = false := by simp [hpb]
        have Hkj := hid (show killJ W ks (cs.take (j + 1)) = killJ W ks (cs.take j) by rw [Hsn.out, killJ_other hpb])
        obtain ⟨s0, s1⟩ := And.intro H5.out.1.c0 H5.out.1.c1
        go_wp2_with fail
        clear g1 g2 tt
        generalize wr.alloc (.cells #[.int .i64 p1, .int .i64 (b : Int)] 48) = wv at *
        generalize wr.heap.size = gv at *
        refine (devHas_any W A n c gs b _ (HA.out.below H5.out.2.2.2.2.1)).mono ?_
        rintro e w6 ⟨rfl, hb6⟩
        have H6 := hid (H5.out.below hb6)
        have hbx6 := hid (Hbx.out.below hb6 Hbx.out.lt)
        clear s0 s1 b0 b1 hb6
        obtain ⟨b0, b1⟩ := hbx6.out.two
        cases hh : Bs.hasB W gs b with
        | true =>
          have Hr := hid (show (cs.take (j + 1)).filter (restB W gs) = (cs.take j).filter (restB W gs) by rw [Hsn.out, restB_snoc]; simp [restB, hh])
          clear hh
          go_wp2_with fail
          go_roundw
          case rel => exact ⟨j + 1, by omega, by go_num, by rw [Hr.out, Hkj.out]; exact H6⟩
          case measure => simp [intOf]; omega
        | false =>
          have Hr := hid (show (cs.take (j + 1)).filter (restB W gs) = (cs.take j).filter (restB W gs) ++ [(p1, (b : Int))] by rw [Hsn.out, restB_snoc]; simp [restB, hh, hpb])
          have hle : ((cs.take j).filter (restB W gs)).length ≤ 5000 := by
            have h1 := List.length_filter_le (restB W gs) (cs.take j)
            rw [List.length_take] at h1; omega
          clear hh
          have hz3 := H6.out.2.2.2.2.2
          generalize (cs.take j).filter (restB W gs) = rs at *
          go_wp2_with (first
            | (at_builtin
               refine wpList_append_own _ rfl _ _ 26 rfl (w.heap.size + 3) 48 i0 _ 2 16 Try.underlying26 Hi.out Hz0.out Hz1.out Hz2.out rfl (by decide) u8 rs.length (pairs rs) rfl (World.ownsRow.alloc H6.out.2.2.2.1 _) ⟨w6.heap.size, 0, none⟩ 1 1 [.int .i64 p1, .int .i64 (b : Int)] rfl rfl (two_new _ _ _ _) (by intro u hu; simp at hu; rcases hu with rfl | rfl <;> rfl) (by unfold maxLen; omega) (by omega) (by rw [World.size_alloc]; omega) ?_
               intro v' w7 hown7 hgr7 hnil7
               have H7 := hid (show Caning w W A n c v' (rs ++ [(p1, (b : Int))]) (killJ W ks (cs.take j)) w7 from (H6.out.below ((Below.refl _ _).alloc (Nat.le_refl _) (.cells #[.int .i64 p1, .int .i64 (b : Int)] 48))).row hgr7 (by unfold Cops; rw [pairs_snoc, List.length_append]; exact hown7))
               clear hown7 hgr7 hnil7))
          go_roundw
          case rel => exact ⟨j + 1, by omega, by go_num, by rw [Hr.out, Hkj.out]; exact H7⟩
          case measure => simp [intOf]; omega
    · have hjk : k = j := by omega
      subst hjk
      have hall : cs.take k = cs := List.take_of_length_le (by rw [HC.out.len]; omega)
      rw [hall] at hG
      have hle : (cs.filter (restB W gs)).length ≤ 5000 := by
        have h1 := List.length_filter_le (restB W gs) cs
        have := HC.out.len; omega
      clear hall
      have HG := hid hG.out
      clear hG
      generalize hrs : cs.filter (restB W gs) = rs at HG hle
      have Hrs := hid hrs
      clear hrs
      obtain ⟨Cv, qv, rfl, hs⟩ := sort_any (w.heap.size + 3) rs.length u8 rs wr rfl HG.out.2.2.2.1 (by omega)
      have Hs := hid hs
      clear hs
      go_wp2_with fail
      refine Hs.out.mono ?_
      rintro e w2 ⟨rfl, hc2, hg2⟩
      have H2 := hid (HG.out.row hg2 hc2)
      obtain ⟨C3, q3, e3, hs3⟩ := compact_any (w.heap.size + 3) rs.length (.slice Cv rs.length qv) (srt rs) w2 (srt_len rs) hc2 (by omega)
      injection e3 with e31 _ e33
      subst e31
      subst e33
      have Hs3 := hid hs3
      clear hc2 hg2 hs3 Hs HG
      go_wp2_with fail
      refine Hs3.out.mono ?_
      rintro e w4 ⟨C4, q4, rfl, hc4, hg4⟩
      have H4 := hid (show Caning w W A n c (.slice C4 (ord rs).length q4) (ord rs) (killJ W ks cs) w4 from H2.out.row hg4 hc4)
      have hlen : (ord rs).length ≤ 5000 := by
        have h1 := cpt_len (srt rs); rw [srt_len] at h1; unfold ord; omega
      clear hc4 hg4 Hs3 H2
      have hcc : cpt (srt rs) = ord rs := rfl
      rw [hcc]
      clear hcc
      generalize hord : ord rs = os at H4 hlen ⊢
      have Hord := hid hord
      clear hord
      by_cases h64 : os.length ≤ 64
      · obtain ⟨hb1, ⟨B5, m5, d5, hb2, hkw⟩, hb3, hb4, hb5, hb6⟩ := H4.out
        obtain ⟨s0, s1⟩ := And.intro hb1.c0 hb1.c1
        obtain ⟨t0, t1⟩ := And.intro hb2.c0 hb2.c1
        have Ha := hid (hkw.arg hb5.size (fit_killJ W ks cs).ok)
        have Hb5 := hid hb5
        clear hb1 hb2 hkw hb3 hb4 hb5
        go_wp2_with fail
        refine (devUnion_any W W B5 A m5 d5 n c (killJ W ks cs) gs _ Ha.out (HA.out.below Hb5.out)).mono ?_
        rw [mixR_or hW (fit_killJ W ks cs) Hg.out, killC_eq]
        rintro e w5 ⟨B6, m6, d6, rfl, ha6, hb7⟩
        have H5 := hid (H4.out.below hb7)
        have Ha6 := hid ha6
        clear s0 s1 t0 t1 ha6 hb7 Ha Hb5 H4
        obtain ⟨hb1, ⟨B5', m5', d5', hb2, -⟩, hb3, hb4, hb5, hb8⟩ := H5.out
        obtain ⟨t0, t1, f0, f1⟩ := hb2.four
        have hl2 := hb2.lt
        have Hg6 := hid ((hb1.far (p := ⟨w.heap.size + 1, 0, none⟩) (by simp) (.int .i64 W)).far (p := ⟨w.heap.size + 1, 1, none⟩) (by simp) (.slice B6 m6 d6))
        have Hk6 := hid (hb2.set W B6 m6 d6)
        have Hak := hid (Ha6.out.store hb2 W B6 m6 d6)
        have Hz6 := hid ((hb3.far (p := ⟨w.heap.size + 1, 0, none⟩) (by simp) (.int .i64 W)).far (p := ⟨w.heap.size + 1, 1, none⟩) (by simp) (.slice B6 m6 d6))
        have Hc6 := hid ((hb4.setLow (p := ⟨w.heap.size + 1, 0, none⟩) (by simp) (.int .i64 W)).setLow (p := ⟨w.heap.size + 1, 1, none⟩) (by simp) (.slice B6 m6 d6))
        have Hb6 := hid ((hb5.setCell (p := ⟨w.heap.size + 1, 0, none⟩) (by simp) (.int .i64 W)).setCell (p := ⟨w.heap.size + 1, 1, none⟩) (by simp) (.slice B6 m6 d6))
        clear hb1 hb2 hb3 hb4 hb5 H5 Ha6
        go_upto_region 15 with fail
        generalize (w5.setCell ⟨w.heap.size + 1, 0, none⟩ (.int .i64 W)).setCell ⟨w.heap.size + 1, 1, none⟩ (.slice B6 m6 d6) = w6 at *
        clear t0 t1 f0 f1 hl2 hb8
        have hK : ∀ w', Below w6.heap.size w6 w' → ((fun w' => Below w6.heap.size w6 w' ∧ (w'.cell? ⟨w.heap.size, 0, none⟩ = some (.int .i64 W) ∧ w'.cell? ⟨w.heap.size, 1, none⟩ = some (.slice A n c))) w') := fun w' hb' => ⟨hb', (Hg6.out.below hb' Hg6.out.lt).c0, (Hg6.out.below hb' Hg6.out.lt).c1⟩
        have HK := hid hK
        have hz0 : w.heap.size < w6.heap.size := Hg6.out.lt
        obtain ⟨c0, c1⟩ := And.intro Hg6.out.c0 Hg6.out.c1
        have hn5 : n ≤ 100 := by have := Hg.out.len; have := HA.out.len; unfold Bs.nw at *; omega
        clear hK
        go_upto_region 16 with fail
        go_cut [11] (fun sa wc => ∃ (b : Nat) (A' : Option Addr) (c' : Nat), sa = .pointer (some ⟨b, 0, none⟩) ∧ Hid (Box wc b W A' n c' ∧ Arg wc A' n gs ∧ Below w6.heap.size w6 wc))
        case first =>
          go_region_held3 (fun w' => Below w6.heap.size w6 w' ∧ (w'.cell? ⟨w.heap.size, 0, none⟩ = some (.int .i64 W) ∧ w'.cell? ⟨w.heap.size, 1, none⟩ = some (.slice A n c)))
            (first | exact HK.out _ (Below.refl _ _).drew | exact HK.out _ (((Below.refl _ _).alloc (Nat.le_refl _) _).drew) | exact HK.out _ ((‹Below w6.heap.size w6 _›).alloc (‹Below w6.heap.size w6 _›).size _) | exact HK.out _ (Hcur.out.alloc Hcur.out.size _) | exact HK.out _ (HX.out.stored Hcur.out _ _ _ _) | assumption)
            (first
              | (go_at_call 68
                 go_must (
                 go_split_ands
                 refine (clone_gen A n c gs _ (HA.out.below (Hb6.out.trans ((‹Below w6.heap.size w6 _›).mono Hb6.out.size))) hn5).mono ?_
                 rintro e wn ⟨A9, c9, rfl, ha9, hbk⟩
                 have Ha9 := hid ha9
                 have hcur := below_step (W := w6) (by assumption) hbk
                 have hS := HK.out _ hcur
                 have Hcur := hid hcur
                 try (first
                   | (have HX := (by with_reducible exact hid (Fresh.mkD hbk))
                      obtain ⟨x0, x1, y0, y1⟩ := HX.out.1.four)
                   | (have HX := (by with_reducible exact hid (Fresh.mk (by assumption) hbk))
                      obtain ⟨x0, x1, y0, y1⟩ := HX.out.1.four))
                 clear hbk ha9)))
          all_goals go_wp2_with fail
          all_goals go_meet
          all_goals first
            | (have Q := And.intro (HX.out.1.set W A9 n c9) (And.intro (Ha9.out.store HX.out.1 W A9 n c9) (HX.out.stored Hcur.out W A9 n c9))
               refine ⟨_, A9, c9, rfl, ?_⟩
               with_reducible exact hid Q)
            | (have Q := And.intro (Box.new wn W A9 n c9) (And.intro (Ha9.out.alloc (.cells #[.int .i64 W, .slice A9 n c9] 25)) (Hcur.out.alloc Hcur.out.size (.cells #[.int .i64 W, .slice A9 n c9] 25)))
               refine ⟨_, A9, c9, rfl, ?_⟩
               with_reducible exact hid Q)
        case rest =>
          obtain ⟨bx, A9, c9, rfl, H9⟩ := hcut
          have Hk7 := hid (Hk6.out.below H9.out.2.2 Hk6.out.lt)
          have Hz7 := hid (Hz6.out.below H9.out.2.2 Hz6.out.lt)
          have Hc7 := hid (show Cops wc (w.heap.size + 3) (.slice C4 os.length q4) os from own_below Hc6.out H9.out.2.2)
          have Hak7 := hid (Hak.out.below H9.out.2.2)
          have Hb7 := hid (Hb6.out.trans (H9.out.2.2.mono Hb6.out.size))
          obtain ⟨t0, t1⟩ := And.intro Hk7.out.c0 Hk7.out.c1
          obtain ⟨s0, s1⟩ := And.intro H9.out.1.c0 H9.out.1.c1
          obtain ⟨r0, r1, r2, r3, r4⟩ := Hz7.out.five
          have f0 := Hz7.out.frozen 0
          have f1 := Hz7.out.frozen 1
          have f2 := Hz7.out.frozen 2
          have f3 := Hz7.out.frozen 3
          have f4 := Hz7.out.frozen 4
          have hlR := Hz7.out.lt
          have Fin := hid (show RetT w W gs (killC W gs ks cs) os 0 (.returned (.tuple #[.agg #[.int .i64 W, .slice A9 n c9, .int .i64 W, .slice B6 m6 d6, .slice C4 os.length q4], .int .i64 0])) (stored5 wc (w.heap.size + 2) (.int .i64 W) (.slice A9 n c9) (.int .i64 W) (.slice B6 m6 d6) (.slice C4 os.length q4)) from
            ⟨A9, n, c9, B6, m6, d6, C4, q4, rfl, H9.out.2.1.stored5 (H9.out.2.1.apart Hz7.out zero5) _ _ _ _ _, Hak7.out.stored5 (Hak7.out.apart Hz7.out zero5) _ _ _ _ _, ⟨own_at (Hc7.out.stored5 (by omega) _ _ _ _ _), rfl⟩, below_stored5 Hb7.out (by omega) _ _ _ _ _⟩)
          unfold stored5 at Fin
          clear HK hz0 c0 c1
          go_wp2_with fail
          refine bodyPost_ret (v := .tuple #[.agg #[.int .i64 W, .slice A9 n c9, .int .i64 W, .slice B6 m6 d6, .slice C4 os.length q4], .int .i64 0]) (by simp [results, Try.results36, go_sem, r0, r1, r2, r3, r4]) rfl ?_
          unfold RetCanon
          rw [Hrs.out, Hord.out, if_pos h64]
          exact Fin.out
      · obtain ⟨hb1, -, hb3, -, hb5, hb6⟩ := H4.out
        obtain ⟨r0, r1, r2, r3, r4⟩ := hb3.five
        have f0 := hb3.frozen 0
        have f1 := hb3.frozen 1
        have f2 := hb3.frozen 2
        have f3 := hb3.frozen 3
        have f4 := hb3.frozen 4
        have hlR := hb3.lt
        have Fin := hid (show RetT w 0 [] [] [] 7 (.returned (.tuple #[.agg #[.int .i64 0, .slice none 0 0, .int .i64 0, .slice none 0 0, .slice none 0 0], .int .i64 7])) (stored5 w4 (w.heap.size + 2) (.int .i64 0) (.slice none 0 0) (.int .i64 0) (.slice none 0 0) (.slice none 0 0)) from
          ⟨none, 0, 0, none, 0, 0, none, 0, rfl, Arg.nil _ _, Arg.nil _ _, ⟨.inl rfl, rfl⟩, below_stored5 hb5 (by omega) _ _ _ _ _⟩)
        unfold stored5 at Fin
        clear hb1 hb3 hb5
        go_wp2_with fail
        refine bodyPost_ret (v := .tuple #[.agg #[.int .i64 0, .slice none 0 0, .int .i64 0, .slice none 0 0, .slice none 0 0], .int .i64 7]) (by simp [results, Try.results36, go_sem, r0, r1, r2, r3, r4]) rfl ?_
        unfold RetCanon
        rw [Hrs.out, Hord.out, if_neg h64]
        exact Fin.out
end Go.Proofs.Ytmbelhdkaepohaa
