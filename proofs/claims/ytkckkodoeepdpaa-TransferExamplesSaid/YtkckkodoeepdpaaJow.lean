/- The walk of the package's Join. -/
import Derived.Test.YtkckkodoeepdpaaJoi
namespace Go.Proofs.Ytkckkodoeepdpaa
set_option maxRecDepth 20000
open Go.ChangeShapes Go.WideShapes Go.ChangeAt Go.RowKit

theorem grown_set5 {w0 w : World} {R : Nat} (h : w0.grownBy w (some R)) (a b c d e : Value) : w0.grownBy (((((w.setCell ⟨R, 0, none⟩ a).setCell ⟨R, 1, none⟩ b).setCell ⟨R, 2, none⟩ c).setCell ⟨R, 3, none⟩ d).setCell ⟨R, 4, none⟩ e) (some R) :=
  grown_stored5 h a b c d e
theorem fit_of_valid' {W : Nat} {w : World} {A : Option Addr} {n : Nat} {ws : List Nat} (h : Bs.validB W ws = true) (ha : Arg w A n ws) : Bs.Fit W ws := by
  have := Bs.fit_of_valid h ha.ok; rwa [Int.toNat_natCast] at this

set_option maxHeartbeats 1600000 in
theorem devJoin_any (W V : Int) (A B C : Option Addr) (n c m d k q : Nat) (gs ks : List Nat) (cs : List (Int × Int)) (W' V' : Int) (A' B' C' : Option Addr) (n' c' m' d' k' q' : Nat) (gs' ks' : List Nat) (cs' : List (Int × Int)) (w : World)
    (hF : FArg w A n B m C k gs ks cs) (hG : FArg w A' n' B' m' C' k' gs' ks' cs') :
    Calls Try.prog 31 #[.agg #[.int .i64 W, .slice A n c, .int .i64 V, .slice B m d, .slice C k q], .agg #[.int .i64 W', .slice A' n' c', .int .i64 V', .slice B' m' d', .slice C' k' q']] w
      (RetR w (joinR W gs V ks cs W' gs' V' ks' cs')) := by
  have HF := hid hF; have HG := hid hG
  have H0 := hid (Three.start w W V A B C n c m d k q W' V' A' B' C' n' c' m' d' k' q')
  clear hF hG
  go_enter Try.func31, Try.ntmps31
  go_wp2_with fail
  refine (devCheck_any W V A B C n c m d k q gs ks cs W' V' A' B' C' n' c' m' d' k' q' gs' ks' cs' _ (HF.out.below H0.out.2.2.2) (HG.out.below H0.out.2.2.2)).mono ?_
  by_cases hbad : checkR (validT W gs V ks cs) (validT W' gs' V' ks' cs') W W' ≠ 0
  · have Hr := hid (show joinR W gs V ks cs W' gs' V' ks' cs' = (0, [], [], [], checkR (validT W gs V ks cs) (validT W' gs' V' ks' cs') W W') by
      unfold joinR checkR
      unfold checkR at hbad
      by_cases h1 : validT W gs V ks cs = false ∨ validT W' gs' V' ks' cs' = false
      · rw [if_pos h1, if_pos h1]
      · rw [if_neg h1, if_neg h1]
        rw [if_neg h1] at hbad
        by_cases h2 : W ≠ W'
        · rw [if_pos h2, if_pos h2]
        · rw [if_neg h2] at hbad; exact absurd rfl hbad)
    generalize checkR (validT W gs V ks cs) (validT W' gs' V' ks' cs') W W' = er at *
    have tt : (er != 0) = true := by simpa using hbad
    clear hbad
    rintro e w1 ⟨rfl, hb1⟩
    have H1 := hid (H0.out.below hb1)
    clear hb1
    obtain ⟨r0, r1, r2, r3, r4⟩ := H1.out.2.2.1.five
    have f0 := H1.out.2.2.1.frozen 0
    have f1 := H1.out.2.2.1.frozen 1
    have f2 := H1.out.2.2.1.frozen 2
    have f3 := H1.out.2.2.1.frozen 3
    have f4 := H1.out.2.2.1.frozen 4
    have hlR := H1.out.2.2.1.lt
    have Fin := hid (RetT.stored (err := er) (c := 0) (d := 0) (q := 0) (cs := []) (C := none) (Arg.nil w1 none) (Arg.nil w1 none) ⟨.inl rfl, rfl⟩ H1.out.2.2.2 (by omega) H1.out.2.2.1 (W := 0))
    unfold stored5 at Fin
    go_wp2_with fail
    refine bodyPost_ret (v := .tuple #[.agg #[.int .i64 0, .slice none 0 0, .int .i64 0, .slice none 0 0, .slice none 0 0], .int .i64 er]) (by simp [results, Try.results31, go_sem, r0, r1, r2, r3, r4]) rfl ?_
    rw [Hr.out]
    exact Fin.out
  · have hok : checkR (validT W gs V ks cs) (validT W' gs' V' ks' cs') W W' = 0 := by simpa using hbad
    rw [hok]
    have hv1 : validT W gs V ks cs = true := by
      unfold checkR at hok
      cases h : validT W gs V ks cs with
      | true => rfl
      | false => rw [h] at hok; simp at hok
    have hv2 : validT W' gs' V' ks' cs' = true := by
      unfold checkR at hok
      cases h : validT W' gs' V' ks' cs' with
      | true => rfl
      | false => rw [h] at hok; simp at hok
    have hWW : W = W' := by
      unfold checkR at hok
      rw [hv1, hv2] at hok
      by_cases h : W = W'
      · exact h
      · simp [h] at hok
    clear hok hbad
    subst hWW
    obtain ⟨h1, h2, h3, h4, h5⟩ := validT_iff hv1
    obtain ⟨g1, g2, g3, g4, g5⟩ := validT_iff hv2
    subst h3
    subst g3
    have hin1 := inW_of_ok h5
    have hin2 := inW_of_ok g5
    have Hr := hid (show joinR W gs W ks cs W gs' W ks' cs' = cnR W.toNat (orR W.toNat gs gs') (andR W.toNat ks ks') (cs ++ cs') by unfold joinR; rw [if_neg (by simp [hv1, hv2]), if_neg (by simp)])
    obtain ⟨v, rfl⟩ := Int.eq_ofNat_of_zero_le (Bs.validB_iff.1 h1).1
    have hv256 : v ≤ 256 := by have := (Bs.validB_iff.1 h1).2.1; omega
    have hfg := fit_of_valid' h1 HF.out.gen
    have hfk := fit_of_valid' h2 HF.out.kill
    have hfg' := fit_of_valid' g1 HG.out.gen
    have hfk' := fit_of_valid' g2 HG.out.kill
    have hk4 : k ≤ 64 := by rw [HF.out.cops.len] at h4; exact h4
    have hk4' : k' ≤ 64 := by rw [HG.out.cops.len] at g4; exact g4
    rw [Int.toNat_natCast] at Hr
    have Hin := hid (show ∀ p ∈ cs ++ cs', inW v p = true from fun p hp => (List.mem_append.1 hp).elim (hin1 p) (hin2 p))
    have Hfg := hid hfg; have Hfk := hid hfk; have Hfg' := hid hfg'; have Hfk' := hid hfk'
    clear h1 h2 h4 h5 g1 g2 g4 g5 hin1 hin2 hfg hfk hfg' hfk' hv1 hv2
    rintro e w1 ⟨rfl, hb1⟩
    have H1 := hid (H0.out.below hb1)
    clear hb1
    obtain ⟨t0, t1, t2, t3, t4⟩ := H1.out.1.five
    obtain ⟨s0, s1, s2, s3, s4⟩ := H1.out.2.1.five
    go_wp2_with fail
    refine (devUnion_any v v A A' n c n' c' gs gs' _ (HF.out.gen.below H1.out.2.2.2) (HG.out.gen.below H1.out.2.2.2)).mono ?_
    rw [mixR_or hv256 Hfg.out Hfg'.out]
    rintro e w2 ⟨A2, n2, c2, rfl, ha2, hb2⟩
    have hb2' := hb2.alloc hb2.size (.cells #[.int .i64 v, .slice A2 n2 c2] 24)
    have H2 := hid (H1.out.below hb2')
    have HA2 := hid (ha2.alloc (.cells #[.int .i64 v, .slice A2 n2 c2] 24))
    have HB2 := hid (Box.new w2 v A2 n2 c2)
    clear ha2 hb2 hb2' t0 t1 t2 t3 t4 s0 s1 s2 s3 s4
    obtain ⟨t0, t1, t2, t3, t4⟩ := H2.out.1.five
    obtain ⟨s0, s1, s2, s3, s4⟩ := H2.out.2.1.five
    go_wp2_with fail
    generalize w2.alloc (.cells #[.int .i64 v, .slice A2 n2 c2] 24) = w3 at *
    generalize w2.heap.size = b3 at *
    refine (devInter_any v v B B' m d m' d' ks ks' _ (HF.out.kill.below H2.out.2.2.2) (HG.out.kill.below H2.out.2.2.2)).mono ?_
    rw [mixR_and hv256 Hfk.out Hfk'.out]
    rintro e w4 ⟨A4, n4, c4, rfl, ha4, hb4⟩
    have hb4' := hb4.alloc hb4.size (.cells #[.int .i64 v, .slice A4 n4 c4] 24)
    have H5 := hid (H2.out.below hb4')
    have HA5 := hid (HA2.out.below hb4')
    have HB5 := hid (HB2.out.below hb4' HB2.out.lt)
    have HK5 := hid (ha4.alloc (.cells #[.int .i64 v, .slice A4 n4 c4] 24))
    have HC5 := hid (Box.new w4 v A4 n4 c4)
    have hne3 : b3 ≠ w.heap.size + 2 := by
      intro e
      have x1 := HB2.out
      have x2 := H2.out.2.2.1
      rw [e] at x1
      unfold Box at x1
      unfold Fb at x2
      rw [x1] at x2
      cases x2
    have hne4 : w4.heap.size ≠ w.heap.size + 2 := by
      intro e
      have x1 := HC5.out
      have x2 := H5.out.2.2.1
      rw [e] at x1
      unfold Box at x1
      unfold Fb at x2
      rw [x1] at x2
      cases x2
    clear ha4 hb4 hb4' t0 t1 t2 t3 t4 s0 s1 s2 s3 s4 H1 H2 HA2 HB2
    go_upto_region 6 with fail
    generalize w4.alloc (.cells #[.int .i64 v, .slice A4 n4 c4] 24) = w5 at *
    generalize w4.heap.size = b4 at *
    generalize hR : w.heap.size + 1 + 1 = R
    have hR2 : w.heap.size + 2 = R := hR
    have HZ := hid (show Fb w5 R _ 29 from by rw [← hR2]; exact H5.out.2.2.1)
    rw [hR2] at hne3 hne4
    have hRle : w.heap.size ≤ R := by omega
    have hn0 : w.heap.size ≠ R := by omega
    have hn1 : w.heap.size + 1 ≠ R := by omega
    have HnR := hid (And.intro hn0 hn1)
    have hA0 := HA5.out.apart HZ.out zero5
    have hK0 := HK5.out.apart HZ.out zero5
    have hF5 := HF.out.cops.below H5.out.2.2.2
    have hG5 := HG.out.cops.below H5.out.2.2.2
    have hF0 := hF5.apart HZ.out zero5c
    have hG0 := hG5.apart HZ.out zero5c
    have hK : ∀ w', w5.grownBy w' (some R) → ((fun w' => w5.grownBy w' (some R) ∧ (w'.cell? ⟨b3, 0, none⟩ = some (.int .i64 v) ∧ w'.cell? ⟨b3, 1, none⟩ = some (.slice A2 n2 c2)) ∧ (w'.cell? ⟨b4, 0, none⟩ = some (.int .i64 v) ∧ w'.cell? ⟨b4, 1, none⟩ = some (.slice A4 n4 c4)) ∧ w'.cell? ⟨w.heap.size, 4, none⟩ = some (.slice C k q) ∧ w'.cell? ⟨w.heap.size + 1, 4, none⟩ = some (.slice C' k' q')) w') := fun w' hg =>
      ⟨hg, ⟨(HB5.out.grown hg (some_ne hne3)).c0, (HB5.out.grown hg (some_ne hne3)).c1⟩, ⟨(HC5.out.grown hg (some_ne hne4)).c0, (HC5.out.grown hg (some_ne hne4)).c1⟩, (H5.out.1.grown hg (some_ne hn0)).cell 4, (H5.out.2.1.grown hg (some_ne hn1)).cell 4⟩
    have HK := hid hK
    have HA0 := hid hA0; have HK0 := hid hK0; have HF0 := hid hF0; have HG0 := hid hG0; have HF5 := hid hF5; have HG5 := hid hG5
    obtain ⟨r, hr⟩ : ∃ r, cnR v (orR v gs gs') (andR v ks ks') (cs ++ cs') = r := ⟨_, rfl⟩
    obtain ⟨W9, gs9, ks9, cs9, er9⟩ := r
    have Hcn := hid hr
    have hz1 : b3 < w5.heap.size := HB5.out.lt
    have hz2 : b4 < w5.heap.size := HC5.out.lt
    have hz3 := HZ.out.lt
    have hz4 : w.heap.size < w5.heap.size := H5.out.1.lt
    have hz5 : w.heap.size + 1 < w5.heap.size := H5.out.2.1.lt
    obtain ⟨p0, p1⟩ := And.intro HB5.out.c0 HB5.out.c1
    obtain ⟨q0, q1⟩ := And.intro HC5.out.c0 HC5.out.c1
    have t4 := H5.out.1.cell 4
    have s4 := H5.out.2.1.cell 4
    have t4' : w5.cell? ⟨w.heap.size, 4, none⟩ = some (.slice C k q) := t4
    have s4' : w5.cell? ⟨w.heap.size + 1, 4, none⟩ = some (.slice C' k' q') := s4
    clear hR hR2 hn0 hn1 t4 s4 hK hA0 hK0 hF5 hG5 hF0 hG0 hr
    go_region_held3 (fun w' => w5.grownBy w' (some R) ∧ (w'.cell? ⟨b3, 0, none⟩ = some (.int .i64 v) ∧ w'.cell? ⟨b3, 1, none⟩ = some (.slice A2 n2 c2)) ∧ (w'.cell? ⟨b4, 0, none⟩ = some (.int .i64 v) ∧ w'.cell? ⟨b4, 1, none⟩ = some (.slice A4 n4 c4)) ∧ w'.cell? ⟨w.heap.size, 4, none⟩ = some (.slice C k q) ∧ w'.cell? ⟨w.heap.size + 1, 4, none⟩ = some (.slice C' k' q'))
      (first
        | (with_reducible exact HK.out _ (grown_drew _ _))
        | (with_reducible exact HK.out _ (grown_trans (grown_of_below ((Below.refl _ _).alloc (Nat.le_refl _) _) _) (grown_drew _ _)))
        | (with_reducible exact HK.out _ (grown_set5 Hcur.out _ _ _ _ _))
        | assumption)
      (first
        | (go_at_call 66
           go_must (
           go_split_ands
           refine (concat_any w5.heap.size 2 C C' k q k' q' cs cs' (w5.alloc (.cells #[.slice C k q, .slice C' k' q'] 27)).drew (show w5.heap.size < (w5.alloc _).heap.size by simp) (show (w5.alloc (.cells #[.slice C k q, .slice C' k' q'] 27)).cell? ⟨w5.heap.size, 0, none⟩ = _ from ((Fb.new w5 _ 27).cell 0).trans rfl) (show (w5.alloc (.cells #[.slice C k q, .slice C' k' q'] 27)).cell? ⟨w5.heap.size, 1, none⟩ = _ from ((Fb.new w5 _ 27).cell 1).trans rfl) (HF5.out.skip HF0.out (by assumption)) (HG5.out.skip HG0.out (by assumption)) hk4 hk4').mono ?_
           rintro e wn ⟨Cc, qc, rfl, hcc, hbk⟩
           have hbl := below_step (W := w5) (by first | exact ((Below.refl _ _).alloc (Nat.le_refl _) _).drew | exact (Below.refl _ _).drew.alloc (Nat.le_refl _) _) hbk
           have Hbl := hid hbl
           have hcur := grown_of_below hbl (some R)
           have hS := HK.out _ hcur
           have Hcur := hid hcur
           have Hcc := hid (show ArgC wn Cc (cs.length + cs'.length) (cs ++ cs') from (by rw [← List.length_append]; exact hcc))
           clear hbk hcc hbl))
        | (go_at_call 46
           go_must (
           go_split_ands
           refine (devCanonical_any v A2 A4 Cc n2 c2 n4 c4 (cs.length + cs'.length) qc (orR v gs gs') (andR v ks ks') (cs ++ cs') _ (HA5.out.skip HA0.out (by assumption)) (HK5.out.skip HK0.out (by assumption)) Hcc.out hv256 (fit_orR _ _ _) (fit_andR _ _ _) Hin.out (by have := HF.out.cops.len; have := HG.out.cops.len; omega)).mono ?_
           rintro e wn2 hcan
           have hval := hcan.val
           rw [Hcn.out] at hval
           obtain ⟨A9, n9, c9, B9, m9, d9, C9, q9, rfl, hA9, hB9, hC9, hbk⟩ := hval
           have hbl := below_step (W := w5) Hbl.out hbk
           have hcur := grown_of_below hbl (some R)
           have hS := HK.out _ hcur
           have Hcur := hid hcur
           have Hz9 := hid (HZ.out.below hbl HZ.out.lt)
           obtain ⟨r0, r1, r2, r3, r4⟩ := Hz9.out.five
           have f0 := Hz9.out.frozen 0
           have f1 := Hz9.out.frozen 1
           have f2 := Hz9.out.frozen 2
           have f3 := Hz9.out.frozen 3
           have f4 := Hz9.out.frozen 4
           have hlR := Hz9.out.lt
           have Fin := hid (RetT.stored (w := w) (err := er9) (c := c9) (d := d9) (q := q9) (W := W9) hA9 hB9 hC9 (H5.out.2.2.2.trans (hbl.mono H5.out.2.2.2.size)) hRle Hz9.out)
           unfold stored5 at Fin
           clear hbk hA9 hB9 hC9 hcan)))
    all_goals go_wp2_with fail
    all_goals refine bodyPost_ret (v := .tuple #[.agg #[.int .i64 W9, .slice A9 n9 c9, .int .i64 W9, .slice B9 m9 d9, .slice C9 cs9.length q9], .int .i64 er9]) (by simp [results, Try.results31, go_sem, r0, r1, r2, r3, r4]) rfl ?_
    all_goals rw [Hr.out, Hcn.out]
    all_goals exact Fin.out
end Go.Proofs.Ytkckkodoeepdpaa
