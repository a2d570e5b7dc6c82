/- For every list of choices and every function: of the functions that the choices make, the last of them spoiled, and of the given function if it is not too large to be examined, the package's Star agrees with the reference's, in the function and in the error, and the sanity check holds: TransferStar returns true and leaves its arguments as they were. -/
import Derived.Test.YtmbelhdkaepohaaStarAlla
import Derived.Test.YtmbelhdkaepohaaGen
import Derived.Test.YtmbelhdkaepohaaDvT
import Derived.Test.YtmbelhdkaepohaaDEq
import Derived.Test.YtmbelhdkaepohaaSan3
import Derived.Test.YtmbelhdkaepohaaSpoil
import Derived.Deep.RegionLaw
import Derived.Deep.DeepCutAuto
import Derived.Deep.DrawnRows
import Derived.Test.YtmbelhdkaepohaaMembers
import Derived.Lib.SmallJoins
import Derived.ShutString
import Derived.ChangeOld
import Derived.Deep.Slices
import Derived.Deep.Fields
import Derived.ChangeSame
namespace Go.Proofs.Ytmbelhdkaepohaa
set_option maxRecDepth 20000
set_option linter.unusedVariables false
set_option linter.unusedSimpArgs false
open Go.ChangeShapes Go.WideShapes Go.ChangeAt Go.RowKit

set_option maxHeartbeats 3200000 in
theorem refJoinF_any (W V : Int) (A B C : Option Addr) (n c m d k q : Nat) (gs ks : List Nat) (cs : List (Int × Int)) (W' V' : Int) (A' B' C' : Option Addr) (n' c' m' d' k' q' : Nat) (gs' ks' : List Nat) (cs' : List (Int × Int)) (w : World)
    (hF : FArg w A n B m C k gs ks cs) (hG : FArg w A' n' B' m' C' k' gs' ks' cs') :
    Calls Try.prog 23 #[.agg #[.int .i64 W, .slice A n c, .int .i64 V, .slice B m d, .slice C k q], .agg #[.int .i64 W', .slice A' n' c', .int .i64 V', .slice B' m' d', .slice C' k' q']] w
      (RetR w (joinR W gs V ks cs W' gs' V' ks' cs')) := by
  have HF := hid hF; have HG := hid hG
  have H0 := hid (Three.start w W V A B C n c m d k q W' V' A' B' C' n' c' m' d' k' q')
  clear hF hG
  go_enter Try.func23, Try.ntmps23
  go_wp2_with fail
  refine (refTwo_any W V A B C n c m d k q gs ks cs W' V' A' B' C' n' c' m' d' k' q' gs' ks' cs' _ (HF.out.below H0.out.2.2.2) (HG.out.below H0.out.2.2.2)).mono ?_
  by_cases hbad : checkR (validT W gs V ks cs) (validT W' gs' V' ks' cs') W W' ≠ 0
  · have Hr := hid (show joinR W gs V ks cs W' gs' V' ks' cs' = (0, [], [], [], checkR (validT W gs V ks cs) (validT W' gs' V' ks' cs') W W') by
      unfold joinR checkR
      unfold checkR at hbad
      by_cases h1 : validT W gs V ks cs = false ∨ validT W' gs' V' ks' cs' = false
      · rw [if_pos h1, if_pos h1]
      · rw [if_neg h1, if_neg h1]
        rw [if_neg h1] at hbad
        by_cases h2 : W ≠ W'
        · rw [if_pos h2, if_pos h2]
        · rw [if_neg h2] at hbad; exact absurd rfl hbad)
    generalize checkR (validT W gs V ks cs) (validT W' gs' V' ks' cs') W W' = er at *
    have tt : (er != 0) = true := by simpa using hbad
    clear hbad
    rintro e w1 ⟨rfl, hb1⟩
    have H1 := hid (H0.out.below hb1)
    clear hb1
    obtain ⟨r0, r1, r2, r3, r4⟩ := H1.out.2.2.1.five
    have f0 := H1.out.2.2.1.frozen 0
    have f1 := H1.out.2.2.1.frozen 1
    have f2 := H1.out.2.2.1.frozen 2
    have f3 := H1.out.2.2.1.frozen 3
    have f4 := H1.out.2.2.1.frozen 4
    have hlR := H1.out.2.2.1.lt
    have Fin := hid (RetT.stored (err := er) (c := 0) (d := 0) (q := 0) (cs := []) (C := none) (Arg.nil w1 none) (Arg.nil w1 none) ⟨.inl rfl, rfl⟩ H1.out.2.2.2 (by omega) H1.out.2.2.1 (W := 0))
    unfold stored5 at Fin
    go_wp2_with fail
    refine bodyPost_ret (v := .tuple #[.agg #[.int .i64 0, .slice none 0 0, .int .i64 0, .slice none 0 0, .slice none 0 0], .int .i64 er]) (by simp [results, Try.results23, go_sem, r0, r1, r2, r3, r4]) rfl ?_
    rw [Hr.out]
    exact Fin.out
  · have hok : checkR (validT W gs V ks cs) (validT W' gs' V' ks' cs') W W' = 0 := by simpa using hbad
    rw [hok]
    have hv1 : validT W gs V ks cs = true := by
      unfold checkR at hok
      cases h : validT W gs V ks cs with
      | true => rfl
      | false => rw [h] at hok; simp at hok
    have hv2 : validT W' gs' V' ks' cs' = true := by
      unfold checkR at hok
      cases h : validT W' gs' V' ks' cs' with
      | true => rfl
      | false => rw [h] at hok; simp at hok
    have hWW : W = W' := by
      unfold checkR at hok
      rw [hv1, hv2] at hok
      by_cases h : W = W'
      · exact h
      · simp [h] at hok
    clear hok hbad
    subst hWW
    obtain ⟨h1, h2, h3, h4, h5⟩ := validT_iff hv1
    obtain ⟨g1, g2, g3, g4, g5⟩ := validT_iff hv2
    subst h3
    subst g3
    have hin1 := inW_of_ok h5
    have hin2 := inW_of_ok g5
    obtain ⟨v, rfl⟩ := Int.eq_ofNat_of_zero_le (Bs.validB_iff.1 h1).1
    have hv256 : v ≤ 256 := by have := (Bs.validB_iff.1 h1).2.1; omega
    have hfg := fit_of_valid' h1 HF.out.gen
    have hfk := fit_of_valid' h2 HF.out.kill
    have hfg' := fit_of_valid' g1 HG.out.gen
    have hfk' := fit_of_valid' g2 HG.out.kill
    have Hk := hid (show k ≤ maxLen by rw [HF.out.cops.len] at h4; unfold maxLen; omega)
    have Hk' := hid (show k' ≤ maxLen by rw [HG.out.cops.len] at g4; unfold maxLen; omega)
    have Hr := hid (show joinR v gs v ks cs v gs' v ks' cs' = madeR v (orR v gs gs') (fun b => orR v (oneR gs (folB v ks cs) v b) (oneR gs' (folB v ks' cs') v b)) by
      unfold joinR; rw [if_neg (by simp [hv1, hv2]), if_neg (by simp), Int.toNat_natCast]
      exact join_made hv256 hfk hfk' hin1 hin2)
    have Hfg := hid hfg; have Hfk := hid hfk; have Hfg' := hid hfg'; have Hfk' := hid hfk'
    clear h1 h2 h4 h5 g1 g2 g4 g5 hin1 hin2 hfg hfk hfg' hfk' hv1 hv2
    rintro e w1 ⟨rfl, hb1⟩
    have H1 := hid (H0.out.below hb1)
    have HTb := hid H1.out.2.2.2
    have HB0 := hid H1.out.2.2.2.size
    have hgw : w.heap.size + 3 ≤ w1.heap.size := by have := H1.out.2.2.1.lt; omega
    have Hgw := hid hgw
    clear hb1 hgw H0
    go_upto_region 4 with fail
    rename_i Kx hKx
    refine wp_region_inv (fun L f u => I4 w1 w.heap.size v (.agg #[.int .i64 v, .slice A n c, .int .i64 v, .slice B m d, .slice C k q]) (.agg #[.int .i64 v, .slice A' n' c', .int .i64 v, .slice B' m' d', .slice C' k' q']) A n c (oneR gs (folB v ks cs) v) A' n' c' (oneR gs' (folB v ks' cs') v) L f u) Kx (fun _ _ h => h) 8 [some 17, some 18, some 19, some 20, some 7, some 8, none, none] (by kernel_rfl) (by kernel_rfl) (by kernel_rfl) (by kernel_rfl) (by kernel_rfl) (fun f => I4.start HB0.out f) ?_ ?_
    · intro j o L f u ho hL hdep hI K hK
      have HI := hid hI
      match j, ho, hL, hdep, hK with
      | 0, ho, hL, hdep, hK =>
        obtain rfl := Option.some.inj ho
        obtain ⟨c0, c1, c2, c3, c4⟩ := (H1.out.1.below HI.out.bel H1.out.1.lt).five
        have hlt := (H1.out.1.below HI.out.bel H1.out.1.lt).lt
        refine wpOp_step rfl fun K' hK' => ?_
        simp only [putL, updV]
        go_simp
        have hz := hK' _ _ (hK (.agg #[.int .i64 v, .slice A n c, .int .i64 v, .slice B m d, .slice C k q]) (u) (HI.out.op0))
        refine Eq.mp (congrArg (fun a => K' a (u)) ?_) hz
        kernel_rfl
      | 1, ho, hL, hdep, hK =>
        obtain rfl := Option.some.inj ho
        have e0 : f 0 = .agg #[.int .i64 v, .slice A n c, .int .i64 v, .slice B m d, .slice C k q] := HI.out.l0 (hdep ⟨0, .data⟩ (by simp) rfl)
        obtain ⟨f, rfl⟩ := fix1 f 0 _ e0
        refine wpOp_step rfl fun K' hK' => ?_
        simp only [putL, updV]
        go_simp
        have hdv := HI.out.bel
        go_at_call 21
        refine (refTable0_any w.heap.size v A B C n c m d k q gs ks cs _ (HF.out.gen.below HTb.out |>.below hdv) (HF.out.kill.below HTb.out |>.below hdv) (HF.out.cops.below HTb.out |>.below hdv) Hk.out hv256 Hfg.out (Nat.le_trans HB0.out hdv.size) ((HF.out.gen.lies.below HTb.out (Nat.le_refl _)).below (hdv.mono HB0.out) (Nat.le_refl _))).mono ?_
        rintro e u5 ⟨x, rfl, hO, hbk⟩
        obtain ⟨A1, c1, rfl⟩ := hO.slice
        have hz := hK' _ _ (hK (.agg #[.int .i64 v, .slice A n c, .slice A1 v c1]) (u5) (HI.out.op1 hL hbk (hO.lower (Nat.le_trans hdv.size (by omega)))))
        refine Eq.mp (congrArg (fun a => K' a (u5)) ?_) hz
        kernel_rfl
      | 2, ho, hL, hdep, hK =>
        obtain rfl := Option.some.inj ho
        obtain ⟨c0, c1, c2, c3, c4⟩ := (H1.out.2.1.below HI.out.bel H1.out.2.1.lt).five
        have hlt := (H1.out.2.1.below HI.out.bel H1.out.2.1.lt).lt
        refine wpOp_step rfl fun K' hK' => ?_
        simp only [putL, updV]
        go_simp
        have hz := hK' _ _ (hK (.agg #[.int .i64 v, .slice A' n' c', .int .i64 v, .slice B' m' d', .slice C' k' q']) (u) (HI.out.op2))
        refine Eq.mp (congrArg (fun a => K' a (u)) ?_) hz
        kernel_rfl
      | 3, ho, hL, hdep, hK =>
        obtain rfl := Option.some.inj ho
        have e0 : f 2 = .agg #[.int .i64 v, .slice A' n' c', .int .i64 v, .slice B' m' d', .slice C' k' q'] := HI.out.l2 (hdep ⟨2, .data⟩ (by simp) rfl)
        have l1 : L 1 = true := hdep ⟨1, .chain⟩ (by simp) rfl
        obtain ⟨f, rfl⟩ := fix1 f 2 _ e0
        refine wpOp_step rfl fun K' hK' => ?_
        simp only [putL, updV]
        go_simp
        have hdv := HI.out.bel
        go_at_call 21
        refine (refTable0_any w.heap.size v A' B' C' n' c' m' d' k' q' gs' ks' cs' _ (HG.out.gen.below HTb.out |>.below hdv) (HG.out.kill.below HTb.out |>.below hdv) (HG.out.cops.below HTb.out |>.below hdv) Hk'.out hv256 Hfg'.out (Nat.le_trans HB0.out hdv.size) ((HG.out.gen.lies.below HTb.out (Nat.le_refl _)).below (hdv.mono HB0.out) (Nat.le_refl _))).mono ?_
        rintro e u5 ⟨x, rfl, hO, hbk⟩
        obtain ⟨A1, c1, rfl⟩ := hO.slice
        have hz := hK' _ _ (hK (.agg #[.int .i64 v, .slice A' n' c', .slice A1 v c1]) (u5) (HI.out.op3 l1 hL hbk (hO.lower (by omega))))
        refine Eq.mp (congrArg (fun a => K' a (u5)) ?_) hz
        kernel_rfl
      | 4, ho, hL, hdep, hK =>
        obtain rfl := Option.some.inj ho
        refine wpOp_step rfl fun K' hK' => ?_
        simp only [putL, updV]
        go_simp
        have hz := hK' _ _ (hK (.pointer (some ⟨u.heap.size, 0, none⟩)) ((u.alloc (.cells #[.int .i64 0, .slice none 0 0, .slice none 0 0] 53))) (HI.out.op4 hL))
        refine Eq.mp (congrArg (fun a => K' a ((u.alloc (.cells #[.int .i64 0, .slice none 0 0, .slice none 0 0] 53)))) ?_) hz
        kernel_rfl
      | 5, ho, hL, hdep, hK =>
        obtain rfl := Option.some.inj ho
        refine wpOp_step rfl fun K' hK' => ?_
        simp only [putL, updV]
        go_simp
        have hz := hK' _ _ (hK (.pointer (some ⟨u.heap.size, 0, none⟩)) ((u.alloc (.cells #[.int .i64 0, .slice none 0 0, .slice none 0 0] 53))) (HI.out.op5 hL))
        refine Eq.mp (congrArg (fun a => K' a ((u.alloc (.cells #[.int .i64 0, .slice none 0 0, .slice none 0 0] 53)))) ?_) hz
        kernel_rfl
      | 6, ho, hL, hdep, hK =>
        obtain rfl := Option.some.inj ho
        have l4 : L 4 = true := hdep ⟨4, .data⟩ (by simp) rfl
        have l5 : L 5 = true := hdep ⟨5, .phase⟩ (by simp) rfl
        have l3 : L 3 = true := hdep ⟨3, .chain⟩ (by simp) rfl
        have l7 : L 7 = false := by
          cases h : L 7 with
          | false => rfl
          | true => have := (HI.out.s7 h).1; rw [hL] at this; cases this
        obtain ⟨_, A1, c1, _, _, e1, _⟩ := HI.out.t3 l3
        obtain ⟨b, cs9, e0, hFb, h3, _⟩ := HI.out.p4 l4
        have HI9 := hid (HI.out.op6 (val := undef) hL l7 l3 l4 l5 e0 e1)
        unfold tabv at e1
        obtain ⟨x, y, z, hcs⟩ := h3
        subst hcs
        obtain ⟨c0, c1', c2⟩ := hFb.three
        have f0 := hFb.frozen 0
        have f1 := hFb.frozen 1
        have f2 := hFb.frozen 2
        have hlt := hFb.lt
        obtain ⟨f, rfl⟩ := fix1 f 4 _ e0
        rw [updV_ne _ _ (by decide)] at e1
        obtain ⟨f, rfl⟩ := fix1 f 1 _ e1
        refine wpOp_step rfl fun K' hK' => ?_
        simp only [putL, updV]
        go_simp
        have hz := hK' _ _ (hK (undef) (put3 u b (.int .i64 v) (.slice A n c) (.slice A1 v c1)) (HI9.out))
        refine Eq.mp (congrArg (fun a => K' a (put3 u b (.int .i64 v) (.slice A n c) (.slice A1 v c1))) ?_) hz
        kernel_rfl
      | 7, ho, hL, hdep, hK =>
        obtain rfl := Option.some.inj ho
        have l6 : L 6 = true := hdep ⟨6, .chain⟩ (by simp) rfl
        have l4 : L 4 = true := hdep ⟨4, .phase⟩ (by simp) rfl
        have l5 : L 5 = true := hdep ⟨5, .data⟩ (by simp) rfl
        have l3 : L 3 = true := hdep ⟨3, .data⟩ (by simp) rfl
        obtain ⟨_, _, _, A1, c1, _, e1, _⟩ := HI.out.t3 l3
        obtain ⟨b, cs9, e0, hFb, h3, _⟩ := HI.out.p5 l5
        have HI9 := hid (HI.out.op7 (val := undef) l6 hL l4 l5 e0 e1)
        unfold tabv at e1
        obtain ⟨x, y, z, hcs⟩ := h3
        subst hcs
        obtain ⟨c0, c1', c2⟩ := hFb.three
        have f0 := hFb.frozen 0
        have f1 := hFb.frozen 1
        have f2 := hFb.frozen 2
        have hlt := hFb.lt
        obtain ⟨f, rfl⟩ := fix1 f 5 _ e0
        rw [updV_ne _ _ (by decide)] at e1
        obtain ⟨f, rfl⟩ := fix1 f 3 _ e1
        refine wpOp_step rfl fun K' hK' => ?_
        simp only [putL, updV]
        go_simp
        have hz := hK' _ _ (hK (undef) (put3 u b (.int .i64 v) (.slice A' n' c') (.slice A1 v c1)) (HI9.out))
        refine Eq.mp (congrArg (fun a => K' a (put3 u b (.int .i64 v) (.slice A' n' c') (.slice A1 v c1))) ?_) hz
        kernel_rfl
      | j + 8, ho, hL, hdep, hK => exact absurd (Array.getElem?_eq_some_iff.1 ho).1 (by simp)
    · intro L f u hL hI
      obtain ⟨bx, by', A1, c1, A2, c2, e4, e5, hT⟩ := hI.done hL
      have HT := hid hT
      obtain ⟨f, rfl⟩ := fix1 f 4 _ e4
      rw [updV_ne _ _ (by decide)] at e5
      obtain ⟨f, rfl⟩ := fix1 f 5 _ e5
      clear hI hT e4 e5
      simp only [putL, updV]
      go_simp
      refine hKx _ _ ?_
      clear hKx
      have HU := hid (below_step HTb.out HT.out.bel)
      have HFu := hid (HF.out.below HU.out)
      have HGu := hid (HG.out.below HU.out)
      obtain ⟨x0, x1, x2⟩ := HT.out.x.three
      obtain ⟨y0, y1, y2⟩ := HT.out.y.three
      have hxl := HT.out.x.lt
      have hyl := HT.out.y.lt
      go_wp2_with fail
      refine (refJoin2_any v A A' n c n' c' gs gs' _ HFu.out.gen HGu.out.gen hv256 Hfg.out Hfg'.out).mono ?_
      rintro e u2 ⟨gz, nz, cz, rfl, hrz', haz, hbz⟩
      have hmz := haz.len.symm
      have hrz : From u2 w.heap.size (some ⟨gz, 0, none⟩) (orR v gs gs') := .inr ⟨gz, rfl, hrz'⟩
      generalize (some ⟨gz, 0, none⟩ : Option Addr) = Z at *
      clear hrz' haz
      obtain ⟨⟨z0, z1, z2, z3, z4⟩, hJ0⟩ := Jng.start (dz := cz) H1.out HT.out Hgw.out hbz hrz hmz
      generalize hJd : (fun b => orR v (oneR gs (folB v ks cs) v b) (oneR gs' (folB v ks' cs') v b)) = J at *
      have HJ0 := hid hJ0
      clear hJ0 hbz hrz hmz x0 x1 x2 y0 y1 y2 hxl hyl HT HFu HGu HU
      generalize hzs : orR v gs gs' = zs at *
      have Hzs := hid hzs; have HJd := hid hJd
      clear hzs hJd
      go_wp2_with fail
      clear z0 z1 z2 z3 z4
      go_loopw [9] (fun iv wr => ∃ b : Nat, b ≤ v ∧ iv = .int .i64 b ∧ Hid (Jng w w1 v A B C n c m d k q A' B' C' n' c' m' d' k' q' bx by' Z nz cz A1 c1 A2 c2 zs (fun i => if i < b then J i else oneR gs (folB v ks cs) v i) (oneR gs' (folB v ks' cs') v) wr)) (fun iv _ => v - (intOf iv).toNat)
      case atStart => exact ⟨0, by omega, rfl, by simpa using HJ0⟩
      case round =>
        obtain ⟨b, hb, rfl, HJ⟩ := hrel
        obtain ⟨x0, x1, x2⟩ := HJ.out.x.three
        have hxl := HJ.out.x.lt
        by_cases hlt : b < v
        · have HBr := hid HJ.out.t.2.2.2.size
          obtain ⟨ad, E, x, y, rfl, had, c0, c1', hE, hE0⟩ := HJ.out.o1.at hlt HBr.out (by rw [if_neg (Nat.lt_irrefl b)]; exact fit_oneR _ _ _ _)
          rw [if_neg (Nat.lt_irrefl b)] at hE
          obtain ⟨ad2, E2, x2', y2', rfl, had2, d0, d1, hE2, hE20⟩ := HJ.out.o2.at hlt HBr.out (fit_oneR _ _ _ _)
          have Had2 := hid had2; have Hd0 := hid d0; have Hd1 := hid d1; have HE2 := hid hE2
          clear had2 d0 d1 hE2 hE20
          have Had := hid had; have Hc0 := hid c0; have Hc1 := hid c1'; have HE := hid hE
          clear had c0 c1' hE hE0
          go_upto_region 9 with fail
          clear x0 x1 x2 hxl
          rename_i Kx hKx
          refine wp_region_facts (fun i => ([Fv (.pointer (some ⟨bx, 2, none⟩)), Fv (.slice (some ad) v c1), Fv (.int .i64 (b : Int)), Fv (.pointer (some ⟨bx, 2, none⟩)), Fv (.slice (some ad) v c1), Fv (.int .i64 (b : Int)), Fv (.pointer (some (ad.add (b * 2)))), Fv (.agg #[.int .i64 v, .slice E x y]), Fv (.pointer (some ⟨by', 2, none⟩)), Fv (.slice (some ad2) v c2), Fv (.int .i64 (b : Int)), Fv (.pointer (some (ad2.add (b * 2)))), Fv (.agg #[.int .i64 v, .slice E2 x2' y2']), Fset w.heap.size v (orR v (oneR gs (folB v ks cs) v b) (oneR gs' (folB v ks' cs') v b))]).getD i (fun _ _ => True)) (fun u' => Below wr.heap.size wr u') (fun _ => none) (fun _ a b => Below a.heap.size a b ∧ wr.heap.size ≤ a.heap.size) Kx (fun _ _ h => h) 16 14
            [some 34, some 35, some 36, some 37, some 38, some 39, some 40, some 41, some 42, some 43, some 44, some 45, some 46, some 47, some 48, none] (by kernel_rfl) (by kernel_rfl) (by kernel_rfl) (by kernel_rfl) (by kernel_rfl) (by kernel_rfl) (by decide)
            ?st (Below.refl _ _).drew ?ar ?en
          case st =>
            intro j a b' i z hb hne hu hF
            match i with
            | 0 => exact hF
            | 1 => exact hF
            | 2 => exact hF
            | 3 => exact hF
            | 4 => exact hF
            | 5 => exact hF
            | 6 => exact hF
            | 7 => exact hF
            | 8 => exact hF
            | 9 => exact hF
            | 10 => exact hF
            | 11 => exact hF
            | 12 => exact hF
            | 13 => exact Fset.stb (Nat.le_trans HBr.out hb.2) hb.1 hF
            | i + 14 => trivial
          case ar =>
            intro j o f u' ho hi hB hpre K hK
            match j, ho, hpre, hK with
            | 0, ho, hpre, hK =>
              obtain rfl := Option.some.inj ho
              refine wpOp_step rfl fun K' hK' => ?_
              simp only [putL, updV]
              go_simp
              have hz := hK' _ _ (hK (.pointer (some ⟨bx, 2, none⟩)) (u') (hB) (⟨Below.refl _ _, hB.size⟩) (rfl))
              refine Eq.mp (congrArg (fun a => K' a (u')) ?_) hz
              kernel_rfl
            | 1, ho, hpre, hK =>
              obtain rfl := Option.some.inj ho
              have e0 : f 0 = .pointer (some ⟨bx, 2, none⟩) := hpre ⟨0, .data⟩ (by simp) rfl (.inl rfl)
              obtain ⟨f, rfl⟩ := fix1 f 0 _ e0
              clear e0
              have hx := HJ.out.x.below hB HJ.out.x.lt
              obtain ⟨x0, x1, x2⟩ := hx.three
              have hxl := hx.lt
              refine wpOp_step rfl fun K' hK' => ?_
              simp only [putL, updV]
              go_simp
              have hz := hK' _ _ (hK (.slice (some ad) v c1) (u') (hB) (⟨Below.refl _ _, hB.size⟩) (rfl))
              refine Eq.mp (congrArg (fun a => K' a (u')) ?_) hz
              kernel_rfl
            | 2, ho, hpre, hK =>
              obtain rfl := Option.some.inj ho
              refine wpOp_step rfl fun K' hK' => ?_
              simp only [putL, updV]
              go_simp
              have hz := hK' _ _ (hK (.int .i64 (b : Int)) (u') (hB) (⟨Below.refl _ _, hB.size⟩) (rfl))
              refine Eq.mp (congrArg (fun a => K' a (u')) ?_) hz
              kernel_rfl
            | 3, ho, hpre, hK =>
              obtain rfl := Option.some.inj ho
              refine wpOp_step rfl fun K' hK' => ?_
              simp only [putL, updV]
              go_simp
              have hz := hK' _ _ (hK (.pointer (some ⟨bx, 2, none⟩)) (u') (hB) (⟨Below.refl _ _, hB.size⟩) (rfl))
              refine Eq.mp (congrArg (fun a => K' a (u')) ?_) hz
              kernel_rfl
            | 4, ho, hpre, hK =>
              obtain rfl := Option.some.inj ho
              have e3 : f 3 = .pointer (some ⟨bx, 2, none⟩) := hpre ⟨3, .data⟩ (by simp) rfl (.inl rfl)
              obtain ⟨f, rfl⟩ := fix1 f 3 _ e3
              clear e3
              have hx := HJ.out.x.below hB HJ.out.x.lt
              obtain ⟨x0, x1, x2⟩ := hx.three
              have hxl := hx.lt
              refine wpOp_step rfl fun K' hK' => ?_
              simp only [putL, updV]
              go_simp
              have hz := hK' _ _ (hK (.slice (some ad) v c1) (u') (hB) (⟨Below.refl _ _, hB.size⟩) (rfl))
              refine Eq.mp (congrArg (fun a => K' a (u')) ?_) hz
              kernel_rfl
            | 5, ho, hpre, hK =>
              obtain rfl := Option.some.inj ho
              refine wpOp_step rfl fun K' hK' => ?_
              simp only [putL, updV]
              go_simp
              have hz := hK' _ _ (hK (.int .i64 (b : Int)) (u') (hB) (⟨Below.refl _ _, hB.size⟩) (rfl))
              refine Eq.mp (congrArg (fun a => K' a (u')) ?_) hz
              kernel_rfl
            | 6, ho, hpre, hK =>
              obtain rfl := Option.some.inj ho
              have e4 : f 4 = .slice (some ad) v c1 := hpre ⟨4, .data⟩ (by simp) rfl (.inl rfl)
              have e5 : f 5 = .int .i64 (b : Int) := hpre ⟨5, .data⟩ (by simp) rfl (.inl rfl)
              obtain ⟨f, rfl⟩ := fix1 f 4 _ e4
              rw [updV_ne _ _ (by decide)] at e5
              obtain ⟨f, rfl⟩ := fix1 f 5 _ e5
              clear e4 e5
              have k0 : (0 : Int) ≤ b := by omega
              have k1 : (b : Int) < v := by omega
              have k2 : (b : Int).toNat = b := by omega
              refine wpOp_step rfl fun K' hK' => ?_
              simp only [putL, updV]
              go_simp
              have hz := hK' _ _ (hK (.pointer (some (ad.add (b * 2)))) (u') (hB) (⟨Below.refl _ _, hB.size⟩) (rfl))
              refine Eq.mp (congrArg (fun a => K' a (u')) ?_) hz
              kernel_rfl
            | 7, ho, hpre, hK =>
              obtain rfl := Option.some.inj ho
              have e6 : f 6 = .pointer (some (ad.add (b * 2))) := hpre ⟨6, .data⟩ (by simp) rfl (.inl rfl)
              obtain ⟨f, rfl⟩ := fix1 f 6 _ e6
              clear e6
              have q0 := (hB.cell (p := ad.add (b * 2)) (by rw [add_block]; exact Had.out)).trans Hc0.out
              have q1 := (hB.cell (p := ⟨(ad.add (b * 2)).block, (ad.add (b * 2)).off + 1, none⟩) (by rw [add_block]; exact Had.out)).trans Hc1.out
              refine wpOp_step rfl fun K' hK' => ?_
              simp only [putL, updV]
              go_simp
              have hz := hK' _ _ (hK (.agg #[.int .i64 v, .slice E x y]) (u') (hB) (⟨Below.refl _ _, hB.size⟩) (rfl))
              refine Eq.mp (congrArg (fun a => K' a (u')) ?_) hz
              kernel_rfl
            | 8, ho, hpre, hK =>
              obtain rfl := Option.some.inj ho
              refine wpOp_step rfl fun K' hK' => ?_
              simp only [putL, updV]
              go_simp
              have hz := hK' _ _ (hK (.pointer (some ⟨by', 2, none⟩)) (u') (hB) (⟨Below.refl _ _, hB.size⟩) (rfl))
              refine Eq.mp (congrArg (fun a => K' a (u')) ?_) hz
              kernel_rfl
            | 9, ho, hpre, hK =>
              obtain rfl := Option.some.inj ho
              have e8 : f 8 = .pointer (some ⟨by', 2, none⟩) := hpre ⟨8, .data⟩ (by simp) rfl (.inl rfl)
              obtain ⟨f, rfl⟩ := fix1 f 8 _ e8
              clear e8
              have hy := HJ.out.y.below hB HJ.out.y.lt
              obtain ⟨y0, y1, y2⟩ := hy.three
              have hyl := hy.lt
              refine wpOp_step rfl fun K' hK' => ?_
              simp only [putL, updV]
              go_simp
              have hz := hK' _ _ (hK (.slice (some ad2) v c2) (u') (hB) (⟨Below.refl _ _, hB.size⟩) (rfl))
              refine Eq.mp (congrArg (fun a => K' a (u')) ?_) hz
              kernel_rfl
            | 10, ho, hpre, hK =>
              obtain rfl := Option.some.inj ho
              refine wpOp_step rfl fun K' hK' => ?_
              simp only [putL, updV]
              go_simp
              have hz := hK' _ _ (hK (.int .i64 (b : Int)) (u') (hB) (⟨Below.refl _ _, hB.size⟩) (rfl))
              refine Eq.mp (congrArg (fun a => K' a (u')) ?_) hz
              kernel_rfl
            | 11, ho, hpre, hK =>
              obtain rfl := Option.some.inj ho
              have e9 : f 9 = .slice (some ad2) v c2 := hpre ⟨9, .data⟩ (by simp) rfl (.inl rfl)
              have e10 : f 10 = .int .i64 (b : Int) := hpre ⟨10, .data⟩ (by simp) rfl (.inl rfl)
              obtain ⟨f, rfl⟩ := fix1 f 9 _ e9
              rw [updV_ne _ _ (by decide)] at e10
              obtain ⟨f, rfl⟩ := fix1 f 10 _ e10
              clear e9 e10
              have k0 : (0 : Int) ≤ b := by omega
              have k1 : (b : Int) < v := by omega
              have k2 : (b : Int).toNat = b := by omega
              refine wpOp_step rfl fun K' hK' => ?_
              simp only [putL, updV]
              go_simp
              have hz := hK' _ _ (hK (.pointer (some (ad2.add (b * 2)))) (u') (hB) (⟨Below.refl _ _, hB.size⟩) (rfl))
              refine Eq.mp (congrArg (fun a => K' a (u')) ?_) hz
              kernel_rfl
            | 12, ho, hpre, hK =>
              obtain rfl := Option.some.inj ho
              have e11 : f 11 = .pointer (some (ad2.add (b * 2))) := hpre ⟨11, .data⟩ (by simp) rfl (.inl rfl)
              obtain ⟨f, rfl⟩ := fix1 f 11 _ e11
              clear e11
              have q0 := (hB.cell (p := ad2.add (b * 2)) (by rw [add_block]; exact Had2.out)).trans Hd0.out
              have q1 := (hB.cell (p := ⟨(ad2.add (b * 2)).block, (ad2.add (b * 2)).off + 1, none⟩) (by rw [add_block]; exact Had2.out)).trans Hd1.out
              refine wpOp_step rfl fun K' hK' => ?_
              simp only [putL, updV]
              go_simp
              have hz := hK' _ _ (hK (.agg #[.int .i64 v, .slice E2 x2' y2']) (u') (hB) (⟨Below.refl _ _, hB.size⟩) (rfl))
              refine Eq.mp (congrArg (fun a => K' a (u')) ?_) hz
              kernel_rfl
            | 13, ho, hpre, hK =>
              obtain rfl := Option.some.inj ho
              have e7 : f 7 = .agg #[.int .i64 v, .slice E x y] := hpre ⟨7, .data⟩ (by simp) rfl (.inl rfl)
              have e12 : f 12 = .agg #[.int .i64 v, .slice E2 x2' y2'] := hpre ⟨12, .data⟩ (by simp) rfl (.inl rfl)
              obtain ⟨f, rfl⟩ := fix1 f 7 _ e7
              rw [updV_ne _ _ (by decide)] at e12
              obtain ⟨f, rfl⟩ := fix1 f 12 _ e12
              clear e7 e12
              refine wpOp_step rfl fun K' hK' => ?_
              simp only [putL, updV]
              go_simp
              go_at_call 51
              refine (refJoin2_any v E E2 x y x2' y2' (oneR gs (folB v ks cs) v b) (oneR gs' (folB v ks' cs') v b) _ (HE.out.below hB) (HE2.out.below hB) hv256 (fit_oneR _ _ _ _) (fit_oneR _ _ _ _)).mono ?_
              rintro e u5 ⟨g9, m9, d9, rfl, hr9, ha9, hbk⟩
              have HF9 := hid (show Fset w.heap.size v (orR v (oneR gs (folB v ks cs) v b) (oneR gs' (folB v ks' cs') v b)) (.agg #[.int .i64 v, .slice (some ⟨g9, 0, none⟩) m9 d9]) u5 from ⟨_, m9, d9, rfl, .inr ⟨g9, rfl, hr9⟩, ha9.len.symm⟩)
              have hz := hK' _ _ (hK (.agg #[.int .i64 v, .slice (some ⟨g9, 0, none⟩) m9 d9]) (u5) (below_step hB hbk) (⟨hbk, hB.size⟩) (HF9.out))
              refine Eq.mp (congrArg (fun a => K' a (u5)) ?_) hz
              kernel_rfl
            | j + 14, ho, hpre, hK => exact absurd hi (by omega)
          case en =>
            intro Q2 hQ2 f u' hB hF
            have e1 : f 1 = .slice (some ad) v c1 := hF 1 (by decide) rfl
            have e2 : f 2 = .int .i64 (b : Int) := hF 2 (by decide) rfl
            obtain ⟨A9, m9, d9, ec, hr9, hm9⟩ : Fset w.heap.size v (orR v (oneR gs (folB v ks cs) v b) (oneR gs' (folB v ks' cs') v b)) (f 13) u' := hF 13 (by decide) rfl
            obtain ⟨f, rfl⟩ := fix1 f 1 _ e1
            rw [updV_ne _ _ (by decide)] at e2 ec
            obtain ⟨f, rfl⟩ := fix1 f 2 _ e2
            rw [updV_ne _ _ (by decide)] at ec
            obtain ⟨f, rfl⟩ := fix1 f 13 _ ec
            have HJu := hid (HJ.out.below hB)
            obtain ⟨ad9, ead, hla, ⟨E9, x9, y9, s0, s1, s2⟩, f0, f1, hJn⟩ := HJu.out.put (d9 := d9) hlt hr9 hm9
            injection ead with ead
            subst ead
            have HJn := hid hJn
            clear hB hF e1 e2 ec hr9 hm9 hJn
            show wpAny _ _ _ _ 2 (tailArr 16 14) _ _
            generalize hA : putL _ _ _ _ = aa
            refine tail_two (i := 14) (j := 15) ?q1 ?q2 ?q3 rfl rfl hQ2 ?q4
            case q1 => kernel_rfl
            case q2 => kernel_rfl
            case q3 => kernel_rfl
            simp only [putL, updV] at hA
            rw [← hA]
            clear hA
            have k0 : (0 : Int) ≤ b := by omega
            have k1 : (b : Int) < v := by omega
            have k2 : (b : Int).toNat = b := by omega
            go_simp
            refine hKx _ _ ?_
            clear hKx k0 k1 k2
            have HJn := hid (show Jng w w1 v A B C n c m d k q A' B' C' n' c' m' d' k' q' bx by' Z nz cz (some ad) c1 (some ad2) c2 zs (fun i => if i < b + 1 then J i else oneR gs (folB v ks cs) v i) (oneR gs' (folB v ks' cs') v) ((u'.setCell (ad.add (b * 2)) (.int .i64 v)).setCell ⟨(ad.add (b * 2)).block, (ad.add (b * 2)).off + 1, none⟩ (.slice A9 m9 d9)) from by
              have h9 := HJn.out
              rw [show upd1 (fun i => if i < b then J i else oneR gs (folB v ks cs) v i) b (orR v (oneR gs (folB v ks cs) v b) (oneR gs' (folB v ks' cs') v b)) = (fun i => if i < b + 1 then J i else oneR gs (folB v ks cs) v i) from by
                rw [show (orR v (oneR gs (folB v ks cs) v b) (oneR gs' (folB v ks' cs') v b)) = J b from by rw [← HJd.out]]; exact upd1_step _ _ _] at h9
              exact h9)
            go_wp2_with fail
            go_roundw
            case rel => exact ⟨b + 1, by omega, by go_num, HJn⟩
            case measure => simp [intOf]; omega
        · have hbv : b = v := by omega
          subst hbv
          have HBr := hid HJ.out.t.2.2.2.size
          have Hfz := hid (show Bs.Fit b zs from by rw [← Hzs.out]; exact fit_orR _ _ _)
          have Hfo := hid (show ∀ i, i < b → Bs.Fit b ((fun i => if i < b then J i else oneR gs (folB b ks cs) b i) i) from fun i hi => by
            show Bs.Fit b (if i < b then J i else _)
            rw [if_pos hi, ← HJd.out]; exact fit_orR _ _ _)
          have HZ := hid (HJ.out.z.arg HBr.out HJ.out.zl Hfz.out.ok)
          have HO := hid (HJ.out.o1.argO HBr.out (fun i hi => (Hfo.out i hi).ok))
          go_wp2_with fail
          refine (refMade_any b Z A1 nz cz c1 zs (fun i => if i < b then J i else oneR gs (folB b ks cs) b i) _ HZ.out HO.out hv256 Hfz.out Hfo.out).mono ?_
          rw [madeR_congr (two := J) (fun a b' ha _ => by show Bs.bit (if a < b then J a else _) b' = _; rw [if_pos ha])]
          have Hr := hid (show joinR b gs b ks cs b gs' b ks' cs' = madeR b zs J from by rw [Hr.out, ← Hzs.out, ← HJd.out])
          obtain ⟨r, hrr⟩ : ∃ r, madeR b zs J = r := ⟨_, rfl⟩
          rw [hrr] at Hr ⊢
          clear hrr
          obtain ⟨W8, gs8, ks8, cs8, er8⟩ := r
          rintro e w8 ⟨A8, n8, c8, B8, m8, d8, C8, q8, rfl, hA8, hB8, hC8, hbk⟩
          have H8 := hid (HJ.out.t.below hbk)
          obtain ⟨r0, r1, r2, r3, r4⟩ := H8.out.2.2.1.five
          have f0 := H8.out.2.2.1.frozen 0
          have f1 := H8.out.2.2.1.frozen 1
          have f2 := H8.out.2.2.1.frozen 2
          have f3 := H8.out.2.2.1.frozen 3
          have f4 := H8.out.2.2.1.frozen 4
          have hlR := H8.out.2.2.1.lt
          have Fin := hid (RetT.stored (w := w) (err := er8) (c := c8) (d := d8) (q := q8) (W := W8) hA8 hB8 hC8 H8.out.2.2.2 (by omega) H8.out.2.2.1)
          unfold stored5 at Fin
          clear hbk hA8 hB8 hC8 x0 x1 x2 hxl HJ
          go_wp2_with fail
          refine bodyPost_ret (v := .tuple #[.agg #[.int .i64 W8, .slice A8 n8 c8, .int .i64 W8, .slice B8 m8 d8, .slice C8 cs8.length q8], .int .i64 er8]) (by simp [results, Try.results23, go_sem, r0, r1, r2, r3, r4]) rfl ?_
          rw [Hr.out]
          exact Fin.out
end Go.Proofs.Ytmbelhdkaepohaa

namespace Go.Proofs.Ytmbelhdkaepohaa
set_option maxRecDepth 20000
set_option linter.unusedVariables false
set_option linter.unusedSimpArgs false
open Go.ChangeShapes Go.WideShapes Go.ChangeAt Go.RowKit

set_option maxHeartbeats 3200000 in
theorem refCompose_any (W V : Int) (A B C : Option Addr) (n c m d k q : Nat) (gs ks : List Nat) (cs : List (Int × Int)) (W' V' : Int) (A' B' C' : Option Addr) (n' c' m' d' k' q' : Nat) (gs' ks' : List Nat) (cs' : List (Int × Int)) (w : World)
    (hF : FArg w A n B m C k gs ks cs) (hG : FArg w A' n' B' m' C' k' gs' ks' cs') :
    Calls Try.prog 25 #[.agg #[.int .i64 W, .slice A n c, .int .i64 V, .slice B m d, .slice C k q], .agg #[.int .i64 W', .slice A' n' c', .int .i64 V', .slice B' m' d', .slice C' k' q']] w
      (RetR w (composeR W gs V ks cs W' gs' V' ks' cs')) := by
  have HF := hid hF; have HG := hid hG
  have H0 := hid (Three.start w W V A B C n c m d k q W' V' A' B' C' n' c' m' d' k' q')
  clear hF hG
  go_enter Try.func25, Try.ntmps25
  go_wp2_with fail
  refine (refTwo_any W V A B C n c m d k q gs ks cs W' V' A' B' C' n' c' m' d' k' q' gs' ks' cs' _ (HF.out.below H0.out.2.2.2) (HG.out.below H0.out.2.2.2)).mono ?_
  by_cases hbad : checkR (validT W gs V ks cs) (validT W' gs' V' ks' cs') W W' ≠ 0
  · have Hr := hid (show composeR W gs V ks cs W' gs' V' ks' cs' = (0, [], [], [], checkR (validT W gs V ks cs) (validT W' gs' V' ks' cs') W W') by
      unfold composeR checkR
      unfold checkR at hbad
      by_cases h1 : validT W gs V ks cs = false ∨ validT W' gs' V' ks' cs' = false
      · rw [if_pos h1, if_pos h1]
      · rw [if_neg h1, if_neg h1]
        rw [if_neg h1] at hbad
        by_cases h2 : W ≠ W'
        · rw [if_pos h2, if_pos h2]
        · rw [if_neg h2] at hbad; exact absurd rfl hbad)
    generalize checkR (validT W gs V ks cs) (validT W' gs' V' ks' cs') W W' = er at *
    have tt : (er != 0) = true := by simpa using hbad
    clear hbad
    rintro e w1 ⟨rfl, hb1⟩
    have H1 := hid (H0.out.below hb1)
    clear hb1
    obtain ⟨r0, r1, r2, r3, r4⟩ := H1.out.2.2.1.five
    have f0 := H1.out.2.2.1.frozen 0
    have f1 := H1.out.2.2.1.frozen 1
    have f2 := H1.out.2.2.1.frozen 2
    have f3 := H1.out.2.2.1.frozen 3
    have f4 := H1.out.2.2.1.frozen 4
    have hlR := H1.out.2.2.1.lt
    have Fin := hid (RetT.stored (err := er) (c := 0) (d := 0) (q := 0) (cs := []) (C := none) (Arg.nil w1 none) (Arg.nil w1 none) ⟨.inl rfl, rfl⟩ H1.out.2.2.2 (by omega) H1.out.2.2.1 (W := 0))
    unfold stored5 at Fin
    go_wp2_with fail
    refine bodyPost_ret (v := .tuple #[.agg #[.int .i64 0, .slice none 0 0, .int .i64 0, .slice none 0 0, .slice none 0 0], .int .i64 er]) (by simp [results, Try.results25, go_sem, r0, r1, r2, r3, r4]) rfl ?_
    rw [Hr.out]
    exact Fin.out
  · have hok : checkR (validT W gs V ks cs) (validT W' gs' V' ks' cs') W W' = 0 := by simpa using hbad
    rw [hok]
    have hv1 : validT W gs V ks cs = true := by
      unfold checkR at hok
      cases h : validT W gs V ks cs with
      | true => rfl
      | false => rw [h] at hok; simp at hok
    have hv2 : validT W' gs' V' ks' cs' = true := by
      unfold checkR at hok
      cases h : validT W' gs' V' ks' cs' with
      | true => rfl
      | false => rw [h] at hok; simp at hok
    have hWW : W = W' := by
      unfold checkR at hok
      rw [hv1, hv2] at hok
      by_cases h : W = W'
      · exact h
      · simp [h] at hok
    clear hok hbad
    subst hWW
    obtain ⟨h1, h2, h3, h4, h5⟩ := validT_iff hv1
    obtain ⟨g1, g2, g3, g4, g5⟩ := validT_iff hv2
    subst h3
    subst g3
    have hin1 := inW_of_ok h5
    have hin2 := inW_of_ok g5
    obtain ⟨v, rfl⟩ := Int.eq_ofNat_of_zero_le (Bs.validB_iff.1 h1).1
    have hv256 : v ≤ 256 := by have := (Bs.validB_iff.1 h1).2.1; omega
    have hfg := fit_of_valid' h1 HF.out.gen
    have hfk := fit_of_valid' h2 HF.out.kill
    have hfg' := fit_of_valid' g1 HG.out.gen
    have hfk' := fit_of_valid' g2 HG.out.kill
    have Hk := hid (show k ≤ maxLen by rw [HF.out.cops.len] at h4; unfold maxLen; omega)
    have Hk' := hid (show k' ≤ maxLen by rw [HG.out.cops.len] at g4; unfold maxLen; omega)
    have Hr := hid (show composeR v gs v ks cs v gs' v ks' cs' = madeR v (valR gs' gs (folB v ks' cs') v) (fun b => valR gs' (oneR gs (folB v ks cs) v b) (folB v ks' cs') v) by
      unfold composeR; rw [if_neg (by simp [hv1, hv2]), if_neg (by simp), Int.toNat_natCast]
      exact comp_made hv256 hfg hfk hfk' hin1 hin2)
    have Hfg := hid hfg; have Hfk := hid hfk; have Hfg' := hid hfg'; have Hfk' := hid hfk'
    clear h1 h2 h4 h5 g1 g2 g4 g5 hin1 hin2 hfg hfk hfg' hfk' hv1 hv2
    rintro e w1 ⟨rfl, hb1⟩
    have H1 := hid (H0.out.below hb1)
    have HTb := hid H1.out.2.2.2
    have HB0 := hid H1.out.2.2.2.size
    have hgw : w.heap.size + 3 ≤ w1.heap.size := by have := H1.out.2.2.1.lt; omega
    have Hgw := hid hgw
    clear hb1 hgw H0
    go_upto_region 4 with fail
    rename_i Kx hKx
    refine wp_region_inv (fun L f u => I4 w1 w.heap.size v (.agg #[.int .i64 v, .slice A n c, .int .i64 v, .slice B m d, .slice C k q]) (.agg #[.int .i64 v, .slice A' n' c', .int .i64 v, .slice B' m' d', .slice C' k' q']) A n c (oneR gs (folB v ks cs) v) A' n' c' (oneR gs' (folB v ks' cs') v) L f u) Kx (fun _ _ h => h) 8 [some 17, some 18, some 19, some 20, some 7, some 8, none, none] (by kernel_rfl) (by kernel_rfl) (by kernel_rfl) (by kernel_rfl) (by kernel_rfl) (fun f => I4.start HB0.out f) ?_ ?_
    · intro j o L f u ho hL hdep hI K hK
      have HI := hid hI
      match j, ho, hL, hdep, hK with
      | 0, ho, hL, hdep, hK =>
        obtain rfl := Option.some.inj ho
        obtain ⟨c0, c1, c2, c3, c4⟩ := (H1.out.1.below HI.out.bel H1.out.1.lt).five
        have hlt := (H1.out.1.below HI.out.bel H1.out.1.lt).lt
        refine wpOp_step rfl fun K' hK' => ?_
        simp only [putL, updV]
        go_simp
        have hz := hK' _ _ (hK (.agg #[.int .i64 v, .slice A n c, .int .i64 v, .slice B m d, .slice C k q]) (u) (HI.out.op0))
        refine Eq.mp (congrArg (fun a => K' a (u)) ?_) hz
        kernel_rfl
      | 1, ho, hL, hdep, hK =>
        obtain rfl := Option.some.inj ho
        have e0 : f 0 = .agg #[.int .i64 v, .slice A n c, .int .i64 v, .slice B m d, .slice C k q] := HI.out.l0 (hdep ⟨0, .data⟩ (by simp) rfl)
        obtain ⟨f, rfl⟩ := fix1 f 0 _ e0
        refine wpOp_step rfl fun K' hK' => ?_
        simp only [putL, updV]
        go_simp
        have hdv := HI.out.bel
        go_at_call 21
        refine (refTable0_any w.heap.size v A B C n c m d k q gs ks cs _ (HF.out.gen.below HTb.out |>.below hdv) (HF.out.kill.below HTb.out |>.below hdv) (HF.out.cops.below HTb.out |>.below hdv) Hk.out hv256 Hfg.out (Nat.le_trans HB0.out hdv.size) ((HF.out.gen.lies.below HTb.out (Nat.le_refl _)).below (hdv.mono HB0.out) (Nat.le_refl _))).mono ?_
        rintro e u5 ⟨x, rfl, hO, hbk⟩
        obtain ⟨A1, c1, rfl⟩ := hO.slice
        have hz := hK' _ _ (hK (.agg #[.int .i64 v, .slice A n c, .slice A1 v c1]) (u5) (HI.out.op1 hL hbk (hO.lower (Nat.le_trans hdv.size (by omega)))))
        refine Eq.mp (congrArg (fun a => K' a (u5)) ?_) hz
        kernel_rfl
      | 2, ho, hL, hdep, hK =>
        obtain rfl := Option.some.inj ho
        obtain ⟨c0, c1, c2, c3, c4⟩ := (H1.out.2.1.below HI.out.bel H1.out.2.1.lt).five
        have hlt := (H1.out.2.1.below HI.out.bel H1.out.2.1.lt).lt
        refine wpOp_step rfl fun K' hK' => ?_
        simp only [putL, updV]
        go_simp
        have hz := hK' _ _ (hK (.agg #[.int .i64 v, .slice A' n' c', .int .i64 v, .slice B' m' d', .slice C' k' q']) (u) (HI.out.op2))
        refine Eq.mp (congrArg (fun a => K' a (u)) ?_) hz
        kernel_rfl
      | 3, ho, hL, hdep, hK =>
        obtain rfl := Option.some.inj ho
        have e0 : f 2 = .agg #[.int .i64 v, .slice A' n' c', .int .i64 v, .slice B' m' d', .slice C' k' q'] := HI.out.l2 (hdep ⟨2, .data⟩ (by simp) rfl)
        have l1 : L 1 = true := hdep ⟨1, .chain⟩ (by simp) rfl
        obtain ⟨f, rfl⟩ := fix1 f 2 _ e0
        refine wpOp_step rfl fun K' hK' => ?_
        simp only [putL, updV]
        go_simp
        have hdv := HI.out.bel
        go_at_call 21
        refine (refTable0_any w.heap.size v A' B' C' n' c' m' d' k' q' gs' ks' cs' _ (HG.out.gen.below HTb.out |>.below hdv) (HG.out.kill.below HTb.out |>.below hdv) (HG.out.cops.below HTb.out |>.below hdv) Hk'.out hv256 Hfg'.out (Nat.le_trans HB0.out hdv.size) ((HG.out.gen.lies.below HTb.out (Nat.le_refl _)).below (hdv.mono HB0.out) (Nat.le_refl _))).mono ?_
        rintro e u5 ⟨x, rfl, hO, hbk⟩
        obtain ⟨A1, c1, rfl⟩ := hO.slice
        have hz := hK' _ _ (hK (.agg #[.int .i64 v, .slice A' n' c', .slice A1 v c1]) (u5) (HI.out.op3 l1 hL hbk (hO.lower (by omega))))
        refine Eq.mp (congrArg (fun a => K' a (u5)) ?_) hz
        kernel_rfl
      | 4, ho, hL, hdep, hK =>
        obtain rfl := Option.some.inj ho
        refine wpOp_step rfl fun K' hK' => ?_
        simp only [putL, updV]
        go_simp
        have hz := hK' _ _ (hK (.pointer (some ⟨u.heap.size, 0, none⟩)) ((u.alloc (.cells #[.int .i64 0, .slice none 0 0, .slice none 0 0] 53))) (HI.out.op4 hL))
        refine Eq.mp (congrArg (fun a => K' a ((u.alloc (.cells #[.int .i64 0, .slice none 0 0, .slice none 0 0] 53)))) ?_) hz
        kernel_rfl
      | 5, ho, hL, hdep, hK =>
        obtain rfl := Option.some.inj ho
        refine wpOp_step rfl fun K' hK' => ?_
        simp only [putL, updV]
        go_simp
        have hz := hK' _ _ (hK (.pointer (some ⟨u.heap.size, 0, none⟩)) ((u.alloc (.cells #[.int .i64 0, .slice none 0 0, .slice none 0 0] 53))) (HI.out.op5 hL))
        refine Eq.mp (congrArg (fun a => K' a ((u.alloc (.cells #[.int .i64 0, .slice none 0 0, .slice none 0 0] 53)))) ?_) hz
        kernel_rfl
      | 6, ho, hL, hdep, hK =>
        obtain rfl := Option.some.inj ho
        have l4 : L 4 = true := hdep ⟨4, .data⟩ (by simp) rfl
        have l5 : L 5 = true := hdep ⟨5, .phase⟩ (by simp) rfl
        have l3 : L 3 = true := hdep ⟨3, .chain⟩ (by simp) rfl
        have l7 : L 7 = false := by
          cases h : L 7 with
          | false => rfl
          | true => have := (HI.out.s7 h).1; rw [hL] at this; cases this
        obtain ⟨_, A1, c1, _, _, e1, _⟩ := HI.out.t3 l3
        obtain ⟨b, cs9, e0, hFb, h3, _⟩ := HI.out.p4 l4
        have HI9 := hid (HI.out.op6 (val := undef) hL l7 l3 l4 l5 e0 e1)
        unfold tabv at e1
        obtain ⟨x, y, z, hcs⟩ := h3
        subst hcs
        obtain ⟨c0, c1', c2⟩ := hFb.three
        have f0 := hFb.frozen 0
        have f1 := hFb.frozen 1
        have f2 := hFb.frozen 2
        have hlt := hFb.lt
        obtain ⟨f, rfl⟩ := fix1 f 4 _ e0
        rw [updV_ne _ _ (by decide)] at e1
        obtain ⟨f, rfl⟩ := fix1 f 1 _ e1
        refine wpOp_step rfl fun K' hK' => ?_
        simp only [putL, updV]
        go_simp
        have hz := hK' _ _ (hK (undef) (put3 u b (.int .i64 v) (.slice A n c) (.slice A1 v c1)) (HI9.out))
        refine Eq.mp (congrArg (fun a => K' a (put3 u b (.int .i64 v) (.slice A n c) (.slice A1 v c1))) ?_) hz
        kernel_rfl
      | 7, ho, hL, hdep, hK =>
        obtain rfl := Option.some.inj ho
        have l6 : L 6 = true := hdep ⟨6, .chain⟩ (by simp) rfl
        have l4 : L 4 = true := hdep ⟨4, .phase⟩ (by simp) rfl
        have l5 : L 5 = true := hdep ⟨5, .data⟩ (by simp) rfl
        have l3 : L 3 = true := hdep ⟨3, .data⟩ (by simp) rfl
        obtain ⟨_, _, _, A1, c1, _, e1, _⟩ := HI.out.t3 l3
        obtain ⟨b, cs9, e0, hFb, h3, _⟩ := HI.out.p5 l5
        have HI9 := hid (HI.out.op7 (val := undef) l6 hL l4 l5 e0 e1)
        unfold tabv at e1
        obtain ⟨x, y, z, hcs⟩ := h3
        subst hcs
        obtain ⟨c0, c1', c2⟩ := hFb.three
        have f0 := hFb.frozen 0
        have f1 := hFb.frozen 1
        have f2 := hFb.frozen 2
        have hlt := hFb.lt
        obtain ⟨f, rfl⟩ := fix1 f 5 _ e0
        rw [updV_ne _ _ (by decide)] at e1
        obtain ⟨f, rfl⟩ := fix1 f 3 _ e1
        refine wpOp_step rfl fun K' hK' => ?_
        simp only [putL, updV]
        go_simp
        have hz := hK' _ _ (hK (undef) (put3 u b (.int .i64 v) (.slice A' n' c') (.slice A1 v c1)) (HI9.out))
        refine Eq.mp (congrArg (fun a => K' a (put3 u b (.int .i64 v) (.slice A' n' c') (.slice A1 v c1))) ?_) hz
        kernel_rfl
      | j + 8, ho, hL, hdep, hK => exact absurd (Array.getElem?_eq_some_iff.1 ho).1 (by simp)
    · intro L f u hL hI
      obtain ⟨bx, by', A1, c1, A2, c2, e4, e5, hT⟩ := hI.done hL
      have HT := hid hT
      obtain ⟨f, rfl⟩ := fix1 f 4 _ e4
      rw [updV_ne _ _ (by decide)] at e5
      obtain ⟨f, rfl⟩ := fix1 f 5 _ e5
      clear hI hT e4 e5
      simp only [putL, updV]
      go_simp
      refine hKx _ _ ?_
      clear hKx
      have HU := hid (below_step HTb.out HT.out.bel)
      have HFu := hid (HF.out.below HU.out)
      have HGu := hid (HG.out.below HU.out)
      obtain ⟨x0, x1, x2⟩ := HT.out.x.three
      obtain ⟨y0, y1, y2⟩ := HT.out.y.three
      have hxl := HT.out.x.lt
      have hyl := HT.out.y.lt
      go_wp2_with fail
      have HO2 := hid (HT.out.o2.argO (Nat.le_trans HB0.out HT.out.bel.size) (fun i _ => (fit_oneR gs' (folB v ks' cs') v i).ok))
      refine (refImage2_any w.heap.size v A' A2 A n' c' c2 n c gs' gs (oneR gs' (folB v ks' cs') v) _ HGu.out.gen HO2.out HFu.out.gen hv256 Hfg'.out Hfg.out (fun i _ => fit_oneR _ _ _ _) HU.out.size (.inl (HG.out.gen.lies.below HU.out (Nat.le_refl _)))).mono ?_
      rw [imTo_val gs' ks' cs' rfl]
      rintro e u2 ⟨Z, nz, cz, rfl, haz, hrz, hbz⟩
      have hmz := haz.len.symm
      clear haz HO2
      obtain ⟨⟨z0, z1, z2, z3, z4⟩, hJ0⟩ := Jng.start (dz := cz) H1.out HT.out Hgw.out hbz hrz hmz
      generalize hJd : (fun b => valR gs' (oneR gs (folB v ks cs) v b) (folB v ks' cs') v) = J at *
      have HJ0 := hid hJ0
      clear hJ0 hbz hrz hmz x0 x1 x2 y0 y1 y2 hxl hyl HT HFu HGu HU
      generalize hzs : valR gs' gs (folB v ks' cs') v = zs at *
      have Hzs := hid hzs; have HJd := hid hJd
      clear hzs hJd
      go_wp2_with fail
      clear z0 z1 z2 z3 z4
      go_loopw [9] (fun iv wr => ∃ b : Nat, b ≤ v ∧ iv = .int .i64 b ∧ Hid (Jng w w1 v A B C n c m d k q A' B' C' n' c' m' d' k' q' bx by' Z nz cz A1 c1 A2 c2 zs (fun i => if i < b then J i else oneR gs (folB v ks cs) v i) (oneR gs' (folB v ks' cs') v) wr)) (fun iv _ => v - (intOf iv).toNat)
      case atStart => exact ⟨0, by omega, rfl, by simpa using HJ0⟩
      case round =>
        obtain ⟨b, hb, rfl, HJ⟩ := hrel
        obtain ⟨x0, x1, x2⟩ := HJ.out.x.three
        have hxl := HJ.out.x.lt
        by_cases hlt : b < v
        · have HBr := hid HJ.out.t.2.2.2.size
          obtain ⟨ad, E, x, y, rfl, had, c0, c1', hE, hE0⟩ := HJ.out.o1.at hlt HBr.out (by rw [if_neg (Nat.lt_irrefl b)]; exact fit_oneR _ _ _ _)
          rw [if_neg (Nat.lt_irrefl b)] at hE
          have HGw := hid (HG.out.gen.below HJ.out.t.2.2.2)
          have HO2 := hid (HJ.out.o2.argO HBr.out (fun i _ => (fit_oneR gs' (folB v ks' cs') v i).ok))
          have HZ2 := hid (show From wr w.heap.size A' gs' from .inl (HG.out.gen.lies.below HJ.out.t.2.2.2 (Nat.le_refl _)))
          have Had := hid had; have Hc0 := hid c0; have Hc1 := hid c1'; have HE := hid hE
          clear had c0 c1' hE hE0
          go_upto_region 9 with fail
          clear x0 x1 x2 hxl
          rename_i Kx hKx
          refine wp_region_facts (fun i => ([Fv (.pointer (some ⟨bx, 2, none⟩)), Fv (.slice (some ad) v c1), Fv (.int .i64 (b : Int)), Fv (.agg #[.int .i64 v, .slice A' n' c', .slice A2 v c2]), Fv (.pointer (some ⟨bx, 2, none⟩)), Fv (.slice (some ad) v c1), Fv (.int .i64 (b : Int)), Fv (.pointer (some (ad.add (b * 2)))), Fv (.agg #[.int .i64 v, .slice E x y]), Fset w.heap.size v (valR gs' (oneR gs (folB v ks cs) v b) (folB v ks' cs') v)]).getD i (fun _ _ => True)) (fun u' => Below wr.heap.size wr u') (fun _ => none) (fun _ a b => Below a.heap.size a b ∧ wr.heap.size ≤ a.heap.size) Kx (fun _ _ h => h) 12 10
            [some 33, some 34, some 35, some 36, some 37, some 38, some 39, some 40, some 41, some 42, some 43, none] (by kernel_rfl) (by kernel_rfl) (by kernel_rfl) (by kernel_rfl) (by kernel_rfl) (by kernel_rfl) (by decide)
            ?st (Below.refl _ _).drew ?ar ?en
          case st =>
            intro j a b' i z hb hne hu hF
            match i with
            | 0 => exact hF
            | 1 => exact hF
            | 2 => exact hF
            | 3 => exact hF
            | 4 => exact hF
            | 5 => exact hF
            | 6 => exact hF
            | 7 => exact hF
            | 8 => exact hF
            | 9 => exact Fset.stb (Nat.le_trans HBr.out hb.2) hb.1 hF
            | i + 10 => trivial
          case ar =>
            intro j o f u' ho hi hB hpre K hK
            match j, ho, hpre, hK with
            | 0, ho, hpre, hK =>
              obtain rfl := Option.some.inj ho
              refine wpOp_step rfl fun K' hK' => ?_
              simp only [putL, updV]
              go_simp
              have hz := hK' _ _ (hK (.pointer (some ⟨bx, 2, none⟩)) (u') (hB) (⟨Below.refl _ _, hB.size⟩) (rfl))
              refine Eq.mp (congrArg (fun a => K' a (u')) ?_) hz
              kernel_rfl
            | 1, ho, hpre, hK =>
              obtain rfl := Option.some.inj ho
              have e0 : f 0 = .pointer (some ⟨bx, 2, none⟩) := hpre ⟨0, .data⟩ (by simp) rfl (.inl rfl)
              obtain ⟨f, rfl⟩ := fix1 f 0 _ e0
              clear e0
              have hx := HJ.out.x.below hB HJ.out.x.lt
              obtain ⟨x0, x1, x2⟩ := hx.three
              have hxl := hx.lt
              refine wpOp_step rfl fun K' hK' => ?_
              simp only [putL, updV]
              go_simp
              have hz := hK' _ _ (hK (.slice (some ad) v c1) (u') (hB) (⟨Below.refl _ _, hB.size⟩) (rfl))
              refine Eq.mp (congrArg (fun a => K' a (u')) ?_) hz
              kernel_rfl
            | 2, ho, hpre, hK =>
              obtain rfl := Option.some.inj ho
              refine wpOp_step rfl fun K' hK' => ?_
              simp only [putL, updV]
              go_simp
              have hz := hK' _ _ (hK (.int .i64 (b : Int)) (u') (hB) (⟨Below.refl _ _, hB.size⟩) (rfl))
              refine Eq.mp (congrArg (fun a => K' a (u')) ?_) hz
              kernel_rfl
            | 3, ho, hpre, hK =>
              obtain rfl := Option.some.inj ho
              have hy := HJ.out.y.below hB HJ.out.y.lt
              obtain ⟨y0, y1, y2⟩ := hy.three
              have hyl := hy.lt
              refine wpOp_step rfl fun K' hK' => ?_
              simp only [putL, updV]
              go_simp
              have hz := hK' _ _ (hK (.agg #[.int .i64 v, .slice A' n' c', .slice A2 v c2]) (u') (hB) (⟨Below.refl _ _, hB.size⟩) (rfl))
              refine Eq.mp (congrArg (fun a => K' a (u')) ?_) hz
              kernel_rfl
            | 4, ho, hpre, hK =>
              obtain rfl := Option.some.inj ho
              refine wpOp_step rfl fun K' hK' => ?_
              simp only [putL, updV]
              go_simp
              have hz := hK' _ _ (hK (.pointer (some ⟨bx, 2, none⟩)) (u') (hB) (⟨Below.refl _ _, hB.size⟩) (rfl))
              refine Eq.mp (congrArg (fun a => K' a (u')) ?_) hz
              kernel_rfl
            | 5, ho, hpre, hK =>
              obtain rfl := Option.some.inj ho
              have e4 : f 4 = .pointer (some ⟨bx, 2, none⟩) := hpre ⟨4, .data⟩ (by simp) rfl (.inl rfl)
              obtain ⟨f, rfl⟩ := fix1 f 4 _ e4
              clear e4
              have hx := HJ.out.x.below hB HJ.out.x.lt
              obtain ⟨x0, x1, x2⟩ := hx.three
              have hxl := hx.lt
              refine wpOp_step rfl fun K' hK' => ?_
              simp only [putL, updV]
              go_simp
              have hz := hK' _ _ (hK (.slice (some ad) v c1) (u') (hB) (⟨Below.refl _ _, hB.size⟩) (rfl))
              refine Eq.mp (congrArg (fun a => K' a (u')) ?_) hz
              kernel_rfl
            | 6, ho, hpre, hK =>
              obtain rfl := Option.some.inj ho
              refine wpOp_step rfl fun K' hK' => ?_
              simp only [putL, updV]
              go_simp
              have hz := hK' _ _ (hK (.int .i64 (b : Int)) (u') (hB) (⟨Below.refl _ _, hB.size⟩) (rfl))
              refine Eq.mp (congrArg (fun a => K' a (u')) ?_) hz
              kernel_rfl
            | 7, ho, hpre, hK =>
              obtain rfl := Option.some.inj ho
              have e5 : f 5 = .slice (some ad) v c1 := hpre ⟨5, .data⟩ (by simp) rfl (.inl rfl)
              have e6 : f 6 = .int .i64 (b : Int) := hpre ⟨6, .data⟩ (by simp) rfl (.inl rfl)
              obtain ⟨f, rfl⟩ := fix1 f 5 _ e5
              rw [updV_ne _ _ (by decide)] at e6
              obtain ⟨f, rfl⟩ := fix1 f 6 _ e6
              clear e5 e6
              have k0 : (0 : Int) ≤ b := by omega
              have k1 : (b : Int) < v := by omega
              have k2 : (b : Int).toNat = b := by omega
              refine wpOp_step rfl fun K' hK' => ?_
              simp only [putL, updV]
              go_simp
              have hz := hK' _ _ (hK (.pointer (some (ad.add (b * 2)))) (u') (hB) (⟨Below.refl _ _, hB.size⟩) (rfl))
              refine Eq.mp (congrArg (fun a => K' a (u')) ?_) hz
              kernel_rfl
            | 8, ho, hpre, hK =>
              obtain rfl := Option.some.inj ho
              have e7 : f 7 = .pointer (some (ad.add (b * 2))) := hpre ⟨7, .data⟩ (by simp) rfl (.inl rfl)
              obtain ⟨f, rfl⟩ := fix1 f 7 _ e7
              clear e7
              have q0 := (hB.cell (p := ad.add (b * 2)) (by rw [add_block]; exact Had.out)).trans Hc0.out
              have q1 := (hB.cell (p := ⟨(ad.add (b * 2)).block, (ad.add (b * 2)).off + 1, none⟩) (by rw [add_block]; exact Had.out)).trans Hc1.out
              refine wpOp_step rfl fun K' hK' => ?_
              simp only [putL, updV]
              go_simp
              have hz := hK' _ _ (hK (.agg #[.int .i64 v, .slice E x y]) (u') (hB) (⟨Below.refl _ _, hB.size⟩) (rfl))
              refine Eq.mp (congrArg (fun a => K' a (u')) ?_) hz
              kernel_rfl
            | 9, ho, hpre, hK =>
              obtain rfl := Option.some.inj ho
              have e3 : f 3 = .agg #[.int .i64 v, .slice A' n' c', .slice A2 v c2] := hpre ⟨3, .data⟩ (by simp) rfl (.inl rfl)
              have e8 : f 8 = .agg #[.int .i64 v, .slice E x y] := hpre ⟨8, .data⟩ (by simp) rfl (.inl rfl)
              obtain ⟨f, rfl⟩ := fix1 f 3 _ e3
              rw [updV_ne _ _ (by decide)] at e8
              obtain ⟨f, rfl⟩ := fix1 f 8 _ e8
              clear e3 e8
              refine wpOp_step rfl fun K' hK' => ?_
              simp only [putL, updV]
              go_simp
              go_at_call 53
              refine (refImage2_any w.heap.size v A' A2 E n' c' c2 x y gs' (oneR gs (folB v ks cs) v b) (oneR gs' (folB v ks' cs') v) _ (HGw.out.below hB) (HO2.out.below hB) (HE.out.below hB) hv256 Hfg'.out (fit_oneR _ _ _ _) (fun i _ => fit_oneR _ _ _ _) (Nat.le_trans HBr.out hB.size) (HZ2.out.below hB HBr.out)).mono ?_
              rw [imTo_val gs' ks' cs' rfl]
              rintro e u5 ⟨A9, m9, d9, rfl, ha9, hr9, hbk⟩
              have HF9 := hid (show Fset w.heap.size v (valR gs' (oneR gs (folB v ks cs) v b) (folB v ks' cs') v) (.agg #[.int .i64 v, .slice A9 m9 d9]) u5 from ⟨_, m9, d9, rfl, hr9, ha9.len.symm⟩)
              have hz := hK' _ _ (hK (.agg #[.int .i64 v, .slice A9 m9 d9]) (u5) (below_step hB hbk) (⟨hbk, hB.size⟩) (HF9.out))
              refine Eq.mp (congrArg (fun a => K' a (u5)) ?_) hz
              kernel_rfl
            | j + 10, ho, hpre, hK => exact absurd hi (by omega)
          case en =>
            intro Q2 hQ2 f u' hB hF
            have e1 : f 1 = .slice (some ad) v c1 := hF 1 (by decide) rfl
            have e2 : f 2 = .int .i64 (b : Int) := hF 2 (by decide) rfl
            obtain ⟨A9, m9, d9, ec, hr9, hm9⟩ : Fset w.heap.size v (valR gs' (oneR gs (folB v ks cs) v b) (folB v ks' cs') v) (f 9) u' := hF 9 (by decide) rfl
            obtain ⟨f, rfl⟩ := fix1 f 1 _ e1
            rw [updV_ne _ _ (by decide)] at e2 ec
            obtain ⟨f, rfl⟩ := fix1 f 2 _ e2
            rw [updV_ne _ _ (by decide)] at ec
            obtain ⟨f, rfl⟩ := fix1 f 9 _ ec
            have HJu := hid (HJ.out.below hB)
            obtain ⟨ad9, ead, hla, ⟨E9, x9, y9, s0, s1, s2⟩, f0, f1, hJn⟩ := HJu.out.put (d9 := d9) hlt hr9 hm9
            injection ead with ead
            subst ead
            have HJn := hid hJn
            clear hB hF e1 e2 ec hr9 hm9 hJn
            show wpAny _ _ _ _ 2 (tailArr 12 10) _ _
            generalize hA : putL _ _ _ _ = aa
            refine tail_two (i := 10) (j := 11) ?q1 ?q2 ?q3 rfl rfl hQ2 ?q4
            case q1 => kernel_rfl
            case q2 => kernel_rfl
            case q3 => kernel_rfl
            simp only [putL, updV] at hA
            rw [← hA]
            clear hA
            have k0 : (0 : Int) ≤ b := by omega
            have k1 : (b : Int) < v := by omega
            have k2 : (b : Int).toNat = b := by omega
            go_simp
            refine hKx _ _ ?_
            clear hKx k0 k1 k2
            have HJn := hid (show Jng w w1 v A B C n c m d k q A' B' C' n' c' m' d' k' q' bx by' Z nz cz (some ad) c1 A2 c2 zs (fun i => if i < b + 1 then J i else oneR gs (folB v ks cs) v i) (oneR gs' (folB v ks' cs') v) ((u'.setCell (ad.add (b * 2)) (.int .i64 v)).setCell ⟨(ad.add (b * 2)).block, (ad.add (b * 2)).off + 1, none⟩ (.slice A9 m9 d9)) from by
              have h9 := HJn.out
              rw [show upd1 (fun i => if i < b then J i else oneR gs (folB v ks cs) v i) b (valR gs' (oneR gs (folB v ks cs) v b) (folB v ks' cs') v) = (fun i => if i < b + 1 then J i else oneR gs (folB v ks cs) v i) from by
                rw [show (valR gs' (oneR gs (folB v ks cs) v b) (folB v ks' cs') v) = J b from by rw [← HJd.out]]; exact upd1_step _ _ _] at h9
              exact h9)
            go_wp2_with fail
            go_roundw
            case rel => exact ⟨b + 1, by omega, by go_num, HJn⟩
            case measure => simp [intOf]; omega
        · have hbv : b = v := by omega
          subst hbv
          have HBr := hid HJ.out.t.2.2.2.size
          have Hfz := hid (show Bs.Fit b zs from by rw [← Hzs.out]; exact fit_valR _ _ _ _)
          have Hfo := hid (show ∀ i, i < b → Bs.Fit b ((fun i => if i < b then J i else oneR gs (folB b ks cs) b i) i) from fun i hi => by
            show Bs.Fit b (if i < b then J i else _)
            rw [if_pos hi, ← HJd.out]; exact fit_valR _ _ _ _)
          have HZ := hid (HJ.out.z.arg HBr.out HJ.out.zl Hfz.out.ok)
          have HO := hid (HJ.out.o1.argO HBr.out (fun i hi => (Hfo.out i hi).ok))
          go_wp2_with fail
          refine (refMade_any b Z A1 nz cz c1 zs (fun i => if i < b then J i else oneR gs (folB b ks cs) b i) _ HZ.out HO.out hv256 Hfz.out Hfo.out).mono ?_
          rw [madeR_congr (two := J) (fun a b' ha _ => by show Bs.bit (if a < b then J a else _) b' = _; rw [if_pos ha])]
          have Hr := hid (show composeR b gs b ks cs b gs' b ks' cs' = madeR b zs J from by rw [Hr.out, ← Hzs.out, ← HJd.out])
          obtain ⟨r, hrr⟩ : ∃ r, madeR b zs J = r := ⟨_, rfl⟩
          rw [hrr] at Hr ⊢
          clear hrr
          obtain ⟨W8, gs8, ks8, cs8, er8⟩ := r
          rintro e w8 ⟨A8, n8, c8, B8, m8, d8, C8, q8, rfl, hA8, hB8, hC8, hbk⟩
          have H8 := hid (HJ.out.t.below hbk)
          obtain ⟨r0, r1, r2, r3, r4⟩ := H8.out.2.2.1.five
          have f0 := H8.out.2.2.1.frozen 0
          have f1 := H8.out.2.2.1.frozen 1
          have f2 := H8.out.2.2.1.frozen 2
          have f3 := H8.out.2.2.1.frozen 3
          have f4 := H8.out.2.2.1.frozen 4
          have hlR := H8.out.2.2.1.lt
          have Fin := hid (RetT.stored (w := w) (err := er8) (c := c8) (d := d8) (q := q8) (W := W8) hA8 hB8 hC8 H8.out.2.2.2 (by omega) H8.out.2.2.1)
          unfold stored5 at Fin
          clear hbk hA8 hB8 hC8 x0 x1 x2 hxl HJ
          go_wp2_with fail
          refine bodyPost_ret (v := .tuple #[.agg #[.int .i64 W8, .slice A8 n8 c8, .int .i64 W8, .slice B8 m8 d8, .slice C8 cs8.length q8], .int .i64 er8]) (by simp [results, Try.results25, go_sem, r0, r1, r2, r3, r4]) rfl ?_
          rw [Hr.out]
          exact Fin.out
end Go.Proofs.Ytmbelhdkaepohaa

namespace Go.Proofs.Ytmbelhdkaepohaa
set_option maxRecDepth 20000
set_option linter.unusedVariables false
set_option linter.unusedSimpArgs false
open Go.ChangeShapes Go.WideShapes Go.ChangeAt Go.RowKit

/-- The reference's order, as far as it has come. -/
def belTo (v : Nat) (gs ks : List Nat) (cs : List (Int × Int)) (gs' ks' : List Nat) (cs' : List (Int × Int)) (b : Nat) : Bool :=
  subsetB v gs v gs' && (List.range b).all fun a => subsetB v (oneR gs (folB v ks cs) v a) v (oneR gs' (folB v ks' cs') v a)
theorem belTo_succ (v : Nat) (gs ks : List Nat) (cs : List (Int × Int)) (gs' ks' : List Nat) (cs' : List (Int × Int)) (b : Nat) :
    belTo v gs ks cs gs' ks' cs' (b + 1) = (belTo v gs ks cs gs' ks' cs' b && subsetB v (oneR gs (folB v ks cs) v b) v (oneR gs' (folB v ks' cs') v b)) := by
  unfold belTo
  rw [List.range_succ, List.all_append]
  simp [Bool.and_assoc]
/-- Two functions in two new blocks, and their tables. -/
structure Bel2 (w w1 : World) (v : Nat) (A B C : Option Addr) (n c m d k q : Nat) (A' B' C' : Option Addr) (n' c' m' d' k' q' : Nat) (bx by' : Nat) (A1 : Option Addr) (c1 : Nat) (A2 : Option Addr) (c2 : Nat) (one1 one2 : Nat → List Nat) (u : World) : Prop where
  t : TwoT w v v A B C n c m d k q v v A' B' C' n' c' m' d' k' q' u
  x : Fb u bx #[.int .i64 v, .slice A n c, .slice A1 v c1] 53
  y : Fb u by' #[.int .i64 v, .slice A' n' c', .slice A2 v c2] 53
  o1 : Ones u w1.heap.size w.heap.size v (.slice A1 v c1) one1 v
  o2 : Ones u w1.heap.size w.heap.size v (.slice A2 v c2) one2 v
theorem Bel2.below {w w1 : World} {v : Nat} {A B C : Option Addr} {n c m d k q : Nat} {A' B' C' : Option Addr} {n' c' m' d' k' q' : Nat} {bx by' : Nat} {A1 : Option Addr} {c1 : Nat} {A2 : Option Addr} {c2 : Nat} {one1 one2 : Nat → List Nat} {u u' : World}
    (h : Bel2 w w1 v A B C n c m d k q A' B' C' n' c' m' d' k' q' bx by' A1 c1 A2 c2 one1 one2 u) (hb : Below u.heap.size u u') : Bel2 w w1 v A B C n c m d k q A' B' C' n' c' m' d' k' q' bx by' A1 c1 A2 c2 one1 one2 u' :=
  ⟨h.t.below hb, h.x.below hb h.x.lt, h.y.below hb h.y.lt, h.o1.below hb h.t.2.2.size, h.o2.below hb h.t.2.2.size⟩
set_option maxHeartbeats 6400000 in
theorem refBelow_any (W V : Int) (A B C : Option Addr) (n c m d k q : Nat) (gs ks : List Nat) (cs : List (Int × Int)) (W' V' : Int) (A' B' C' : Option Addr) (n' c' m' d' k' q' : Nat) (gs' ks' : List Nat) (cs' : List (Int × Int)) (w : World)
    (hF : FArg w A n B m C k gs ks cs) (hG : FArg w A' n' B' m' C' k' gs' ks' cs') :
    Calls Try.prog 29 #[.agg #[.int .i64 W, .slice A n c, .int .i64 V, .slice B m d, .slice C k q], .agg #[.int .i64 W', .slice A' n' c', .int .i64 V', .slice B' m' d', .slice C' k' q']] w
      fun e w' => e = .returned (.bool (refBelG W gs V ks cs W' gs' V' ks' cs')) ∧ Below w.heap.size w w' := by
  have HF := hid hF; have HG := hid hG
  have H0 := hid (TwoT.start w W V A B C n c m d k q W' V' A' B' C' n' c' m' d' k' q')
  clear hF hG
  go_enter Try.func29, Try.ntmps29
  go_wp2_with fail
  have HF0 := hid (HF.out.below H0.out.2.2)
  refine (refValidT_any W V A B C n c m d k q gs ks cs _ HF0.out.gen HF0.out.kill HF0.out.cops).mono ?_
  cases hv : validT W gs V ks cs with
  | false =>
    have Hr := hid (show refBelG W gs V ks cs W' gs' V' ks' cs' = false by unfold refBelG; rw [hv]; rfl)
    rintro e w1 ⟨rfl, hb1⟩
    have H1 := hid (H0.out.below hb1)
    clear hb1 hv HF0
    go_wp2
    go_ret
    exact ⟨ret_bool Hr.out.symm, H1.out.2.2⟩
  | true =>
    have Hv := hid hv
    rintro e w1 ⟨rfl, hb1⟩
    have H1 := hid (H0.out.below hb1)
    clear hb1 hv HF0
    obtain ⟨t0, t1, t2, t3, t4⟩ := H1.out.2.1.five
    have HG1 := hid (HG.out.below H1.out.2.2)
    go_wp2_with fail
    refine (refValidT_any W' V' A' B' C' n' c' m' d' k' q' gs' ks' cs' _ HG1.out.gen HG1.out.kill HG1.out.cops).mono ?_
    cases hv2 : validT W' gs' V' ks' cs' with
    | false =>
      have Hr := hid (show refBelG W gs V ks cs W' gs' V' ks' cs' = false by unfold refBelG; rw [hv2]; simp)
      rintro e w2 ⟨rfl, hb2⟩
      have H2 := hid (H1.out.below hb2)
      clear hb2 hv2 HG1 t0 t1 t2 t3 t4
      go_wp2
      go_ret
      exact ⟨ret_bool Hr.out.symm, H2.out.2.2⟩
    | true =>
      have Hv2 := hid hv2
      rintro e w2 ⟨rfl, hb2⟩
      have H2 := hid (H1.out.below hb2)
      clear hb2 hv2 HG1 t0 t1 t2 t3 t4 H1
      have t0 : w2.cell? ⟨w.heap.size + 1, 0, none⟩ = some (.int .i64 W') := H2.out.2.1.cell 0
      have s0 : w2.cell? ⟨w.heap.size, 0, none⟩ = some (.int .i64 W) := H2.out.1.cell 0
      by_cases hw : W = W'
      · have tt : (W != W') = false := by simp [hw]
        subst hw
        obtain ⟨h1, h2, h3, h4, h5⟩ := validT_iff Hv.out
        obtain ⟨g1, g2, g3, g4, g5⟩ := validT_iff Hv2.out
        subst h3
        subst g3
        obtain ⟨v, rfl⟩ := Int.eq_ofNat_of_zero_le (Bs.validB_iff.1 h1).1
        have hv256 : v ≤ 256 := by have := (Bs.validB_iff.1 h1).2.1; omega
        have hfg := fit_of_valid' h1 HF.out.gen
        have hfg' := fit_of_valid' g1 HG.out.gen
        have Hk := hid (show k ≤ maxLen by rw [HF.out.cops.len] at h4; unfold maxLen; omega)
        have Hk' := hid (show k' ≤ maxLen by rw [HG.out.cops.len] at g4; unfold maxLen; omega)
        have Hr := hid (show refBelG v gs v ks cs v gs' v ks' cs' = belTo v gs ks cs gs' ks' cs' v by unfold refBelG; rw [Hv.out, Hv2.out, Int.toNat_natCast]; simp [refBel, belTo])
        have Hfg := hid hfg; have Hfg' := hid hfg'
        clear h1 h2 h4 h5 g1 g2 g4 g5 hfg hfg' Hv Hv2
        have H1 := H2
        have HTb := hid H1.out.2.2
        have HB0 := hid H1.out.2.2.size
        clear H2 H0
        go_upto_region 3 with fail
        clear tt t0 s0
        generalize w2 = w1 at *
        rename_i Kx hKx
        refine wp_region_inv (fun L f u => I4 w1 w.heap.size v (.agg #[.int .i64 v, .slice A n c, .int .i64 v, .slice B m d, .slice C k q]) (.agg #[.int .i64 v, .slice A' n' c', .int .i64 v, .slice B' m' d', .slice C' k' q']) A n c (oneR gs (folB v ks cs) v) A' n' c' (oneR gs' (folB v ks' cs') v) L f u) Kx (fun _ _ h => h) 8 [some 26, some 27, some 28, some 29, some 5, some 6, none, none] (by kernel_rfl) (by kernel_rfl) (by kernel_rfl) (by kernel_rfl) (by kernel_rfl) (fun f => I4.start HB0.out f) ?_ ?_
        · intro j o L f u ho hL hdep hI K hK
          have HI := hid hI
          match j, ho, hL, hdep, hK with
          | 0, ho, hL, hdep, hK =>
            obtain rfl := Option.some.inj ho
            obtain ⟨c0, c1, c2, c3, c4⟩ := (H1.out.1.below HI.out.bel H1.out.1.lt).five
            have hlt := (H1.out.1.below HI.out.bel H1.out.1.lt).lt
            refine wpOp_step rfl fun K' hK' => ?_
            simp only [putL, updV]
            go_simp
            have hz := hK' _ _ (hK (.agg #[.int .i64 v, .slice A n c, .int .i64 v, .slice B m d, .slice C k q]) (u) (HI.out.op0))
            refine Eq.mp (congrArg (fun a => K' a (u)) ?_) hz
            kernel_rfl
          | 1, ho, hL, hdep, hK =>
            obtain rfl := Option.some.inj ho
            have e0 : f 0 = .agg #[.int .i64 v, .slice A n c, .int .i64 v, .slice B m d, .slice C k q] := HI.out.l0 (hdep ⟨0, .data⟩ (by simp) rfl)
            obtain ⟨f, rfl⟩ := fix1 f 0 _ e0
            refine wpOp_step rfl fun K' hK' => ?_
            simp only [putL, updV]
            go_simp
            have hdv := HI.out.bel
            go_at_call 21
            refine (refTable0_any w.heap.size v A B C n c m d k q gs ks cs _ (HF.out.gen.below HTb.out |>.below hdv) (HF.out.kill.below HTb.out |>.below hdv) (HF.out.cops.below HTb.out |>.below hdv) Hk.out hv256 Hfg.out (Nat.le_trans HB0.out hdv.size) ((HF.out.gen.lies.below HTb.out (Nat.le_refl _)).below (hdv.mono HB0.out) (Nat.le_refl _))).mono ?_
            rintro e u5 ⟨x, rfl, hO, hbk⟩
            obtain ⟨A1, c1, rfl⟩ := hO.slice
            have hz := hK' _ _ (hK (.agg #[.int .i64 v, .slice A n c, .slice A1 v c1]) (u5) (HI.out.op1 hL hbk (hO.lower (Nat.le_trans hdv.size (by omega)))))
            refine Eq.mp (congrArg (fun a => K' a (u5)) ?_) hz
            kernel_rfl
          | 2, ho, hL, hdep, hK =>
            obtain rfl := Option.some.inj ho
            obtain ⟨c0, c1, c2, c3, c4⟩ := (H1.out.2.1.below HI.out.bel H1.out.2.1.lt).five
            have hlt := (H1.out.2.1.below HI.out.bel H1.out.2.1.lt).lt
            refine wpOp_step rfl fun K' hK' => ?_
            simp only [putL, updV]
            go_simp
            have hz := hK' _ _ (hK (.agg #[.int .i64 v, .slice A' n' c', .int .i64 v, .slice B' m' d', .slice C' k' q']) (u) (HI.out.op2))
            refine Eq.mp (congrArg (fun a => K' a (u)) ?_) hz
            kernel_rfl
          | 3, ho, hL, hdep, hK =>
            obtain rfl := Option.some.inj ho
            have e0 : f 2 = .agg #[.int .i64 v, .slice A' n' c', .int .i64 v, .slice B' m' d', .slice C' k' q'] := HI.out.l2 (hdep ⟨2, .data⟩ (by simp) rfl)
            have l1 : L 1 = true := hdep ⟨1, .chain⟩ (by simp) rfl
            obtain ⟨f, rfl⟩ := fix1 f 2 _ e0
            refine wpOp_step rfl fun K' hK' => ?_
            simp only [putL, updV]
            go_simp
            have hdv := HI.out.bel
            go_at_call 21
            refine (refTable0_any w.heap.size v A' B' C' n' c' m' d' k' q' gs' ks' cs' _ (HG.out.gen.below HTb.out |>.below hdv) (HG.out.kill.below HTb.out |>.below hdv) (HG.out.cops.below HTb.out |>.below hdv) Hk'.out hv256 Hfg'.out (Nat.le_trans HB0.out hdv.size) ((HG.out.gen.lies.below HTb.out (Nat.le_refl _)).below (hdv.mono HB0.out) (Nat.le_refl _))).mono ?_
            rintro e u5 ⟨x, rfl, hO, hbk⟩
            obtain ⟨A1, c1, rfl⟩ := hO.slice
            have hz := hK' _ _ (hK (.agg #[.int .i64 v, .slice A' n' c', .slice A1 v c1]) (u5) (HI.out.op3 l1 hL hbk (hO.lower (by omega))))
            refine Eq.mp (congrArg (fun a => K' a (u5)) ?_) hz
            kernel_rfl
          | 4, ho, hL, hdep, hK =>
            obtain rfl := Option.some.inj ho
            refine wpOp_step rfl fun K' hK' => ?_
            simp only [putL, updV]
            go_simp
            have hz := hK' _ _ (hK (.pointer (some ⟨u.heap.size, 0, none⟩)) ((u.alloc (.cells #[.int .i64 0, .slice none 0 0, .slice none 0 0] 53))) (HI.out.op4 hL))
            refine Eq.mp (congrArg (fun a => K' a ((u.alloc (.cells #[.int .i64 0, .slice none 0 0, .slice none 0 0] 53)))) ?_) hz
            kernel_rfl
          | 5, ho, hL, hdep, hK =>
            obtain rfl := Option.some.inj ho
            refine wpOp_step rfl fun K' hK' => ?_
            simp only [putL, updV]
            go_simp
            have hz := hK' _ _ (hK (.pointer (some ⟨u.heap.size, 0, none⟩)) ((u.alloc (.cells #[.int .i64 0, .slice none 0 0, .slice none 0 0] 53))) (HI.out.op5 hL))
            refine Eq.mp (congrArg (fun a => K' a ((u.alloc (.cells #[.int .i64 0, .slice none 0 0, .slice none 0 0] 53)))) ?_) hz
            kernel_rfl
          | 6, ho, hL, hdep, hK =>
            obtain rfl := Option.some.inj ho
            have l4 : L 4 = true := hdep ⟨4, .data⟩ (by simp) rfl
            have l5 : L 5 = true := hdep ⟨5, .phase⟩ (by simp) rfl
            have l3 : L 3 = true := hdep ⟨3, .chain⟩ (by simp) rfl
            have l7 : L 7 = false := by
              cases h : L 7 with
              | false => rfl
              | true => have := (HI.out.s7 h).1; rw [hL] at this; cases this
            obtain ⟨_, A1, c1, _, _, e1, _⟩ := HI.out.t3 l3
            obtain ⟨b, cs9, e0, hFb, h3, _⟩ := HI.out.p4 l4
            have HI9 := hid (HI.out.op6 (val := undef) hL l7 l3 l4 l5 e0 e1)
            unfold tabv at e1
            obtain ⟨x, y, z, hcs⟩ := h3
            subst hcs
            obtain ⟨c0, c1', c2⟩ := hFb.three
            have f0 := hFb.frozen 0
            have f1 := hFb.frozen 1
            have f2 := hFb.frozen 2
            have hlt := hFb.lt
            obtain ⟨f, rfl⟩ := fix1 f 4 _ e0
            rw [updV_ne _ _ (by decide)] at e1
            obtain ⟨f, rfl⟩ := fix1 f 1 _ e1
            refine wpOp_step rfl fun K' hK' => ?_
            simp only [putL, updV]
            go_simp
            have hz := hK' _ _ (hK (undef) (put3 u b (.int .i64 v) (.slice A n c) (.slice A1 v c1)) (HI9.out))
            refine Eq.mp (congrArg (fun a => K' a (put3 u b (.int .i64 v) (.slice A n c) (.slice A1 v c1))) ?_) hz
            kernel_rfl
          | 7, ho, hL, hdep, hK =>
            obtain rfl := Option.some.inj ho
            have l6 : L 6 = true := hdep ⟨6, .chain⟩ (by simp) rfl
            have l4 : L 4 = true := hdep ⟨4, .phase⟩ (by simp) rfl
            have l5 : L 5 = true := hdep ⟨5, .data⟩ (by simp) rfl
            have l3 : L 3 = true := hdep ⟨3, .data⟩ (by simp) rfl
            obtain ⟨_, _, _, A1, c1, _, e1, _⟩ := HI.out.t3 l3
            obtain ⟨b, cs9, e0, hFb, h3, _⟩ := HI.out.p5 l5
            have HI9 := hid (HI.out.op7 (val := undef) l6 hL l4 l5 e0 e1)
            unfold tabv at e1
            obtain ⟨x, y, z, hcs⟩ := h3
            subst hcs
            obtain ⟨c0, c1', c2⟩ := hFb.three
            have f0 := hFb.frozen 0
            have f1 := hFb.frozen 1
            have f2 := hFb.frozen 2
            have hlt := hFb.lt
            obtain ⟨f, rfl⟩ := fix1 f 5 _ e0
            rw [updV_ne _ _ (by decide)] at e1
            obtain ⟨f, rfl⟩ := fix1 f 3 _ e1
            refine wpOp_step rfl fun K' hK' => ?_
            simp only [putL, updV]
            go_simp
            have hz := hK' _ _ (hK (undef) (put3 u b (.int .i64 v) (.slice A' n' c') (.slice A1 v c1)) (HI9.out))
            refine Eq.mp (congrArg (fun a => K' a (put3 u b (.int .i64 v) (.slice A' n' c') (.slice A1 v c1))) ?_) hz
            kernel_rfl
          | j + 8, ho, hL, hdep, hK => exact absurd (Array.getElem?_eq_some_iff.1 ho).1 (by simp)
        · intro L f u hL hI
          obtain ⟨bx, by', A1, c1, A2, c2, e4, e5, hT⟩ := hI.done hL
          have HT := hid hT
          obtain ⟨f, rfl⟩ := fix1 f 4 _ e4
          rw [updV_ne _ _ (by decide)] at e5
          obtain ⟨f, rfl⟩ := fix1 f 5 _ e5
          clear hI hT e4 e5
          simp only [putL, updV]
          go_simp
          refine hKx _ _ ?_
          clear hKx
          have HU := hid (below_step HTb.out HT.out.bel)
          have HFu := hid (HF.out.below HU.out)
          have HGu := hid (HG.out.below HU.out)
          have HB := hid (show Bel2 w w1 v A B C n c m d k q A' B' C' n' c' m' d' k' q' bx by' A1 c1 A2 c2 (oneR gs (folB v ks cs) v) (oneR gs' (folB v ks' cs') v) u from ⟨H1.out.below HT.out.bel, HT.out.x, HT.out.y, HT.out.o1, HT.out.o2⟩)
          obtain ⟨x0, x1, x2⟩ := HB.out.x.three
          obtain ⟨y0, y1, y2⟩ := HB.out.y.three
          have hxl := HB.out.x.lt
          have hyl := HB.out.y.lt
          clear HT
          go_wp2_with fail
          refine (refSubset_any v v A A' n c n' c' gs gs' _ HFu.out.gen HGu.out.gen).mono ?_
          have HT0 := hid (show subsetB v gs v gs' = belTo v gs ks cs gs' ks' cs' 0 by unfold belTo; simp)
          rw [HT0.out]
          rintro e u2 ⟨rfl, hbz⟩
          have HB2 := hid (HB.out.below hbz)
          clear hbz x0 x1 x2 y0 y1 y2 hxl hyl HFu HGu HU HB
          go_wp2_with fail
          go_loopw [7, 8] (fun ov iv wr => ∃ b : Nat, b ≤ v ∧ iv = .int .i64 b ∧ ov = .bool (belTo v gs ks cs gs' ks' cs' b) ∧ Hid (Bel2 w w1 v A B C n c m d k q A' B' C' n' c' m' d' k' q' bx by' A1 c1 A2 c2 (oneR gs (folB v ks cs) v) (oneR gs' (folB v ks' cs') v) wr)) (fun _ iv _ => v - (intOf iv).toNat)
          case atStart => exact ⟨0, by omega, rfl, rfl, HB2⟩
          case round =>
            obtain ⟨b, hb, rfl, rfl, HJ⟩ := hrel
            obtain ⟨x0, x1, x2⟩ := HJ.out.x.three
            have hxl := HJ.out.x.lt
            by_cases hlt : b < v
            · have HS := hid (belTo_succ v gs ks cs gs' ks' cs' b)
              cases hok : belTo v gs ks cs gs' ks' cs' b with
              | false =>
                have HS := hid (show belTo v gs ks cs gs' ks' cs' (b + 1) = false by rw [HS.out, hok]; rfl)
                clear hok
                go_wp2_with fail
                go_quiet (fail)
                have HJ2 := hid (HJ.out.below (below_drewN (Below.refl _ _) nq))
                clear x0 x1 x2 hxl HJ
                generalize wr.drewN nq = wn at *
                go_wp2
                go_roundw
                case rel => exact ⟨b + 1, by omega, by go_num, by rw [HS.out], HJ2⟩
                case measure => simp [intOf]; omega
              | true =>
                have HS := hid (show belTo v gs ks cs gs' ks' cs' (b + 1) = subsetB v (oneR gs (folB v ks cs) v b) v (oneR gs' (folB v ks' cs') v b) by rw [HS.out, hok]; rfl)
                clear hok
                have HBr := hid HJ.out.t.2.2.size
                obtain ⟨ad, E, x, y, rfl, had, c0, c1', hE, hE0⟩ := HJ.out.o1.at hlt HBr.out (fit_oneR _ _ _ _)
                obtain ⟨ad2, E2, x2', y2', rfl, had2, d0, d1, hE2, hE20⟩ := HJ.out.o2.at hlt HBr.out (fit_oneR _ _ _ _)
                obtain ⟨y0, y1, y2⟩ := HJ.out.y.three
                have hyl := HJ.out.y.lt
                have HE := hid hE; have HE2 := hid hE2
                have k0 : (0 : Int) ≤ b := by omega
                have k1 : (b : Int) < v := by omega
                have k2 : (b : Int).toNat = b := by omega
                clear hE hE0 hE2 hE20
                go_wp2_with fail
                refine wp_region_still_tail 12 (by kernel_rfl) (by kernel_rfl) ?_
                simp only [List.take_succ_cons, List.take_zero, List.drop_succ_cons, List.drop_zero]
                repeat still_step
                try refine wpStill_nil ?_
                change wpList _ _ _ _ _ wr.drew
                have HJ2 := hid (HJ.out.below (below_drewN (Below.refl _ _) 1))
                have HEd := hid (HE.out.below (below_drewN (Below.refl _ _) 1))
                have HE2d := hid (HE2.out.below (below_drewN (Below.refl _ _) 1))
                change Hid (Bel2 w w1 v A B C n c m d k q A' B' C' n' c' m' d' k' q' bx by' _ c1 _ c2 _ _ wr.drew) at HJ2
                change Hid (Arg wr.drew E x _) at HEd
                change Hid (Arg wr.drew E2 x2' _) at HE2d
                clear k0 k1 k2 x0 x1 x2 y0 y1 y2 c0 c1' d0 d1 had had2 hxl hyl HE HE2 HJ
                generalize wr.drew = wd at *
                go_wp2_with fail
                refine (refSubset_any v v E E2 x y x2' y2' (oneR gs (folB v ks cs) v b) (oneR gs' (folB v ks' cs') v b) _ HEd.out HE2d.out).mono ?_
                rw [← HS.out]
                rintro e u5 ⟨rfl, hb5⟩
                have HJ3 := hid (HJ2.out.below hb5)
                clear hb5
                go_wp2_with fail
                go_roundw
                case rel => exact ⟨b + 1, by omega, by go_num, rfl, HJ3⟩
                case measure => simp [intOf]; omega
            · have hbv : b = v := by omega
              subst hbv
              go_wp2
              go_ret
              exact ⟨ret_bool Hr.out.symm, HJ.out.t.2.2⟩
      · have Hr := hid (show refBelG W gs V ks cs W' gs' V' ks' cs' = false by unfold refBelG; simp [hw])
        have tt : (W != W') = true := by simp [hw]
        clear hw
        go_wp2
        go_ret
        exact ⟨ret_bool Hr.out.symm, H2.out.2.2⟩

set_option maxHeartbeats 800000 in
theorem refSameF_any (W V : Int) (A B C : Option Addr) (n c m d k q : Nat) (gs ks : List Nat) (cs : List (Int × Int)) (W' V' : Int) (A' B' C' : Option Addr) (n' c' m' d' k' q' : Nat) (gs' ks' : List Nat) (cs' : List (Int × Int)) (w : World)
    (hF : FArg w A n B m C k gs ks cs) (hG : FArg w A' n' B' m' C' k' gs' ks' cs') :
    Calls Try.prog 27 #[.agg #[.int .i64 W, .slice A n c, .int .i64 V, .slice B m d, .slice C k q], .agg #[.int .i64 W', .slice A' n' c', .int .i64 V', .slice B' m' d', .slice C' k' q']] w
      fun e w' => e = .returned (.bool (refBelG W gs V ks cs W' gs' V' ks' cs' && refBelG W' gs' V' ks' cs' W gs V ks cs)) ∧ Below w.heap.size w w' := by
  have HF := hid hF; have HG := hid hG
  have H0 := hid (TwoT.start w W V A B C n c m d k q W' V' A' B' C' n' c' m' d' k' q')
  clear hF hG
  go_enter Try.func27, Try.ntmps27
  go_wp2_with fail
  refine (refBelow_any W V A B C n c m d k q gs ks cs W' V' A' B' C' n' c' m' d' k' q' gs' ks' cs' _ (HF.out.below H0.out.2.2) (HG.out.below H0.out.2.2)).mono ?_
  cases h1 : refBelG W gs V ks cs W' gs' V' ks' cs' with
  | false =>
    have Hh := hid h1
    rintro e w1 ⟨rfl, hb1⟩
    have H1 := hid (H0.out.below hb1)
    clear hb1 h1
    go_wp2
    go_ret
    exact ⟨ret_bool (by rw [Hh.out]; rfl), H1.out.2.2⟩
  | true =>
    have Hh := hid h1
    rintro e w1 ⟨rfl, hb1⟩
    have H1 := hid (H0.out.below hb1)
    clear hb1 h1
    obtain ⟨t0, t1, t2, t3, t4⟩ := H1.out.2.1.five
    obtain ⟨s0, s1, s2, s3, s4⟩ := H1.out.1.five
    go_wp2_with fail
    refine (refBelow_any W' V' A' B' C' n' c' m' d' k' q' gs' ks' cs' W V A B C n c m d k q gs ks cs _ (HG.out.below H1.out.2.2) (HF.out.below H1.out.2.2)).mono ?_
    generalize hr : refBelG W' gs' V' ks' cs' W gs V ks cs = r
    have Hr := hid hr
    clear hr
    rintro e w2 ⟨rfl, hb2⟩
    have H2 := hid (H1.out.below hb2)
    clear hb2 t0 t1 t2 t3 t4 s0 s1 s2 s3 s4
    go_wp2
    go_ret
    exact ⟨ret_bool (by rw [Hh.out, Bool.true_and]; exact Hr.out.symm), H2.out.2.2⟩
end Go.Proofs.Ytmbelhdkaepohaa

namespace Go.Proofs.Ytmbelhdkaepohaa
set_option maxRecDepth 20000
open Go.ChangeShapes Go.WideShapes Go.ChangeAt Go.RowKit

/-- A valid function of width W came back, its words in rows; nothing but the tape has changed. -/
def GenT2 (w : World) (T W : Nat) (e : Ending) (w' : World) : Prop :=
  ∃ (g1 g2 : Nat) (C : Option Addr) (k q : Nat) (gs ks : List Nat) (cs : List (Int × Int)),
    e = .returned (.agg #[.int .i64 W, .slice (some ⟨g1, 0, none⟩) (Bs.nw W) (Bs.nw W), .int .i64 W, .slice (some ⟨g2, 0, none⟩) (Bs.nw W) (Bs.nw W), .slice C k q]) ∧ Arg w' (some ⟨g1, 0, none⟩) (Bs.nw W) gs ∧ Arg w' (some ⟨g2, 0, none⟩) (Bs.nw W) ks ∧ ArgC w' C k cs ∧ validT W gs W ks cs = true ∧ cs.length ≤ 12 ∧ Tape w' T ∧ w.grownBy w' (some T)

/-- The whole variable is stored into the result's cell. -/
theorem Gening.done2 {w wr : World} {T b W : Nat} {cs : List (Int × Int)} (h : Gening w T b W cs wr) (hW : W ≤ 256) (hu : Upto W cs W 0) (h12 : cs.length ≤ 12) :
    ∃ (g1 g2 : Nat) (C : Option Addr) (q : Nat), (wr.cell? ⟨b, 0, none⟩ = some (.int .i64 W) ∧ wr.cell? ⟨b, 1, none⟩ = some (.slice (some ⟨g1, 0, none⟩) (Bs.nw W) (Bs.nw W)) ∧ wr.cell? ⟨b, 2, none⟩ = some (.int .i64 W) ∧ wr.cell? ⟨b, 3, none⟩ = some (.slice (some ⟨g2, 0, none⟩) (Bs.nw W) (Bs.nw W)) ∧ wr.cell? ⟨b, 4, none⟩ = some (.slice C cs.length q)) ∧
    ((wr.cell? ⟨w.heap.size, 0, none⟩ = some (.int .i64 0) ∧ wr.cell? ⟨w.heap.size, 1, none⟩ = some (.slice none 0 0) ∧ wr.cell? ⟨w.heap.size, 2, none⟩ = some (.int .i64 0) ∧ wr.cell? ⟨w.heap.size, 3, none⟩ = some (.slice none 0 0) ∧ wr.cell? ⟨w.heap.size, 4, none⟩ = some (.slice none 0 0)) ∧
     (wr.frozen? ⟨w.heap.size, 0, none⟩ = false ∧ wr.frozen? ⟨w.heap.size, 1, none⟩ = false ∧ wr.frozen? ⟨w.heap.size, 2, none⟩ = false ∧ wr.frozen? ⟨w.heap.size, 3, none⟩ = false ∧ wr.frozen? ⟨w.heap.size, 4, none⟩ = false)) ∧ w.heap.size < wr.heap.size ∧
    GenT2 w T W (.returned (.agg #[.int .i64 W, .slice (some ⟨g1, 0, none⟩) (Bs.nw W) (Bs.nw W), .int .i64 W, .slice (some ⟨g2, 0, none⟩) (Bs.nw W) (Bs.nw W), .slice C cs.length q]))
      (((((wr.setCell ⟨w.heap.size, 0, none⟩ (.int .i64 W)).setCell ⟨w.heap.size, 1, none⟩ (.slice (some ⟨g1, 0, none⟩) (Bs.nw W) (Bs.nw W))).setCell ⟨w.heap.size, 2, none⟩ (.int .i64 W)).setCell ⟨w.heap.size, 3, none⟩ (.slice (some ⟨g2, 0, none⟩) (Bs.nw W) (Bs.nw W))).setCell ⟨w.heap.size, 4, none⟩ (.slice C cs.length q)) := by
  obtain ⟨g1, g2, gs, ks, C, q, h1, ⟨h2, h3, h4⟩, ⟨h5, h6, h7⟩, h8, h9, h10, h11, h12', h13⟩ := h
  refine ⟨g1, g2, C, q, h1.five, ⟨h9.five, h9.frozen 0, h9.frozen 1, h9.frozen 2, h9.frozen 3, h9.frozen 4⟩, h9.lt, ?_⟩
  have n1 := h9.row_ne (by decide) h2
  have n2 := h9.row_ne (by decide) h5
  have r1 : ∀ {wx : World} (j : Nat) (u : Value), Row wx g1 gs → Row (wx.setCell ⟨w.heap.size, j, none⟩ u) g1 gs := fun j u h => h.far n1 u
  have r2 : ∀ {wx : World} (j : Nat) (u : Value), Row wx g2 ks → Row (wx.setCell ⟨w.heap.size, j, none⟩ u) g2 ks := fun j u h => h.far n2 u
  have kc : ∀ {wx : World} (j : Nat) (u : Value), Cops wx (b + 1) (.slice C cs.length q) cs → Cops (wx.setCell ⟨w.heap.size, j, none⟩ u) (b + 1) (.slice C cs.length q) cs := fun {wx} j u hx =>
    World.ownsRow.kept hx (setCell_grown wx _ u) (by
      cases hv : (Value.slice C cs.length q).ownBlock with
      | none => exact .inl rfl
      | some k => exact .inr (by have := own_base hx k hv; simp only [ne_eq, Option.some.injEq]; omega))
  have kt : ∀ {wx : World} (j : Nat) (u : Value), Tape wx T → Tape (wx.setCell ⟨w.heap.size, j, none⟩ u) T := fun j u h => h.far (by simp; omega) u
  have kg : ∀ {wx : World} (j : Nat) (u : Value), w.grownBy wx (some T) → w.grownBy (wx.setCell ⟨w.heap.size, j, none⟩ u) (some T) := fun j u h => grown_set_new h (by simp) u
  have e1 := r1 4 (.slice C cs.length q) (r1 3 (.slice (some ⟨g2, 0, none⟩) (Bs.nw W) (Bs.nw W)) (r1 2 (.int .i64 W) (r1 1 (.slice (some ⟨g1, 0, none⟩) (Bs.nw W) (Bs.nw W)) (r1 0 (.int .i64 W) h2))))
  have e2 := r2 4 (.slice C cs.length q) (r2 3 (.slice (some ⟨g2, 0, none⟩) (Bs.nw W) (Bs.nw W)) (r2 2 (.int .i64 W) (r2 1 (.slice (some ⟨g1, 0, none⟩) (Bs.nw W) (Bs.nw W)) (r2 0 (.int .i64 W) h5))))
  have e3 := kc 4 (.slice C cs.length q) (kc 3 (.slice (some ⟨g2, 0, none⟩) (Bs.nw W) (Bs.nw W)) (kc 2 (.int .i64 W) (kc 1 (.slice (some ⟨g1, 0, none⟩) (Bs.nw W) (Bs.nw W)) (kc 0 (.int .i64 W) h8))))
  refine ⟨g1, g2, C, cs.length, q, gs, ks, cs, rfl, ⟨(e1.arg h3.ok).lies, h3.len, h3.ok⟩, ⟨(e2.arg h6.ok).lies, h6.len, h6.ok⟩, ⟨own_at e3, rfl⟩, ?_, h12, kt _ _ (kt _ _ (kt _ _ (kt _ _ (kt _ _ h11)))), kg _ _ (kg _ _ (kg _ _ (kg _ _ (kg _ _ h13))))⟩
  unfold validT
  rw [Bs.valid_of_fit h3 hW, Bs.valid_of_fit h6 hW]
  simp only [decide_true, Bool.true_and, Bool.and_eq_true, decide_eq_true_eq, List.all_eq_true, List.mem_range]
  exact ⟨by omega, hu.1⟩

set_option maxHeartbeats 1600000 in
theorem transfer2_any (T W : Nat) (w : World) (ht : Tape w T) (hW : W ≤ 16) : Calls Try.prog 7 #[.pointer (some ⟨T, 0, none⟩), .int .i64 W] w (GenT2 w T W) := by
  obtain ⟨i0, hi, hz0, hz1, hz2⟩ := info_parts info35
  have Hi := hid hi; have Hz0 := hid hz0; have Hz1 := hid hz1; have Hz2 := hid hz2
  have Ht := hid ht
  have hTl := ht.lt
  have HR := hid (Fb.new w #[.int .i64 0, .slice none 0 0, .int .i64 0, .slice none 0 0, .slice none 0 0] 28)
  have HB := hid ((Below.refl w.heap.size w).alloc (Nat.le_refl _) (.cells #[.int .i64 0, .slice none 0 0, .int .i64 0, .slice none 0 0, .slice none 0 0] 28))
  clear ht hi hz0 hz1 hz2
  go_enter Try.func7, Try.ntmps7
  go_wp2_with fail
  refine (refEmpty_any W _ (by omega)).mono ?_
  rintro e w2 ⟨g1, rfl, hg1, hrow1, hb2⟩
  rw [len_emp]
  rw [World.size_alloc] at hg1
  have HR2 := hid (HR.out.below hb2 (by simp))
  have HB2 := hid (HB.out.trans (hb2.mono (by simp)))
  have Hr1 := hid hrow1
  clear hrow1 hb2 HR HB
  go_wp2_with fail
  refine (refEmpty_any W _ (by omega)).mono ?_
  rintro e w3 ⟨g2, rfl, hg2, hrow2, hb3⟩
  rw [len_emp]
  have hlt2 := HR2.out.lt
  have HR3 := hid (HR2.out.below hb3 HR2.out.lt)
  have HB3 := hid (HB2.out.trans (hb3.mono HB2.out.size))
  have Hr3 := hid (Hr1.out.below hb3 Hr1.out.lt)
  have Hr2 := hid hrow2
  have hlt3 := HR3.out.lt
  clear hrow2 hb3 HR2 HB2 Hr1
  have Hst := hid (show Gening w T w3.heap.size W [] (w3.alloc (.cells #[.int .i64 W, .slice (some ⟨g1, 0, none⟩) (Bs.nw W) (Bs.nw W), .int .i64 W, .slice (some ⟨g2, 0, none⟩) (Bs.nw W) (Bs.nw W), .slice none 0 0] 28)) from
    ⟨g1, g2, Bs.emp W, Bs.emp W, none, 0, Fb.new _ _ _, ⟨Hr3.out.alloc _, Bs.fit_emp W, by omega⟩, ⟨Hr2.out.alloc _, Bs.fit_emp W, by omega⟩, World.ownsRow_nil _ _ _ _, HR3.out.alloc _, hlt3, (Ht.out.below HB3.out hTl).alloc _, hTl, grown_of_below (HB3.out.alloc HB3.out.size _) _⟩)
  go_wp2_with fail
  generalize w3.alloc (.cells #[.int .i64 W, .slice (some ⟨g1, 0, none⟩) (Bs.nw W) (Bs.nw W), .int .i64 W, .slice (some ⟨g2, 0, none⟩) (Bs.nw W) (Bs.nw W), .slice none 0 0] 28) = wv at *
  generalize w3.heap.size = b at *
  clear HR3 HB3 Hr3 Hr2
  go_loopw [6] (fun i wr => ∃ k : Nat, k ≤ W ∧ i = .int .i64 k ∧ Hid (Gening w T b W [] wr)) (fun i _ => W - (intOf i).toNat)
  case atStart => exact ⟨0, by omega, rfl, Hst⟩
  case round =>
    obtain ⟨k, hk, rfl, hG⟩ := hrel
    clear Hst
    by_cases hlt : k < W
    · have Htt := hid (show Tape wr T from by obtain ⟨_, _, _, _, _, _, _, _, _, _, _, _, h, _⟩ := hG.out; exact h)
      go_wp2_with fail
      refine (next_any T 6 _ Htt.out (by omega)).mono ?_
      rintro e w4 ⟨r4, rfl, h40, h41, ht4, hg4, hs4⟩
      have HG4 := hid (hG.out.tape ht4 hg4)
      clear h41 ht4 hg4 hs4 Htt hG
      by_cases h1 : r4 = 1
      · have t : (r4 == 1) = true := by simp [h1]
        obtain ⟨x1, x2, gs, ks, C, q, p1, ⟨p2, p3, p4⟩, ⟨p5, p6, p7⟩, p8⟩ := HG4.out
        obtain ⟨c0, c1, c2, c3, c4⟩ := p1.five
        have Ha := hid (show Arg w4 (some ⟨x1, 0, none⟩) (Bs.nw W) gs from ⟨(p2.arg p3.ok).lies, p3.len, p3.ok⟩)
        have Hf := hid p3
        clear h1 p1 p2 p3 p5 p6 p8 p4 p7
        go_wp2_with fail
        refine (refPut_any W _ _ _ gs k _ Ha.out (by omega) Hf.out.len hlt).mono ?_
        rintro e w5 ⟨g5, rfl, hg5, hr5, hb5⟩
        rw [show (Bs.put gs k).length = Bs.nw W from by rw [Bs.length_put]; exact Hf.out.len]
        obtain ⟨⟨v0, v1, m0, m1, f0, f1⟩, hfin⟩ := HG4.out.gen (Bs.fit_put Hf.out hlt) hg5 hr5 hb5
        have Hfin := hid hfin
        clear hfin hr5 hb5 c0 c1 c2 c3 c4
        go_wp2_with fail
        go_roundw
        case rel => exact ⟨k + 1, by omega, by go_num, Hfin⟩
        case measure => simp [intOf]; omega
      · have t : (r4 == 1) = false := by simp [h1]
        clear h1
        have hthree : (r4 = 2) ∨ (r4 ≠ 2 ∧ r4 = 3) ∨ (r4 ≠ 2 ∧ r4 ≠ 3) := by omega
        rcases hthree with h2 | ⟨h2, h3⟩ | ⟨h2, h3⟩
        · have t2 : (r4 == 2) = true := by simp [h2]
          obtain ⟨x1, x2, gs, ks, C, q, p1, ⟨p2, p3, p4⟩, ⟨p5, p6, p7⟩, p8⟩ := HG4.out
          obtain ⟨c0, c1, c2, c3, c4⟩ := p1.five
          have Ha := hid (show Arg w4 (some ⟨x2, 0, none⟩) (Bs.nw W) ks from ⟨(p5.arg p6.ok).lies, p6.len, p6.ok⟩)
          have Hf := hid p6
          clear h2 p1 p2 p3 p5 p6 p8 p4 p7
          go_wp2_with fail
          refine (refPut_any W _ _ _ ks k _ Ha.out (by omega) Hf.out.len hlt).mono ?_
          rintro e w5 ⟨g5, rfl, hg5, hr5, hb5⟩
          rw [show (Bs.put ks k).length = Bs.nw W from by rw [Bs.length_put]; exact Hf.out.len]
          obtain ⟨⟨v0, v1, m0, m1, f0, f1⟩, hfin⟩ := HG4.out.kill (Bs.fit_put Hf.out hlt) hg5 hr5 hb5
          have Hfin := hid hfin
          clear hfin hr5 hb5 c0 c1 c2 c3 c4
          go_wp2_with fail
          go_roundw
          case rel => exact ⟨k + 1, by omega, by go_num, Hfin⟩
          case measure => simp [intOf]; omega
        · have t2 : (r4 == 2) = false := by simp [h2]
          have t3 : (r4 == 3) = true := by simp [h3]
          obtain ⟨x1, x2, gs, ks, C, q, p1, ⟨p2, p3, p4⟩, ⟨p5, p6, p7⟩, p8⟩ := HG4.out
          obtain ⟨c0, c1, c2, c3, c4⟩ := p1.five
          have Ha := hid (show Arg w4 (some ⟨x2, 0, none⟩) (Bs.nw W) ks from ⟨(p5.arg p6.ok).lies, p6.len, p6.ok⟩)
          have Hf := hid p6
          clear h2 h3 p1 p2 p3 p5 p6 p8 p4 p7
          go_wp2_with fail
          refine (refPut_any W _ _ _ ks k _ Ha.out (by omega) Hf.out.len hlt).mono ?_
          rintro e w5 ⟨g5, rfl, hg5, hr5, hb5⟩
          rw [show (Bs.put ks k).length = Bs.nw W from by rw [Bs.length_put]; exact Hf.out.len]
          obtain ⟨⟨v0, v1, m0, m1, f0, f1⟩, hfin⟩ := HG4.out.kill (Bs.fit_put Hf.out hlt) hg5 hr5 hb5
          have Hfin := hid hfin
          clear hfin hr5 hb5 c0 c1 c2 c3 c4
          go_wp2_with fail
          go_roundw
          case rel => exact ⟨k + 1, by omega, by go_num, Hfin⟩
          case measure => simp [intOf]; omega
        · have t2 : (r4 == 2) = false := by simp [h2]
          have t3 : (r4 == 3) = false := by simp [h3]
          clear h2 h3
          go_wp2_with fail
          go_roundw
          case rel => exact ⟨k + 1, by omega, by go_num, HG4⟩
          case measure => simp [intOf]; omega
    · have hkW : W = k := by omega
      subst hkW
      clear hk
      go_wp2_with fail
      go_loopw [7, 8] (fun i _ wr => ∃ a : Nat, a ≤ W ∧ i = .int .i64 a ∧ Hid (∃ cs : List (Int × Int), Gening w T b W cs wr ∧ Upto W cs a 0 ∧ cs.length ≤ 12)) (fun i _ _ => W - (intOf i).toNat)
      case atStart => exact ⟨0, by omega, rfl, [], hG.out, ⟨fun i hi => by simp at hi, fun p hp => by simp at hp⟩, by simp⟩
      case round =>
        clear hG
        obtain ⟨a, ha, rfl, hG⟩ := hrel
        by_cases hla : a < W
        · go_wp2_with fail
          go_loopw [8] (fun i wr => ∃ c : Nat, c ≤ W ∧ i = .int .i64 c ∧ Hid (∃ cs : List (Int × Int), Gening w T b W cs wr ∧ Upto W cs a c ∧ cs.length ≤ 12)) (fun i _ => W - (intOf i).toNat)
          case atStart => exact ⟨0, by omega, rfl, hG⟩
          case round =>
            clear hG
            obtain ⟨c, hc, rfl, hG⟩ := hrel
            by_cases hlc : c < W
            · obtain ⟨cs, hG1, hU, h12⟩ := hG.out
              obtain ⟨C, q, c4, f4, hC, hbl, hpush⟩ := hG1.slice
              have Htt := hid (show Tape wr T from by obtain ⟨_, _, _, _, _, _, _, _, _, _, _, _, h, _⟩ := hG1; exact h)
              have HG1 := hid hG1; have HU := hid hU
              clear hG1 hU hG hC hpush f4
              by_cases hl : cs.length < 12
              · go_wp2_with fail
                refine (next_any T (2 * (W : Int)) _ Htt.out (by omega)).mono ?_
                rintro e w4 ⟨r4, rfl, h40, h41, ht4, hg4, hs4⟩
                have HG4 := hid (HG1.out.tape ht4 hg4)
                clear h41 ht4 hg4 hs4 Htt HG1 c4
                by_cases h1 : r4 = 1
                · have t : (r4 == 1) = true := by simp [h1]
                  clear h1
                  obtain ⟨C, q, c4, f4, hC, hbl4, hpush⟩ := HG4.out.slice
                  have HC := hid hC; have Hpush := hid hpush
                  clear hC hpush
                  go_wp2_with (first
                    | (at_builtin
                       refine wpList_append_own _ rfl _ _ 26 rfl (b + 1) 48 i0 _ 2 16 Try.underlying26 Hi.out Hz0.out Hz1.out Hz2.out rfl (by decide) (.slice C cs.length q) cs.length (pairs cs) rfl (HC.out.alloc _) ⟨w4.heap.size, 0, none⟩ 1 1 [.int .i64 (a : Int), .int .i64 (c : Int)] rfl rfl (two_new _ _ _ _) (by intro u hu; simp at hu; rcases hu with rfl | rfl <;> rfl) (by unfold maxLen; omega) (by omega) (by rw [World.size_alloc]; omega) ?_
                       intro v' w3 hown3 hgr3 hnil3
                       obtain ⟨C3, q3, rfl, ⟨y0, y1⟩, hK3⟩ := Hpush.out _ _ _ _ _ hown3 hgr3
                       have HK3 := hid hK3
                       clear hown3 hgr3 hnil3 hK3))
                  go_roundw
                  case rel => exact ⟨c + 1, by omega, by go_num, _, HK3.out, HU.out.push hla hlc, by rw [List.length_append, List.length_singleton]; omega⟩
                  case measure => simp [intOf]; omega
                · have t : (r4 == 1) = false := by simp [h1]
                  clear h1
                  go_wp2_with fail
                  go_roundw
                  case rel => exact ⟨c + 1, by omega, by go_num, cs, HG4.out, HU.out.step, h12⟩
                  case measure => simp [intOf]; omega
              · go_wp2_with fail
                go_roundw
                case rel => exact ⟨a + 1, by omega, by go_num, cs, HG1.out, (show Upto W cs ((a + 1 : Nat) : Int) 0 from by have := HU.out.row; exact this), h12⟩
                case measure => simp [intOf]; omega
            · obtain ⟨cs, hG1, hU, h12⟩ := hG.out
              have HG1 := hid hG1; have HU := hid hU
              clear hG1 hU hG
              go_wp2_with fail
              go_roundw
              case rel => exact ⟨a + 1, by omega, by go_num, cs, HG1.out, (show Upto W cs ((a + 1 : Nat) : Int) 0 from by have := HU.out.row; exact this), h12⟩
              case measure => simp [intOf]; omega
        · have haW : W = a := by omega
          subst haW
          obtain ⟨cs, hG1, hU, h12⟩ := hG.out
          obtain ⟨g1', g2', C, q, ⟨c0, c1, c2, c3, c4⟩, ⟨⟨r0, r1, r2, r3, r4⟩, f0, f1, f2, f3, f4⟩, hlR, hfin⟩ := hG1.done2 (by omega) hU h12
          have Hfin := hid hfin
          clear hfin hG1 hU h12 hG
          go_wp2_with fail
          refine bodyPost_ret (v := .agg #[.int .i64 W, .slice (some ⟨g1', 0, none⟩) (Bs.nw W) (Bs.nw W), .int .i64 W, .slice (some ⟨g2', 0, none⟩) (Bs.nw W) (Bs.nw W), .slice C cs.length q]) (by simp [results, Try.results7, go_sem, r0, r1, r2, r3, r4]) rfl ?_
          exact Hfin.out
end Go.Proofs.Ytmbelhdkaepohaa

namespace Go.Proofs.Ytmbelhdkaepohaa
set_option maxRecDepth 20000
open Go.ChangeShapes Go.WideShapes Go.ChangeAt Go.RowKit

end Go.Proofs.Ytmbelhdkaepohaa

namespace Go.Proofs.Ytmbelhdkaepohaa
set_option maxRecDepth 20000
set_option linter.unusedVariables false
open Go.ChangeShapes Go.WideShapes Go.ChangeAt Go.RowKit

theorem applyR_small (W : Int) (gs : List Nat) (V : Int) (ks : List Nat) (cs : List (Int × Int)) (X : Int) (ss : List Nat) : (applyR W gs V ks cs X ss).2.1.length ≤ 100 := by
  unfold applyR
  split
  · simp
  · next h =>
    split
    · simp
    · have hv : validT W gs V ks cs = true := by
        cases e : validT W gs V ks cs with
        | true => rfl
        | false => exact absurd (.inl e) h
      have h1 := (Bs.validB_iff.1 (validT_iff hv).1).2.1
      show (valR gs ss (folB W ks cs) W.toNat).length ≤ 100
      rw [(fit_valR gs ss (folB W ks cs) W.toNat).len]
      unfold Bs.nw
      omega
theorem sameB_self (W : Int) (a : List Nat) : sameB W a W a = true := by simp [sameB]
theorem equalsT_self (W V : Int) (gs ks : List Nat) (cs : List (Int × Int)) : equalsT W gs V ks cs W gs V ks cs = true := by simp [equalsT, sameB]

end Go.Proofs.Ytmbelhdkaepohaa

namespace Go.Proofs.Ytmbelhdkaepohaa
set_option maxRecDepth 20000
set_option linter.unusedVariables false
open Go.ChangeShapes Go.WideShapes Go.ChangeAt Go.RowKit

theorem madeR_small {v : Nat} {z : List Nat} {one : Nat → List Nat} (hv : v ≤ 256) (hz : Bs.Fit v z) : (madeR v z one).2.1.length ≤ 100 ∧ (madeR v z one).2.2.1.length ≤ 100 ∧ (madeR v z one).2.2.2.1.length ≤ 100 := by
  unfold madeR
  split
  · next h =>
    have h1 := hz.len
    have h2 := (fit_killTo z one v v).len
    unfold Bs.nw at h1 h2
    dsimp only
    omega
  · simp
theorem joinR_small {w : World} {W V W' V' : Int} {A B C A' B' C' : Option Addr} {n m k n' m' k' : Nat} {gs ks gs' ks' : List Nat} {cs cs' : List (Int × Int)} (hF : FArg w A n B m C k gs ks cs) (hG : FArg w A' n' B' m' C' k' gs' ks' cs') :
    (joinR W gs V ks cs W' gs' V' ks' cs').2.1.length ≤ 100 ∧ (joinR W gs V ks cs W' gs' V' ks' cs').2.2.1.length ≤ 100 ∧ (joinR W gs V ks cs W' gs' V' ks' cs').2.2.2.1.length ≤ 100 := by
  unfold joinR
  split
  · simp
  · next h =>
    split
    · simp
    · next h' =>
      have hv : validT W gs V ks cs = true := by
        cases e : validT W gs V ks cs with
        | true => rfl
        | false => exact absurd (.inl e) h
      have hv' : validT W' gs' V' ks' cs' = true := by
        cases e : validT W' gs' V' ks' cs' with
        | true => rfl
        | false => exact absurd (.inr e) h
      obtain ⟨a1, a2, rfl, _, a5⟩ := validT_iff hv
      obtain ⟨b1, b2, rfl, _, b5⟩ := validT_iff hv'
      have e : W = W' := by simpa using h'
      subst e
      obtain ⟨v, rfl⟩ := Int.eq_ofNat_of_zero_le (Bs.validB_iff.1 a1).1
      have hv256 : v ≤ 256 := by have := (Bs.validB_iff.1 a1).2.1; omega
      rw [Int.toNat_natCast, join_made hv256 (fit_of_valid' a2 hF.kill) (fit_of_valid' b2 hG.kill) (inW_of_ok a5) (inW_of_ok b5)]
      exact madeR_small hv256 (fit_orR _ _ _)
theorem composeR_small {w : World} {W V W' V' : Int} {A B C A' B' C' : Option Addr} {n m k n' m' k' : Nat} {gs ks gs' ks' : List Nat} {cs cs' : List (Int × Int)} (hF : FArg w A n B m C k gs ks cs) (hG : FArg w A' n' B' m' C' k' gs' ks' cs') :
    (composeR W gs V ks cs W' gs' V' ks' cs').2.1.length ≤ 100 ∧ (composeR W gs V ks cs W' gs' V' ks' cs').2.2.1.length ≤ 100 ∧ (composeR W gs V ks cs W' gs' V' ks' cs').2.2.2.1.length ≤ 100 := by
  unfold composeR
  split
  · simp
  · next h =>
    split
    · simp
    · next h' =>
      have hv : validT W gs V ks cs = true := by
        cases e : validT W gs V ks cs with
        | true => rfl
        | false => exact absurd (.inl e) h
      have hv' : validT W' gs' V' ks' cs' = true := by
        cases e : validT W' gs' V' ks' cs' with
        | true => rfl
        | false => exact absurd (.inr e) h
      obtain ⟨a1, a2, rfl, _, a5⟩ := validT_iff hv
      obtain ⟨b1, b2, rfl, _, b5⟩ := validT_iff hv'
      have e : W = W' := by simpa using h'
      subst e
      obtain ⟨v, rfl⟩ := Int.eq_ofNat_of_zero_le (Bs.validB_iff.1 a1).1
      have hv256 : v ≤ 256 := by have := (Bs.validB_iff.1 a1).2.1; omega
      rw [Int.toNat_natCast, comp_made hv256 (fit_of_valid' a1 hF.gen) (fit_of_valid' a2 hF.kill) (fit_of_valid' b2 hG.kill) (inW_of_ok a5) (inW_of_ok b5)]
      exact madeR_small hv256 (fit_valR _ _ _ _)

set_option maxHeartbeats 6400000 in
theorem combines_any (W V : Int) (A B C : Option Addr) (n c m d k q : Nat) (gs ks : List Nat) (cs : List (Int × Int)) (W' V' : Int) (A' B' C' : Option Addr) (n' c' m' d' k' q' : Nat) (gs' ks' : List Nat) (cs' : List (Int × Int)) (w : World)
    (hF : FArg w A n B m C k gs ks cs) (hG : FArg w A' n' B' m' C' k' gs' ks' cs') :
    Calls Try.prog 9 #[.agg #[.int .i64 W, .slice A n c, .int .i64 V, .slice B m d, .slice C k q], .agg #[.int .i64 W', .slice A' n' c', .int .i64 V', .slice B' m' d', .slice C' k' q']] w
      fun e w' => e = .returned (.bool true) ∧ Below w.heap.size w w' := by
  have HF := hid hF; have HG := hid hG
  have H0 := hid (TwoT.start w W V A B C n c m d k q W' V' A' B' C' n' c' m' d' k' q')
  have Hs1 := hid (joinR_small (W := W) (V := V) (W' := W') (V' := V') hF hG)
  have Hs2 := hid (composeR_small (W := W) (V := V) (W' := W') (V' := V') hF hG)
  obtain ⟨r, hr⟩ : ∃ r, joinR W gs V ks cs W' gs' V' ks' cs' = r := ⟨_, rfl⟩
  have Hr := hid hr
  rw [hr] at Hs1
  obtain ⟨t, ht⟩ : ∃ r, composeR W gs V ks cs W' gs' V' ks' cs' = r := ⟨_, rfl⟩
  have Ht := hid ht
  rw [ht] at Hs2
  obtain ⟨W1, gs1, ks1, cs1, er1⟩ := r
  obtain ⟨W2, gs2, ks2, cs2, er2⟩ := t
  have Hsm := hid (same_eq (W := W) (V := V) (cs := cs) (W' := W') (V' := V') (cs' := cs') hF.gen.ok hF.kill.ok hG.gen.ok hG.kill.ok)
  have Hbl := hid (bel_eq (W := W) (V := V) (cs := cs) (W' := W') (V' := V') (cs' := cs') hF.gen.ok hF.kill.ok hG.gen.ok hG.kill.ok)
  clear hF hG hr ht
  go_enter Try.func9, Try.ntmps9
  go_wp2_with fail
  generalize (w.alloc (.cells #[.int .i64 W, .slice A n c, .int .i64 V, .slice B m d, .slice C k q] 28)).alloc (.cells #[.int .i64 W', .slice A' n' c', .int .i64 V', .slice B' m' d', .slice C' k' q'] 28) = w0 at *
  have L0 := H0
  obtain ⟨f0, f1, f2, f3, f4⟩ := H0.out.1.five
  obtain ⟨g0, g1, g2, g3, g4⟩ := H0.out.2.1.five
  go_wp2_with fail
  refine (devJoin_any W V A B C n c m d k q gs ks cs W' V' A' B' C' n' c' m' d' k' q' gs' ks' cs' _ (HF.out.below H0.out.2.2) (HG.out.below H0.out.2.2)).mono ?_
  rw [Hr.out]
  rintro e v1 ⟨A1x, n1x, c1x, B1x, m1x, d1x, C1x, q1x, rfl, ha1, hk1, hc1, hb1⟩
  have hb1' := hb1.alloc hb1.size (.cells #[.int .i64 W1, .slice A1x n1x c1x, .int .i64 W1, .slice B1x m1x d1x, .slice C1x cs1.length q1x] 28)
  have H1 := hid (H0.out.below hb1')
  have HC1 := hid (FArg.alloc (⟨ha1, hk1, hc1⟩ : FArg v1 A1x n1x B1x m1x C1x cs1.length gs1 ks1 cs1) (.cells #[.int .i64 W1, .slice A1x n1x c1x, .int .i64 W1, .slice B1x m1x d1x, .slice C1x cs1.length q1x] 28))
  have X1 := hid (Fb.new v1 #[.int .i64 W1, .slice A1x n1x c1x, .int .i64 W1, .slice B1x m1x d1x, .slice C1x cs1.length q1x] 28)
  clear ha1 hk1 hc1 hb1 hb1' f0 f1 f2 f3 f4 g0 g1 g2 g3 g4 H0 L0
  go_upto_region 2 with fail
  generalize v1.alloc (.cells #[.int .i64 W1, .slice A1x n1x c1x, .int .i64 W1, .slice B1x m1x d1x, .slice C1x cs1.length q1x] 28) = w1 at *
  generalize v1.heap.size = b1 at *
  obtain ⟨f0, f1, f2, f3, f4⟩ := H1.out.1.five
  obtain ⟨g0, g1, g2, g3, g4⟩ := H1.out.2.1.five
  go_wp2_with fail
  refine (refJoinF_any W V A B C n c m d k q gs ks cs W' V' A' B' C' n' c' m' d' k' q' gs' ks' cs' _ (HF.out.below H1.out.2.2) (HG.out.below H1.out.2.2)).mono ?_
  rw [Hr.out]
  rintro e v2 ⟨A2x, n2x, c2x, B2x, m2x, d2x, C2x, q2x, rfl, ha2, hk2, hc2, hb2⟩
  have hb2' := hb2.alloc hb2.size (.cells #[.int .i64 W1, .slice A2x n2x c2x, .int .i64 W1, .slice B2x m2x d2x, .slice C2x cs1.length q2x] 28)
  have H2 := hid (H1.out.below hb2')
  have HC2 := hid (FArg.alloc (⟨ha2, hk2, hc2⟩ : FArg v2 A2x n2x B2x m2x C2x cs1.length gs1 ks1 cs1) (.cells #[.int .i64 W1, .slice A2x n2x c2x, .int .i64 W1, .slice B2x m2x d2x, .slice C2x cs1.length q2x] 28))
  have X2 := hid (Fb.new v2 #[.int .i64 W1, .slice A2x n2x c2x, .int .i64 W1, .slice B2x m2x d2x, .slice C2x cs1.length q2x] 28)
  have HC1 := hid (HC1.out.below hb2')
  have X1 := hid (X1.out.below hb2' X1.out.lt)
  clear ha2 hk2 hc2 hb2 hb2' f0 f1 f2 f3 f4 g0 g1 g2 g3 g4 H1
  go_upto_region 3 with fail
  generalize v2.alloc (.cells #[.int .i64 W1, .slice A2x n2x c2x, .int .i64 W1, .slice B2x m2x d2x, .slice C2x cs1.length q2x] 28) = w2 at *
  generalize v2.heap.size = b2 at *
  obtain ⟨f0, f1, f2, f3, f4⟩ := H2.out.1.five
  obtain ⟨g0, g1, g2, g3, g4⟩ := H2.out.2.1.five
  go_wp2_with fail
  refine (devCompose_any W V A B C n c m d k q gs ks cs W' V' A' B' C' n' c' m' d' k' q' gs' ks' cs' _ (HF.out.below H2.out.2.2) (HG.out.below H2.out.2.2)).mono ?_
  rw [Ht.out]
  rintro e v3 ⟨A3x, n3x, c3x, B3x, m3x, d3x, C3x, q3x, rfl, ha3, hk3, hc3, hb3⟩
  have hb3' := hb3.alloc hb3.size (.cells #[.int .i64 W2, .slice A3x n3x c3x, .int .i64 W2, .slice B3x m3x d3x, .slice C3x cs2.length q3x] 28)
  have H3 := hid (H2.out.below hb3')
  have HC3 := hid (FArg.alloc (⟨ha3, hk3, hc3⟩ : FArg v3 A3x n3x B3x m3x C3x cs2.length gs2 ks2 cs2) (.cells #[.int .i64 W2, .slice A3x n3x c3x, .int .i64 W2, .slice B3x m3x d3x, .slice C3x cs2.length q3x] 28))
  have X3 := hid (Fb.new v3 #[.int .i64 W2, .slice A3x n3x c3x, .int .i64 W2, .slice B3x m3x d3x, .slice C3x cs2.length q3x] 28)
  have HC1 := hid (HC1.out.below hb3')
  have X1 := hid (X1.out.below hb3' X1.out.lt)
  have HC2 := hid (HC2.out.below hb3')
  have X2 := hid (X2.out.below hb3' X2.out.lt)
  clear ha3 hk3 hc3 hb3 hb3' f0 f1 f2 f3 f4 g0 g1 g2 g3 g4 H2
  go_upto_region 4 with fail
  generalize v3.alloc (.cells #[.int .i64 W2, .slice A3x n3x c3x, .int .i64 W2, .slice B3x m3x d3x, .slice C3x cs2.length q3x] 28) = w3 at *
  generalize v3.heap.size = b3 at *
  obtain ⟨f0, f1, f2, f3, f4⟩ := H3.out.1.five
  obtain ⟨g0, g1, g2, g3, g4⟩ := H3.out.2.1.five
  go_wp2_with fail
  refine (refCompose_any W V A B C n c m d k q gs ks cs W' V' A' B' C' n' c' m' d' k' q' gs' ks' cs' _ (HF.out.below H3.out.2.2) (HG.out.below H3.out.2.2)).mono ?_
  rw [Ht.out]
  rintro e v4 ⟨A4x, n4x, c4x, B4x, m4x, d4x, C4x, q4x, rfl, ha4, hk4, hc4, hb4⟩
  have hb4' := hb4.alloc hb4.size (.cells #[.int .i64 W2, .slice A4x n4x c4x, .int .i64 W2, .slice B4x m4x d4x, .slice C4x cs2.length q4x] 28)
  have H4 := hid (H3.out.below hb4')
  have HC4 := hid (FArg.alloc (⟨ha4, hk4, hc4⟩ : FArg v4 A4x n4x B4x m4x C4x cs2.length gs2 ks2 cs2) (.cells #[.int .i64 W2, .slice A4x n4x c4x, .int .i64 W2, .slice B4x m4x d4x, .slice C4x cs2.length q4x] 28))
  have X4 := hid (Fb.new v4 #[.int .i64 W2, .slice A4x n4x c4x, .int .i64 W2, .slice B4x m4x d4x, .slice C4x cs2.length q4x] 28)
  have HC1 := hid (HC1.out.below hb4')
  have X1 := hid (X1.out.below hb4' X1.out.lt)
  have HC2 := hid (HC2.out.below hb4')
  have X2 := hid (X2.out.below hb4' X2.out.lt)
  have HC3 := hid (HC3.out.below hb4')
  have X3 := hid (X3.out.below hb4' X3.out.lt)
  clear ha4 hk4 hc4 hb4 hb4' f0 f1 f2 f3 f4 g0 g1 g2 g3 g4 H3
  go_upto_region 5 with fail
  generalize v4.alloc (.cells #[.int .i64 W2, .slice A4x n4x c4x, .int .i64 W2, .slice B4x m4x d4x, .slice C4x cs2.length q4x] 28) = w4 at *
  generalize v4.heap.size = b4 at *
  generalize w4 = wn at *
  obtain ⟨s, hs⟩ : ∃ v, sameD W gs V ks cs W' gs' V' ks' cs' = v := ⟨_, rfl⟩
  obtain ⟨u, hu⟩ : ∃ v, belowD W gs V ks cs W' gs' V' ks' cs' = v := ⟨_, rfl⟩
  have Hs := hid hs; have Hu := hid hu
  rw [hs] at Hsm
  rw [hu] at Hbl
  clear hs hu
  have tv : (s == s) = true := by simp
  have tu : (u == u) = true := by simp
  have t3 : (er1 == er1) = true := by simp
  have te : (er2 == er2) = true := by simp
  have HFe := hid (HF.out.below H4.out.2.2)
  have HGe := hid (HG.out.below H4.out.2.2)
  have lf0 := Later.cell (show (⟨w.heap.size, 0, none⟩ : Addr).block < wn.heap.size from H4.out.1.lt) (H4.out.1.cell 0)
  have lf1 := Later.cell (show (⟨w.heap.size, 1, none⟩ : Addr).block < wn.heap.size from H4.out.1.lt) (H4.out.1.cell 1)
  have lf2 := Later.cell (show (⟨w.heap.size, 2, none⟩ : Addr).block < wn.heap.size from H4.out.1.lt) (H4.out.1.cell 2)
  have lf3 := Later.cell (show (⟨w.heap.size, 3, none⟩ : Addr).block < wn.heap.size from H4.out.1.lt) (H4.out.1.cell 3)
  have lf4 := Later.cell (show (⟨w.heap.size, 4, none⟩ : Addr).block < wn.heap.size from H4.out.1.lt) (H4.out.1.cell 4)
  have lg0 := Later.cell (show (⟨w.heap.size + 1, 0, none⟩ : Addr).block < wn.heap.size from H4.out.2.1.lt) (H4.out.2.1.cell 0)
  have lg1 := Later.cell (show (⟨w.heap.size + 1, 1, none⟩ : Addr).block < wn.heap.size from H4.out.2.1.lt) (H4.out.2.1.cell 1)
  have lg2 := Later.cell (show (⟨w.heap.size + 1, 2, none⟩ : Addr).block < wn.heap.size from H4.out.2.1.lt) (H4.out.2.1.cell 2)
  have lg3 := Later.cell (show (⟨w.heap.size + 1, 3, none⟩ : Addr).block < wn.heap.size from H4.out.2.1.lt) (H4.out.2.1.cell 3)
  have lg4 := Later.cell (show (⟨w.heap.size + 1, 4, none⟩ : Addr).block < wn.heap.size from H4.out.2.1.lt) (H4.out.2.1.cell 4)
  have lx10 := Later.cell (show (⟨b1, 0, none⟩ : Addr).block < wn.heap.size from X1.out.lt) (X1.out.cell 0)
  have lx11 := Later.cell (show (⟨b1, 1, none⟩ : Addr).block < wn.heap.size from X1.out.lt) (X1.out.cell 1)
  have lx12 := Later.cell (show (⟨b1, 2, none⟩ : Addr).block < wn.heap.size from X1.out.lt) (X1.out.cell 2)
  have lx13 := Later.cell (show (⟨b1, 3, none⟩ : Addr).block < wn.heap.size from X1.out.lt) (X1.out.cell 3)
  have lx14 := Later.cell (show (⟨b1, 4, none⟩ : Addr).block < wn.heap.size from X1.out.lt) (X1.out.cell 4)
  have lx20 := Later.cell (show (⟨b2, 0, none⟩ : Addr).block < wn.heap.size from X2.out.lt) (X2.out.cell 0)
  have lx21 := Later.cell (show (⟨b2, 1, none⟩ : Addr).block < wn.heap.size from X2.out.lt) (X2.out.cell 1)
  have lx22 := Later.cell (show (⟨b2, 2, none⟩ : Addr).block < wn.heap.size from X2.out.lt) (X2.out.cell 2)
  have lx23 := Later.cell (show (⟨b2, 3, none⟩ : Addr).block < wn.heap.size from X2.out.lt) (X2.out.cell 3)
  have lx24 := Later.cell (show (⟨b2, 4, none⟩ : Addr).block < wn.heap.size from X2.out.lt) (X2.out.cell 4)
  have lx30 := Later.cell (show (⟨b3, 0, none⟩ : Addr).block < wn.heap.size from X3.out.lt) (X3.out.cell 0)
  have lx31 := Later.cell (show (⟨b3, 1, none⟩ : Addr).block < wn.heap.size from X3.out.lt) (X3.out.cell 1)
  have lx32 := Later.cell (show (⟨b3, 2, none⟩ : Addr).block < wn.heap.size from X3.out.lt) (X3.out.cell 2)
  have lx33 := Later.cell (show (⟨b3, 3, none⟩ : Addr).block < wn.heap.size from X3.out.lt) (X3.out.cell 3)
  have lx34 := Later.cell (show (⟨b3, 4, none⟩ : Addr).block < wn.heap.size from X3.out.lt) (X3.out.cell 4)
  have lx40 := Later.cell (show (⟨b4, 0, none⟩ : Addr).block < wn.heap.size from X4.out.lt) (X4.out.cell 0)
  have lx41 := Later.cell (show (⟨b4, 1, none⟩ : Addr).block < wn.heap.size from X4.out.lt) (X4.out.cell 1)
  have lx42 := Later.cell (show (⟨b4, 2, none⟩ : Addr).block < wn.heap.size from X4.out.lt) (X4.out.cell 2)
  have lx43 := Later.cell (show (⟨b4, 3, none⟩ : Addr).block < wn.heap.size from X4.out.lt) (X4.out.cell 3)
  have lx44 := Later.cell (show (⟨b4, 4, none⟩ : Addr).block < wn.heap.size from X4.out.lt) (X4.out.cell 4)
  refine wp_region_below (by kernel_rfl) (by kernel_rfl) ?_
  repeat (go_big_quiet_step ((first
      | (go_at_call_of 15 A1x; exact Later.call (by have h := refEquals_any W1 W1 A1x B1x C1x n1x c1x m1x d1x cs1.length q1x W1 W1 A2x B2x C2x n2x c2x m2x d2x cs1.length q2x gs1 ks1 gs1 ks1 cs1 cs1 _ (HC1.out.below ‹Later wn›.keeps).gen (HC1.out.below ‹Later wn›.keeps).kill (HC1.out.below ‹Later wn›.keeps).cops (HC2.out.below ‹Later wn›.keeps).gen (HC2.out.below ‹Later wn›.keeps).kill (HC2.out.below ‹Later wn›.keeps).cops (by have h1 := HC1.out.gen.len; have h2 : gs1.length ≤ 100 := Hs1.out.1; unfold maxLen; omega) (by have h1 := HC1.out.kill.len; have h2 : ks1.length ≤ 100 := Hs1.out.2.1; unfold maxLen; omega) (by have h2 : cs1.length ≤ 100 := Hs1.out.2.2; unfold maxLen; omega); rw [equalsT_self] at h; exact h))
      | (go_at_call_of 15 A3x; exact Later.call (by have h := refEquals_any W2 W2 A3x B3x C3x n3x c3x m3x d3x cs2.length q3x W2 W2 A4x B4x C4x n4x c4x m4x d4x cs2.length q4x gs2 ks2 gs2 ks2 cs2 cs2 _ (HC3.out.below ‹Later wn›.keeps).gen (HC3.out.below ‹Later wn›.keeps).kill (HC3.out.below ‹Later wn›.keeps).cops (HC4.out.below ‹Later wn›.keeps).gen (HC4.out.below ‹Later wn›.keeps).kill (HC4.out.below ‹Later wn›.keeps).cops (by have h1 := HC3.out.gen.len; have h2 : gs2.length ≤ 100 := Hs2.out.1; unfold maxLen; omega) (by have h1 := HC3.out.kill.len; have h2 : ks2.length ≤ 100 := Hs2.out.2.1; unfold maxLen; omega) (by have h2 : cs2.length ≤ 100 := Hs2.out.2.2; unfold maxLen; omega); rw [equalsT_self] at h; exact h))
      | (go_at_call 26; exact Later.call (by have h := devSame_any W V A B C n c m d k q gs ks cs W' V' A' B' C' n' c' m' d' k' q' gs' ks' cs' _ (HFe.out.below ‹Later wn›.keeps) (HGe.out.below ‹Later wn›.keeps); rw [Hs.out] at h; exact h))
      | (go_at_call 27; exact Later.call (by have h := refSameF_any W V A B C n c m d k q gs ks cs W' V' A' B' C' n' c' m' d' k' q' gs' ks' cs' _ (HFe.out.below ‹Later wn›.keeps) (HGe.out.below ‹Later wn›.keeps); rw [← Hsm.out] at h; exact h))
      | (go_at_call 28; exact Later.call (by have h := devBelow_any W V A B C n c m d k q gs ks cs W' V' A' B' C' n' c' m' d' k' q' gs' ks' cs' _ (HFe.out.below ‹Later wn›.keeps) (HGe.out.below ‹Later wn›.keeps); rw [Hu.out] at h; exact h))
      | (go_at_call 29; exact Later.call (by have h := refBelow_any W V A B C n c m d k q gs ks cs W' V' A' B' C' n' c' m' d' k' q' gs' ks' cs' _ (HFe.out.below ‹Later wn›.keeps) (HGe.out.below ‹Later wn›.keeps); rw [← Hbl.out] at h; exact h)))))
  refine wpQuiet_nil ?_
  rintro _ ⟨pq, rfl⟩
  have Hcur := hid pq.keeps
  generalize pq.wd = wq at *
  clear pq
  go_wp2
  go_ret
  exact ⟨rfl, below_step H4.out.2.2 Hcur.out⟩
end Go.Proofs.Ytmbelhdkaepohaa

namespace Go.Proofs.Ytmbelhdkaepohaa
set_option maxRecDepth 20000
open Go.ChangeShapes Go.WideShapes Go.ChangeAt Go.RowKit

theorem new_any (A : Option Addr) (n c : Nat) (w : World) :
    Calls Try.prog 5 #[.slice A n c] w fun e w' => e = .returned (.pointer (some ⟨w.heap.size, 0, none⟩)) ∧ w.alloc (.cells #[.slice A n c, .int .i64 0] 43) = w' := by
  go_enter Try.func5, Try.ntmps5
  go_wp2
  go_ret
  exact ⟨rfl, rfl⟩
theorem tape_new {w : World} {A : Option Addr} {n c : Nat} {zs : List Int} (h : IArg w A n zs) (hn : n ≤ maxLen) : Tape (w.alloc (.cells #[.slice A n c, .int .i64 0] 43)) w.heap.size :=
  ⟨A, n, c, 0, zs, heap_alloc_new w _, h.len, hn, Nat.zero_le _, h.lies.keep (fun p hp => World.cell?_alloc_lt w _ p hp) (Nat.le_refl _)⟩

/-- The statement's tape stands, and nothing old has changed. -/
def Going (w : World) (T : Nat) (wr : World) : Prop := Tape wr T ∧ Below w.heap.size w wr ∧ w.heap.size ≤ T
theorem Going.step {w wr w' : World} {T : Nat} (h : Going w T wr) (ht : Tape w' T) (hg : wr.grownBy w' (some T)) : Going w T w' :=
  ⟨ht, after_app h.2.1 hg h.2.2, h.2.2⟩
theorem Going.below {w wr w' : World} {T : Nat} (h : Going w T wr) (hb : Below wr.heap.size wr w') : Going w T w' :=
  h.step (h.1.below hb h.1.lt) (grown_of_below hb _)
theorem Going.alloc {w wr : World} {T : Nat} (h : Going w T wr) (o : Obj) : Going w T (wr.alloc o) := h.below ((Below.refl _ _).alloc (Nat.le_refl _) o)

/-- Copies do not lie in a tape: there two numbers never lie side by side. -/
theorem ArgC.tape {w w' : World} {T : Nat} {A : Option Addr} {n : Nat} {cs : List (Int × Int)} (h : ArgC w A n cs) (ht : Tape w T) (hg : w.grownBy w' (some T)) : ArgC w' A n cs := by
  refine ⟨?_, h.len⟩
  rcases h.lies with h0 | ⟨ad, e, hb, hc⟩
  · exact .inl h0
  · cases cs with
    | nil => exact .inl rfl
    | cons p cs =>
      have hne : ad.block ≠ T := by
        intro he
        have c0 := hc 0 (.int .i64 p.1) rfl
        have c1 := hc 1 (.int .i64 p.2) rfl
        obtain ⟨A', n', c', k', zs, h1, _⟩ := ht
        have ha : ad.add 0 = ad := by unfold Addr.add; simp
        rw [ha] at c0
        unfold World.cell? at c0 c1
        rw [he, h1] at c0
        rw [show (ad.add 1).block = T from by rw [add_block]; exact he, h1] at c1
        have e1 : (ad.add 1).off = ad.off + 1 := by unfold Addr.add; simp
        have e2 : (ad.add 1).spot = none := by unfold Addr.add; simp
        simp only [e1, e2] at c1
        simp only at c0
        split at c0
        · cases c0
        · match hoff : ad.off, c0 with
          | 0, c0 => simp at c0
          | 1, c0 => rw [hoff] at c1; simp at c1
          | n + 2, c0 => simp at c0
      refine .inr ⟨ad, e, by have := hg.size; omega, fun j u hu => hg.cell (hc j u hu) (by rw [add_block]; intro h; injection h with h; exact hne h)⟩
end Go.Proofs.Ytmbelhdkaepohaa

namespace Go.Proofs.Ytmbelhdkaepohaa
set_option maxRecDepth 20000
set_option linter.unusedVariables false
open Go.ChangeShapes Go.WideShapes Go.ChangeAt Go.RowKit

def cells5 (W : Int) (A : Option Addr) (n c : Nat) (V : Int) (B : Option Addr) (m d : Nat) (C : Option Addr) (k q : Nat) : Array Value :=
  #[.int .i64 W, .slice A n c, .int .i64 V, .slice B m d, .slice C k q]
theorem noU {w : World} {g t : Nat} {cs : Array Value} (h : Fb w g cs t) (hc : ∀ (j : Nat) (x : Int), cs[j]? ≠ some (Value.int .u64 x)) {p : Addr} {x : Int} (hp : w.cell? p = some (.int .u64 x)) : p.block ≠ g := by
  rintro rfl
  unfold World.cell? at hp
  unfold Fb at h
  rw [h] at hp
  simp only at hp
  split at hp
  · cases hp
  · exact hc _ _ hp
theorem arg_far {w : World} {g t : Nat} {cs : Array Value} {A : Option Addr} {n : Nat} {ws : List Nat} (h : Arg w A n ws) (hf : Fb w g cs t) (hc : ∀ (j : Nat) (x : Int), cs[j]? ≠ some (Value.int .u64 x)) {p : Addr} (hp : p.block = g) (u : Value) : Arg (w.setCell p u) A n ws := by
  refine h.far ?_ u
  rcases h.lies with h0 | ⟨ad, e, hb, hx⟩
  · exact .inl (List.map_eq_nil_iff.1 h0)
  · cases ws with
    | nil => exact .inl rfl
    | cons x ws =>
      refine .inr fun ad' e' => ?_
      rw [e] at e'
      injection e' with e'
      subst e'
      have h1 := hx 0 (.int .u64 (x : Int)) rfl
      have := noU hf hc h1
      rw [add_block] at this
      rw [hp]; exact this
theorem cells5_no (W : Int) (A : Option Addr) (n c : Nat) (V : Int) (B : Option Addr) (m d : Nat) (C : Option Addr) (k q : Nat) : ∀ (j : Nat) (x : Int), (cells5 W A n c V B m d C k q)[j]? ≠ some (Value.int .u64 x) := by
  intro j x h
  unfold cells5 at h
  match j with
  | 0 => simp at h
  | 1 => simp at h
  | 2 => simp at h
  | 3 => simp at h
  | 4 => simp at h
  | j + 5 => simp at h
theorem fb_ne_own {w : World} {g t base ty size n : Nat} {cs : Array Value} {v : Value} {xs : List Value} (hf : Fb w g cs t) (h : w.ownsRow base ty size v n xs) (ht : t ≠ ty) : some g ≠ v.ownBlock := by
  rcases h.2 with ⟨rfl, _⟩ | ⟨g', cap, cur, rfl, _, hg, _⟩
  · simp [Value.ownBlock]
  · intro e
    simp only [Value.ownBlock, Option.some.injEq] at e
    subst e
    unfold Fb at hf
    rw [hf] at hg
    injection hg with hg
    injection hg with _ hg
    exact ht hg
theorem own_row' {w : World} {base : Nat} {ty : TypeId} {size : Nat} {v : Value} {n : Nat} {xs : List Value} (h : w.ownsRow base ty size v n xs) {k : Nat} (hk : k < base) : v.ownBlock = none ∨ v.ownBlock ≠ some k := by
  cases e : v.ownBlock with
  | none => exact .inl rfl
  | some j => exact .inr (by have := (h.lt j e).1; simp only [ne_eq, Option.some.injEq]; omega)
structure Spf (w : World) (T : Nat) (fc : Array Value) (W1 : Int) (A1 : Option Addr) (n1 c1 : Nat) (V1 : Int) (B1 : Option Addr) (m1 d1 : Nat) (C1 k1 q1 : Nat) (gs1 ks1 : List Nat) (cs1 : List (Int × Int)) (wr : World) : Prop where
  len : cs1.length = k1
  f0 : Fb wr w.heap.size fc 28
  r0 : Fb wr (w.heap.size + 1) #[.int .i64 0, .slice none 0 0, .int .i64 0, .slice none 0 0, .slice none 0 0] 28
  q0 : Fb wr (w.heap.size + 1 + 1) (cells5 W1 A1 n1 c1 V1 B1 m1 d1 (some ⟨C1, 0, none⟩) k1 q1) 28
  gen : Arg wr A1 n1 gs1
  kill : Arg wr B1 m1 ks1
  own : wr.ownsRow (w.heap.size + 1 + 1 + 1) 48 2 (.slice (some ⟨C1, 0, none⟩) k1 q1) k1 (pairs cs1)
  tape : Tape wr T
  gr : w.grownBy wr (some T)
  tl : T < w.heap.size
section
variable {w wr w' : World} {T : Nat} {fc : Array Value} {W1 V1 : Int} {A1 B1 : Option Addr} {n1 c1 m1 d1 C1 k1 q1 : Nat} {gs1 ks1 : List Nat} {cs1 : List (Int × Int)}
theorem Spf.step (h : Spf w T fc W1 A1 n1 c1 V1 B1 m1 d1 C1 k1 q1 gs1 ks1 cs1 wr) (ht : Tape w' T) (hg : wr.grownBy w' (some T)) : Spf w T fc W1 A1 n1 c1 V1 B1 m1 d1 C1 k1 q1 gs1 ks1 cs1 w' := by
  have hT := h.tl
  exact ⟨h.len, h.f0.grown hg (by simp; omega), h.r0.grown hg (by simp; omega), h.q0.grown hg (by simp; omega), h.gen.tape h.tape hg, h.kill.tape h.tape hg, h.own.kept hg (own_row' h.own (by omega)), ht, grown_trans h.gr hg, h.tl⟩
theorem Spf.below (h : Spf w T fc W1 A1 n1 c1 V1 B1 m1 d1 C1 k1 q1 gs1 ks1 cs1 wr) (hb : Below wr.heap.size wr w') : Spf w T fc W1 A1 n1 c1 V1 B1 m1 d1 C1 k1 q1 gs1 ks1 cs1 w' :=
  h.step (h.tape.below hb h.tape.lt) (grown_of_below hb _)
theorem Spf.cells (h : Spf w T fc W1 A1 n1 c1 V1 B1 m1 d1 C1 k1 q1 gs1 ks1 cs1 wr) :
    (wr.cell? ⟨w.heap.size + 1 + 1, 0, none⟩ = some (.int .i64 W1) ∧ wr.cell? ⟨w.heap.size + 1 + 1, 1, none⟩ = some (.slice A1 n1 c1) ∧ wr.cell? ⟨w.heap.size + 1 + 1, 2, none⟩ = some (.int .i64 V1) ∧ wr.cell? ⟨w.heap.size + 1 + 1, 3, none⟩ = some (.slice B1 m1 d1) ∧ wr.cell? ⟨w.heap.size + 1 + 1, 4, none⟩ = some (.slice (some ⟨C1, 0, none⟩) k1 q1)) ∧
    (wr.frozen? ⟨w.heap.size + 1 + 1, 0, none⟩ = false ∧ wr.frozen? ⟨w.heap.size + 1 + 1, 1, none⟩ = false ∧ wr.frozen? ⟨w.heap.size + 1 + 1, 2, none⟩ = false ∧ wr.frozen? ⟨w.heap.size + 1 + 1, 3, none⟩ = false ∧ wr.frozen? ⟨w.heap.size + 1 + 1, 4, none⟩ = false) ∧ w.heap.size + 1 + 1 < wr.heap.size :=
  ⟨h.q0.five, ⟨h.q0.frozen 0, h.q0.frozen 1, h.q0.frozen 2, h.q0.frozen 3, h.q0.frozen 4⟩, h.q0.lt⟩
theorem Spf.setGen {W9 : Int} {A9 : Option Addr} {n9 c9 : Nat} {gs9 : List Nat} (h : Spf w T fc W1 A1 n1 c1 V1 B1 m1 d1 C1 k1 q1 gs1 ks1 cs1 wr) (ha : Arg wr A9 n9 gs9) :
    Spf w T fc W9 A9 n9 c9 V1 B1 m1 d1 C1 k1 q1 gs9 ks1 cs1 ((wr.setCell ⟨w.heap.size + 1 + 1, 0, none⟩ (.int .i64 W9)).setCell ⟨w.heap.size + 1 + 1, 1, none⟩ (.slice A9 n9 c9)) := by
  obtain ⟨hl, h1, h2, h3, h4, h5, h6, h7, h8, h9⟩ := h
  have e1 : Fb (wr.setCell ⟨w.heap.size + 1 + 1, 0, none⟩ (.int .i64 W9)) (w.heap.size + 1 + 1) (cells5 W9 A1 n1 c1 V1 B1 m1 d1 (some ⟨C1, 0, none⟩) k1 q1) 28 := h3.set 0 _
  have e2 : Fb ((wr.setCell ⟨w.heap.size + 1 + 1, 0, none⟩ (.int .i64 W9)).setCell ⟨w.heap.size + 1 + 1, 1, none⟩ (.slice A9 n9 c9)) (w.heap.size + 1 + 1) (cells5 W9 A9 n9 c9 V1 B1 m1 d1 (some ⟨C1, 0, none⟩) k1 q1) 28 := e1.set 1 _
  have kk := fun (A : Option Addr) (n : Nat) (ws : List Nat) (hx : Arg wr A n ws) => arg_far (p := ⟨w.heap.size + 1 + 1, 1, none⟩) (arg_far (p := ⟨w.heap.size + 1 + 1, 0, none⟩) hx h3 (cells5_no _ _ _ _ _ _ _ _ _ _ _) rfl (.int .i64 W9)) e1 (cells5_no _ _ _ _ _ _ _ _ _ _ _) rfl (.slice A9 n9 c9)
  exact ⟨hl, (h1.far (by simp; omega) _).far (by simp; omega) _, (h2.far (by simp) _).far (by simp) _, e2, kk _ _ _ ha, kk _ _ _ h5,
    World.ownsRow.kept (World.ownsRow.kept h6 (setCell_grown wr _ _) (own_row' h6 (by simp))) (setCell_grown _ _ _) (own_row' h6 (by simp)), (h7.far (by simp; omega) _).far (by simp; omega) _, grown_set_new (grown_set_new h8 (by simp; omega) _) (by simp; omega) _, h9⟩
theorem Spf.setKill {W9 : Int} {A9 : Option Addr} {n9 c9 : Nat} {gs9 : List Nat} (h : Spf w T fc W1 A1 n1 c1 V1 B1 m1 d1 C1 k1 q1 gs1 ks1 cs1 wr) (ha : Arg wr A9 n9 gs9) :
    Spf w T fc W1 A1 n1 c1 W9 A9 n9 c9 C1 k1 q1 gs1 gs9 cs1 ((wr.setCell ⟨w.heap.size + 1 + 1, 2, none⟩ (.int .i64 W9)).setCell ⟨w.heap.size + 1 + 1, 3, none⟩ (.slice A9 n9 c9)) := by
  obtain ⟨hl, h1, h2, h3, h4, h5, h6, h7, h8, h9⟩ := h
  have e1 : Fb (wr.setCell ⟨w.heap.size + 1 + 1, 2, none⟩ (.int .i64 W9)) (w.heap.size + 1 + 1) (cells5 W1 A1 n1 c1 W9 B1 m1 d1 (some ⟨C1, 0, none⟩) k1 q1) 28 := h3.set 2 _
  have e2 : Fb ((wr.setCell ⟨w.heap.size + 1 + 1, 2, none⟩ (.int .i64 W9)).setCell ⟨w.heap.size + 1 + 1, 3, none⟩ (.slice A9 n9 c9)) (w.heap.size + 1 + 1) (cells5 W1 A1 n1 c1 W9 A9 n9 c9 (some ⟨C1, 0, none⟩) k1 q1) 28 := e1.set 3 _
  have kk := fun (A : Option Addr) (n : Nat) (ws : List Nat) (hx : Arg wr A n ws) => arg_far (p := ⟨w.heap.size + 1 + 1, 3, none⟩) (arg_far (p := ⟨w.heap.size + 1 + 1, 2, none⟩) hx h3 (cells5_no _ _ _ _ _ _ _ _ _ _ _) rfl (.int .i64 W9)) e1 (cells5_no _ _ _ _ _ _ _ _ _ _ _) rfl (.slice A9 n9 c9)
  exact ⟨hl, (h1.far (by simp; omega) _).far (by simp; omega) _, (h2.far (by simp) _).far (by simp) _, e2, kk _ _ _ h4, kk _ _ _ ha,
    World.ownsRow.kept (World.ownsRow.kept h6 (setCell_grown wr _ _) (own_row' h6 (by simp))) (setCell_grown _ _ _) (own_row' h6 (by simp)), (h7.far (by simp; omega) _).far (by simp; omega) _, grown_set_new (grown_set_new h8 (by simp; omega) _) (by simp; omega) _, h9⟩
/-- The copies have become others, in a row of the call's own; the sets are those that came in. -/
theorem Spf.copies {C9 k9 q9 : Nat} {cs9 : List (Int × Int)} {row : Option Nat} (h : Spf w T fc W1 A1 n1 c1 V1 B1 m1 d1 C1 k1 q1 gs1 ks1 cs1 wr) (hgen : Arg w A1 n1 gs1) (hkill : Arg w B1 m1 ks1) (ht0 : Tape w T)
    (hl9 : cs9.length = k9) (hown : w'.ownsRow (w.heap.size + 1 + 1 + 1) 48 2 (.slice (some ⟨C9, 0, none⟩) k9 q9) k9 (pairs cs9)) (hg : wr.grownBy w' row) (hrow : ∀ k, row = some k → w.heap.size + 1 + 1 + 1 ≤ k) :
    (w'.cell? ⟨w.heap.size + 1 + 1, 4, none⟩ = some (.slice (some ⟨C1, 0, none⟩) k1 q1) ∧ w'.frozen? ⟨w.heap.size + 1 + 1, 4, none⟩ = false) ∧
    Spf w T fc W1 A1 n1 c1 V1 B1 m1 d1 C9 k9 q9 gs1 ks1 cs9 (w'.setCell ⟨w.heap.size + 1 + 1, 4, none⟩ (.slice (some ⟨C9, 0, none⟩) k9 q9)) := by
  obtain ⟨hl, h1, h2, h3, h4, h5, h6, h7, h8, h9⟩ := h
  have hne : ∀ j, j < w.heap.size + 1 + 1 + 1 → some j ≠ row := fun j hj e => by have := hrow j e.symm; omega
  have e1 := h1.grown hg (hne _ (by omega))
  have e2 := h2.grown hg (hne _ (by omega))
  have e3 := h3.grown hg (hne _ (by omega))
  have hz := h8.size
  have e7 : Tape w' T := h7.keep fun k hk => hg.block k (by omega) (hne _ (by omega))
  have e8 : w.grownBy w' (some T) := ⟨hg.os.trans h8.os, hg.tape.trans h8.tape, hg.output.trans h8.output, Nat.le_trans h8.size hg.size, fun k hk hn => (hg.block k (by omega) (hne _ (by omega))).trans (h8.block k hk hn)⟩
  have e9 := grown_set_new e8 (p := ⟨w.heap.size + 1 + 1, 4, none⟩) (by show w.heap.size ≤ w.heap.size + 1 + 1; omega) (.slice (some ⟨C9, 0, none⟩) k9 q9)
  refine ⟨⟨e3.cell 4, e3.frozen 4⟩, hl9, e1.far (by simp; omega) _, e2.far (by simp) _, e3.set 4 _, hgen.tape ht0 e9, hkill.tape ht0 e9, World.ownsRow.kept hown (setCell_grown _ _ _) (own_row' hown (by simp)), e7.far (by simp; omega) _, e9, h9⟩
/-- A spoiled function came back. -/
def GenF (w : World) (T : Nat) (e : Ending) (w' : World) : Prop :=
  ∃ (W V : Int) (A : Option Addr) (n c : Nat) (B : Option Addr) (m d : Nat) (C : Option Addr) (k q : Nat) (gs ks : List Nat) (cs : List (Int × Int)),
    e = .returned (.agg #[.int .i64 W, .slice A n c, .int .i64 V, .slice B m d, .slice C k q]) ∧ FArg w' A n B m C k gs ks cs ∧ Tape w' T ∧ w.grownBy w' (some T)
theorem Spf.done (h : Spf w T fc W1 A1 n1 c1 V1 B1 m1 d1 C1 k1 q1 gs1 ks1 cs1 wr) :
    GenF w T (.returned (.agg #[.int .i64 W1, .slice A1 n1 c1, .int .i64 V1, .slice B1 m1 d1, .slice (some ⟨C1, 0, none⟩) k1 q1]))
      (((((wr.setCell ⟨w.heap.size + 1, 0, none⟩ (.int .i64 W1)).setCell ⟨w.heap.size + 1, 1, none⟩ (.slice A1 n1 c1)).setCell ⟨w.heap.size + 1, 2, none⟩ (.int .i64 V1)).setCell ⟨w.heap.size + 1, 3, none⟩ (.slice B1 m1 d1)).setCell ⟨w.heap.size + 1, 4, none⟩ (.slice (some ⟨C1, 0, none⟩) k1 q1)) := by
  obtain ⟨hl, h1, h2, h3, h4, h5, h6, h7, h8, h9⟩ := h
  have e0 : Fb wr (w.heap.size + 1) (cells5 0 none 0 0 0 none 0 0 none 0 0) 28 := h2
  have e1 : Fb _ (w.heap.size + 1) (cells5 W1 none 0 0 0 none 0 0 none 0 0) 28 := e0.set 0 (.int .i64 W1)
  have e2 : Fb _ (w.heap.size + 1) (cells5 W1 A1 n1 c1 0 none 0 0 none 0 0) 28 := e1.set 1 (.slice A1 n1 c1)
  have e3 : Fb _ (w.heap.size + 1) (cells5 W1 A1 n1 c1 V1 none 0 0 none 0 0) 28 := e2.set 2 (.int .i64 V1)
  have e4 : Fb _ (w.heap.size + 1) (cells5 W1 A1 n1 c1 V1 B1 m1 d1 none 0 0) 28 := e3.set 3 (.slice B1 m1 d1)
  have kk := fun (A : Option Addr) (n : Nat) (ws : List Nat) (hx : Arg wr A n ws) =>
    arg_far (p := ⟨w.heap.size + 1, 4, none⟩) (arg_far (p := ⟨w.heap.size + 1, 3, none⟩) (arg_far (p := ⟨w.heap.size + 1, 2, none⟩) (arg_far (p := ⟨w.heap.size + 1, 1, none⟩) (arg_far (p := ⟨w.heap.size + 1, 0, none⟩) hx e0 (cells5_no _ _ _ _ _ _ _ _ _ _ _) rfl (.int .i64 W1))
      e1 (cells5_no _ _ _ _ _ _ _ _ _ _ _) rfl (.slice A1 n1 c1)) e2 (cells5_no _ _ _ _ _ _ _ _ _ _ _) rfl (.int .i64 V1)) e3 (cells5_no _ _ _ _ _ _ _ _ _ _ _) rfl (.slice B1 m1 d1)) e4 (cells5_no _ _ _ _ _ _ _ _ _ _ _) rfl (.slice (some ⟨C1, 0, none⟩) k1 q1)
  have ko : ∀ {wx : World} (j : Nat) (u : Value), wx.ownsRow (w.heap.size + 1 + 1 + 1) 48 2 (.slice (some ⟨C1, 0, none⟩) k1 q1) k1 (pairs cs1) → (wx.setCell ⟨w.heap.size + 1, j, none⟩ u).ownsRow (w.heap.size + 1 + 1 + 1) 48 2 (.slice (some ⟨C1, 0, none⟩) k1 q1) k1 (pairs cs1) := fun {wx} j u hx =>
    World.ownsRow.kept hx (setCell_grown wx _ u) (own_row' hx (by simp))
  have kt : ∀ {wx : World} (j : Nat) (u : Value), Tape wx T → Tape (wx.setCell ⟨w.heap.size + 1, j, none⟩ u) T := fun j u h => h.far (by simp; omega) u
  have kg : ∀ {wx : World} (j : Nat) (u : Value), w.grownBy wx (some T) → w.grownBy (wx.setCell ⟨w.heap.size + 1, j, none⟩ u) (some T) := fun j u h => grown_set_new h (by simp) u
  exact ⟨W1, V1, A1, n1, c1, B1, m1, d1, some ⟨C1, 0, none⟩, k1, q1, gs1, ks1, cs1, rfl, ⟨kk _ _ _ h4, kk _ _ _ h5, ⟨own_at (ko 4 _ (ko 3 _ (ko 2 _ (ko 1 _ (ko 0 _ h6))))), hl⟩⟩, kt _ _ (kt _ _ (kt _ _ (kt _ _ (kt _ _ h7)))), kg _ _ (kg _ _ (kg _ _ (kg _ _ (kg _ _ h8))))⟩
end
end Go.Proofs.Ytmbelhdkaepohaa

namespace Go.Proofs.Ytmbelhdkaepohaa
set_option maxRecDepth 20000
set_option linter.unusedVariables false
set_option linter.unusedSimpArgs false
open Go.ChangeShapes Go.WideShapes Go.ChangeAt Go.RowKit
attribute [local go_sem ↓] Go.wp_at_zero Go.wp_at_succ

/-- The start: the copies lie in a row of the call's own. -/
theorem Spf.start {w w' : World} {T : Nat} {W V : Int} {A B C : Option Addr} {n c m d k q C9 q9 : Nat} {gs ks : List Nat} {cs : List (Int × Int)} {row : Option Nat} (ht : Tape w T) (hA : Arg w A n gs) (hB : Arg w B m ks) (hl : cs.length = k)
    (hg : ((((w.alloc (.cells (cells5 W A n c V B m d C k q) 28)).alloc (.cells #[.int .i64 0, .slice none 0 0, .int .i64 0, .slice none 0 0, .slice none 0 0] 28)).alloc (.cells (cells5 W A n c V B m d C k q) 28)).alloc (.cells #[] 48)).grownBy w' row)
    (hown : w'.ownsRow (w.heap.size + 1 + 1 + 1) 48 2 (.slice (some ⟨C9, 0, none⟩) k q9) k (pairs cs)) (hrow : ∀ j, row = some j → w.heap.size + 1 + 1 + 1 ≤ j) :
    (w'.cell? ⟨w.heap.size + 1 + 1, 4, none⟩ = some (.slice C k q) ∧ w'.frozen? ⟨w.heap.size + 1 + 1, 4, none⟩ = false) ∧
    Spf w T (cells5 W A n c V B m d C k q) W A n c V B m d C9 k q9 gs ks cs (w'.setCell ⟨w.heap.size + 1 + 1, 4, none⟩ (.slice (some ⟨C9, 0, none⟩) k q9)) := by
  have hT := ht.lt
  have hne : ∀ j, j < w.heap.size + 1 + 1 + 1 → some j ≠ row := fun j hj e => by have := hrow j e.symm; omega
  have f0 := (((Fb.new w (cells5 W A n c V B m d C k q) 28).alloc (.cells #[.int .i64 0, .slice none 0 0, .int .i64 0, .slice none 0 0, .slice none 0 0] 28)).alloc (.cells (cells5 W A n c V B m d C k q) 28)).alloc (.cells #[] 48)
  have f1 := ((Fb.new (w.alloc (.cells (cells5 W A n c V B m d C k q) 28)) #[.int .i64 0, .slice none 0 0, .int .i64 0, .slice none 0 0, .slice none 0 0] 28).alloc (.cells (cells5 W A n c V B m d C k q) 28)).alloc (.cells #[] 48)
  have f2 := (Fb.new ((w.alloc (.cells (cells5 W A n c V B m d C k q) 28)).alloc (.cells #[.int .i64 0, .slice none 0 0, .int .i64 0, .slice none 0 0, .slice none 0 0] 28)) (cells5 W A n c V B m d C k q) 28).alloc (.cells #[] 48)
  rw [World.size_alloc] at f1
  rw [World.size_alloc, World.size_alloc] at f2
  have b0 := (((((Below.refl w.heap.size w).alloc (Nat.le_refl _) (.cells (cells5 W A n c V B m d C k q) 28)).alloc (by simp) (.cells #[.int .i64 0, .slice none 0 0, .int .i64 0, .slice none 0 0, .slice none 0 0] 28)).alloc (by simp; omega) (.cells (cells5 W A n c V B m d C k q) 28)).alloc (by simp; omega) (.cells #[] 48))
  have g0 := grown_of_below b0 (some T)
  have e7 : Tape w' T := (ht.below b0 hT).keep fun j hj => hg.block j (by simp; omega) (hne _ (by omega))
  have e8 : w.grownBy w' (some T) := ⟨hg.os.trans g0.os, hg.tape.trans g0.tape, hg.output.trans g0.output, Nat.le_trans g0.size hg.size, fun j hj hn => (hg.block j (by simp; omega) (hne _ (by omega))).trans (g0.block j hj hn)⟩
  have e9 := grown_set_new e8 (p := ⟨w.heap.size + 1 + 1, 4, none⟩) (by show w.heap.size ≤ w.heap.size + 1 + 1; omega) (.slice (some ⟨C9, 0, none⟩) k q9)
  have e1 := f0.grown hg (hne _ (by omega))
  have e2 := f1.grown hg (hne _ (by omega))
  have e3 := f2.grown hg (hne _ (by omega))
  exact ⟨⟨e3.cell 4, e3.frozen 4⟩, hl, e1.far (by simp; omega) _, e2.far (by simp) _, e3.set 4 _, hA.tape ht e9, hB.tape ht e9, World.ownsRow.kept hown (setCell_grown _ _ _) (own_row' hown (by simp)), e7.far (by simp; omega) _, e9, hT⟩

theorem one_pairI (a b : Int) : ∀ u ∈ [Value.int .i64 a, Value.int .i64 b], u.oneCell' = true := by
  intro u hu
  simp at hu
  rcases hu with rfl | rfl <;> rfl
theorem Spf.alloc {w wr : World} {T : Nat} {fc : Array Value} {W1 V1 : Int} {A1 B1 : Option Addr} {n1 c1 m1 d1 C1 k1 q1 : Nat} {gs1 ks1 : List Nat} {cs1 : List (Int × Int)} (h : Spf w T fc W1 A1 n1 c1 V1 B1 m1 d1 C1 k1 q1 gs1 ks1 cs1 wr) (o : Obj) : Spf w T fc W1 A1 n1 c1 V1 B1 m1 d1 C1 k1 q1 gs1 ks1 cs1 (wr.alloc o) :=
  h.below ((Below.refl _ _).alloc (Nat.le_refl _) o)
theorem Spf.push {w wr w' : World} {T : Nat} {fc : Array Value} {W1 V1 x y : Int} {A1 B1 : Option Addr} {n1 c1 m1 d1 C1 k1 q1 g cap : Nat} {gs1 ks1 : List Nat} {cs1 : List (Int × Int)} (h : Spf w T fc W1 A1 n1 c1 V1 B1 m1 d1 C1 k1 q1 gs1 ks1 cs1 wr) (o : Obj) (hgen : Arg w A1 n1 gs1) (hkill : Arg w B1 m1 ks1) (ht0 : Tape w T)
    (hown : w'.ownsRow (w.heap.size + 1 + 1 + 1) 48 2 (.slice (some ⟨g, 0, none⟩) (k1 + 1) cap) (k1 + 1) (pairs cs1 ++ [.int .i64 x, .int .i64 y])) (hg : (wr.alloc o).grownBy w' (Value.slice (some ⟨C1, 0, none⟩) k1 q1).ownBlock) :
    (w'.cell? ⟨w.heap.size + 1 + 1, 4, none⟩ = some (.slice (some ⟨C1, 0, none⟩) k1 q1) ∧ w'.frozen? ⟨w.heap.size + 1 + 1, 4, none⟩ = false) ∧
    Spf w T fc W1 A1 n1 c1 V1 B1 m1 d1 g (k1 + 1) cap gs1 ks1 (cs1 ++ [(x, y)]) (w'.setCell ⟨w.heap.size + 1 + 1, 4, none⟩ (.slice (some ⟨g, 0, none⟩) (k1 + 1) cap)) :=
  (h.alloc o).copies hgen hkill ht0 (by rw [List.length_append, h.len]; rfl) (by rw [pairs_snoc]; exact hown) hg (fun j hj => (h.own.lt j hj).1)
theorem Spf.front {w wr w' : World} {T : Nat} {fc : Array Value} {W1 V1 x y : Int} {A1 B1 : Option Addr} {n1 c1 m1 d1 C1 k1 q1 L : Nat} {v : Value} {gs1 ks1 : List Nat} {cs1 : List (Int × Int)} (h : Spf w T fc W1 A1 n1 c1 V1 B1 m1 d1 C1 k1 q1 gs1 ks1 cs1 wr) (o : Obj) (hgen : Arg w A1 n1 gs1) (hkill : Arg w B1 m1 ks1) (ht0 : Tape w T)
    (hown : w'.ownsRow (w.heap.size + 1 + 1 + 1) 48 2 v (1 + k1) ([.int .i64 x, .int .i64 y] ++ pairs cs1)) (hg : (wr.alloc o).grownBy w' (some L)) (hL : L = wr.heap.size) :
    ∃ g cap, v = .slice (some ⟨g, 0, none⟩) (1 + k1) cap ∧ (w'.cell? ⟨w.heap.size + 1 + 1, 4, none⟩ = some (.slice (some ⟨C1, 0, none⟩) k1 q1) ∧ w'.frozen? ⟨w.heap.size + 1 + 1, 4, none⟩ = false) ∧
    Spf w T fc W1 A1 n1 c1 V1 B1 m1 d1 g (1 + k1) cap gs1 ks1 ((x, y) :: cs1) (w'.setCell ⟨w.heap.size + 1 + 1, 4, none⟩ (.slice (some ⟨g, 0, none⟩) (1 + k1) cap)) := by
  rcases hown.2 with ⟨_, h0⟩ | ⟨g, cap, cur, rfl, _⟩
  · omega
  · have hz := h.q0.lt
    exact ⟨g, cap, rfl, (h.alloc o).copies hgen hkill ht0 (by rw [List.length_cons, h.len]; omega) (by simpa [pairs] using hown) hg (fun j hj => by injection hj with hj; omega)⟩
theorem Spf.row {w wr : World} {T : Nat} {fc : Array Value} {W1 V1 : Int} {A1 B1 : Option Addr} {n1 c1 m1 d1 C1 k1 q1 : Nat} {gs1 ks1 : List Nat} {cs1 : List (Int × Int)} (h : Spf w T fc W1 A1 n1 c1 V1 B1 m1 d1 C1 k1 q1 gs1 ks1 cs1 wr) :
    ∀ (j : Nat) (u : Value), (pairs cs1)[j]? = some u → wr.cell? ((⟨C1, 0, none⟩ : Addr).add j) = some u := by
  intro j u hu
  have hj : j < (pairs cs1).length := (List.getElem?_eq_some_iff.1 hu).1
  rw [pairs_length, h.len] at hj
  rw [add_of, World.ownsRow.cellAt h.own j (by omega), hu]
theorem Spf.lit {w wr : World} {T : Nat} {fc : Array Value} {W1 V1 : Int} {A1 B1 : Option Addr} {n1 c1 m1 d1 C1 k1 q1 : Nat} {gs1 ks1 : List Nat} {cs1 : List (Int × Int)} (h : Spf w T fc W1 A1 n1 c1 V1 B1 m1 d1 C1 k1 q1 gs1 ks1 cs1 wr) (x y : Int) :
    (wr.alloc (.cells #[.int .i64 x, .int .i64 y] 48)).ownsRow (w.heap.size + 1 + 1 + 1) 48 2 (.slice (some ⟨wr.heap.size, 0, none⟩) 1 1) 1 [.int .i64 x, .int .i64 y] :=
  World.ownsRow_lit wr #[.int .i64 x, .int .i64 y] 1 (by have := h.q0.lt; omega) (by simp [maxLen]) rfl
theorem Spf.start0 {w : World} {T : Nat} {W V : Int} {A B C : Option Addr} {n c m d k q : Nat} {gs ks : List Nat} (ht : Tape w T) (hA : Arg w A n gs) (hB : Arg w B m ks) :
    Spf w T (cells5 W A n c V B m d C k q) W A n c V B m d (w.heap.size + 1 + 1 + 1) 0 0 gs ks []
      ((((w.alloc (.cells (cells5 W A n c V B m d C k q) 28)).alloc (.cells #[.int .i64 0, .slice none 0 0, .int .i64 0, .slice none 0 0, .slice none 0 0] 28)).alloc (.cells (cells5 W A n c V B m d (some ⟨w.heap.size + 1 + 1 + 1, 0, none⟩) 0 0) 28)).alloc (.cells #[] 48)) := by
  have hT := ht.lt
  have f0 := (((Fb.new w (cells5 W A n c V B m d C k q) 28).alloc (.cells #[.int .i64 0, .slice none 0 0, .int .i64 0, .slice none 0 0, .slice none 0 0] 28)).alloc (.cells (cells5 W A n c V B m d (some ⟨w.heap.size + 1 + 1 + 1, 0, none⟩) 0 0) 28)).alloc (.cells #[] 48)
  have f1 := ((Fb.new (w.alloc (.cells (cells5 W A n c V B m d C k q) 28)) #[.int .i64 0, .slice none 0 0, .int .i64 0, .slice none 0 0, .slice none 0 0] 28).alloc (.cells (cells5 W A n c V B m d (some ⟨w.heap.size + 1 + 1 + 1, 0, none⟩) 0 0) 28)).alloc (.cells #[] 48)
  have f2 := (Fb.new ((w.alloc (.cells (cells5 W A n c V B m d C k q) 28)).alloc (.cells #[.int .i64 0, .slice none 0 0, .int .i64 0, .slice none 0 0, .slice none 0 0] 28)) (cells5 W A n c V B m d (some ⟨w.heap.size + 1 + 1 + 1, 0, none⟩) 0 0) 28).alloc (.cells #[] 48)
  rw [World.size_alloc] at f1
  rw [World.size_alloc, World.size_alloc] at f2
  have b0 := (((((Below.refl w.heap.size w).alloc (Nat.le_refl _) (.cells (cells5 W A n c V B m d C k q) 28)).alloc (by simp) (.cells #[.int .i64 0, .slice none 0 0, .int .i64 0, .slice none 0 0, .slice none 0 0] 28)).alloc (by simp; omega) (.cells (cells5 W A n c V B m d (some ⟨w.heap.size + 1 + 1 + 1, 0, none⟩) 0 0) 28)).alloc (by simp; omega) (.cells #[] 48))
  have g0 := grown_of_below b0 (some T)
  have ho := World.ownsRow_lit (base := w.heap.size + 1 + 1 + 1) (e := 48) (size := 2) ((((w.alloc (.cells (cells5 W A n c V B m d C k q) 28)).alloc (.cells #[.int .i64 0, .slice none 0 0, .int .i64 0, .slice none 0 0, .slice none 0 0] 28)).alloc (.cells (cells5 W A n c V B m d (some ⟨w.heap.size + 1 + 1 + 1, 0, none⟩) 0 0) 28))) #[] 0 (by simp) (by simp [maxLen]) rfl
  refine ⟨rfl, f0, f1, f2, hA.below b0, hB.below b0, ?_, ht.below b0 hT, g0, hT⟩
  simpa [pairs] using ho

set_option maxHeartbeats 12800000 in
theorem spoilT_any (T W g1 g2 n c m d k q : Nat) (C : Option Addr) (gs ks : List Nat) (cs : List (Int × Int)) (w : World) (ht : Tape w T) (hA : Arg w (some ⟨g1, 0, none⟩) n gs) (hB : Arg w (some ⟨g2, 0, none⟩) m ks) (hC : ArgC w C k cs)
    (hk : k ≤ 12) (hW : W ≤ 16) (hn : n ≤ 50) (hm : m ≤ 50) :
    Calls Try.prog 10 #[.pointer (some ⟨T, 0, none⟩), .agg #[.int .i64 W, .slice (some ⟨g1, 0, none⟩) n c, .int .i64 W, .slice (some ⟨g2, 0, none⟩) m d, .slice C k q]] w (GenF w T) := by
  obtain ⟨i0, hi, hz0, hz1, hz2⟩ := info_parts info35
  have Hi := hid hi; have Hz0 := hid hz0; have Hz1 := hid hz1; have Hz2 := hid hz2
  have Ht := hid ht; have HA := hid hA; have HB := hid hB; have HC := hid hC
  have HL := hid hC.len
  have hb3 := ((((Below.refl w.heap.size w).alloc (Nat.le_refl _) (.cells (cells5 W (some ⟨g1, 0, none⟩) n c W (some ⟨g2, 0, none⟩) m d C k q) 28)).alloc (by simp) (.cells #[.int .i64 0, .slice none 0 0, .int .i64 0, .slice none 0 0, .slice none 0 0] 28)).alloc (by simp; omega) (.cells (cells5 W (some ⟨g1, 0, none⟩) n c W (some ⟨g2, 0, none⟩) m d C k q) 28))
  have hb4 := hb3.alloc (by simp; omega) (.cells #[] 48)
  have HC4 := hid (hC.below hb4)
  have HE := hid (show ((((w.alloc (.cells (cells5 W (some ⟨g1, 0, none⟩) n c W (some ⟨g2, 0, none⟩) m d C k q) 28)).alloc (.cells #[.int .i64 0, .slice none 0 0, .int .i64 0, .slice none 0 0, .slice none 0 0] 28)).alloc (.cells (cells5 W (some ⟨g1, 0, none⟩) n c W (some ⟨g2, 0, none⟩) m d C k q) 28)).alloc (.cells #[] 48)).ownsRow (w.heap.size + 1 + 1 + 1) 48 2 (.slice (some ⟨w.heap.size + 1 + 1 + 1, 0, none⟩) 0 0) 0 [] from by
    have := World.ownsRow_lit (base := w.heap.size + 1 + 1 + 1) (e := 48) (size := 2) ((((w.alloc (.cells (cells5 W (some ⟨g1, 0, none⟩) n c W (some ⟨g2, 0, none⟩) m d C k q) 28)).alloc (.cells #[.int .i64 0, .slice none 0 0, .int .i64 0, .slice none 0 0, .slice none 0 0] 28)).alloc (.cells (cells5 W (some ⟨g1, 0, none⟩) n c W (some ⟨g2, 0, none⟩) m d C k q) 28))) #[] 0 (by simp) (by simp [maxLen]) rfl
    simpa using this)
  clear hi hz0 hz1 hz2 ht hA hB hC hb3 hb4
  unfold cells5 at HC4 HE
  go_enter Try.func10, Try.ntmps10
  go_upto_region 2 with fail
  go_cut [] (fun wc => Hid (∃ C9 q9 : Nat, Spf w T (cells5 W (some ⟨g1, 0, none⟩) n c W (some ⟨g2, 0, none⟩) m d C k q) W (some ⟨g1, 0, none⟩) n c W (some ⟨g2, 0, none⟩) m d C9 k q9 gs ks cs wc))
  case first =>
    by_cases hk0 : k = 0
    · subst hk0
      have h0 : cs = [] := List.eq_nil_of_length_eq_zero HL.out
      subst h0
      have HS := hid (Spf.start0 (W := W) (V := W) (c := c) (d := d) (C := C) (k := 0) (q := q) Ht.out HA.out HB.out)
      go_wp2_with (at_builtin; refine Lib.wpList_append_run _ rfl _ _ _ _ rfl _ _ rfl rfl _ _ (run_app_none _ _ _ _ _ _ _ (Nat.le_refl _) rfl _) ?_)
      go_meet
      exact ⟨_, _, HS.out⟩
    · obtain ⟨ad, rfl⟩ : ∃ ad, C = some ad := by
        rcases HC.out.lies with h | ⟨ad, e, _⟩
        · exfalso
          have h2 := pairs_length cs
          have h3 := HL.out
          rw [h] at h2; simp at h2; omega
        · exact ⟨ad, e⟩
      have hcs := hid (show ∀ (j : Nat) (u : Value), (pairs cs)[j]? = some u → ((((w.alloc (.cells #[.int .i64 W, .slice (some ⟨g1, 0, none⟩) n c, .int .i64 W, .slice (some ⟨g2, 0, none⟩) m d, .slice (some ad) k q] 28)).alloc (.cells #[.int .i64 0, .slice none 0 0, .int .i64 0, .slice none 0 0, .slice none 0 0] 28)).alloc (.cells #[.int .i64 W, .slice (some ⟨g1, 0, none⟩) n c, .int .i64 W, .slice (some ⟨g2, 0, none⟩) m d, .slice (some ad) k q] 28)).alloc (.cells #[] 48)).cell? (ad.add j) = some u from fun j u hu => by
        obtain ⟨ad', e, _, hc⟩ := HC4.out.lies.cell hu
        injection e with e
        subst e
        exact hc)
      have hl2 := hid (show (pairs cs).length = k * 2 by rw [pairs_length, HL.out]; omega)
      have h1 := hid (show ∀ u ∈ pairs cs, u.oneCell' = true from pairs_one cs)
      have hk1 : 0 < k := by omega
      go_wp2_with ((
        at_builtin
        refine wpList_append_lies _ rfl _ _ 26 rfl (w.heap.size + 1 + 1 + 1) 48 i0 _ 2 16 Try.underlying26 Hi.out Hz0.out Hz1.out Hz2.out rfl (by decide) (.slice (some ⟨w.heap.size + 1 + 1 + 1, 0, none⟩) 0 0) 0 [] rfl HE.out ad k q (pairs cs) rfl hl2.out hcs.out h1.out hk1 (by unfold maxLen; omega) (by omega) (by simp) _ rfl ?_
        intro g9 cap9 w9 hown9 hgr9 hat9 hlt9
        rw [Nat.zero_add, List.nil_append] at hown9
        obtain ⟨⟨y0, y1⟩, hs⟩ := Spf.start (w := w) (W := W) (V := W) (c := c) (d := d) (C := some ad) (q := q) Ht.out HA.out HB.out HL.out hgr9 hown9 (fun j hj => by simp [Value.ownBlock] at hj; omega)
        have HS := hid hs
        clear hown9 hgr9 hat9 hlt9 hs))
      go_meet
      exact ⟨_, _, HS.out⟩
  case rest =>
    obtain ⟨C9, q9, hS⟩ := hcut
    have H0 := hid hS
    clear hS HE HC4 HC
    go_wp2_with fail
    refine (next_any T 5 _ H0.out.tape (by omega)).mono ?_
    rintro e w5 ⟨r5, rfl, hr0, hr1, ht5, hg5, -⟩
    have H5 := hid (H0.out.step ht5 hg5)
    clear ht5 hg5 H0
    by_cases e0 : r5 = 0
    · subst e0
      obtain ⟨f0, f1, f2, f3, f4⟩ := H5.out.f0.five
      have hfl := H5.out.f0.lt
      go_wp2_with fail
      refine (spoil_any T W ⟨g1, 0, none⟩ n c gs _ H5.out.tape (HA.out.tape Ht.out H5.out.gr) hn (by omega) (by omega)).mono ?_
      rintro e w7 ⟨W9, ad9, n9, c9, ws9, rfl, hn9, ha9, ht9, hg9⟩
      have H7 := hid (H5.out.step ht9 hg9)
      have H6 := hid (H7.out.setGen (c9 := c9) (W9 := W9) ha9)
      obtain ⟨⟨c0, c1', c2, c3, c4⟩, ⟨fz0, fz1, fz2, fz3, fz4⟩, hz⟩ := H7.out.cells
      clear ha9 ht9 hg9 f0 f1 f2 f3 f4 hfl H5
      go_upto_region 14 with fail
      generalize (w7.setCell ⟨w.heap.size + 1 + 1, 0, none⟩ (.int .i64 W9)).setCell ⟨w.heap.size + 1 + 1, 1, none⟩ (.slice (some ad9) n9 c9) = wA at *
      clear H7 c0 c1' c2 c3 c4 fz0 fz1 fz2 fz3 fz4 hz
      obtain ⟨⟨c0, c1', c2, c3, c4⟩, ⟨fz0, fz1, fz2, fz3, fz4⟩, hz⟩ := H6.out.cells
      obtain ⟨z0, z1, z2, z3, z4⟩ := H6.out.r0.five
      have zf0 := H6.out.r0.frozen 0
      have zf1 := H6.out.r0.frozen 1
      have zf2 := H6.out.r0.frozen 2
      have zf3 := H6.out.r0.frozen 3
      have zf4 := H6.out.r0.frozen 4
      have hzr := H6.out.r0.lt
      go_wp2_with fail
      refine bodyPost_ret (v := .agg #[.int .i64 W9, .slice (some ad9) n9 c9, .int .i64 W, .slice (some ⟨g2, 0, none⟩) m d, .slice (some ⟨C9, 0, none⟩) k q9]) (by simp [results, Try.results10, go_sem, z0, z1, z2, z3, z4, hzr]) rfl ?_
      exact H6.out.done
    by_cases e1 : r5 = 1
    · subst e1
      obtain ⟨f0, f1, f2, f3, f4⟩ := H5.out.f0.five
      have hfl := H5.out.f0.lt
      go_wp2_with fail
      refine (spoil_any T W ⟨g2, 0, none⟩ m d ks _ H5.out.tape (HB.out.tape Ht.out H5.out.gr) hm (by omega) (by omega)).mono ?_
      rintro e w7 ⟨W9, ad9, n9, c9, ws9, rfl, hn9, ha9, ht9, hg9⟩
      have H7 := hid (H5.out.step ht9 hg9)
      have H6 := hid (H7.out.setKill (c9 := c9) (W9 := W9) ha9)
      obtain ⟨⟨c0, c1', c2, c3, c4⟩, ⟨fz0, fz1, fz2, fz3, fz4⟩, hz⟩ := H7.out.cells
      clear ha9 ht9 hg9 f0 f1 f2 f3 f4 hfl H5
      go_upto_region 14 with fail
      generalize (w7.setCell ⟨w.heap.size + 1 + 1, 2, none⟩ (.int .i64 W9)).setCell ⟨w.heap.size + 1 + 1, 3, none⟩ (.slice (some ad9) n9 c9) = wA at *
      clear H7 c0 c1' c2 c3 c4 fz0 fz1 fz2 fz3 fz4 hz
      obtain ⟨⟨c0, c1', c2, c3, c4⟩, ⟨fz0, fz1, fz2, fz3, fz4⟩, hz⟩ := H6.out.cells
      obtain ⟨z0, z1, z2, z3, z4⟩ := H6.out.r0.five
      have zf0 := H6.out.r0.frozen 0
      have zf1 := H6.out.r0.frozen 1
      have zf2 := H6.out.r0.frozen 2
      have zf3 := H6.out.r0.frozen 3
      have zf4 := H6.out.r0.frozen 4
      have hzr := H6.out.r0.lt
      go_wp2_with fail
      refine bodyPost_ret (v := .agg #[.int .i64 W, .slice (some ⟨g1, 0, none⟩) n c, .int .i64 W9, .slice (some ad9) n9 c9, .slice (some ⟨C9, 0, none⟩) k q9]) (by simp [results, Try.results10, go_sem, z0, z1, z2, z3, z4, hzr]) rfl ?_
      exact H6.out.done
    by_cases e2 : r5 = 2
    · subst e2
      have H5d := hid (H5.out.below (below_drewN (Below.refl _ _) 1))
      change Hid (Spf w T (cells5 W (some ⟨g1, 0, none⟩) n c W (some ⟨g2, 0, none⟩) m d C k q) W (some ⟨g1, 0, none⟩) n c W (some ⟨g2, 0, none⟩) m d C9 k q9 gs ks cs w5.drew) at H5d
      obtain ⟨⟨c0, c1', c2, c3, c4⟩, ⟨fz0, fz1, fz2, fz3, fz4⟩, hz⟩ := H5.out.cells
      go_upto_region 11 with fail
      go_region_law (first
        | ((refine step_append_lies _ (by rfl) _ _ 26 (by rfl) (w.heap.size + 1 + 1 + 1) 48 i0 _ 2 16 Try.underlying26 Hi.out Hz0.out Hz1.out Hz2.out (by rfl) (by decide) (.slice (some ⟨C9, 0, none⟩) k q9) k (pairs cs) (by rfl) (by exact (H8.out.alloc _).own)
               ⟨w8.heap.size, 0, none⟩ 1 1 [.int .i64 (IntKind.i64.wrap (r7 - 1)), .int .i64 (IntKind.i64.wrap (r8 - 1))] (by rfl) rfl (by exact two_new _ _ _ _) (by exact one_pairI _ _) (by decide) (by unfold maxLen; omega) (by omega) (by have := (H8.out.alloc (.cells #[] 0)).q0.lt; rw [World.size_alloc] at this ⊢; omega) _ rfl ?_)
           intro g9 cap9 w9 hown9 hgr9 hat9 hlt9
           obtain ⟨⟨y0, y1⟩, hs⟩ := Spf.push H8.out _ HA.out HB.out Ht.out hown9 hgr9
           have HP := hid hs
           clear hown9 hgr9 hat9 hlt9 hs)
        | (go_simp
           go_at_call 16
           go_must (
           first
           | (refine (next_any T 9 _ H7.out.tape (by omega)).mono ?_
              rintro e w8 ⟨r8, rfl, hr80, hr81, ht8, hg8, -⟩
              have H8 := hid (H7.out.step ht8 hg8)
              obtain ⟨⟨c0, c1', c2, c3, c4⟩, ⟨fz0, fz1, fz2, fz3, fz4⟩, hz⟩ := H8.out.cells
              clear ht8 hg8)
           | (refine (next_any T 9 _ H5d.out.tape (by omega)).mono ?_
              rintro e w7 ⟨r7, rfl, hr70, hr71, ht7, hg7, -⟩
              have H7 := hid (H5d.out.step ht7 hg7)
              obtain ⟨⟨c0, c1', c2, c3, c4⟩, ⟨fz0, fz1, fz2, fz3, fz4⟩, hz⟩ := H7.out.cells
              clear ht7 hg7))))
      all_goals
        go_upto_region 14 with fail
        have H6 := HP
        generalize w9.setCell ⟨w.heap.size + 1 + 1, 4, none⟩ (.slice (some ⟨g9, 0, none⟩) (k + 1) cap9) = wA at *
        clear H7 H8 H5 H5d HP c0 c1' c2 c3 c4 fz0 fz1 fz2 fz3 fz4 hz y0 y1
        obtain ⟨⟨c0, c1', c2, c3, c4⟩, ⟨fz0, fz1, fz2, fz3, fz4⟩, hz⟩ := H6.out.cells
        obtain ⟨z0, z1, z2, z3, z4⟩ := H6.out.r0.five
        have zf0 := H6.out.r0.frozen 0
        have zf1 := H6.out.r0.frozen 1
        have zf2 := H6.out.r0.frozen 2
        have zf3 := H6.out.r0.frozen 3
        have zf4 := H6.out.r0.frozen 4
        have hzr := H6.out.r0.lt
        go_wp2_with fail
        refine bodyPost_ret (v := .agg #[.int .i64 W, .slice (some ⟨g1, 0, none⟩) n c, .int .i64 W, .slice (some ⟨g2, 0, none⟩) m d, .slice (some ⟨g9, 0, none⟩) (k + 1) cap9]) (by simp [results, Try.results10, go_sem, z0, z1, z2, z3, z4, hzr]) rfl ?_
        exact H6.out.done
    by_cases e3 : r5 = 3
    · subst e3
      have H5d := hid (H5.out.below (below_drewN (Below.refl _ _) 1))
      change Hid (Spf w T (cells5 W (some ⟨g1, 0, none⟩) n c W (some ⟨g2, 0, none⟩) m d C k q) W (some ⟨g1, 0, none⟩) n c W (some ⟨g2, 0, none⟩) m d C9 k q9 gs ks cs w5.drew) at H5d
      obtain ⟨⟨c0, c1', c2, c3, c4⟩, ⟨fz0, fz1, fz2, fz3, fz4⟩, hz⟩ := H5.out.cells
      obtain ⟨f0, f1, f2, f3, f4⟩ := H5.out.f0.five
      have hfl := H5.out.f0.lt
      have Hl2 := hid (show (pairs cs).length = k * 2 by rw [pairs_length, HL.out]; omega)
      go_upto_region 13 with fail
      go_region_law (first
        | ((refine step_appv (by rfl) _ _ 26 (by rfl) (w.heap.size + 1 + 1 + 1) 48 i0 _ 2 16 Try.underlying26 Hi.out Hz0.out Hz1.out Hz2.out (by rfl) (by decide) (.slice (some ⟨w8.heap.size, 0, none⟩) 1 1) 1 [.int .i64 r7, .int .i64 (IntKind.i64.wrap ((W : Int) - r8))] (by rfl) (by exact Spf.lit H8.out _ _)
               ⟨C9, 0, none⟩ k q9 (pairs cs) (by rfl) Hl2.out (by exact (H8.out.alloc _).row) (pairs_one cs) (by unfold maxLen; omega) (by omega) (by have := (H8.out.alloc (.cells #[] 0)).q0.lt; rw [World.size_alloc] at this ⊢; omega) ?_)
           intro v9 w9 hown9 hgr9 hnil9
           obtain ⟨g9, cap9, rfl, ⟨y0, y1⟩, hs⟩ := Spf.front H8.out _ HA.out HB.out Ht.out hown9 hgr9 rfl
           have HP := hid hs
           clear hown9 hgr9 hnil9 hs)
        | (go_simp
           go_at_call 16
           go_must (
           first
           | (refine (next_any T 2 _ H7.out.tape (by omega)).mono ?_
              rintro e w8 ⟨r8, rfl, hr80, hr81, ht8, hg8, -⟩
              have H8 := hid (H7.out.step ht8 hg8)
              obtain ⟨⟨c0, c1', c2, c3, c4⟩, ⟨fz0, fz1, fz2, fz3, fz4⟩, hz⟩ := H8.out.cells
              obtain ⟨f0, f1, f2, f3, f4⟩ := H8.out.f0.five
              have hfl := H8.out.f0.lt
              clear ht8 hg8)
           | (refine (next_any T 4 _ H5d.out.tape (by omega)).mono ?_
              rintro e w7 ⟨r7, rfl, hr70, hr71, ht7, hg7, -⟩
              have H7 := hid (H5d.out.step ht7 hg7)
              obtain ⟨⟨c0, c1', c2, c3, c4⟩, ⟨fz0, fz1, fz2, fz3, fz4⟩, hz⟩ := H7.out.cells
              obtain ⟨f0, f1, f2, f3, f4⟩ := H7.out.f0.five
              have hfl := H7.out.f0.lt
              clear ht7 hg7))))
      all_goals
        go_upto_region 14 with fail
        have H6 := HP
        generalize w9.setCell ⟨w.heap.size + 1 + 1, 4, none⟩ (.slice (some ⟨g9, 0, none⟩) (1 + k) cap9) = wA at *
        clear H7 H8 H5 H5d HP c0 c1' c2 c3 c4 fz0 fz1 fz2 fz3 fz4 hz y0 y1 f0 f1 f2 f3 f4 hfl
        obtain ⟨⟨c0, c1', c2, c3, c4⟩, ⟨fz0, fz1, fz2, fz3, fz4⟩, hz⟩ := H6.out.cells
        obtain ⟨z0, z1, z2, z3, z4⟩ := H6.out.r0.five
        have zf0 := H6.out.r0.frozen 0
        have zf1 := H6.out.r0.frozen 1
        have zf2 := H6.out.r0.frozen 2
        have zf3 := H6.out.r0.frozen 3
        have zf4 := H6.out.r0.frozen 4
        have hzr := H6.out.r0.lt
        go_wp2_with fail
        refine bodyPost_ret (v := .agg #[.int .i64 W, .slice (some ⟨g1, 0, none⟩) n c, .int .i64 W, .slice (some ⟨g2, 0, none⟩) m d, .slice (some ⟨g9, 0, none⟩) (1 + k) cap9]) (by simp [results, Try.results10, go_sem, z0, z1, z2, z3, z4, hzr]) rfl ?_
        exact H6.out.done
    have t0 : (r5 == 0) = false := by simp [e0]
    have t1 : (r5 == 1) = false := by simp [e1]
    have t2 : (r5 == 2) = false := by simp [e2]
    have t3 : (r5 == 3) = false := by simp [e3]
    clear e0 e1 e2 e3 hr0 hr1
    obtain ⟨⟨c0, c1', c2, c3, c4⟩, ⟨fz0, fz1, fz2, fz3, fz4⟩, hz⟩ := H5.out.cells
    by_cases hk0 : 0 < k
    · have H5d := hid (H5.out.below (below_drewN (Below.refl _ _) 1))
      change Hid (Spf w T (cells5 W (some ⟨g1, 0, none⟩) n c W (some ⟨g2, 0, none⟩) m d C k q) W (some ⟨g1, 0, none⟩) n c W (some ⟨g2, 0, none⟩) m d C9 k q9 gs ks cs w5.drew) at H5d
      obtain ⟨x, y, hx, hy⟩ : ∃ x y : Int, (pairs cs)[(k - 1) * 2]? = some (Value.int .i64 x) ∧ (pairs cs)[(k - 1) * 2 + 1]? = some (Value.int .i64 y) := by
        have hl := HL.out
        have hg := pairs_get (List.getElem?_eq_getElem (show k - 1 < cs.length by omega))
        exact ⟨_, _, hg.1, hg.2⟩
      have u0 := H5.out.row _ _ hx
      have u1 := H5.out.row _ _ hy
      rw [add_of] at u0 u1
      have hc9 := (H5.out.own.lt C9 rfl).2
      have w1 : IntKind.i64.wrap ((k : Int) - 1) = (k : Int) - 1 := IntWalk.i64_in _ ⟨by omega, by omega⟩
      have w2 : (1 : Int) ≤ (k : Int) := by omega
      have w3 : (k : Int) - 1 < (k : Int) := by omega
      have w4 : ((k : Int) - 1).toNat = k - 1 := by omega
      have W1 := hid w1; have W4 := hid w4
      have p1 := hid (show k + 1 ≤ maxLen by unfold maxLen; omega)
      have p2 := hid (show (k + 1) * 16 ≤ 140737488355328 by omega)
      have p3 := hid (show w.heap.size + 1 + 1 + 1 ≤ (w5.drew.alloc (.cells #[.int .i64 x, .int .i64 y] 48)).heap.size by have := H5d.out.q0.lt; rw [World.size_alloc]; omega)
      clear hx hy
      go_upto_region 5 with fail
      go_region_law (
        ((refine step_append_lies _ (by rfl) _ _ 26 (by rfl) (w.heap.size + 1 + 1 + 1) 48 i0 _ 2 16 Try.underlying26 Hi.out Hz0.out Hz1.out Hz2.out (by rfl) (by decide) (.slice (some ⟨C9, 0, none⟩) k q9) k (pairs cs) (by rfl) (by exact (H5d.out.alloc _).own)
               ⟨w5.heap.size, 0, none⟩ 1 1 [.int .i64 x, .int .i64 y] (by rfl) rfl (by exact two_new w5.drew _ _ _) (by exact one_pairI _ _) (by decide) p1.out p2.out p3.out _ rfl ?_)
         intro g9 cap9 w9 hown9 hgr9 hat9 hlt9
         obtain ⟨⟨y0, y1⟩, hs⟩ := Spf.push H5d.out _ HA.out HB.out Ht.out hown9 hgr9
         have HP := hid hs
         clear hown9 hgr9 hat9 hlt9 hs))
      all_goals
        clear w1 w2 w3 w4
        go_upto_region 14 with fail
        have H6 := HP
        generalize w9.setCell ⟨w.heap.size + 1 + 1, 4, none⟩ (.slice (some ⟨g9, 0, none⟩) (k + 1) cap9) = wA at *
        clear H5 H5d HP c0 c1' c2 c3 c4 fz0 fz1 fz2 fz3 fz4 hz y0 y1 u0 u1
        obtain ⟨⟨c0, c1', c2, c3, c4⟩, ⟨fz0, fz1, fz2, fz3, fz4⟩, hz⟩ := H6.out.cells
        obtain ⟨z0, z1, z2, z3, z4⟩ := H6.out.r0.five
        have zf0 := H6.out.r0.frozen 0
        have zf1 := H6.out.r0.frozen 1
        have zf2 := H6.out.r0.frozen 2
        have zf3 := H6.out.r0.frozen 3
        have zf4 := H6.out.r0.frozen 4
        have hzr := H6.out.r0.lt
        go_wp2_with fail
        refine bodyPost_ret (v := .agg #[.int .i64 W, .slice (some ⟨g1, 0, none⟩) n c, .int .i64 W, .slice (some ⟨g2, 0, none⟩) m d, .slice (some ⟨g9, 0, none⟩) (k + 1) cap9]) (by simp [results, Try.results10, go_sem, z0, z1, z2, z3, z4, hzr]) rfl ?_
        exact H6.out.done
    · have H6 := H5
      go_upto_region 14 with fail
      clear c0 c1' c2 c3 c4 fz0 fz1 fz2 fz3 fz4 hz
      obtain ⟨⟨c0, c1', c2, c3, c4⟩, ⟨fz0, fz1, fz2, fz3, fz4⟩, hz⟩ := H6.out.cells
      obtain ⟨z0, z1, z2, z3, z4⟩ := H6.out.r0.five
      have zf0 := H6.out.r0.frozen 0
      have zf1 := H6.out.r0.frozen 1
      have zf2 := H6.out.r0.frozen 2
      have zf3 := H6.out.r0.frozen 3
      have zf4 := H6.out.r0.frozen 4
      have hzr := H6.out.r0.lt
      go_wp2_with fail
      refine bodyPost_ret (v := .agg #[.int .i64 W, .slice (some ⟨g1, 0, none⟩) n c, .int .i64 W, .slice (some ⟨g2, 0, none⟩) m d, .slice (some ⟨C9, 0, none⟩) k q9]) (by simp [results, Try.results10, go_sem, z0, z1, z2, z3, z4, hzr]) rfl ?_
      exact H6.out.done
end Go.Proofs.Ytmbelhdkaepohaa

namespace Go.Proofs.Ytmbelhdkaepohaa
set_option maxRecDepth 20000
set_option linter.unusedVariables false
open Go.ChangeShapes Go.WideShapes Go.ChangeAt Go.RowKit

def SomeB (w : World) (e : Ending) (w' : World) : Prop := ∃ b : Bool, e = .returned (.bool b) ∧ Below w.heap.size w w'
set_option maxHeartbeats 1600000 in
theorem large_any (W V : Int) (A B C : Option Addr) (n c m d k q : Nat) (w : World) :
    Calls Try.prog 11 #[.agg #[.int .i64 W, .slice A n c, .int .i64 V, .slice B m d, .slice C k q]] w (SomeB w) := by
  have HB := hid ((Below.refl w.heap.size w).alloc (Nat.le_refl _) (.cells #[.int .i64 W, .slice A n c, .int .i64 V, .slice B m d, .slice C k q] 28))
  obtain ⟨f0, f1, f2, f3, f4⟩ := (Fb.new w #[.int .i64 W, .slice A n c, .int .i64 V, .slice B m d, .slice C k q] 28).five
  go_enter Try.func11, Try.ntmps11
  go_wp2
  all_goals go_ret
  all_goals exact ⟨_, rfl, HB.out⟩
end Go.Proofs.Ytmbelhdkaepohaa

namespace Go.Proofs.Ytmbelhdkaepohaa
set_option maxRecDepth 10000
open Go.ChangeShapes Go.WideShapes Go.ChangeAt Go.RowKit Go.Joins

theorem cells3 : Try.prog.cellsOf 3 = 1 := by kernel_rfl
theorem cells25 : Try.prog.cellsOf 25 = 2 := by kernel_rfl
theorem cells62 : Try.prog.cellsOf 66 = 1 := by kernel_rfl

theorem cell_in {w : World} {a : Addr} {v : Value} (h : w.cell? a = some v) : a.block < w.heap.size := by
  rcases Nat.lt_or_ge a.block w.heap.size with hlt | hge
  · exact hlt
  · unfold World.cell? at h; rw [Array.getElem?_eq_none hge] at h; cases h

theorem wf_u64 {z : Int} (h : (Lit.int .u64 z).wf = true) : 0 ≤ z ∧ z ≤ 18446744073709551615 := by
  have m0 : IntKind.u64.min = 0 := by decide
  have m1 : IntKind.u64.max = 18446744073709551615 := by decide
  simp [Lit.wf] at h
  omega
theorem open_list {H : Type} {enc : TypeId × Value → H} {W : World} {b0 base : Nat} {spare : Nat → Bool} {held : Bool} {v : Value} {d : DataW H} {p : List MemPlace}
    (hv : Value.okWide Try.prog W .any b0 22 v) (h : DataW.Trod enc Try.prog W base spare held 22 v d p) :
    ∃ (A : Option Addr) (n c : Nat) (l : List Int), v = .slice A n c ∧ IArg W A n l ∧ n ≤ maxLen := by
  obtain ⟨A, n, c, rfl⟩ := okWide_slice Try.underlying22 hv
  obtain ⟨fuel, hf⟩ := h
  rcases open_ints Try.underlying22 Try.underlying3 cells3 hf with ⟨hcs, _⟩ | ⟨x, l, c', zs, hcs, _, hl, hm, hz, _, hcell, hwz⟩
  · simp [Value.cells] at hcs
    obtain ⟨rfl, rfl, rfl⟩ := hcs
    exact ⟨none, 0, 0, [], rfl, ⟨.inl rfl, rfl⟩, by simp [maxLen]⟩
  · simp [Value.cells] at hcs
    obtain ⟨rfl, rfl, rfl⟩ := hcs
    have hle : n ≤ zs.length := by rw [hz]; split <;> omega
    refine ⟨some x, n, c, zs.take n, rfl, ⟨?_, by rw [List.length_take]; omega⟩, Nat.le_trans hl hm⟩
    by_cases h0 : n = 0
    · subst h0; exact .inl rfl
    · refine .inr ⟨x, rfl, ?_, fun j u hu => ?_⟩
      · have := cell_in (hcell 0 (by omega)); rwa [add_block] at this
      · unfold ints at hu
        rw [List.getElem?_map] at hu
        have hj : j < n := by
          rcases Nat.lt_or_ge j n with h | h
          · exact h
          · rw [List.getElem?_eq_none (by rw [List.length_take]; omega)] at hu; simp at hu
        rw [List.getElem?_take, if_pos hj, List.getElem?_eq_getElem (by omega)] at hu
        have := hcell j (by omega)
        rw [List.getD_eq_getElem?_getD, List.getElem?_eq_getElem (by omega)] at this
        rw [this]; simpa using hu

theorem open_set {H : Type} {enc : TypeId × Value → H} {W : World} {b0 base : Nat} {spare : Nat → Bool} {held : Bool} {v : Value} {d : DataW H} {p : List MemPlace}
    (hv : Value.okWide Try.prog W .any b0 25 v) (h : DataW.Trod enc Try.prog W base spare held 25 v d p) :
    ∃ (Wd : Int) (A : Option Addr) (n c : Nat) (ws : List Nat), v = .agg #[.int .i64 Wd, .slice A n c] ∧ Arg W A n ws ∧ n ≤ maxLen := by
  obtain ⟨c0, c1, y0, y1, m, rfl, rfl, rfl, hy0, hy1⟩ := open_agg2 Try.underlying25 (by kernel_rfl) cells25 hv h
  obtain ⟨a, e0, _, _⟩ := DataW.trod_int Try.underlying3 hy0
  simp at e0
  subst e0
  rcases open_ints Try.underlying23 Try.underlying66 cells62 hy1 with ⟨hcs, _⟩ | ⟨x, l, c', zs, hcs, _, hl, hm, hz, _, hcell, hwz⟩
  · simp at hcs
    subst hcs
    exact ⟨a, none, 0, 0, [], rfl, Arg.nil _ _, by simp [maxLen]⟩
  · simp at hcs
    subst hcs
    have hle : l ≤ zs.length := by rw [hz]; split <;> omega
    refine ⟨a, some x, l, c', (zs.take l).map Int.toNat, rfl, ⟨?_, by rw [List.length_map, List.length_take]; omega, ?_⟩, Nat.le_trans hl hm⟩
    · by_cases h0 : l = 0
      · subst h0; exact .inl rfl
      · refine .inr ⟨x, rfl, ?_, fun j u hu => ?_⟩
        · have := cell_in (hcell 0 (by omega)); rwa [add_block] at this
        · unfold words at hu
          rw [List.getElem?_map, List.getElem?_map] at hu
          have hj : j < l := by
            rcases Nat.lt_or_ge j l with h | h
            · exact h
            · rw [List.getElem?_eq_none (by rw [List.length_take]; omega)] at hu; simp at hu
          rw [List.getElem?_take, if_pos hj, List.getElem?_eq_getElem (by omega)] at hu
          have := hcell j (by omega)
          rw [List.getD_eq_getElem?_getD, List.getElem?_eq_getElem (by omega)] at this
          have hw := hwz zs[j] (List.getElem_mem _)
          rw [this]
          simp [u64] at hu ⊢
          rw [← hu]
          have h0 := wf_u64 hw
          simp; omega
    · intro y hy
      obtain ⟨z, hz1, rfl⟩ := List.mem_map.1 hy
      have hw := hwz z (List.mem_of_mem_take hz1)
      unfold Bs.W64
      have h0 := wf_u64 hw
      omega
end Go.Proofs.Ytmbelhdkaepohaa

namespace Go.Proofs.Ytmbelhdkaepohaa
set_option maxRecDepth 20000
set_option linter.unusedVariables false
set_option linter.unusedSimpArgs false
open Go.Joins Go.ChangeShapes Go.WideShapes Go.ChangeAt Go.RowKit Go.Deep

theorem flat_at {α β : Type} {f : α → List β} {c : Nat} (hc : ∀ x, (f x).length = c) : ∀ (l : List α) (k : Nat) (u : β), (l.flatMap f)[k]? = some u → ∃ (i : Nat) (x : α) (j : Nat), l[i]? = some x ∧ (f x)[j]? = some u ∧ k = i * c + j := by
  intro l
  induction l with
  | nil => intro k u h; simp at h
  | cons x l ih =>
    intro k u h
    rw [List.flatMap_cons] at h
    rcases Nat.lt_or_ge k (f x).length with hk | hk
    · rw [List.getElem?_append_left hk] at h
      exact ⟨0, x, k, rfl, h, by omega⟩
    · rw [List.getElem?_append_right hk] at h
      obtain ⟨i, y, j, h1, h2, h3⟩ := ih _ _ h
      refine ⟨i + 1, y, j, by simpa using h1, h2, ?_⟩
      rw [hc] at hk h3
      rw [Nat.succ_mul]
      omega
theorem choose_list {α : Type} {P : Nat → α → Prop} : ∀ n : Nat, (∀ i, i < n → ∃ x, P i x) → ∃ l : List α, l.length = n ∧ ∀ (i : Nat) (x : α), l[i]? = some x → P i x := by
  intro n
  induction n with
  | zero => intro _; exact ⟨[], rfl, fun i x h => by simp at h⟩
  | succ n ih =>
    intro h
    obtain ⟨l, hl, hp⟩ := ih fun i hi => h i (by omega)
    obtain ⟨x, hx⟩ := h n (by omega)
    refine ⟨l ++ [x], by simp [hl], fun i y hy => ?_⟩
    rcases Nat.lt_or_ge i l.length with hi | hi
    · rw [List.getElem?_append_left hi] at hy; exact hp i y hy
    · rw [List.getElem?_append_right hi] at hy
      have e : i = n := by
        have : i - l.length < 1 := by simpa using (List.getElem?_eq_some_iff.1 hy).1
        omega
      subst e
      rw [hl, Nat.sub_self] at hy
      simp at hy
      subst hy
      exact hx
section
variable {H : Type} {enc : TypeId × Value → H} {w : World} {base : Nat} {spare : Nat → Bool} {held : Bool}
theorem open_copies {fuel : Nat} {v : Value} {x : DataW H × List MemPlace} (h : DataW.trod enc Try.prog w base spare held fuel 26 [v] = some x) :
    ∃ (A : Option Addr) (n c : Nat) (cs : List (Int × Int)), v = .slice A n c ∧ ArgC w A n cs ∧ n ≤ maxLen := by
  rcases open_slice Try.underlying26 h with ⟨e1, -⟩ | ⟨a, len, cap, m, n, D, Pl, e1, -, hl, hcap, hm, -, hi⟩
  · injection e1 with e1
    exact ⟨none, 0, 0, [], e1, ⟨.inl rfl, rfl⟩, by simp [maxLen]⟩
  · injection e1 with e1
    obtain ⟨l, hll, hp⟩ := choose_list (P := fun i (z : Int × Int) => w.cell? (a.add (i * 2)) = some (.int .i64 z.1) ∧ w.cell? (a.add (i * 2 + 1)) = some (.int .i64 z.2)) len fun i him => by
      have him2 : i < m := by rw [hm]; split <;> omega
      obtain ⟨cs', hc, ht'⟩ := hi i him2
      rw [show Try.prog.cellsOf 48 = 2 by kernel_rfl] at hc
      obtain ⟨_, hcl, hat⟩ := World.cells?_some hc
      obtain ⟨ys, n', hn', hy, hlen, hyl, hf⟩ := DataW.trod_struct Try.underlying48 ht'
      match cs', hcl with
      | [c0, c1], _ =>
        have h0 : DataW.trod enc Try.prog w base spare held n' 3 (([c0, c1].drop 0).take (Try.prog.cellsOf 3)) = ys[0]? := hf 0 _ rfl
        have h1 : DataW.trod enc Try.prog w base spare held n' 3 (([c0, c1].drop 1).take (Try.prog.cellsOf 3)) = ys[1]? := hf 1 _ rfl
        rw [show ys[0]? = some (ys[0]'(by rw [hyl]; decide)) from List.getElem?_eq_getElem _] at h0
        rw [show ys[1]? = some (ys[1]'(by rw [hyl]; decide)) from List.getElem?_eq_getElem _] at h1
        rw [show Try.prog.cellsOf 3 = 1 by kernel_rfl] at h0 h1
        obtain ⟨z0, e0, -⟩ := DataW.trod_int Try.underlying3 h0
        obtain ⟨z1, e1, -⟩ := DataW.trod_int Try.underlying3 h1
        simp at e0 e1
        subst e0; subst e1
        have g0 := hat 0 (by omega)
        have g1 := hat 1 (by omega)
        rw [Go.Deep.add_add] at g0 g1
        exact ⟨(z0, z1), g0, g1⟩
    refine ⟨some a, len, cap, l, e1, ⟨?_, hll⟩, by omega⟩
    by_cases h0 : len = 0
    · subst h0
      rw [List.length_eq_zero_iff.1 hll]
      exact .inl rfl
    · refine .inr ⟨a, rfl, ?_, fun k u hk => ?_⟩
      · have := (hp 0 _ (List.getElem?_eq_getElem (by omega))).1
        have := cell_in this
        rwa [add_block] at this
      · obtain ⟨i, x, j, h1, h2, rfl⟩ := flat_at (f := fun p : Int × Int => [Value.int .i64 p.1, Value.int .i64 p.2]) (c := 2) (fun x => rfl) l k u hk
        obtain ⟨g0, g1⟩ := hp i x h1
        match j, h2 with
        | 0, h2 => simp at h2; subst h2; exact g0
        | 1, h2 => simp at h2; subst h2; exact g1
        | j + 2, h2 => simp at h2
theorem open_wordsT {fuel : Nat} {v : Value} {x : DataW H × List MemPlace} (h : DataW.trod enc Try.prog w base spare held fuel 23 [v] = some x) :
    ∃ (A : Option Addr) (n c : Nat) (ws : List Nat), v = .slice A n c ∧ Arg w A n ws ∧ n ≤ maxLen := by
  rcases open_ints Try.underlying23 Try.underlying66 cells62 h with ⟨hcs, _⟩ | ⟨x, l, c', zs, hcs, _, hl, hm, hz, _, hcell, hwz⟩
  · simp at hcs
    exact ⟨none, 0, 0, [], hcs, Arg.nil _ _, by simp [maxLen]⟩
  · simp at hcs
    have hle : l ≤ zs.length := by rw [hz]; split <;> omega
    refine ⟨some x, l, c', (zs.take l).map Int.toNat, hcs, ⟨?_, by rw [List.length_map, List.length_take]; omega, ?_⟩, Nat.le_trans hl hm⟩
    · by_cases h0 : l = 0
      · subst h0; exact .inl rfl
      · refine .inr ⟨x, rfl, ?_, fun j u hu => ?_⟩
        · have := cell_in (hcell 0 (by omega)); rwa [add_block] at this
        · unfold words at hu
          rw [List.getElem?_map, List.getElem?_map] at hu
          have hj : j < l := by
            rcases Nat.lt_or_ge j l with h | h
            · exact h
            · rw [List.getElem?_eq_none (by rw [List.length_take]; omega)] at hu; simp at hu
          rw [List.getElem?_take, if_pos hj, List.getElem?_eq_getElem (by omega)] at hu
          have := hcell j (by omega)
          rw [List.getD_eq_getElem?_getD, List.getElem?_eq_getElem (by omega)] at this
          have hw := hwz zs[j] (List.getElem_mem _)
          rw [this]
          simp [u64] at hu ⊢
          rw [← hu]
          have h0 := wf_u64 hw
          simp; omega
    · intro y hy
      obtain ⟨z, hz1, rfl⟩ := List.mem_map.1 hy
      have hw := hwz z (List.mem_of_mem_take hz1)
      unfold Bs.W64
      have h0 := wf_u64 hw
      omega
theorem open_setT {fuel : Nat} {cs : List Value} {x : DataW H × List MemPlace} (h : DataW.trod enc Try.prog w base spare held fuel 25 cs = some x) :
    ∃ (Wd : Int) (A : Option Addr) (n c : Nat) (ws : List Nat), cs = [.int .i64 Wd, .slice A n c] ∧ Arg w A n ws ∧ n ≤ maxLen := by
  obtain ⟨ys, n', hn', hy, hlen, hyl, hf⟩ := DataW.trod_struct Try.underlying25 h
  rw [cells25] at hlen
  match cs, hlen with
  | [c0, c1], _ =>
    have h0 : DataW.trod enc Try.prog w base spare held n' 3 (([c0, c1].drop 0).take (Try.prog.cellsOf 3)) = ys[0]? := hf 0 _ rfl
    have h1 : DataW.trod enc Try.prog w base spare held n' 23 (([c0, c1].drop 1).take (Try.prog.cellsOf 23)) = ys[1]? := hf 1 _ rfl
    rw [show ys[0]? = some (ys[0]'(by rw [hyl]; decide)) from List.getElem?_eq_getElem _] at h0
    rw [show ys[1]? = some (ys[1]'(by rw [hyl]; decide)) from List.getElem?_eq_getElem _] at h1
    rw [show Try.prog.cellsOf 3 = 1 by kernel_rfl] at h0
    rw [show Try.prog.cellsOf 23 = 1 by kernel_rfl] at h1
    obtain ⟨z0, e0, -⟩ := DataW.trod_int Try.underlying3 h0
    obtain ⟨A, n, c, ws, e1, hA, hn⟩ := open_wordsT h1
    simp at e0
    subst e0; subst e1
    exact ⟨z0, A, n, c, ws, rfl, hA, hn⟩
theorem open_transferT {fuel : Nat} {cs : List Value} {x : DataW H × List MemPlace} (h : DataW.trod enc Try.prog w base spare held fuel 28 cs = some x) :
    ∃ (W V : Int) (A B C : Option Addr) (n c m d k q : Nat) (gs ks : List Nat) (ps : List (Int × Int)), cs = [.int .i64 W, .slice A n c, .int .i64 V, .slice B m d, .slice C k q] ∧ FArg w A n B m C k gs ks ps := by
  obtain ⟨ys, n', hn', hy, hlen, hyl, hf⟩ := DataW.trod_struct Try.underlying28 h
  rw [show Try.prog.cellsOf 28 = 5 by kernel_rfl] at hlen
  match cs, hlen with
  | [c0, c1, c2, c3, c4], _ =>
    have h0 : DataW.trod enc Try.prog w base spare held n' 25 (([c0, c1, c2, c3, c4].drop 0).take (Try.prog.cellsOf 25)) = ys[0]? := hf 0 _ rfl
    have h1 : DataW.trod enc Try.prog w base spare held n' 25 (([c0, c1, c2, c3, c4].drop 2).take (Try.prog.cellsOf 25)) = ys[1]? := hf 1 _ rfl
    have h2 : DataW.trod enc Try.prog w base spare held n' 26 (([c0, c1, c2, c3, c4].drop 4).take (Try.prog.cellsOf 26)) = ys[2]? := hf 2 _ rfl
    rw [show ys[0]? = some (ys[0]'(by rw [hyl]; decide)) from List.getElem?_eq_getElem _] at h0
    rw [show ys[1]? = some (ys[1]'(by rw [hyl]; decide)) from List.getElem?_eq_getElem _] at h1
    rw [show ys[2]? = some (ys[2]'(by rw [hyl]; decide)) from List.getElem?_eq_getElem _] at h2
    rw [cells25] at h0 h1
    rw [show Try.prog.cellsOf 26 = 1 by kernel_rfl] at h2
    obtain ⟨W, A, n, c, gs, e0, hA, -⟩ := open_setT h0
    obtain ⟨V, B, m, d, ks, e1, hB, -⟩ := open_setT h1
    obtain ⟨C, k, q, ps, e2, hC, -⟩ := open_copies h2
    simp at e0 e1
    obtain ⟨rfl, rfl⟩ := e0
    obtain ⟨rfl, rfl⟩ := e1
    subst e2
    exact ⟨W, V, A, B, C, n, c, m, d, k, q, gs, ks, ps, rfl, ⟨hA, hB, hC⟩⟩
theorem open_transfer {r : Reach} {b0 : Nat} {v : Value} {d : DataW H} {p : List MemPlace} (hv : Value.okWide Try.prog w r b0 28 v) (h : DataW.Trod enc Try.prog w base spare held 28 v d p) :
    ∃ (W V : Int) (A B C : Option Addr) (n c m d k q : Nat) (gs ks : List Nat) (ps : List (Int × Int)), v = .agg #[.int .i64 W, .slice A n c, .int .i64 V, .slice B m d, .slice C k q] ∧ FArg w A n B m C k gs ks ps := by
  obtain ⟨cs, rfl, hsz⟩ := okWide_struct Try.underlying28 hv
  obtain ⟨fuel, hf⟩ := h
  obtain ⟨W, V, A, B, C, n, c, m, d, k, q, gs, ks, ps, e, hF⟩ := open_transferT hf
  refine ⟨W, V, A, B, C, n, c, m, d, k, q, gs, ks, ps, ?_, hF⟩
  obtain ⟨l⟩ := cs
  simp [Value.cells] at e
  rw [e]
end
end Go.Proofs.Ytmbelhdkaepohaa

namespace Go.Proofs.Ytmbelhdkaepohaa
set_option maxRecDepth 20000
set_option linter.unusedVariables false
set_option linter.unusedSimpArgs false
open Go.ChangeShapes Go.WideShapes Go.ChangeAt Go.RowKit

theorem starR_small {w : World} {W V : Int} {A B C : Option Addr} {n m k : Nat} {gs ks : List Nat} {cs : List (Int × Int)} (hF : FArg w A n B m C k gs ks cs) :
    (starR W gs V ks cs).2.1.length ≤ 100 ∧ (starR W gs V ks cs).2.2.1.length ≤ 100 ∧ (starR W gs V ks cs).2.2.2.1.length ≤ 100 := by
  cases hv : validT W gs V ks cs with
  | false => unfold starR; rw [if_pos hv]; simp
  | true =>
    obtain ⟨a1, a2, rfl, _, a5⟩ := validT_iff hv
    obtain ⟨v, rfl⟩ := Int.eq_ofNat_of_zero_le (Bs.validB_iff.1 a1).1
    have hv256 : v ≤ 256 := by have := (Bs.validB_iff.1 a1).2.1; omega
    rw [star_made hv256 (fit_of_valid' a1 hF.gen) (fit_of_valid' a2 hF.kill) hv]
    exact madeR_small hv256 (fit_clo _ _ _ _)
theorem any5 (W V : Int) (A B C : Option Addr) (n c m d k q : Nat) : ∀ v ∈ (#[.int .i64 W, .slice A n c, .int .i64 V, .slice B m d, .slice C k q] : Array Value).toList, ∀ x : Int, v ≠ .int .u64 x := by
  intro v hv x e
  subst e
  simp at hv
theorem any5c (W V : Int) (A B C : Option Addr) (n c m d k q : Nat) : ∀ j (x y : Int), (#[.int .i64 W, .slice A n c, .int .i64 V, .slice B m d, .slice C k q] : Array Value)[j]? = some (.int .i64 x) → (#[.int .i64 W, .slice A n c, .int .i64 V, .slice B m d, .slice C k q] : Array Value)[j + 1]? ≠ some (.int .i64 y) := by
  intro j x y h
  match j, h with
  | 0, _ => simp
  | 1, h => simp at h
  | 2, _ => simp
  | 3, h => simp at h
  | 4, h => simp at h
  | j + 5, h => simp at h
/-- A function in its box, and the tape. -/
structure Sw (w1 : World) (T b : Nat) (W V : Int) (A B C : Option Addr) (n c m d k q : Nat) (gs ks : List Nat) (cs : List (Int × Int)) (v : World) : Prop where
  go : Going w1 T v
  bx : Fb v b #[.int .i64 W, .slice A n c, .int .i64 V, .slice B m d, .slice C k q] 28
  ne : T < b
  hi : w1.heap.size ≤ b
  f : FArg v A n B m C k gs ks cs
section
variable {w1 v v' : World} {T b : Nat} {W V : Int} {A B C : Option Addr} {n c m d k q : Nat} {gs ks : List Nat} {cs : List (Int × Int)}
theorem Sw.below (h : Sw w1 T b W V A B C n c m d k q gs ks cs v) (hb : Below v.heap.size v v') : Sw w1 T b W V A B C n c m d k q gs ks cs v' :=
  ⟨h.go.below hb, h.bx.below hb h.bx.lt, h.ne, h.hi, h.f.below hb⟩
theorem Sw.step (h : Sw w1 T b W V A B C n c m d k q gs ks cs v) (ht : Tape v' T) (hg : v.grownBy v' (some T)) : Sw w1 T b W V A B C n c m d k q gs ks cs v' :=
  ⟨h.go.step ht hg, h.bx.grown hg (by intro e; have := h.ne; have := Option.some.inj e; omega), h.ne, h.hi, ⟨h.f.gen.tape h.go.1 hg, h.f.kill.tape h.go.1 hg, h.f.cops.tape h.go.1 hg⟩⟩
theorem Sw.store {W' V' : Int} {A' B' C' : Option Addr} {n' c' m' d' k' q' : Nat} {gs' ks' : List Nat} {cs' : List (Int × Int)} (h : Sw w1 T b W V A B C n c m d k q gs ks cs v) (hf : FArg v A' n' B' m' C' k' gs' ks' cs') :
    Sw w1 T b W' V' A' B' C' n' c' m' d' k' q' gs' ks' cs' (stored5 v b (.int .i64 W') (.slice A' n' c') (.int .i64 V') (.slice B' m' d') (.slice C' k' q')) := by
  have hne := h.ne
  have hhi := h.hi
  refine ⟨⟨?_, below_stored5 h.go.2.1 h.hi _ _ _ _ _, h.go.2.2⟩, h.bx.set5 _ _ _ _ _, h.ne, h.hi, hf.gen.stored5 (hf.gen.apart h.bx (any5 _ _ _ _ _ _ _ _ _ _ _)) _ _ _ _ _, hf.kill.stored5 (hf.kill.apart h.bx (any5 _ _ _ _ _ _ _ _ _ _ _)) _ _ _ _ _, hf.cops.stored5 (hf.cops.apart h.bx (any5c _ _ _ _ _ _ _ _ _ _ _)) _ _ _ _ _⟩
  have hT : ∀ {wx : World} (j : Nat) (u : Value), Tape wx T → Tape (wx.setCell ⟨b, j, none⟩ u) T := fun j u hh => hh.far (show T < b from h.ne) u
  exact hT _ _ (hT _ _ (hT _ _ (hT _ _ (hT _ _ h.go.1))))
end
set_option maxHeartbeats 12800000 in
theorem lawStar (At : Option Addr) (nt ct : Nat) (zs : List Int) (V0 V1 : Int) (A B C : Option Addr) (n c m d k q : Nat) (gs ks : List Nat) (cs : List (Int × Int)) (w : World)
    (ht : IArg w At nt zs) (hnt : nt ≤ maxLen) (hF : FArg w A n B m C k gs ks cs) :
    Calls Try.prog 4 #[.slice At nt ct, .agg #[.int .i64 V0, .slice A n c, .int .i64 V1, .slice B m d, .slice C k q]] w
      fun e w' => e = .returned (.bool true) ∧ Below w.heap.size w w' := by
  have hb0 := (Below.refl w.heap.size w).alloc (Nat.le_refl _) (.cells #[.int .i64 V0, .slice A n c, .int .i64 V1, .slice B m d, .slice C k q] 28)
  have F0 := hid (Fb.new w #[.int .i64 V0, .slice A n c, .int .i64 V1, .slice B m d, .slice C k q] 28)
  have HB0 := hid hb0
  have HF := hid (hF.below hb0)
  have HT := hid (ht.below hb0)
  clear hb0 ht hF
  go_enter Try.func4, Try.ntmps4
  go_wp2_with fail
  generalize w.alloc (.cells #[.int .i64 V0, .slice A n c, .int .i64 V1, .slice B m d, .slice C k q] 28) = w1 at *
  have hG : ∃ G, w.heap.size = G := ⟨_, rfl⟩
  obtain ⟨G, hG⟩ := hG
  have HGe := hid hG
  rw [hG] at F0
  rw [hG]
  clear hG
  refine (new_any At nt ct _).mono ?_
  rintro e w2 ⟨rfl, rfl⟩
  have Hinv := hid (show Going w1 w1.heap.size (w1.alloc (.cells #[.slice At nt ct, .int .i64 0] 43)) from ⟨tape_new HT.out hnt, (Below.refl _ _).alloc (Nat.le_refl _) _, Nat.le_refl _⟩)
  clear HT
  go_wp2_with fail
  generalize w1.alloc (.cells #[.slice At nt ct, .int .i64 0] 43) = w2 at *
  generalize w1.heap.size = T at Hinv ⊢
  go_loopw [6, 7, 8, 9, 10, 11] (fun iv _ _ _ _ _ wr => ∃ i : Nat, i ≤ 5 ∧ iv = .int .i64 i ∧ Hid (Going w1 T wr)) (fun iv _ _ _ _ _ _ => 5 - (intOf iv).toNat)
  case atStart => exact ⟨0, by omega, rfl, Hinv⟩
  case round =>
    clear Hinv
    obtain ⟨i, hi, rfl, HI⟩ := hrel
    by_cases hlt : i < 5
    · go_wp2_with fail
      refine (width_any T _ HI.out.1).mono ?_
      rintro e w2 ⟨W, rfl, hW, ht2, hg2⟩
      have H2 := hid (HI.out.step ht2 hg2)
      clear ht2 hg2 HI
      go_wp2_with fail
      refine (transfer2_any T W _ H2.out.1 (by omega)).mono ?_
      rintro e w3 ⟨g1, g2, C9, k9, q9, gs9, ks9, cs9, rfl, hA, hB, hC, hv, h12, ht3, hg3⟩
      have H3 := H2.out.step ht3 hg3
      have hal := (Below.refl w3.heap.size w3).alloc (Nat.le_refl _) (.cells #[.int .i64 W, .slice (some ⟨g1, 0, none⟩) (Bs.nw W) (Bs.nw W), .int .i64 W, .slice (some ⟨g2, 0, none⟩) (Bs.nw W) (Bs.nw W), .slice C9 k9 q9] 28)
      have HW := hid (show Sw w1 T w3.heap.size W W (some ⟨g1, 0, none⟩) (some ⟨g2, 0, none⟩) C9 (Bs.nw W) (Bs.nw W) (Bs.nw W) (Bs.nw W) k9 q9 gs9 ks9 cs9 _ from ⟨H3.below hal, Fb.new w3 _ _, by have := ht3.lt; omega, H3.2.1.size, ⟨hA.below hal, hB.below hal, hC.below hal⟩⟩)
      have hk9 : k9 ≤ 12 := by have := hC.len; omega
      have hnw : Bs.nw W ≤ 50 := by unfold Bs.nw; omega
      clear hA hB hC hv h12 ht3 hg3 H3 hal H2
      go_upto_region 6 with fail
      generalize w3.alloc (.cells #[.int .i64 W, .slice (some ⟨g1, 0, none⟩) (Bs.nw W) (Bs.nw W), .int .i64 W, .slice (some ⟨g2, 0, none⟩) (Bs.nw W) (Bs.nw W), .slice C9 k9 q9] 28) = w4 at *
      generalize w3.heap.size = bx at *
      have hnxt : ∃ w5 : World, w5 = w4 := ⟨_, rfl⟩
      clear hnxt
      by_cases h4 : i = 4
      · subst h4
        obtain ⟨z0, z1, z2, z3, z4⟩ := HW.out.bx.five
        go_wp2_with fail
        refine (spoilT_any T W g1 g2 _ _ _ _ k9 q9 C9 gs9 ks9 cs9 _ HW.out.go.1 HW.out.f.gen HW.out.f.kill HW.out.f.cops hk9 (by omega) hnw hnw).mono ?_
        rintro e w5 ⟨W5, V5, A5, n5, c5, B5, m5, d5, C5, k5, q5, gs5, ks5, cs5, rfl, hf5, ht5, hg5⟩
        have HWs := HW.out.step ht5 hg5
        obtain ⟨z0, z1, z2, z3, z4⟩ := HWs.bx.five
        have y0 := HWs.bx.frozen 0
        have y1 := HWs.bx.frozen 1
        have y2 := HWs.bx.frozen 2
        have y3 := HWs.bx.frozen 3
        have y4 := HWs.bx.frozen 4
        have hlb := HWs.bx.lt
        have HW5 := hid (HWs.store (W' := W5) (V' := V5) (c' := c5) (d' := d5) (q' := q5) hf5)
        unfold stored5 at HW5
        clear HWs hf5 ht5 hg5 HW
        go_upto_region 8 with fail
        clear z0 z1 z2 z3 z4 y0 y1 y2 y3 y4 hlb hk9 hnw hW
        generalize ((((w5.setCell ⟨bx, 0, none⟩ (.int .i64 W5)).setCell ⟨bx, 1, none⟩ (.slice A5 n5 c5)).setCell ⟨bx, 2, none⟩ (.int .i64 V5)).setCell ⟨bx, 3, none⟩ (.slice B5 m5 d5)).setCell ⟨bx, 4, none⟩ (.slice C5 k5 q5) = w6 at *
        have Hs := hid (starR_small (W := W5) (V := V5) HW5.out.f)
        obtain ⟨r, hr⟩ : ∃ r, starR W5 gs5 V5 ks5 cs5 = r := ⟨_, rfl⟩
        rw [hr] at Hs
        have Hr := hid hr
        clear hr
        obtain ⟨W7, gs7, ks7, cs7, er7⟩ := r
        obtain ⟨z0, z1, z2, z3, z4⟩ := HW5.out.bx.five
        go_wp2_with fail
        refine (devStar_any W5 V5 A5 B5 C5 n5 c5 m5 d5 k5 q5 gs5 ks5 cs5 _ HW5.out.f).mono ?_
        rw [Hr.out]
        rintro e v1 ⟨A1, n1, c1', B1, m1, d1, C1, q1, rfl, ha1, hk1, hc1, hb1⟩
        have hb1' := hb1.alloc hb1.size (.cells #[.int .i64 W7, .slice A1 n1 c1', .int .i64 W7, .slice B1 m1 d1, .slice C1 cs7.length q1] 28)
        have HC1 := hid (FArg.alloc (⟨ha1, hk1, hc1⟩ : FArg v1 A1 n1 B1 m1 C1 cs7.length gs7 ks7 cs7) (.cells #[.int .i64 W7, .slice A1 n1 c1', .int .i64 W7, .slice B1 m1 d1, .slice C1 cs7.length q1] 28))
        have X1 := hid (Fb.new v1 #[.int .i64 W7, .slice A1 n1 c1', .int .i64 W7, .slice B1 m1 d1, .slice C1 cs7.length q1] 28)
        have HW6 := hid (HW5.out.below hb1')
        clear ha1 hk1 hc1 hb1 hb1' z0 z1 z2 z3 z4 HW5
        obtain ⟨z0, z1, z2, z3, z4⟩ := HW6.out.bx.five
        go_wp2_with fail
        generalize v1.alloc (.cells #[.int .i64 W7, .slice A1 n1 c1', .int .i64 W7, .slice B1 m1 d1, .slice C1 cs7.length q1] 28) = v2 at *
        generalize v1.heap.size = b1 at *
        refine (refStar_any W5 V5 A5 B5 C5 n5 c5 m5 d5 k5 q5 gs5 ks5 cs5 _ HW6.out.f).mono ?_
        rw [Hr.out]
        rintro e v3 ⟨A2, n2, c2', B2, m2, d2, C2, q2, rfl, ha2, hk2, hc2, hb2⟩
        have hb2' := hb2.alloc hb2.size (.cells #[.int .i64 W7, .slice A2 n2 c2', .int .i64 W7, .slice B2 m2 d2, .slice C2 cs7.length q2] 28)
        have HC2 := hid (FArg.alloc (⟨ha2, hk2, hc2⟩ : FArg v3 A2 n2 B2 m2 C2 cs7.length gs7 ks7 cs7) (.cells #[.int .i64 W7, .slice A2 n2 c2', .int .i64 W7, .slice B2 m2 d2, .slice C2 cs7.length q2] 28))
        have X2 := hid (Fb.new v3 #[.int .i64 W7, .slice A2 n2 c2', .int .i64 W7, .slice B2 m2 d2, .slice C2 cs7.length q2] 28)
        have HC1 := hid (HC1.out.below hb2')
        have X1 := hid (X1.out.below hb2' X1.out.lt)
        have HW7 := hid (HW6.out.below hb2')
        clear ha2 hk2 hc2 hb2 hb2' z0 z1 z2 z3 z4 HW6
        have te : (er7 != er7) = false := by simp
        obtain ⟨z0, z1, z2, z3, z4⟩ := X1.out.five
        obtain ⟨y0, y1, y2, y3, y4⟩ := X2.out.five
        have hl1 := X1.out.lt
        have hl2 := X2.out.lt
        go_upto_region 10 with fail
        generalize v3.alloc (.cells #[.int .i64 W7, .slice A2 n2 c2', .int .i64 W7, .slice B2 m2 d2, .slice C2 cs7.length q2] 28) = v4 at *
        generalize v3.heap.size = b2 at *
        go_wp2_with fail
        refine (refEquals_any W7 W7 A1 B1 C1 n1 c1' m1 d1 cs7.length q1 W7 W7 A2 B2 C2 n2 c2' m2 d2 cs7.length q2 gs7 ks7 gs7 ks7 cs7 cs7 _ HC1.out.gen HC1.out.kill HC1.out.cops HC2.out.gen HC2.out.kill HC2.out.cops (by have h1 := HC1.out.gen.len; have h2 : gs7.length ≤ 100 := Hs.out.1; unfold maxLen; omega) (by have h1 := HC1.out.kill.len; have h2 : ks7.length ≤ 100 := Hs.out.2.1; unfold maxLen; omega) (by have h2 : cs7.length ≤ 100 := Hs.out.2.2; unfold maxLen; omega)).mono ?_
        rw [equalsT_self]
        rintro e v5 ⟨rfl, hb5⟩
        have HW8 := hid (HW7.out.below hb5)
        clear hb5 te z0 z1 z2 z3 z4 y0 y1 y2 y3 y4 hl1 hl2
        go_wp2_with fail
        go_roundw
        case rel => exact ⟨4 + 1, by omega, by go_num, hid HW8.out.go⟩
        case measure => simp [intOf]
      · have t4 : ((i : Int) == 4) = false := by simp; omega
        go_upto_region 8 with fail
        clear t4 h4
        have HW5 := HW
        clear HW hk9 hnw
        generalize w4 = w6 at *
        generalize (some ⟨g1, 0, none⟩ : Option Addr) = A5 at *
        generalize (some ⟨g2, 0, none⟩ : Option Addr) = B5 at *
        generalize Bs.nw W = n5 at *
        generalize (W : Int) = W5 at *
        have Hs := hid (starR_small (W := W5) (V := W5) HW5.out.f)
        obtain ⟨r, hr⟩ : ∃ r, starR W5 gs9 W5 ks9 cs9 = r := ⟨_, rfl⟩
        rw [hr] at Hs
        have Hr := hid hr
        clear hr
        obtain ⟨W7, gs7, ks7, cs7, er7⟩ := r
        obtain ⟨z0, z1, z2, z3, z4⟩ := HW5.out.bx.five
        go_wp2_with fail
        refine (devStar_any W5 W5 A5 B5 C9 n5 n5 n5 n5 k9 q9 gs9 ks9 cs9 _ HW5.out.f).mono ?_
        rw [Hr.out]
        rintro e v1 ⟨A1, n1, c1', B1, m1, d1, C1, q1, rfl, ha1, hk1, hc1, hb1⟩
        have hb1' := hb1.alloc hb1.size (.cells #[.int .i64 W7, .slice A1 n1 c1', .int .i64 W7, .slice B1 m1 d1, .slice C1 cs7.length q1] 28)
        have HC1 := hid (FArg.alloc (⟨ha1, hk1, hc1⟩ : FArg v1 A1 n1 B1 m1 C1 cs7.length gs7 ks7 cs7) (.cells #[.int .i64 W7, .slice A1 n1 c1', .int .i64 W7, .slice B1 m1 d1, .slice C1 cs7.length q1] 28))
        have X1 := hid (Fb.new v1 #[.int .i64 W7, .slice A1 n1 c1', .int .i64 W7, .slice B1 m1 d1, .slice C1 cs7.length q1] 28)
        have HW6 := hid (HW5.out.below hb1')
        clear ha1 hk1 hc1 hb1 hb1' z0 z1 z2 z3 z4 HW5
        obtain ⟨z0, z1, z2, z3, z4⟩ := HW6.out.bx.five
        go_wp2_with fail
        generalize v1.alloc (.cells #[.int .i64 W7, .slice A1 n1 c1', .int .i64 W7, .slice B1 m1 d1, .slice C1 cs7.length q1] 28) = v2 at *
        generalize v1.heap.size = b1 at *
        refine (refStar_any W5 W5 A5 B5 C9 n5 n5 n5 n5 k9 q9 gs9 ks9 cs9 _ HW6.out.f).mono ?_
        rw [Hr.out]
        rintro e v3 ⟨A2, n2, c2', B2, m2, d2, C2, q2, rfl, ha2, hk2, hc2, hb2⟩
        have hb2' := hb2.alloc hb2.size (.cells #[.int .i64 W7, .slice A2 n2 c2', .int .i64 W7, .slice B2 m2 d2, .slice C2 cs7.length q2] 28)
        have HC2 := hid (FArg.alloc (⟨ha2, hk2, hc2⟩ : FArg v3 A2 n2 B2 m2 C2 cs7.length gs7 ks7 cs7) (.cells #[.int .i64 W7, .slice A2 n2 c2', .int .i64 W7, .slice B2 m2 d2, .slice C2 cs7.length q2] 28))
        have X2 := hid (Fb.new v3 #[.int .i64 W7, .slice A2 n2 c2', .int .i64 W7, .slice B2 m2 d2, .slice C2 cs7.length q2] 28)
        have HC1 := hid (HC1.out.below hb2')
        have X1 := hid (X1.out.below hb2' X1.out.lt)
        have HW7 := hid (HW6.out.below hb2')
        clear ha2 hk2 hc2 hb2 hb2' z0 z1 z2 z3 z4 HW6
        have te : (er7 != er7) = false := by simp
        obtain ⟨z0, z1, z2, z3, z4⟩ := X1.out.five
        obtain ⟨y0, y1, y2, y3, y4⟩ := X2.out.five
        have hl1 := X1.out.lt
        have hl2 := X2.out.lt
        go_upto_region 10 with fail
        generalize v3.alloc (.cells #[.int .i64 W7, .slice A2 n2 c2', .int .i64 W7, .slice B2 m2 d2, .slice C2 cs7.length q2] 28) = v4 at *
        generalize v3.heap.size = b2 at *
        go_wp2_with fail
        refine (refEquals_any W7 W7 A1 B1 C1 n1 c1' m1 d1 cs7.length q1 W7 W7 A2 B2 C2 n2 c2' m2 d2 cs7.length q2 gs7 ks7 gs7 ks7 cs7 cs7 _ HC1.out.gen HC1.out.kill HC1.out.cops HC2.out.gen HC2.out.kill HC2.out.cops (by have h1 := HC1.out.gen.len; have h2 : gs7.length ≤ 100 := Hs.out.1; unfold maxLen; omega) (by have h1 := HC1.out.kill.len; have h2 : ks7.length ≤ 100 := Hs.out.2.1; unfold maxLen; omega) (by have h2 : cs7.length ≤ 100 := Hs.out.2.2; unfold maxLen; omega)).mono ?_
        rw [equalsT_self]
        rintro e v5 ⟨rfl, hb5⟩
        have HW8 := hid (HW7.out.below hb5)
        clear hb5 te z0 z1 z2 z3 z4 y0 y1 y2 y3 y4 hl1 hl2
        go_wp2_with fail
        go_roundw
        case rel => exact ⟨i + 1, by omega, by go_num, hid HW8.out.go⟩
        case measure => simp [intOf]; omega
    · obtain rfl : i = 5 := by omega
      have HBw := hid (show Below w.heap.size w wr from below_step HB0.out HI.out.2.1)
      have HF9 := hid (HF.out.below HI.out.2.1)
      have F9 := hid (F0.out.below HI.out.2.1 F0.out.lt)
      clear HF F0 HB0 HI
      obtain ⟨c0, c1, c2, c3, c4⟩ := F9.out.five
      go_wp2_with fail
      refine (large_any V0 V1 A B C n c m d k q _).mono ?_
      rintro e w5 ⟨r, rfl, hb5⟩
      have HB5 := hid (below_step HBw.out hb5)
      have HF5 := hid (HF9.out.below hb5)
      have F5 := hid (F9.out.below hb5 F9.out.lt)
      clear hb5 c0 c1 c2 c3 c4 HF9 F9 HBw
      cases r with
      | true =>
        go_wp2_with fail
        refine (sane_any _).mono ?_
        rintro e w7 ⟨rfl, hb7⟩
        have HB7 := hid (below_step HB5.out hb7)
        clear hb7
        go_wp2_with fail
        go_ret
        exact ⟨rfl, HB7.out⟩
      | false =>
        obtain ⟨c0, c1, c2, c3, c4⟩ := F5.out.five
        have Hs := hid (starR_small (W := V0) (V := V1) HF5.out)
        obtain ⟨r, hr⟩ : ∃ r, starR V0 gs V1 ks cs = r := ⟨_, rfl⟩
        rw [hr] at Hs
        have Hr := hid hr
        clear hr
        obtain ⟨W7, gs7, ks7, cs7, er7⟩ := r
        go_wp2_with fail
        refine (devStar_any V0 V1 A B C n c m d k q gs ks cs _ HF5.out).mono ?_
        rw [Hr.out]
        rintro e v1 ⟨A1, n1, c1', B1, m1, d1, C1, q1, rfl, ha1, hk1, hc1, hb1⟩
        have hb1' := hb1.alloc hb1.size (.cells #[.int .i64 W7, .slice A1 n1 c1', .int .i64 W7, .slice B1 m1 d1, .slice C1 cs7.length q1] 28)
        have HC1 := hid (FArg.alloc (⟨ha1, hk1, hc1⟩ : FArg v1 A1 n1 B1 m1 C1 cs7.length gs7 ks7 cs7) (.cells #[.int .i64 W7, .slice A1 n1 c1', .int .i64 W7, .slice B1 m1 d1, .slice C1 cs7.length q1] 28))
        have X1 := hid (Fb.new v1 #[.int .i64 W7, .slice A1 n1 c1', .int .i64 W7, .slice B1 m1 d1, .slice C1 cs7.length q1] 28)
        have F6 := hid (F5.out.below hb1' F5.out.lt)
        have HF6 := hid (HF5.out.below hb1')
        have HB6 := hid (below_step HB5.out hb1')
        clear ha1 hk1 hc1 hb1 hb1' c0 c1 c2 c3 c4 F5 HF5 HB5
        obtain ⟨c0, c1, c2, c3, c4⟩ := F6.out.five
        go_wp2_with fail
        generalize v1.alloc (.cells #[.int .i64 W7, .slice A1 n1 c1', .int .i64 W7, .slice B1 m1 d1, .slice C1 cs7.length q1] 28) = v2 at *
        generalize v1.heap.size = b1 at *
        refine (refStar_any V0 V1 A B C n c m d k q gs ks cs _ HF6.out).mono ?_
        rw [Hr.out]
        rintro e v3 ⟨A2, n2, c2', B2, m2, d2, C2, q2, rfl, ha2, hk2, hc2, hb2⟩
        have hb2' := hb2.alloc hb2.size (.cells #[.int .i64 W7, .slice A2 n2 c2', .int .i64 W7, .slice B2 m2 d2, .slice C2 cs7.length q2] 28)
        have HC2 := hid (FArg.alloc (⟨ha2, hk2, hc2⟩ : FArg v3 A2 n2 B2 m2 C2 cs7.length gs7 ks7 cs7) (.cells #[.int .i64 W7, .slice A2 n2 c2', .int .i64 W7, .slice B2 m2 d2, .slice C2 cs7.length q2] 28))
        have X2 := hid (Fb.new v3 #[.int .i64 W7, .slice A2 n2 c2', .int .i64 W7, .slice B2 m2 d2, .slice C2 cs7.length q2] 28)
        have HC1 := hid (HC1.out.below hb2')
        have X1 := hid (X1.out.below hb2' X1.out.lt)
        have HB7 := hid (below_step HB6.out hb2')
        clear ha2 hk2 hc2 hb2 hb2' c0 c1 c2 c3 c4 F6 HF6 HB6
        have te : (er7 == er7) = true := by simp
        obtain ⟨z0, z1, z2, z3, z4⟩ := X1.out.five
        obtain ⟨y0, y1, y2, y3, y4⟩ := X2.out.five
        have hl1 := X1.out.lt
        have hl2 := X2.out.lt
        go_upto_region 16 with fail
        generalize v3.alloc (.cells #[.int .i64 W7, .slice A2 n2 c2', .int .i64 W7, .slice B2 m2 d2, .slice C2 cs7.length q2] 28) = v4 at *
        generalize v3.heap.size = b2 at *
        go_wp2_with fail
        refine (refEquals_any W7 W7 A1 B1 C1 n1 c1' m1 d1 cs7.length q1 W7 W7 A2 B2 C2 n2 c2' m2 d2 cs7.length q2 gs7 ks7 gs7 ks7 cs7 cs7 _ HC1.out.gen HC1.out.kill HC1.out.cops HC2.out.gen HC2.out.kill HC2.out.cops (by have h1 := HC1.out.gen.len; have h2 : gs7.length ≤ 100 := Hs.out.1; unfold maxLen; omega) (by have h1 := HC1.out.kill.len; have h2 : ks7.length ≤ 100 := Hs.out.2.1; unfold maxLen; omega) (by have h2 : cs7.length ≤ 100 := Hs.out.2.2; unfold maxLen; omega)).mono ?_
        rw [equalsT_self]
        rintro e v5 ⟨rfl, hb5⟩
        have HB8 := hid (below_step HB7.out hb5)
        clear hb5 te z0 z1 z2 z3 z4 y0 y1 y2 y3 y4 hl1 hl2
        go_wp2_with fail
        refine (sane_any _).mono ?_
        rintro e w7 ⟨rfl, hb7⟩
        have HB9 := hid (below_step HB8.out hb7)
        clear hb7
        go_wp2_with fail
        go_ret
        exact ⟨rfl, HB9.out⟩
end Go.Proofs.Ytmbelhdkaepohaa

namespace Go.Proofs.Ytmbelhdkaepohaa.transferStar
open Go.ChangeShapes Go.WideShapes Go.ChangeAt Go.RowKit
open Go.ChangeMaps (open_string)
set_option linter.unusedVariables false

theorem own : ownKnob Try.prog.godebug = none := by kernel_rfl
theorem laidOut : laidOutB Try.prog = true := by kernel_rfl

set_option maxRecDepth 100000 in
theorem lifted (os : Os) (started : os.Started) (H : Type) (enc : TypeId × Value → H) :
    ReturnsInHanded {} Try.checked os 4 .any (Rows.transferStarSpec.pre6 enc Try.prog Try.f4 Rows.transferStarRow.domain false) (Rows.transferStarSpec.post enc Try.prog Try.f4 false true false false) := by
  refine returnsInHanded_of_change (C := Try.checked) own started (by kernel_rfl) Try.func4
    (ChangeSpec.witness6 (enc := enc) (C := Try.checked) false ⟨#[], #[.slice none 0 0, .agg #[.int .i64 0, .slice none 0 0, .int .i64 0, .slice none 0 0, .slice none 0 0]], []⟩ 8 (by kernel_rfl) (by kernel_rfl) (by kernel_rfl) (by kernel_rfl)) ?_
  intro W base args ds gs before hval0 hW hcnd _
  have hval : ∀ (j : Nat) t v, Try.f4.params[j]? = some t → args[j]? = some v → Value.okWide Try.prog W .any base t v := hval0
  have hW' := hW
  obtain ⟨p, q, hA0, hV, rfl, hfz, hnd⟩ := hW
  have hA : DataW.TrodAll enc Try.prog W 0 (fun _ => true) true Try.f4.params.toList args.toList ds p := hA0
  rw [Try.params4] at hA hval
  obtain ⟨v0, vs0, d0, ds0, p0, q0, hargs, rfl, rfl, h0, r0⟩ := trodAll_cons hA
  obtain ⟨v1, vs1, d1, ds1, p1, q1, rfl, rfl, rfl, h1, r1⟩ := trodAll_cons r0
  obtain ⟨rfl, rfl, rfl⟩ := trodAll_nil r1
  obtain rfl : args = #[v0, v1] := by cases args; simp_all
  obtain ⟨rfl, rfl⟩ := trodVars_none hV
  have k0 := h0
  have lt0 : ∀ x ∈ p0, x.block < W.heap.size := by obtain ⟨m, hm⟩ := k0; exact DataW.trod_lt m _ _ _ hm
  obtain ⟨a0, n0, c0, l0, rfl, g0, m0⟩ := open_list (hval 0 22 v0 rfl rfl) h0
  have k1 := h1
  have lt1 : ∀ x ∈ p1, x.block < W.heap.size := by obtain ⟨m, hm⟩ := k1; exact DataW.trod_lt m _ _ _ hm
  obtain ⟨uV1, uU1, uA1, uB1, uC1, un1, uc1, um1, ud1, uk1, uq1, ugs1, uks1, ups1, rfl, g1⟩ := open_transfer (hval 1 28 v1 rfl rfl) h1
  clear hA0 hval0
  refine (lawStar a0 n0 c0 l0 uV1 uU1 uA1 uB1 uC1 un1 uc1 um1 ud1 uk1 uq1 ugs1 uks1 ups1 W g0 m0 g1).mono fun e W' ⟨he, bel⟩ => ?_
  subst he
  exact ⟨_, rfl, _, _, _, [], _, [], hW', trodAll_mk1 (shut_bool Try.underlying4 _), (trodAll_cons_mk (Below.trod laidOut (by kernel_rfl) (of_decide_eq_true (by kernel_rfl)) k0 bel lt0) (trodAll_cons_mk (Below.trod laidOut (by kernel_rfl) (of_decide_eq_true (by kernel_rfl)) k1 bel lt1) trodAll_mk0)), rfl, bel.frame _, fun h => by cases h⟩

theorem over : Rows.transferStarRow.holds Try.pinned (OpenSpec.ofChange Rows.transferStarSpec) :=
  OpenClaim.holds_of_wide 4 Try.f4 rfl rfl rfl rfl rfl rfl rfl ⟨rfl, rfl, rfl, rfl, rfl⟩ rfl rfl rfl rfl rfl (by kernel_rfl) Try.func4 (by kernel_rfl)
    (of_decide_eq_true (by kernel_rfl)) (by unfold Func.isWrapper; first | (rw [if_pos (by decide +kernel)]; kernel_rfl) | (rw [if_neg (by decide +kernel)]; exact ⟨rfl, rfl⟩))
    (fun os started H enc _ => lifted os started H enc)

theorem proved : Rows.TransferStarSaid := over
#print axioms proved
end Go.Proofs.Ytmbelhdkaepohaa.transferStar
