/- For every list of choices, every function, every set and all numbers: of the functions that the choices make and of their spoiled copies, and of the given function if it is not too large to be examined, the package's Valid, Canon, Follows and Apply agree with the reference, and the sanity check holds: TransferApplies returns true and leaves its arguments as they were. -/
import Derived.Test.YtbcnipnjlmobfaaCct
import Derived.Test.YtbcnipnjlmobfaaDvT
import Derived.Test.YtbcnipnjlmobfaaDEq
import Derived.Test.YtbcnipnjlmobfaaGen2
import Derived.Test.YtbcnipnjlmobfaaSpoil
import Derived.Test.YtbcnipnjlmobfaaGo3
import Derived.Deep.RegionLaw
import Derived.Deep.DeepCutAuto
import Derived.Deep.DrawnRows
import Derived.Test.YtbcnipnjlmobfaaMembers
import Derived.Lib.SmallJoins
import Derived.ShutString
import Derived.ChangeOld
import Derived.Deep.Slices
import Derived.Deep.Fields
import Derived.ChangeSame
import Derived.Test.YtbcnipnjlmobfaaSan3
import Derived.Deep.RegionHeld3
namespace Go.Proofs.Ytbcnipnjlmobfaa
set_option maxRecDepth 20000
open Go.ChangeShapes Go.WideShapes Go.ChangeAt Go.RowKit

theorem Arg.skip {w w' : World} {A : Option Addr} {n : Nat} {ws : List Nat} {R : Nat} (h : Arg w A n ws) (ha : ws = [] ∨ ∃ ad, A = some ad ∧ ad.block ≠ R) (hg : w.grownBy w' (some R)) : Arg w' A n ws := by
  refine ⟨?_, h.len, h.ok⟩
  rcases ha with rfl | ⟨ad, rfl, hne⟩
  · exact .inl rfl
  · rcases h.lies with h0 | ⟨ad', e, hb, hc⟩
    · exact .inl h0
    · cases e
      exact .inr ⟨ad, rfl, by have := hg.size; omega, fun j u hu => hg.cell (hc j u hu) (by rw [add_block]; intro e; injection e with e; exact hne e)⟩
theorem ArgC.skip {w w' : World} {A : Option Addr} {n : Nat} {cs : List (Int × Int)} {R : Nat} (h : ArgC w A n cs) (ha : cs = [] ∨ ∃ ad, A = some ad ∧ ad.block ≠ R) (hg : w.grownBy w' (some R)) : ArgC w' A n cs := by
  refine ⟨?_, h.len⟩
  rcases ha with rfl | ⟨ad, rfl, hne⟩
  · exact .inl rfl
  · rcases h.lies with h0 | ⟨ad', e, hb, hc⟩
    · exact .inl h0
    · cases e
      exact .inr ⟨ad, rfl, by have := hg.size; omega, fun j u hu => hg.cell (hc j u hu) (by rw [add_block]; intro e; injection e with e; exact hne e)⟩
theorem grown_stored5 {w0 w : World} {R : Nat} (h : w0.grownBy w (some R)) (a b c d e : Value) : w0.grownBy (stored5 w R a b c d e) (some R) :=
  grown_trans (grown_trans (grown_trans (grown_trans (grown_trans h (grown_set _ R rfl a)) (grown_set _ R rfl b)) (grown_set _ R rfl c)) (grown_set _ R rfl d)) (grown_set _ R rfl e)

/-- The bits of both. -/
def andR (W : Nat) (ws xs : List Nat) : List Nat := Bs.ofP W (fun i => Bs.bit ws i && Bs.bit xs i) W
theorem fit_andR (W : Nat) (ws xs : List Nat) : Bs.Fit W (andR W ws xs) := Bs.fit_ofP _ _ _ (Nat.le_refl _)
theorem mixR_and {W : Nat} {ws xs : List Nat} (hW : W ≤ 256) (h1 : Bs.Fit W ws) (h2 : Bs.Fit W xs) : mixR (flag false false true) W ws W xs = ((W : Int), andR W ws xs, 0) := by
  rw [mixR_ok _ hW h1 h2]
  congr 2
  refine Bs.ofP_congr fun i _ => ?_
  cases Bs.bit ws i <;> cases Bs.bit xs i <;> rfl

/-- The canonical function, or the error, as a value. -/
def cnR (W : Nat) (gs ks : List Nat) (cs : List (Int × Int)) : Int × List Nat × List Nat × List (Int × Int) × Int :=
  if (ord (cs.filter (restB W gs))).length ≤ 64 then (W, gs, killC W gs ks cs, ord (cs.filter (restB W gs)), 0) else (0, [], [], [], 7)
theorem RetCanon.val {w w' : World} {W : Nat} {gs ks : List Nat} {cs : List (Int × Int)} {e : Ending} (hh : RetCanon w W gs ks cs e w') : RetR w (cnR W gs ks cs) e w' := by
  unfold RetCanon at hh
  unfold cnR
  by_cases h : (ord (cs.filter (restB W gs))).length ≤ 64
  · rw [if_pos h] at hh ⊢; exact hh
  · rw [if_neg h] at hh ⊢; exact hh

/-- P3.5. -/
def joinR (W : Int) (gs : List Nat) (V : Int) (ks : List Nat) (cs : List (Int × Int)) (W' : Int) (gs' : List Nat) (V' : Int) (ks' : List Nat) (cs' : List (Int × Int)) : Int × List Nat × List Nat × List (Int × Int) × Int :=
  if validT W gs V ks cs = false ∨ validT W' gs' V' ks' cs' = false then (0, [], [], [], 1)
  else if W ≠ W' then (0, [], [], [], 2)
  else cnR W.toNat (orR W.toNat gs gs') (andR W.toNat ks ks') (cs ++ cs')

/-- Two functions and the empty result in three new blocks. -/
def Three (w : World) (W V : Int) (A B C : Option Addr) (n c m d k q : Nat) (W' V' : Int) (A' B' C' : Option Addr) (n' c' m' d' k' q' : Nat) (wr : World) : Prop :=
  Fb wr w.heap.size #[.int .i64 W, .slice A n c, .int .i64 V, .slice B m d, .slice C k q] 28 ∧ Fb wr (w.heap.size + 1) #[.int .i64 W', .slice A' n' c', .int .i64 V', .slice B' m' d', .slice C' k' q'] 28 ∧
    Fb wr (w.heap.size + 2) #[.int .i64 0, .slice none 0 0, .int .i64 0, .slice none 0 0, .slice none 0 0] 28 ∧ Below w.heap.size w wr
section
variable {w : World} {W V : Int} {A B C : Option Addr} {n c m d k q : Nat} {W' V' : Int} {A' B' C' : Option Addr} {n' c' m' d' k' q' : Nat} {wr w' : World}
theorem Three.start (w : World) (W V : Int) (A B C : Option Addr) (n c m d k q : Nat) (W' V' : Int) (A' B' C' : Option Addr) (n' c' m' d' k' q' : Nat) :
    Three w W V A B C n c m d k q W' V' A' B' C' n' c' m' d' k' q' (((w.alloc (.cells #[.int .i64 W, .slice A n c, .int .i64 V, .slice B m d, .slice C k q] 28)).alloc (.cells #[.int .i64 W', .slice A' n' c', .int .i64 V', .slice B' m' d', .slice C' k' q'] 28)).alloc (.cells #[.int .i64 0, .slice none 0 0, .int .i64 0, .slice none 0 0, .slice none 0 0] 28)) := by
  have h := TwoT.start w W V A B C n c m d k q W' V' A' B' C' n' c' m' d' k' q'
  have hS := Fb.new ((w.alloc (.cells #[.int .i64 W, .slice A n c, .int .i64 V, .slice B m d, .slice C k q] 28)).alloc (.cells #[.int .i64 W', .slice A' n' c', .int .i64 V', .slice B' m' d', .slice C' k' q'] 28)) #[.int .i64 0, .slice none 0 0, .int .i64 0, .slice none 0 0, .slice none 0 0] 28
  simp only [World.size_alloc] at hS
  exact ⟨h.1.alloc _, h.2.1.alloc _, hS, h.2.2.alloc (by simp; omega) _⟩
theorem Three.below (h : Three w W V A B C n c m d k q W' V' A' B' C' n' c' m' d' k' q' wr) (hb : Below wr.heap.size wr w') : Three w W V A B C n c m d k q W' V' A' B' C' n' c' m' d' k' q' w' :=
  ⟨h.1.below hb h.1.lt, h.2.1.below hb h.2.1.lt, h.2.2.1.below hb h.2.2.1.lt, h.2.2.2.trans (hb.mono h.2.2.2.size)⟩
end
end Go.Proofs.Ytbcnipnjlmobfaa

namespace Go.Proofs.Ytbcnipnjlmobfaa
set_option maxRecDepth 20000
open Go.ChangeShapes Go.WideShapes Go.ChangeAt Go.RowKit

theorem grown_set5 {w0 w : World} {R : Nat} (h : w0.grownBy w (some R)) (a b c d e : Value) : w0.grownBy (((((w.setCell ⟨R, 0, none⟩ a).setCell ⟨R, 1, none⟩ b).setCell ⟨R, 2, none⟩ c).setCell ⟨R, 3, none⟩ d).setCell ⟨R, 4, none⟩ e) (some R) :=
  grown_stored5 h a b c d e
theorem fit_of_valid' {W : Nat} {w : World} {A : Option Addr} {n : Nat} {ws : List Nat} (h : Bs.validB W ws = true) (ha : Arg w A n ws) : Bs.Fit W ws := by
  have := Bs.fit_of_valid h ha.ok; rwa [Int.toNat_natCast] at this

set_option maxHeartbeats 1600000 in
theorem devJoin_any (W V : Int) (A B C : Option Addr) (n c m d k q : Nat) (gs ks : List Nat) (cs : List (Int × Int)) (W' V' : Int) (A' B' C' : Option Addr) (n' c' m' d' k' q' : Nat) (gs' ks' : List Nat) (cs' : List (Int × Int)) (w : World)
    (hF : FArg w A n B m C k gs ks cs) (hG : FArg w A' n' B' m' C' k' gs' ks' cs') :
    Calls Try.prog 35 #[.agg #[.int .i64 W, .slice A n c, .int .i64 V, .slice B m d, .slice C k q], .agg #[.int .i64 W', .slice A' n' c', .int .i64 V', .slice B' m' d', .slice C' k' q']] w
      (RetR w (joinR W gs V ks cs W' gs' V' ks' cs')) := by
  have HF := hid hF; have HG := hid hG
  have H0 := hid (Three.start w W V A B C n c m d k q W' V' A' B' C' n' c' m' d' k' q')
  clear hF hG
  go_enter Try.func35, Try.ntmps35
  go_wp2_with fail
  refine (devCheck_any W V A B C n c m d k q gs ks cs W' V' A' B' C' n' c' m' d' k' q' gs' ks' cs' _ (HF.out.below H0.out.2.2.2) (HG.out.below H0.out.2.2.2)).mono ?_
  by_cases hbad : checkR (validT W gs V ks cs) (validT W' gs' V' ks' cs') W W' ≠ 0
  · have Hr := hid (show joinR W gs V ks cs W' gs' V' ks' cs' = (0, [], [], [], checkR (validT W gs V ks cs) (validT W' gs' V' ks' cs') W W') by
      unfold joinR checkR
      unfold checkR at hbad
      by_cases h1 : validT W gs V ks cs = false ∨ validT W' gs' V' ks' cs' = false
      · rw [if_pos h1, if_pos h1]
      · rw [if_neg h1, if_neg h1]
        rw [if_neg h1] at hbad
        by_cases h2 : W ≠ W'
        · rw [if_pos h2, if_pos h2]
        · rw [if_neg h2] at hbad; exact absurd rfl hbad)
    generalize checkR (validT W gs V ks cs) (validT W' gs' V' ks' cs') W W' = er at *
    have tt : (er != 0) = true := by simpa using hbad
    clear hbad
    rintro e w1 ⟨rfl, hb1⟩
    have H1 := hid (H0.out.below hb1)
    clear hb1
    obtain ⟨r0, r1, r2, r3, r4⟩ := H1.out.2.2.1.five
    have f0 := H1.out.2.2.1.frozen 0
    have f1 := H1.out.2.2.1.frozen 1
    have f2 := H1.out.2.2.1.frozen 2
    have f3 := H1.out.2.2.1.frozen 3
    have f4 := H1.out.2.2.1.frozen 4
    have hlR := H1.out.2.2.1.lt
    have Fin := hid (RetT.stored (err := er) (c := 0) (d := 0) (q := 0) (cs := []) (C := none) (Arg.nil w1 none) (Arg.nil w1 none) ⟨.inl rfl, rfl⟩ H1.out.2.2.2 (by omega) H1.out.2.2.1 (W := 0))
    unfold stored5 at Fin
    go_wp2_with fail
    refine bodyPost_ret (v := .tuple #[.agg #[.int .i64 0, .slice none 0 0, .int .i64 0, .slice none 0 0, .slice none 0 0], .int .i64 er]) (by simp [results, Try.results35, go_sem, r0, r1, r2, r3, r4]) rfl ?_
    rw [Hr.out]
    exact Fin.out
  · have hok : checkR (validT W gs V ks cs) (validT W' gs' V' ks' cs') W W' = 0 := by simpa using hbad
    rw [hok]
    have hv1 : validT W gs V ks cs = true := by
      unfold checkR at hok
      cases h : validT W gs V ks cs with
      | true => rfl
      | false => rw [h] at hok; simp at hok
    have hv2 : validT W' gs' V' ks' cs' = true := by
      unfold checkR at hok
      cases h : validT W' gs' V' ks' cs' with
      | true => rfl
      | false => rw [h] at hok; simp at hok
    have hWW : W = W' := by
      unfold checkR at hok
      rw [hv1, hv2] at hok
      by_cases h : W = W'
      · exact h
      · simp [h] at hok
    clear hok hbad
    subst hWW
    obtain ⟨h1, h2, h3, h4, h5⟩ := validT_iff hv1
    obtain ⟨g1, g2, g3, g4, g5⟩ := validT_iff hv2
    subst h3
    subst g3
    have hin1 := inW_of_ok h5
    have hin2 := inW_of_ok g5
    have Hr := hid (show joinR W gs W ks cs W gs' W ks' cs' = cnR W.toNat (orR W.toNat gs gs') (andR W.toNat ks ks') (cs ++ cs') by unfold joinR; rw [if_neg (by simp [hv1, hv2]), if_neg (by simp)])
    obtain ⟨v, rfl⟩ := Int.eq_ofNat_of_zero_le (Bs.validB_iff.1 h1).1
    have hv256 : v ≤ 256 := by have := (Bs.validB_iff.1 h1).2.1; omega
    have hfg := fit_of_valid' h1 HF.out.gen
    have hfk := fit_of_valid' h2 HF.out.kill
    have hfg' := fit_of_valid' g1 HG.out.gen
    have hfk' := fit_of_valid' g2 HG.out.kill
    have hk4 : k ≤ 64 := by rw [HF.out.cops.len] at h4; exact h4
    have hk4' : k' ≤ 64 := by rw [HG.out.cops.len] at g4; exact g4
    rw [Int.toNat_natCast] at Hr
    have Hin := hid (show ∀ p ∈ cs ++ cs', inW v p = true from fun p hp => (List.mem_append.1 hp).elim (hin1 p) (hin2 p))
    have Hfg := hid hfg; have Hfk := hid hfk; have Hfg' := hid hfg'; have Hfk' := hid hfk'
    clear h1 h2 h4 h5 g1 g2 g4 g5 hin1 hin2 hfg hfk hfg' hfk' hv1 hv2
    rintro e w1 ⟨rfl, hb1⟩
    have H1 := hid (H0.out.below hb1)
    clear hb1
    obtain ⟨t0, t1, t2, t3, t4⟩ := H1.out.1.five
    obtain ⟨s0, s1, s2, s3, s4⟩ := H1.out.2.1.five
    go_wp2_with fail
    refine (devUnion_any v v A A' n c n' c' gs gs' _ (HF.out.gen.below H1.out.2.2.2) (HG.out.gen.below H1.out.2.2.2)).mono ?_
    rw [mixR_or hv256 Hfg.out Hfg'.out]
    rintro e w2 ⟨A2, n2, c2, rfl, ha2, hb2⟩
    have hb2' := hb2.alloc hb2.size (.cells #[.int .i64 v, .slice A2 n2 c2] 25)
    have H2 := hid (H1.out.below hb2')
    have HA2 := hid (ha2.alloc (.cells #[.int .i64 v, .slice A2 n2 c2] 25))
    have HB2 := hid (Box.new w2 v A2 n2 c2)
    clear ha2 hb2 hb2' t0 t1 t2 t3 t4 s0 s1 s2 s3 s4
    obtain ⟨t0, t1, t2, t3, t4⟩ := H2.out.1.five
    obtain ⟨s0, s1, s2, s3, s4⟩ := H2.out.2.1.five
    go_wp2_with fail
    generalize w2.alloc (.cells #[.int .i64 v, .slice A2 n2 c2] 25) = w3 at *
    generalize w2.heap.size = b3 at *
    refine (devInter_any v v B B' m d m' d' ks ks' _ (HF.out.kill.below H2.out.2.2.2) (HG.out.kill.below H2.out.2.2.2)).mono ?_
    rw [mixR_and hv256 Hfk.out Hfk'.out]
    rintro e w4 ⟨A4, n4, c4, rfl, ha4, hb4⟩
    have hb4' := hb4.alloc hb4.size (.cells #[.int .i64 v, .slice A4 n4 c4] 25)
    have H5 := hid (H2.out.below hb4')
    have HA5 := hid (HA2.out.below hb4')
    have HB5 := hid (HB2.out.below hb4' HB2.out.lt)
    have HK5 := hid (ha4.alloc (.cells #[.int .i64 v, .slice A4 n4 c4] 25))
    have HC5 := hid (Box.new w4 v A4 n4 c4)
    have hne3 : b3 ≠ w.heap.size + 2 := by
      intro e
      have x1 := HB2.out
      have x2 := H2.out.2.2.1
      rw [e] at x1
      unfold Box at x1
      unfold Fb at x2
      rw [x1] at x2
      cases x2
    have hne4 : w4.heap.size ≠ w.heap.size + 2 := by
      intro e
      have x1 := HC5.out
      have x2 := H5.out.2.2.1
      rw [e] at x1
      unfold Box at x1
      unfold Fb at x2
      rw [x1] at x2
      cases x2
    clear ha4 hb4 hb4' t0 t1 t2 t3 t4 s0 s1 s2 s3 s4 H1 H2 HA2 HB2
    go_upto_region 6 with fail
    generalize w4.alloc (.cells #[.int .i64 v, .slice A4 n4 c4] 25) = w5 at *
    generalize w4.heap.size = b4 at *
    generalize hR : w.heap.size + 1 + 1 = R
    have hR2 : w.heap.size + 2 = R := hR
    have HZ := hid (show Fb w5 R _ 28 from by rw [← hR2]; exact H5.out.2.2.1)
    rw [hR2] at hne3 hne4
    have hRle : w.heap.size ≤ R := by omega
    have hn0 : w.heap.size ≠ R := by omega
    have hn1 : w.heap.size + 1 ≠ R := by omega
    have HnR := hid (And.intro hn0 hn1)
    have hA0 := HA5.out.apart HZ.out zero5
    have hK0 := HK5.out.apart HZ.out zero5
    have hF5 := HF.out.cops.below H5.out.2.2.2
    have hG5 := HG.out.cops.below H5.out.2.2.2
    have hF0 := hF5.apart HZ.out zero5c
    have hG0 := hG5.apart HZ.out zero5c
    have hK : ∀ w', w5.grownBy w' (some R) → ((fun w' => w5.grownBy w' (some R) ∧ (w'.cell? ⟨b3, 0, none⟩ = some (.int .i64 v) ∧ w'.cell? ⟨b3, 1, none⟩ = some (.slice A2 n2 c2)) ∧ (w'.cell? ⟨b4, 0, none⟩ = some (.int .i64 v) ∧ w'.cell? ⟨b4, 1, none⟩ = some (.slice A4 n4 c4)) ∧ w'.cell? ⟨w.heap.size, 4, none⟩ = some (.slice C k q) ∧ w'.cell? ⟨w.heap.size + 1, 4, none⟩ = some (.slice C' k' q')) w') := fun w' hg =>
      ⟨hg, ⟨(HB5.out.grown hg (some_ne hne3)).c0, (HB5.out.grown hg (some_ne hne3)).c1⟩, ⟨(HC5.out.grown hg (some_ne hne4)).c0, (HC5.out.grown hg (some_ne hne4)).c1⟩, (H5.out.1.grown hg (some_ne hn0)).cell 4, (H5.out.2.1.grown hg (some_ne hn1)).cell 4⟩
    have HK := hid hK
    have HA0 := hid hA0; have HK0 := hid hK0; have HF0 := hid hF0; have HG0 := hid hG0; have HF5 := hid hF5; have HG5 := hid hG5
    obtain ⟨r, hr⟩ : ∃ r, cnR v (orR v gs gs') (andR v ks ks') (cs ++ cs') = r := ⟨_, rfl⟩
    obtain ⟨W9, gs9, ks9, cs9, er9⟩ := r
    have Hcn := hid hr
    have hz1 : b3 < w5.heap.size := HB5.out.lt
    have hz2 : b4 < w5.heap.size := HC5.out.lt
    have hz3 := HZ.out.lt
    have hz4 : w.heap.size < w5.heap.size := H5.out.1.lt
    have hz5 : w.heap.size + 1 < w5.heap.size := H5.out.2.1.lt
    obtain ⟨p0, p1⟩ := And.intro HB5.out.c0 HB5.out.c1
    obtain ⟨q0, q1⟩ := And.intro HC5.out.c0 HC5.out.c1
    have t4 := H5.out.1.cell 4
    have s4 := H5.out.2.1.cell 4
    have t4' : w5.cell? ⟨w.heap.size, 4, none⟩ = some (.slice C k q) := t4
    have s4' : w5.cell? ⟨w.heap.size + 1, 4, none⟩ = some (.slice C' k' q') := s4
    clear hR hR2 hn0 hn1 t4 s4 hK hA0 hK0 hF5 hG5 hF0 hG0 hr
    go_region_held3 (fun w' => w5.grownBy w' (some R) ∧ (w'.cell? ⟨b3, 0, none⟩ = some (.int .i64 v) ∧ w'.cell? ⟨b3, 1, none⟩ = some (.slice A2 n2 c2)) ∧ (w'.cell? ⟨b4, 0, none⟩ = some (.int .i64 v) ∧ w'.cell? ⟨b4, 1, none⟩ = some (.slice A4 n4 c4)) ∧ w'.cell? ⟨w.heap.size, 4, none⟩ = some (.slice C k q) ∧ w'.cell? ⟨w.heap.size + 1, 4, none⟩ = some (.slice C' k' q'))
      (first
        | (with_reducible exact HK.out _ (grown_drew _ _))
        | (with_reducible exact HK.out _ (grown_trans (grown_of_below ((Below.refl _ _).alloc (Nat.le_refl _) _) _) (grown_drew _ _)))
        | (with_reducible exact HK.out _ (grown_set5 Hcur.out _ _ _ _ _))
        | assumption)
      (first
        | (go_at_call 63
           go_must (
           go_split_ands
           refine (concat_any w5.heap.size 2 C C' k q k' q' cs cs' (w5.alloc (.cells #[.slice C k q, .slice C' k' q'] 26)).drew (show w5.heap.size < (w5.alloc _).heap.size by simp) (show (w5.alloc (.cells #[.slice C k q, .slice C' k' q'] 26)).cell? ⟨w5.heap.size, 0, none⟩ = _ from ((Fb.new w5 _ 26).cell 0).trans rfl) (show (w5.alloc (.cells #[.slice C k q, .slice C' k' q'] 26)).cell? ⟨w5.heap.size, 1, none⟩ = _ from ((Fb.new w5 _ 26).cell 1).trans rfl) (HF5.out.skip HF0.out (by assumption)) (HG5.out.skip HG0.out (by assumption)) hk4 hk4').mono ?_
           rintro e wn ⟨Cc, qc, rfl, hcc, hbk⟩
           have hbl := below_step (W := w5) (by first | exact ((Below.refl _ _).alloc (Nat.le_refl _) _).drew | exact (Below.refl _ _).drew.alloc (Nat.le_refl _) _) hbk
           have Hbl := hid hbl
           have hcur := grown_of_below hbl (some R)
           have hS := HK.out _ hcur
           have Hcur := hid hcur
           have Hcc := hid (show ArgC wn Cc (cs.length + cs'.length) (cs ++ cs') from (by rw [← List.length_append]; exact hcc))
           clear hbk hcc hbl))
        | (go_at_call 44
           go_must (
           go_split_ands
           refine (devCanonical_any v A2 A4 Cc n2 c2 n4 c4 (cs.length + cs'.length) qc (orR v gs gs') (andR v ks ks') (cs ++ cs') _ (HA5.out.skip HA0.out (by assumption)) (HK5.out.skip HK0.out (by assumption)) Hcc.out hv256 (fit_orR _ _ _) (fit_andR _ _ _) Hin.out (by have := HF.out.cops.len; have := HG.out.cops.len; omega)).mono ?_
           rintro e wn2 hcan
           have hval := hcan.val
           rw [Hcn.out] at hval
           obtain ⟨A9, n9, c9, B9, m9, d9, C9, q9, rfl, hA9, hB9, hC9, hbk⟩ := hval
           have hbl := below_step (W := w5) Hbl.out hbk
           have hcur := grown_of_below hbl (some R)
           have hS := HK.out _ hcur
           have Hcur := hid hcur
           have Hz9 := hid (HZ.out.below hbl HZ.out.lt)
           obtain ⟨r0, r1, r2, r3, r4⟩ := Hz9.out.five
           have f0 := Hz9.out.frozen 0
           have f1 := Hz9.out.frozen 1
           have f2 := Hz9.out.frozen 2
           have f3 := Hz9.out.frozen 3
           have f4 := Hz9.out.frozen 4
           have hlR := Hz9.out.lt
           have Fin := hid (RetT.stored (w := w) (err := er9) (c := c9) (d := d9) (q := q9) (W := W9) hA9 hB9 hC9 (H5.out.2.2.2.trans (hbl.mono H5.out.2.2.2.size)) hRle Hz9.out)
           unfold stored5 at Fin
           clear hbk hA9 hB9 hC9 hcan)))
    all_goals go_wp2_with fail
    all_goals refine bodyPost_ret (v := .tuple #[.agg #[.int .i64 W9, .slice A9 n9 c9, .int .i64 W9, .slice B9 m9 d9, .slice C9 cs9.length q9], .int .i64 er9]) (by simp [results, Try.results35, go_sem, r0, r1, r2, r3, r4]) rfl ?_
    all_goals rw [Hr.out, Hcn.out]
    all_goals exact Fin.out
end Go.Proofs.Ytbcnipnjlmobfaa

namespace Go.Proofs.Ytbcnipnjlmobfaa
set_option maxRecDepth 20000
open Go.ChangeShapes Go.WideShapes Go.ChangeAt Go.RowKit

/-- P3.4, as the package says it: the canonical functions are equal. -/
def sameD (W : Int) (gs : List Nat) (V : Int) (ks : List Nat) (cs : List (Int × Int)) (W' : Int) (gs' : List Nat) (V' : Int) (ks' : List Nat) (cs' : List (Int × Int)) : Bool :=
  validT W gs V ks cs && validT W' gs' V' ks' cs' &&
    equal2 (canR W gs V ks cs).1 (canR W gs V ks cs).2.1 (canR W gs V ks cs).1 (canR W gs V ks cs).2.2.1 (canR W gs V ks cs).2.2.2.1 (canR W' gs' V' ks' cs').1 (canR W' gs' V' ks' cs').2.1 (canR W' gs' V' ks' cs').1 (canR W' gs' V' ks' cs').2.2.1 (canR W' gs' V' ks' cs').2.2.2.1
theorem canR_err {W : Int} {gs : List Nat} {V : Int} {ks : List Nat} {cs : List (Int × Int)} : (canR W gs V ks cs).2.2.2.2 = if validT W gs V ks cs = false then 1 else 0 := by
  unfold canR
  by_cases h : validT W gs V ks cs = false
  · rw [if_pos h, if_pos h]
  · rw [if_neg h, if_neg h]
theorem canR_small {W : Int} {gs : List Nat} {V : Int} {ks : List Nat} {cs : List (Int × Int)} {w : World} {A B C : Option Addr} {n m k : Nat} (hF : FArg w A n B m C k gs ks cs) :
    (canR W gs V ks cs).2.1.length ≤ 100 ∧ (canR W gs V ks cs).2.2.1.length ≤ 100 ∧ (canR W gs V ks cs).2.2.2.1.length ≤ 70000 := by
  unfold canR
  by_cases h : validT W gs V ks cs = false
  · rw [if_pos h]; simp
  · rw [if_neg h]
    obtain ⟨h1, h2, h3, h4, h5⟩ := validT_iff (by simpa using h)
    subst h3
    obtain ⟨v, rfl⟩ := Int.eq_ofNat_of_zero_le (Bs.validB_iff.1 h1).1
    have hv256 : v ≤ 256 := by have := (Bs.validB_iff.1 h1).2.1; omega
    rw [Int.toNat_natCast]
    have a1 := (fit_of_valid' h1 hF.gen).len
    have a2 := (fit_killTo gs (oneR gs (folB v ks cs) v) v v).len
    have a3 := copsTo_len gs (oneR gs (folB v ks cs) v) v v
    have a4 : v * v ≤ 256 * 256 := Nat.mul_le_mul hv256 hv256
    unfold Bs.nw at a1 a2
    dsimp only
    refine ⟨by omega, by omega, by omega⟩

set_option maxHeartbeats 800000 in
theorem devSame_any (W V : Int) (A B C : Option Addr) (n c m d k q : Nat) (gs ks : List Nat) (cs : List (Int × Int)) (W' V' : Int) (A' B' C' : Option Addr) (n' c' m' d' k' q' : Nat) (gs' ks' : List Nat) (cs' : List (Int × Int)) (w : World)
    (hF : FArg w A n B m C k gs ks cs) (hG : FArg w A' n' B' m' C' k' gs' ks' cs') :
    Calls Try.prog 39 #[.agg #[.int .i64 W, .slice A n c, .int .i64 V, .slice B m d, .slice C k q], .agg #[.int .i64 W', .slice A' n' c', .int .i64 V', .slice B' m' d', .slice C' k' q']] w
      fun e w' => e = .returned (.bool (sameD W gs V ks cs W' gs' V' ks' cs')) ∧ Below w.heap.size w w' := by
  have HF := hid hF; have HG := hid hG
  have H0 := hid (TwoT.start w W V A B C n c m d k q W' V' A' B' C' n' c' m' d' k' q')
  have hsm := canR_small (W := W) (V := V) hF
  have Hsm := hid hsm
  have He1 := hid (canR_err (W := W) (gs := gs) (V := V) (ks := ks) (cs := cs))
  have He2 := hid (canR_err (W := W') (gs := gs') (V := V') (ks := ks') (cs := cs'))
  have HF0 := hid (HF.out.below H0.out.2.2)
  clear hF hG hsm
  go_enter Try.func39, Try.ntmps39
  go_wp2_with fail
  refine (devCanon_any W V A B C n c m d k q gs ks cs _ HF0.out.gen HF0.out.kill HF0.out.cops).mono ?_
  clear HF0
  obtain ⟨r, hr⟩ : ∃ r, canR W gs V ks cs = r := ⟨_, rfl⟩
  have Hr := hid hr
  rw [hr] at He1 Hsm ⊢
  obtain ⟨W1, gs1, ks1, cs1, er1⟩ := r
  obtain ⟨r', hr'⟩ : ∃ r, canR W' gs' V' ks' cs' = r := ⟨_, rfl⟩
  have Hr' := hid hr'
  rw [hr'] at He2
  obtain ⟨W2, gs2, ks2, cs2, er2⟩ := r'
  clear hr hr'
  rintro e w1 ⟨A1, n1, c1, B1, m1, d1, C1, q1, rfl, hA1, hB1, hC1, hb1⟩
  have hF1 : FArg w1 A1 n1 B1 m1 C1 cs1.length gs1 ks1 cs1 := ⟨hA1, hB1, hC1⟩
  have H1 := hid (H0.out.below hb1)
  have H2 := hid (H1.out.below ((Below.refl _ _).alloc (Nat.le_refl _) (.cells #[.int .i64 W1, .slice A1 n1 c1, .int .i64 W1, .slice B1 m1 d1, .slice C1 cs1.length q1] 28)))
  have HF2 := hid (hF1.alloc (.cells #[.int .i64 W1, .slice A1 n1 c1, .int .i64 W1, .slice B1 m1 d1, .slice C1 cs1.length q1] 28))
  have HX2 := hid (Fb.new w1 #[.int .i64 W1, .slice A1 n1 c1, .int .i64 W1, .slice B1 m1 d1, .slice C1 cs1.length q1] 28)
  clear hA1 hB1 hC1 hb1 hF1 H1
  cases hv1 : validT W gs V ks cs with
  | false =>
    have he1 : er1 = 1 := by have := He1.out; rw [if_pos hv1] at this; exact this
    subst he1
    have E := hid (show sameD W gs V ks cs W' gs' V' ks' cs' = false by unfold sameD; rw [hv1]; rfl)
    clear hv1
    go_wp2
    go_ret
    exact ⟨ret_bool E.out.symm, H2.out.2.2⟩
  | true =>
    have he1 : er1 = 0 := by have := He1.out; rw [if_neg (by rw [hv1]; simp)] at this; exact this
    subst he1
    have Hv1 := hid hv1
    clear hv1
    obtain ⟨t0, t1, t2, t3, t4⟩ := H2.out.2.1.five
    go_wp2_with fail
    generalize w1.alloc (.cells #[.int .i64 W1, .slice A1 n1 c1, .int .i64 W1, .slice B1 m1 d1, .slice C1 cs1.length q1] 28) = w2 at *
    generalize w1.heap.size = b1 at *
    have HG2 := hid (HG.out.below H2.out.2.2)
    refine (devCanon_any W' V' A' B' C' n' c' m' d' k' q' gs' ks' cs' _ HG2.out.gen HG2.out.kill HG2.out.cops).mono ?_
    rw [Hr'.out]
    rintro e w3 ⟨A2, n2, c2, B2, m2, d2, C2, q2, rfl, hA2, hB2, hC2, hb3⟩
    have hG3 : FArg w3 A2 n2 B2 m2 C2 cs2.length gs2 ks2 cs2 := ⟨hA2, hB2, hC2⟩
    have hb4 := hb3.alloc hb3.size (.cells #[.int .i64 W2, .slice A2 n2 c2, .int .i64 W2, .slice B2 m2 d2, .slice C2 cs2.length q2] 28)
    have H4 := hid (H2.out.below hb4)
    have HF4 := hid (HF2.out.below hb4)
    have HX4 := hid (HX2.out.below hb4 HX2.out.lt)
    have HG4 := hid (hG3.alloc (.cells #[.int .i64 W2, .slice A2 n2 c2, .int .i64 W2, .slice B2 m2 d2, .slice C2 cs2.length q2] 28))
    have HY4 := hid (Fb.new w3 #[.int .i64 W2, .slice A2 n2 c2, .int .i64 W2, .slice B2 m2 d2, .slice C2 cs2.length q2] 28)
    clear hA2 hB2 hC2 hb3 hG3 hb4 HG2 t0 t1 t2 t3 t4 H2 HF2 HX2
    cases hv2 : validT W' gs' V' ks' cs' with
    | false =>
      have he2 : er2 = 1 := by have := He2.out; rw [if_pos hv2] at this; exact this
      subst he2
      have E := hid (show sameD W gs V ks cs W' gs' V' ks' cs' = false by unfold sameD; rw [hv2]; simp)
      clear hv2
      go_wp2
      go_ret
      exact ⟨ret_bool E.out.symm, H4.out.2.2⟩
    | true =>
      have he2 : er2 = 0 := by have := He2.out; rw [if_neg (by rw [hv2]; simp)] at this; exact this
      subst he2
      have E := hid (show sameD W gs V ks cs W' gs' V' ks' cs' = equal2 W1 gs1 W1 ks1 cs1 W2 gs2 W2 ks2 cs2 by unfold sameD; rw [hv2, Hv1.out, Hr.out, Hr'.out]; rfl)
      clear hv2
      obtain ⟨x0, x1, x2, x3, x4⟩ := HX4.out.five
      obtain ⟨y0, y1, y2, y3, y4⟩ := HY4.out.five
      go_wp2_with fail
      refine (devEqual2_any W1 W1 A1 B1 C1 n1 c1 m1 d1 cs1.length q1 gs1 ks1 cs1 W2 W2 A2 B2 C2 n2 c2 m2 d2 cs2.length q2 gs2 ks2 cs2 _ HF4.out HG4.out (by have := HF4.out.gen.len; have := Hsm.out.1; unfold maxLen; omega) (by have := HF4.out.kill.len; have := Hsm.out.2.1; unfold maxLen; omega) (by have := Hsm.out.2.2; omega)).mono ?_
      generalize equal2 W1 gs1 W1 ks1 cs1 W2 gs2 W2 ks2 cs2 = res at E ⊢
      rintro e w5 ⟨rfl, hb5⟩
      have H5 := hid (H4.out.below hb5)
      clear hb5 x0 x1 x2 x3 x4 y0 y1 y2 y3 y4
      go_wp2
      go_ret
      exact ⟨ret_bool E.out.symm, H5.out.2.2⟩

/-- P3.4, as the package says it: the join is the second function. -/
def belowD (W : Int) (gs : List Nat) (V : Int) (ks : List Nat) (cs : List (Int × Int)) (W' : Int) (gs' : List Nat) (V' : Int) (ks' : List Nat) (cs' : List (Int × Int)) : Bool :=
  decide ((joinR W gs V ks cs W' gs' V' ks' cs').2.2.2.2 = 0) &&
    sameD (joinR W gs V ks cs W' gs' V' ks' cs').1 (joinR W gs V ks cs W' gs' V' ks' cs').2.1 (joinR W gs V ks cs W' gs' V' ks' cs').1 (joinR W gs V ks cs W' gs' V' ks' cs').2.2.1 (joinR W gs V ks cs W' gs' V' ks' cs').2.2.2.1 W' gs' V' ks' cs'

set_option maxHeartbeats 800000 in
theorem devBelow_any (W V : Int) (A B C : Option Addr) (n c m d k q : Nat) (gs ks : List Nat) (cs : List (Int × Int)) (W' V' : Int) (A' B' C' : Option Addr) (n' c' m' d' k' q' : Nat) (gs' ks' : List Nat) (cs' : List (Int × Int)) (w : World)
    (hF : FArg w A n B m C k gs ks cs) (hG : FArg w A' n' B' m' C' k' gs' ks' cs') :
    Calls Try.prog 41 #[.agg #[.int .i64 W, .slice A n c, .int .i64 V, .slice B m d, .slice C k q], .agg #[.int .i64 W', .slice A' n' c', .int .i64 V', .slice B' m' d', .slice C' k' q']] w
      fun e w' => e = .returned (.bool (belowD W gs V ks cs W' gs' V' ks' cs')) ∧ Below w.heap.size w w' := by
  have HF := hid hF; have HG := hid hG
  have H0 := hid (TwoT.start w W V A B C n c m d k q W' V' A' B' C' n' c' m' d' k' q')
  clear hF hG
  go_enter Try.func41, Try.ntmps41
  go_wp2_with fail
  refine (devJoin_any W V A B C n c m d k q gs ks cs W' V' A' B' C' n' c' m' d' k' q' gs' ks' cs' _ (HF.out.below H0.out.2.2) (HG.out.below H0.out.2.2)).mono ?_
  obtain ⟨r, hr⟩ : ∃ r, joinR W gs V ks cs W' gs' V' ks' cs' = r := ⟨_, rfl⟩
  have Hr := hid hr
  rw [hr]
  obtain ⟨W1, gs1, ks1, cs1, er1⟩ := r
  clear hr
  rintro e w1 ⟨A1, n1, c1, B1, m1, d1, C1, q1, rfl, hA1, hB1, hC1, hb1⟩
  have hF1 : FArg w1 A1 n1 B1 m1 C1 cs1.length gs1 ks1 cs1 := ⟨hA1, hB1, hC1⟩
  have H1 := hid (H0.out.below hb1)
  have H2 := hid (H1.out.below ((Below.refl _ _).alloc (Nat.le_refl _) (.cells #[.int .i64 W1, .slice A1 n1 c1, .int .i64 W1, .slice B1 m1 d1, .slice C1 cs1.length q1] 28)))
  have HF2 := hid (hF1.alloc (.cells #[.int .i64 W1, .slice A1 n1 c1, .int .i64 W1, .slice B1 m1 d1, .slice C1 cs1.length q1] 28))
  have HX2 := hid (Fb.new w1 #[.int .i64 W1, .slice A1 n1 c1, .int .i64 W1, .slice B1 m1 d1, .slice C1 cs1.length q1] 28)
  clear hA1 hB1 hC1 hb1 hF1 H1
  by_cases he : er1 = 0
  · have tt : (er1 == 0) = true := by simp [he]
    have E := hid (show belowD W gs V ks cs W' gs' V' ks' cs' = sameD W1 gs1 W1 ks1 cs1 W' gs' V' ks' cs' by unfold belowD; rw [Hr.out]; simp [he])
    clear he
    obtain ⟨t0, t1, t2, t3, t4⟩ := H2.out.2.1.five
    obtain ⟨x0, x1, x2, x3, x4⟩ := HX2.out.five
    go_wp2_with fail
    generalize w1.alloc (.cells #[.int .i64 W1, .slice A1 n1 c1, .int .i64 W1, .slice B1 m1 d1, .slice C1 cs1.length q1] 28) = w2 at *
    refine (devSame_any W1 W1 A1 B1 C1 n1 c1 m1 d1 cs1.length q1 gs1 ks1 cs1 W' V' A' B' C' n' c' m' d' k' q' gs' ks' cs' _ HF2.out (HG.out.below H2.out.2.2)).mono ?_
    generalize sameD W1 gs1 W1 ks1 cs1 W' gs' V' ks' cs' = res at E ⊢
    rintro e w3 ⟨rfl, hb3⟩
    have H3 := hid (H2.out.below hb3)
    clear hb3 t0 t1 t2 t3 t4 x0 x1 x2 x3 x4
    go_wp2
    go_ret
    exact ⟨ret_bool E.out.symm, H3.out.2.2⟩
  · have tt : (er1 == 0) = false := by simp [he]
    have E := hid (show belowD W gs V ks cs W' gs' V' ks' cs' = false by unfold belowD; rw [Hr.out]; simp [he])
    clear he
    go_wp2
    go_ret
    exact ⟨ret_bool E.out.symm, H2.out.2.2⟩
end Go.Proofs.Ytbcnipnjlmobfaa

namespace Go.Proofs.Ytbcnipnjlmobfaa
set_option maxRecDepth 20000
open Go.ChangeShapes Go.WideShapes Go.ChangeAt Go.RowKit

set_option maxHeartbeats 1600000 in
theorem devFollowsT_any (W V : Int) (A B C : Option Addr) (n c m d k q : Nat) (gs ks : List Nat) (cs : List (Int × Int)) (a b : Int) (w : World) (hA : Arg w A n gs) (hB : Arg w B m ks) (hC : ArgC w C k cs) :
    Calls Try.prog 28 #[.agg #[.int .i64 W, .slice A n c, .int .i64 V, .slice B m d, .slice C k q], .int .i64 a, .int .i64 b] w fun e w' => e = .returned (.bool (followsB W gs V ks cs a b)) ∧ Below w.heap.size w w' := by
  have HA := hid hA; have HB := hid hB; have HC := hid hC
  have HT := hid (Fb.new w #[.int .i64 W, .slice A n c, .int .i64 V, .slice B m d, .slice C k q] 28)
  have H1 := hid ((Below.refl w.heap.size w).alloc (Nat.le_refl _) (.cells #[.int .i64 W, .slice A n c, .int .i64 V, .slice B m d, .slice C k q] 28))
  clear hA hB hC
  cases hv : validT W gs V ks cs with
  | false =>
    have Hr := hid (show followsB W gs V ks cs a b = false by unfold followsB; rw [hv]; rfl)
    go_enter Try.func28, Try.ntmps28
    go_wp2_with fail
    refine (devValidT_any W V A B C n c m d k q gs ks cs _ (HA.out.below H1.out) (HB.out.below H1.out) (HC.out.below H1.out)).mono ?_
    rw [hv]
    rintro e w1 ⟨rfl, hb1⟩
    have Hb1 := hid (H1.out.trans (hb1.mono (by simp)))
    clear hb1 hv
    go_wp2
    go_ret
    exact ⟨ret_bool Hr.out.symm, Hb1.out⟩
  | true =>
    obtain ⟨h1, h2, h3, h4, h5⟩ := validT_iff hv
    have hk64 : k ≤ 64 := by rw [HC.out.len] at h4; exact h4
    have Hr := hid (show followsB W gs V ks cs a b = (decide (0 ≤ a) && decide (a < W) && decide (0 ≤ b) && decide (b < W) && folB V ks cs a b) by unfold followsB; rw [hv]; rfl)
    clear h1 h2 h3 h4 h5
    go_enter Try.func28, Try.ntmps28
    go_wp2_with fail
    refine (devValidT_any W V A B C n c m d k q gs ks cs _ (HA.out.below H1.out) (HB.out.below H1.out) (HC.out.below H1.out)).mono ?_
    rw [hv]
    rintro e w1 ⟨rfl, hb1⟩
    have HF := hid (HT.out.below hb1 (by simp))
    have Hb1 := hid (H1.out.trans (hb1.mono (by simp)))
    clear hb1 hv
    obtain ⟨t0, t1, t2, t3, t4⟩ := HF.out.five
    go_wp2_with fail
    refine (tin_any W V A B C n c m d k q a _).mono ?_
    cases hi : inB W a with
    | false =>
      have E := hid (show followsB W gs V ks cs a b = false by
        rw [Hr.out]; unfold inB at hi; rw [hi]; rfl)
      rintro e w2 ⟨rfl, hb2⟩
      have Hb2 := hid (Hb1.out.trans (hb2.mono Hb1.out.size))
      clear hb2 hi t0 t1 t2 t3 t4
      go_wp2
      go_ret
      exact ⟨ret_bool E.out.symm, Hb2.out⟩
    | true =>
      rintro e w2 ⟨rfl, hb2⟩
      have HF2 := hid (HF.out.below hb2 HF.out.lt)
      have Hb2 := hid (Hb1.out.trans (hb2.mono Hb1.out.size))
      clear hb2 t0 t1 t2 t3 t4
      obtain ⟨t0, t1, t2, t3, t4⟩ := HF2.out.five
      go_wp2_with fail
      refine (tin_any W V A B C n c m d k q b _).mono ?_
      cases hj : inB W b with
      | false =>
        have E := hid (show followsB W gs V ks cs a b = false by
          rw [Hr.out]; unfold inB at hj; rw [Bool.and_assoc (decide (0 ≤ a) && decide (a < W)), hj]; simp)
        rintro e w3 ⟨rfl, hb3⟩
        have Hb3 := hid (Hb2.out.trans (hb3.mono Hb2.out.size))
        clear hb3 hi hj t0 t1 t2 t3 t4
        go_wp2
        go_ret
        exact ⟨ret_bool E.out.symm, Hb3.out⟩
      | true =>
        have Hr2 := hid (show followsB W gs V ks cs a b = folB V ks cs a b by
          rw [Hr.out]; unfold inB at hi hj; rw [Bool.and_assoc (decide (0 ≤ a) && decide (a < W)), hi, hj]; rfl)
        rintro e w3 ⟨rfl, hb3⟩
        have HF3 := hid (HF2.out.below hb3 HF2.out.lt)
        have Hb3 := hid (Hb2.out.trans (hb3.mono Hb2.out.size))
        clear hb3 hi hj t0 t1 t2 t3 t4
        obtain ⟨t0, t1, t2, t3, t4⟩ := HF3.out.five
        by_cases hab : a = b
        · subst hab
          have tt : (a == a) = true := by simp
          go_wp2_with fail
          refine (devHas_any V B m d ks a _ (HB.out.below Hb3.out)).mono ?_
          generalize hh : Bs.hasB V ks a = r
          rintro e w4 ⟨rfl, hb4⟩
          have HF4 := hid (HF3.out.below hb4 HF3.out.lt)
          have Hb4 := hid (Hb3.out.trans (hb4.mono Hb3.out.size))
          clear hb4 t0 t1 t2 t3 t4
          cases r with
          | false =>
            have Hres := hid (show folB V ks cs a a = true by unfold folB; simp [hh])
            clear hh tt
            go_wp2
            go_ret
            exact ⟨ret_bool (by rw [Hr2.out, Hres.out]), Hb4.out⟩
          | true =>
            have Hres := hid (show folB V ks cs a a = decide ((a, a) ∈ cs) by unfold folB; simp [hh])
            clear hh
            obtain ⟨t0, t1, t2, t3, t4⟩ := HF4.out.five
            go_wp2_with fail
            clear t0 t1 t2 t3 t4 tt
            go_loopw [8, 37] (fun _ i wr => ∃ j : Nat, j ≤ k ∧ i = .int .i64 j ∧ Hid (∀ x, x < j → cs[x]? ≠ some (a, a)) ∧ Hid (Below w.heap.size w wr)) (fun _ i _ => k - (intOf i).toNat)
            case atStart => exact ⟨0, by omega, rfl, fun x h => by omega, Hb4.out⟩
            case round =>
              obtain ⟨j, hj, rfl, hb, hI⟩ := hrel
              by_cases hlt : j < k
              · have hget : cs[j]? = some (cs[j]'(by rw [HC.out.len]; exact hlt)) := List.getElem?_eq_getElem _
                generalize (cs[j]'(by rw [HC.out.len]; exact hlt)) = p at hget
                obtain ⟨p1, p2⟩ := p
                obtain ⟨ad, rfl, had, g1, g2⟩ := (HC.out.below hI.out).cell hget
                have Hget := hid hget
                clear hget
                have one : ∀ x, x < j + 1 → ¬(p1 = a ∧ p2 = a) → cs[x]? ≠ some (a, a) := by
                  intro x hx hne he
                  by_cases e : x = j
                  · rw [e, Hget.out] at he; simp only [Option.some.injEq, Prod.mk.injEq] at he; exact hne he
                  · exact hb.out x (by omega) he
                have One := hid one
                clear one
                have Hb5 := fun (x y : Int) => hid (hI.out.alloc hI.out.size (.cells #[.int .i64 x, .int .i64 y] 51))
                by_cases e1 : p1 = a
                · have u1 : (p1 == a) = true := by simp [e1]
                  by_cases e2 : p2 = a
                  · have u2 : (p2 == a) = true := by simp [e2]
                    have E := hid (show (a, a) ∈ cs by have q := List.mem_of_getElem? Hget.out; rw [e1, e2] at q; exact q)
                    clear e1 e2
                    go_wp2
                    go_ret
                    exact ⟨ret_bool (by rw [Hr2.out, Hres.out]; simp [E.out]), (Hb5 _ _).out⟩
                  · have u2 : (p2 == a) = false := by simp [e2]
                    have E := hid (show ¬(p1 = a ∧ p2 = a) by simp [e2])
                    clear e1 e2
                    go_wp2
                    go_roundw
                    case rel => exact ⟨j + 1, by omega, by go_num, fun x hx => One.out x hx E.out, (Hb5 _ _).out⟩
                    case measure => simp [intOf]; omega
                · have u1 : (p1 == a) = false := by simp [e1]
                  have E := hid (show ¬(p1 = a ∧ p2 = a) by simp [e1])
                  clear e1
                  go_wp2
                  go_roundw
                  case rel => exact ⟨j + 1, by omega, by go_num, fun x hx => One.out x hx E.out, (Hb5 _ _).out⟩
                  case measure => simp [intOf]; omega
              · have HI := hid hI.out
                go_wp2
                go_ret
                refine ⟨ret_bool ?_, HI.out⟩
                have : (a, a) ∉ cs := by
                  intro h
                  obtain ⟨x, hx, e⟩ := List.getElem_of_mem h
                  have := HC.out.len
                  exact hb.out x (by omega) (by rw [List.getElem?_eq_getElem hx, e])
                rw [Hr2.out, Hres.out]; simp [this]
        · have tt : (a == b) = false := by simp [hab]
          have Hres := hid (show folB V ks cs a b = decide ((a, b) ∈ cs) by unfold folB; simp [hab])
          clear hab
          go_wp2_with fail
          clear t0 t1 t2 t3 t4 tt
          go_loopw [8, 37] (fun _ i wr => ∃ j : Nat, j ≤ k ∧ i = .int .i64 j ∧ Hid (∀ x, x < j → cs[x]? ≠ some (a, b)) ∧ Hid (Below w.heap.size w wr)) (fun _ i _ => k - (intOf i).toNat)
          case atStart => exact ⟨0, by omega, rfl, fun x h => by omega, Hb3.out⟩
          case round =>
            obtain ⟨j, hj, rfl, hb, hI⟩ := hrel
            by_cases hlt : j < k
            · have hget : cs[j]? = some (cs[j]'(by rw [HC.out.len]; exact hlt)) := List.getElem?_eq_getElem _
              generalize (cs[j]'(by rw [HC.out.len]; exact hlt)) = p at hget
              obtain ⟨p1, p2⟩ := p
              obtain ⟨ad, rfl, had, g1, g2⟩ := (HC.out.below hI.out).cell hget
              have Hget := hid hget
              clear hget
              have one : ∀ x, x < j + 1 → ¬(p1 = a ∧ p2 = b) → cs[x]? ≠ some (a, b) := by
                intro x hx hne he
                by_cases e : x = j
                · rw [e, Hget.out] at he; simp only [Option.some.injEq, Prod.mk.injEq] at he; exact hne he
                · exact hb.out x (by omega) he
              have One := hid one
              clear one
              have Hb5 := fun (x y : Int) => hid (hI.out.alloc hI.out.size (.cells #[.int .i64 x, .int .i64 y] 51))
              by_cases e1 : p1 = a
              · have u1 : (p1 == a) = true := by simp [e1]
                by_cases e2 : p2 = b
                · have u2 : (p2 == b) = true := by simp [e2]
                  have E := hid (show (a, b) ∈ cs by have q := List.mem_of_getElem? Hget.out; rw [e1, e2] at q; exact q)
                  clear e1 e2
                  go_wp2
                  go_ret
                  exact ⟨ret_bool (by rw [Hr2.out, Hres.out]; simp [E.out]), (Hb5 _ _).out⟩
                · have u2 : (p2 == b) = false := by simp [e2]
                  have E := hid (show ¬(p1 = a ∧ p2 = b) by simp [e2])
                  clear e1 e2
                  go_wp2
                  go_roundw
                  case rel => exact ⟨j + 1, by omega, by go_num, fun x hx => One.out x hx E.out, (Hb5 _ _).out⟩
                  case measure => simp [intOf]; omega
              · have u1 : (p1 == a) = false := by simp [e1]
                have E := hid (show ¬(p1 = a ∧ p2 = b) by simp [e1])
                clear e1
                go_wp2
                go_roundw
                case rel => exact ⟨j + 1, by omega, by go_num, fun x hx => One.out x hx E.out, (Hb5 _ _).out⟩
                case measure => simp [intOf]; omega
            · have HI := hid hI.out
              go_wp2
              go_ret
              refine ⟨ret_bool ?_, HI.out⟩
              have : (a, b) ∉ cs := by
                intro h
                obtain ⟨x, hx, e⟩ := List.getElem_of_mem h
                have := HC.out.len
                exact hb.out x (by omega) (by rw [List.getElem?_eq_getElem hx, e])
              rw [Hr2.out, Hres.out]; simp [this]
end Go.Proofs.Ytbcnipnjlmobfaa

namespace Go.Proofs.Ytbcnipnjlmobfaa
set_option maxRecDepth 20000
set_option linter.unusedVariables false
open Go.ChangeShapes Go.WideShapes Go.ChangeAt Go.RowKit

theorem applyR_small (W : Int) (gs : List Nat) (V : Int) (ks : List Nat) (cs : List (Int × Int)) (X : Int) (ss : List Nat) : (applyR W gs V ks cs X ss).2.1.length ≤ 100 := by
  unfold applyR
  split
  · simp
  · next h =>
    split
    · simp
    · have hv : validT W gs V ks cs = true := by
        cases e : validT W gs V ks cs with
        | true => rfl
        | false => exact absurd (.inl e) h
      have h1 := (Bs.validB_iff.1 (validT_iff hv).1).2.1
      show (valR gs ss (folB W ks cs) W.toNat).length ≤ 100
      rw [(fit_valR gs ss (folB W ks cs) W.toNat).len]
      unfold Bs.nw
      omega
theorem sameB_self (W : Int) (a : List Nat) : sameB W a W a = true := by simp [sameB]
theorem equalsT_self (W V : Int) (gs ks : List Nat) (cs : List (Int × Int)) : equalsT W gs V ks cs W gs V ks cs = true := by simp [equalsT, sameB]

set_option maxHeartbeats 3200000 in
theorem reads_any (W V X a b : Int) (A B C D : Option Addr) (n c m d k q x y : Nat) (gs ks ss : List Nat) (cs : List (Int × Int)) (w : World) (hF : FArg w A n B m C k gs ks cs) (hD : Arg w D x ss) :
    Calls Try.prog 9 #[.agg #[.int .i64 W, .slice A n c, .int .i64 V, .slice B m d, .slice C k q], .agg #[.int .i64 X, .slice D x y], .int .i64 a, .int .i64 b] w
      fun e w' => e = .returned (.bool true) ∧ Below w.heap.size w w' := by
  have hb0 := ((Below.refl w.heap.size w).alloc (Nat.le_refl _) (.cells #[.int .i64 W, .slice A n c, .int .i64 V, .slice B m d, .slice C k q] 28)).alloc (by simp) (.cells #[.int .i64 X, .slice D x y] 25)
  have F0 := hid ((Fb.new w #[.int .i64 W, .slice A n c, .int .i64 V, .slice B m d, .slice C k q] 28).alloc (.cells #[.int .i64 X, .slice D x y] 25))
  have S0 := hid (show Fb _ (w.heap.size + 1) #[.int .i64 X, .slice D x y] 25 from by
    have := Fb.new (w.alloc (.cells #[.int .i64 W, .slice A n c, .int .i64 V, .slice B m d, .slice C k q] 28)) #[.int .i64 X, .slice D x y] 25
    rw [World.size_alloc] at this; exact this)
  have HF := hid hF; have HD := hid hD; have HB0 := hid hb0
  have Hs1 := hid (applyR_small W gs V ks cs X ss)
  have Hs2 := hid (canR_small (W := W) (V := V) hF)
  clear hF hD hb0
  obtain ⟨r, hr⟩ : ∃ r, applyR W gs V ks cs X ss = r := ⟨_, rfl⟩
  have Hr := hid hr
  rw [hr] at Hs1
  obtain ⟨t, ht⟩ : ∃ r, canR W gs V ks cs = r := ⟨_, rfl⟩
  have Ht := hid ht
  rw [ht] at Hs2
  obtain ⟨r1, r2, r3⟩ := r
  obtain ⟨W1, gs1, ks1, cs1, er1⟩ := t
  clear hr ht
  go_enter Try.func9, Try.ntmps9
  go_wp2_with fail
  generalize (w.alloc (.cells #[.int .i64 W, .slice A n c, .int .i64 V, .slice B m d, .slice C k q] 28)).alloc (.cells #[.int .i64 X, .slice D x y] 25) = w2 at *
  generalize hg0 : w.heap.size = g0 at *
  have Hg0 := hid hg0
  clear hg0
  obtain ⟨f0, f1, f2, f3, f4⟩ := F0.out.five
  obtain ⟨s0, s1⟩ := S0.out.two
  have HFa := hid (HF.out.below (by rw [Hg0.out]; exact HB0.out))
  have HDa := hid (HD.out.below (by rw [Hg0.out]; exact HB0.out))
  refine (devApply_any W V X A B C D n c m d k q x y gs ks ss cs _ HFa.out.gen HFa.out.kill HFa.out.cops HDa.out).mono ?_
  rw [Hr.out]
  rintro e w3 ⟨A1, n1, c1, rfl, ha1, hb1⟩
  have HB1 := hid (Below.mono (hb1.alloc hb1.size (.cells #[.int .i64 r1, .slice A1 n1 c1] 25)) (Nat.le_refl _))
  have HA1 := hid (Arg.alloc ha1 (.cells #[.int .i64 r1, .slice A1 n1 c1] 25))
  have X1 := hid (Fb.new w3 #[.int .i64 r1, .slice A1 n1 c1] 25)
  have F1 := hid (F0.out.below HB1.out F0.out.lt)
  have S1 := hid (S0.out.below HB1.out S0.out.lt)
  have HFb := hid (HFa.out.below HB1.out)
  have HDb := hid (HDa.out.below HB1.out)
  have HBw := hid (below_step (by rw [Hg0.out]; exact HB0.out) HB1.out)
  clear ha1 hb1 f0 f1 f2 f3 f4 s0 s1 F0 S0 HFa HDa HB0 HB1
  obtain ⟨f0, f1, f2, f3, f4⟩ := F1.out.five
  obtain ⟨s0, s1⟩ := S1.out.two
  go_wp2_with fail
  generalize w3.alloc (.cells #[.int .i64 r1, .slice A1 n1 c1] 25) = w4 at *
  generalize w3.heap.size = b1 at *
  refine (refApply_any W V X A B C D n c m d k q x y gs ks ss cs _ HFb.out.gen HFb.out.kill HFb.out.cops HDb.out).mono ?_
  rw [Hr.out]
  rintro e w5 ⟨A2, n2, c2, rfl, ha2, hb2⟩
  have HB2 := hid (Below.mono (hb2.alloc hb2.size (.cells #[.int .i64 r1, .slice A2 n2 c2] 25)) (Nat.le_refl _))
  have HA2 := hid (Arg.alloc ha2 (.cells #[.int .i64 r1, .slice A2 n2 c2] 25))
  have X2 := hid (Fb.new w5 #[.int .i64 r1, .slice A2 n2 c2] 25)
  have HA1b := hid (HA1.out.below HB2.out)
  have X1b := hid (X1.out.below HB2.out X1.out.lt)
  have F2 := hid (F1.out.below HB2.out F1.out.lt)
  have HFc := hid (HFb.out.below HB2.out)
  have HBx := hid (below_step HBw.out HB2.out)
  clear ha2 hb2 f0 f1 f2 f3 f4 s0 s1 F1 S1 HFb HDb HBw HB2 HA1 X1
  obtain ⟨f0, f1, f2, f3, f4⟩ := F2.out.five
  go_wp2_with fail
  generalize w5.alloc (.cells #[.int .i64 r1, .slice A2 n2 c2] 25) = w6 at *
  generalize w5.heap.size = b2 at *
  refine (devCanon_any W V A B C n c m d k q gs ks cs _ HFc.out.gen HFc.out.kill HFc.out.cops).mono ?_
  rw [Ht.out]
  rintro e w7 ⟨A3, n3, c3, B3, m3, d3, C3, q3, rfl, ha3, hk3, hc3, hb3⟩
  have HB3 := hid (Below.mono (hb3.alloc hb3.size (.cells #[.int .i64 W1, .slice A3 n3 c3, .int .i64 W1, .slice B3 m3 d3, .slice C3 cs1.length q3] 28)) (Nat.le_refl _))
  have HC3 := hid (FArg.alloc (⟨ha3, hk3, hc3⟩ : FArg w7 A3 n3 B3 m3 C3 cs1.length gs1 ks1 cs1) (.cells #[.int .i64 W1, .slice A3 n3 c3, .int .i64 W1, .slice B3 m3 d3, .slice C3 cs1.length q3] 28))
  have X3 := hid (Fb.new w7 #[.int .i64 W1, .slice A3 n3 c3, .int .i64 W1, .slice B3 m3 d3, .slice C3 cs1.length q3] 28)
  have HA1c := hid (HA1b.out.below HB3.out)
  have X1c := hid (X1b.out.below HB3.out X1b.out.lt)
  have HA2c := hid (HA2.out.below HB3.out)
  have X2c := hid (X2.out.below HB3.out X2.out.lt)
  have F3 := hid (F2.out.below HB3.out F2.out.lt)
  have HFd := hid (HFc.out.below HB3.out)
  have HBy := hid (below_step HBx.out HB3.out)
  clear ha3 hk3 hc3 hb3 f0 f1 f2 f3 f4 F2 HFc HBx HB3 HA1b X1b HA2 X2
  obtain ⟨f0, f1, f2, f3, f4⟩ := F3.out.five
  go_wp2_with fail
  generalize w7.alloc (.cells #[.int .i64 W1, .slice A3 n3 c3, .int .i64 W1, .slice B3 m3 d3, .slice C3 cs1.length q3] 28) = w8 at *
  generalize w7.heap.size = b3 at *
  refine (refCanon_any W V A B C n c m d k q gs ks cs _ HFd.out.gen HFd.out.kill HFd.out.cops).mono ?_
  rw [Ht.out]
  rintro e w9 ⟨A4, n4, c4, B4, m4, d4, C4, q4, rfl, ha4, hk4, hc4, hb4⟩
  have HB4 := hid (Below.mono (hb4.alloc hb4.size (.cells #[.int .i64 W1, .slice A4 n4 c4, .int .i64 W1, .slice B4 m4 d4, .slice C4 cs1.length q4] 28)) (Nat.le_refl _))
  have HC4 := hid (FArg.alloc (⟨ha4, hk4, hc4⟩ : FArg w9 A4 n4 B4 m4 C4 cs1.length gs1 ks1 cs1) (.cells #[.int .i64 W1, .slice A4 n4 c4, .int .i64 W1, .slice B4 m4 d4, .slice C4 cs1.length q4] 28))
  have X4 := hid (Fb.new w9 #[.int .i64 W1, .slice A4 n4 c4, .int .i64 W1, .slice B4 m4 d4, .slice C4 cs1.length q4] 28)
  have HA1d := hid (HA1c.out.below HB4.out)
  have X1d := hid (X1c.out.below HB4.out X1c.out.lt)
  have HA2d := hid (HA2c.out.below HB4.out)
  have X2d := hid (X2c.out.below HB4.out X2c.out.lt)
  have HC3d := hid (HC3.out.below HB4.out)
  have X3d := hid (X3.out.below HB4.out X3.out.lt)
  have F4 := hid (F3.out.below HB4.out F3.out.lt)
  have HFe := hid (HFd.out.below HB4.out)
  have HBz := hid (below_step HBy.out HB4.out)
  clear ha4 hk4 hc4 hb4 f0 f1 f2 f3 f4 F3 HFd HBy HB4 HA1c X1c HA2c X2c HC3 X3
  go_wp2_with fail
  generalize w9.alloc (.cells #[.int .i64 W1, .slice A4 n4 c4, .int .i64 W1, .slice B4 m4 d4, .slice C4 cs1.length q4] 28) = wn at *
  generalize w9.heap.size = b4 at *
  obtain ⟨v, hv⟩ : ∃ v, validT W gs V ks cs = v := ⟨_, rfl⟩
  obtain ⟨u, hu⟩ : ∃ u, followsB W gs V ks cs a b = u := ⟨_, rfl⟩
  have Hv := hid hv; have Hu := hid hu
  clear hv hu
  have tv : (v == v) = true := by simp
  have tu : (u == u) = true := by simp
  have t3 : (r3 == r3) = true := by simp
  have te : (er1 == er1) = true := by simp
  obtain ⟨f0, f1, f2, f3, f4⟩ := F4.out.five
  obtain ⟨x0, x1⟩ := X1d.out.two
  obtain ⟨y0, y1⟩ := X2d.out.two
  obtain ⟨z0, z1, z2, z3, z4⟩ := X3d.out.five
  obtain ⟨k0, k1, k2, k3, k4⟩ := X4.out.five
  have lf0 := Later.cell (show (⟨g0, 0, none⟩ : Addr).block < wn.heap.size from F4.out.lt) f0
  have lf1 := Later.cell (show (⟨g0, 1, none⟩ : Addr).block < wn.heap.size from F4.out.lt) f1
  have lf2 := Later.cell (show (⟨g0, 2, none⟩ : Addr).block < wn.heap.size from F4.out.lt) f2
  have lf3 := Later.cell (show (⟨g0, 3, none⟩ : Addr).block < wn.heap.size from F4.out.lt) f3
  have lf4 := Later.cell (show (⟨g0, 4, none⟩ : Addr).block < wn.heap.size from F4.out.lt) f4
  have lx0 := Later.cell (show (⟨b1, 0, none⟩ : Addr).block < wn.heap.size from X1d.out.lt) x0
  have lx1 := Later.cell (show (⟨b1, 1, none⟩ : Addr).block < wn.heap.size from X1d.out.lt) x1
  have ly0 := Later.cell (show (⟨b2, 0, none⟩ : Addr).block < wn.heap.size from X2d.out.lt) y0
  have ly1 := Later.cell (show (⟨b2, 1, none⟩ : Addr).block < wn.heap.size from X2d.out.lt) y1
  have lz0 := Later.cell (show (⟨b3, 0, none⟩ : Addr).block < wn.heap.size from X3d.out.lt) z0
  have lz1 := Later.cell (show (⟨b3, 1, none⟩ : Addr).block < wn.heap.size from X3d.out.lt) z1
  have lz2 := Later.cell (show (⟨b3, 2, none⟩ : Addr).block < wn.heap.size from X3d.out.lt) z2
  have lz3 := Later.cell (show (⟨b3, 3, none⟩ : Addr).block < wn.heap.size from X3d.out.lt) z3
  have lz4 := Later.cell (show (⟨b3, 4, none⟩ : Addr).block < wn.heap.size from X3d.out.lt) z4
  have lk0 := Later.cell (show (⟨b4, 0, none⟩ : Addr).block < wn.heap.size from X4.out.lt) k0
  have lk1 := Later.cell (show (⟨b4, 1, none⟩ : Addr).block < wn.heap.size from X4.out.lt) k1
  have lk2 := Later.cell (show (⟨b4, 2, none⟩ : Addr).block < wn.heap.size from X4.out.lt) k2
  have lk3 := Later.cell (show (⟨b4, 3, none⟩ : Addr).block < wn.heap.size from X4.out.lt) k3
  have lk4 := Later.cell (show (⟨b4, 4, none⟩ : Addr).block < wn.heap.size from X4.out.lt) k4
  clear f0 f1 f2 f3 f4 x0 x1 y0 y1 z0 z1 z2 z3 z4 k0 k1 k2 k3 k4
  refine wp_region_below (by kernel_rfl) (by kernel_rfl) ?_
  repeat (go_big_quiet_step ((first
      | (go_at_call 26; exact Later.call (by have h := devValidT_any W V A B C n c m d k q gs ks cs _ (HFe.out.below ‹Later wn›.keeps).gen (HFe.out.below ‹Later wn›.keeps).kill (HFe.out.below ‹Later wn›.keeps).cops; rw [Hv.out] at h; exact h))
      | (go_at_call 27; exact Later.call (by have h := refValidT_any W V A B C n c m d k q gs ks cs _ (HFe.out.below ‹Later wn›.keeps).gen (HFe.out.below ‹Later wn›.keeps).kill (HFe.out.below ‹Later wn›.keeps).cops; rw [Hv.out] at h; exact h))
      | (go_at_call 28; exact Later.call (by have h := devFollowsT_any W V A B C n c m d k q gs ks cs a b _ (HFe.out.below ‹Later wn›.keeps).gen (HFe.out.below ‹Later wn›.keeps).kill (HFe.out.below ‹Later wn›.keeps).cops; rw [Hu.out] at h; exact h))
      | (go_at_call 29; exact Later.call (by have h := refFollowsT_any W V A B C n c m d k q gs ks cs a b _ (HFe.out.below ‹Later wn›.keeps).gen (HFe.out.below ‹Later wn›.keeps).kill (HFe.out.below ‹Later wn›.keeps).cops; rw [Hu.out] at h; exact h))
      | (go_at_call 30; exact Later.call (by have h := refSame_any r1 r1 A1 A2 n1 c1 n2 c2 r2 r2 _ (HA1d.out.below ‹Later wn›.keeps) (HA2d.out.below ‹Later wn›.keeps) (by have h1 := HA1d.out.len; have h2 : r2.length ≤ 100 := Hs1.out; unfold maxLen; omega); rw [sameB_self] at h; exact h))
      | (go_at_call 20; exact Later.call (by have h := refEquals_any W1 W1 A3 B3 C3 n3 c3 m3 d3 cs1.length q3 W1 W1 A4 B4 C4 n4 c4 m4 d4 cs1.length q4 gs1 ks1 gs1 ks1 cs1 cs1 _ (HC3d.out.below ‹Later wn›.keeps).gen (HC3d.out.below ‹Later wn›.keeps).kill (HC3d.out.below ‹Later wn›.keeps).cops (HC4.out.below ‹Later wn›.keeps).gen (HC4.out.below ‹Later wn›.keeps).kill (HC4.out.below ‹Later wn›.keeps).cops (by have h1 := HC3d.out.gen.len; have h2 : gs1.length ≤ 100 := Hs2.out.1; unfold maxLen; omega) (by have h1 := HC3d.out.kill.len; have h2 : ks1.length ≤ 100 := Hs2.out.2.1; unfold maxLen; omega) (by have h2 : cs1.length ≤ 70000 := Hs2.out.2.2; unfold maxLen; omega); rw [equalsT_self] at h; exact h)))))
  refine wpQuiet_nil ?_
  rintro _ ⟨pq, rfl⟩
  have Hcur := hid pq.keeps
  generalize pq.wd = wq at *
  clear pq lf0 lf1 lf2 lf3 lf4 lx0 lx1 ly0 ly1 lz0 lz1 lz2 lz3 lz4 lk0 lk1 lk2 lk3 lk4
  go_wp2
  go_ret
  exact ⟨rfl, below_step HBz.out Hcur.out⟩
end Go.Proofs.Ytbcnipnjlmobfaa

namespace Go.Proofs.Ytbcnipnjlmobfaa
set_option maxRecDepth 20000
set_option linter.unusedVariables false
open Go.ChangeShapes Go.WideShapes Go.ChangeAt Go.RowKit

def cells5 (W : Int) (A : Option Addr) (n c : Nat) (V : Int) (B : Option Addr) (m d : Nat) (C : Option Addr) (k q : Nat) : Array Value :=
  #[.int .i64 W, .slice A n c, .int .i64 V, .slice B m d, .slice C k q]
theorem noU {w : World} {g t : Nat} {cs : Array Value} (h : Fb w g cs t) (hc : ∀ (j : Nat) (x : Int), cs[j]? ≠ some (Value.int .u64 x)) {p : Addr} {x : Int} (hp : w.cell? p = some (.int .u64 x)) : p.block ≠ g := by
  rintro rfl
  unfold World.cell? at hp
  unfold Fb at h
  rw [h] at hp
  simp only at hp
  split at hp
  · cases hp
  · exact hc _ _ hp
theorem arg_far {w : World} {g t : Nat} {cs : Array Value} {A : Option Addr} {n : Nat} {ws : List Nat} (h : Arg w A n ws) (hf : Fb w g cs t) (hc : ∀ (j : Nat) (x : Int), cs[j]? ≠ some (Value.int .u64 x)) {p : Addr} (hp : p.block = g) (u : Value) : Arg (w.setCell p u) A n ws := by
  refine h.far ?_ u
  rcases h.lies with h0 | ⟨ad, e, hb, hx⟩
  · exact .inl (List.map_eq_nil_iff.1 h0)
  · cases ws with
    | nil => exact .inl rfl
    | cons x ws =>
      refine .inr fun ad' e' => ?_
      rw [e] at e'
      injection e' with e'
      subst e'
      have h1 := hx 0 (.int .u64 (x : Int)) rfl
      have := noU hf hc h1
      rw [add_block] at this
      rw [hp]; exact this
theorem cells5_no (W : Int) (A : Option Addr) (n c : Nat) (V : Int) (B : Option Addr) (m d : Nat) (C : Option Addr) (k q : Nat) : ∀ (j : Nat) (x : Int), (cells5 W A n c V B m d C k q)[j]? ≠ some (Value.int .u64 x) := by
  intro j x h
  unfold cells5 at h
  match j with
  | 0 => simp at h
  | 1 => simp at h
  | 2 => simp at h
  | 3 => simp at h
  | 4 => simp at h
  | j + 5 => simp at h
theorem fb_ne_own {w : World} {g t base ty size n : Nat} {cs : Array Value} {v : Value} {xs : List Value} (hf : Fb w g cs t) (h : w.ownsRow base ty size v n xs) (ht : t ≠ ty) : some g ≠ v.ownBlock := by
  rcases h.2 with ⟨rfl, _⟩ | ⟨g', cap, cur, rfl, _, hg, _⟩
  · simp [Value.ownBlock]
  · intro e
    simp only [Value.ownBlock, Option.some.injEq] at e
    subst e
    unfold Fb at hf
    rw [hf] at hg
    injection hg with hg
    injection hg with _ hg
    exact ht hg
theorem own_row' {w : World} {base : Nat} {ty : TypeId} {size : Nat} {v : Value} {n : Nat} {xs : List Value} (h : w.ownsRow base ty size v n xs) {k : Nat} (hk : k < base) : v.ownBlock = none ∨ v.ownBlock ≠ some k := by
  cases e : v.ownBlock with
  | none => exact .inl rfl
  | some j => exact .inr (by have := (h.lt j e).1; simp only [ne_eq, Option.some.injEq]; omega)
structure Spf (w : World) (T : Nat) (fc : Array Value) (W1 : Int) (A1 : Option Addr) (n1 c1 : Nat) (V1 : Int) (B1 : Option Addr) (m1 d1 : Nat) (C1 k1 q1 : Nat) (gs1 ks1 : List Nat) (cs1 : List (Int × Int)) (wr : World) : Prop where
  len : cs1.length = k1
  f0 : Fb wr w.heap.size fc 28
  r0 : Fb wr (w.heap.size + 1) #[.int .i64 0, .slice none 0 0, .int .i64 0, .slice none 0 0, .slice none 0 0] 28
  q0 : Fb wr (w.heap.size + 1 + 1) (cells5 W1 A1 n1 c1 V1 B1 m1 d1 (some ⟨C1, 0, none⟩) k1 q1) 28
  gen : Arg wr A1 n1 gs1
  kill : Arg wr B1 m1 ks1
  own : wr.ownsRow (w.heap.size + 1 + 1 + 1) 51 2 (.slice (some ⟨C1, 0, none⟩) k1 q1) k1 (pairs cs1)
  tape : Tape wr T
  gr : w.grownBy wr (some T)
  tl : T < w.heap.size
section
variable {w wr w' : World} {T : Nat} {fc : Array Value} {W1 V1 : Int} {A1 B1 : Option Addr} {n1 c1 m1 d1 C1 k1 q1 : Nat} {gs1 ks1 : List Nat} {cs1 : List (Int × Int)}
theorem Spf.step (h : Spf w T fc W1 A1 n1 c1 V1 B1 m1 d1 C1 k1 q1 gs1 ks1 cs1 wr) (ht : Tape w' T) (hg : wr.grownBy w' (some T)) : Spf w T fc W1 A1 n1 c1 V1 B1 m1 d1 C1 k1 q1 gs1 ks1 cs1 w' := by
  have hT := h.tl
  exact ⟨h.len, h.f0.grown hg (by simp; omega), h.r0.grown hg (by simp; omega), h.q0.grown hg (by simp; omega), h.gen.tape h.tape hg, h.kill.tape h.tape hg, h.own.kept hg (own_row' h.own (by omega)), ht, grown_trans h.gr hg, h.tl⟩
theorem Spf.below (h : Spf w T fc W1 A1 n1 c1 V1 B1 m1 d1 C1 k1 q1 gs1 ks1 cs1 wr) (hb : Below wr.heap.size wr w') : Spf w T fc W1 A1 n1 c1 V1 B1 m1 d1 C1 k1 q1 gs1 ks1 cs1 w' :=
  h.step (h.tape.below hb h.tape.lt) (grown_of_below hb _)
theorem Spf.cells (h : Spf w T fc W1 A1 n1 c1 V1 B1 m1 d1 C1 k1 q1 gs1 ks1 cs1 wr) :
    (wr.cell? ⟨w.heap.size + 1 + 1, 0, none⟩ = some (.int .i64 W1) ∧ wr.cell? ⟨w.heap.size + 1 + 1, 1, none⟩ = some (.slice A1 n1 c1) ∧ wr.cell? ⟨w.heap.size + 1 + 1, 2, none⟩ = some (.int .i64 V1) ∧ wr.cell? ⟨w.heap.size + 1 + 1, 3, none⟩ = some (.slice B1 m1 d1) ∧ wr.cell? ⟨w.heap.size + 1 + 1, 4, none⟩ = some (.slice (some ⟨C1, 0, none⟩) k1 q1)) ∧
    (wr.frozen? ⟨w.heap.size + 1 + 1, 0, none⟩ = false ∧ wr.frozen? ⟨w.heap.size + 1 + 1, 1, none⟩ = false ∧ wr.frozen? ⟨w.heap.size + 1 + 1, 2, none⟩ = false ∧ wr.frozen? ⟨w.heap.size + 1 + 1, 3, none⟩ = false ∧ wr.frozen? ⟨w.heap.size + 1 + 1, 4, none⟩ = false) ∧ w.heap.size + 1 + 1 < wr.heap.size :=
  ⟨h.q0.five, ⟨h.q0.frozen 0, h.q0.frozen 1, h.q0.frozen 2, h.q0.frozen 3, h.q0.frozen 4⟩, h.q0.lt⟩
theorem Spf.setGen {W9 : Int} {A9 : Option Addr} {n9 c9 : Nat} {gs9 : List Nat} (h : Spf w T fc W1 A1 n1 c1 V1 B1 m1 d1 C1 k1 q1 gs1 ks1 cs1 wr) (ha : Arg wr A9 n9 gs9) :
    Spf w T fc W9 A9 n9 c9 V1 B1 m1 d1 C1 k1 q1 gs9 ks1 cs1 ((wr.setCell ⟨w.heap.size + 1 + 1, 0, none⟩ (.int .i64 W9)).setCell ⟨w.heap.size + 1 + 1, 1, none⟩ (.slice A9 n9 c9)) := by
  obtain ⟨hl, h1, h2, h3, h4, h5, h6, h7, h8, h9⟩ := h
  have e1 : Fb (wr.setCell ⟨w.heap.size + 1 + 1, 0, none⟩ (.int .i64 W9)) (w.heap.size + 1 + 1) (cells5 W9 A1 n1 c1 V1 B1 m1 d1 (some ⟨C1, 0, none⟩) k1 q1) 28 := h3.set 0 _
  have e2 : Fb ((wr.setCell ⟨w.heap.size + 1 + 1, 0, none⟩ (.int .i64 W9)).setCell ⟨w.heap.size + 1 + 1, 1, none⟩ (.slice A9 n9 c9)) (w.heap.size + 1 + 1) (cells5 W9 A9 n9 c9 V1 B1 m1 d1 (some ⟨C1, 0, none⟩) k1 q1) 28 := e1.set 1 _
  have kk := fun (A : Option Addr) (n : Nat) (ws : List Nat) (hx : Arg wr A n ws) => arg_far (p := ⟨w.heap.size + 1 + 1, 1, none⟩) (arg_far (p := ⟨w.heap.size + 1 + 1, 0, none⟩) hx h3 (cells5_no _ _ _ _ _ _ _ _ _ _ _) rfl (.int .i64 W9)) e1 (cells5_no _ _ _ _ _ _ _ _ _ _ _) rfl (.slice A9 n9 c9)
  exact ⟨hl, (h1.far (by simp; omega) _).far (by simp; omega) _, (h2.far (by simp) _).far (by simp) _, e2, kk _ _ _ ha, kk _ _ _ h5,
    World.ownsRow.kept (World.ownsRow.kept h6 (setCell_grown wr _ _) (own_row' h6 (by simp))) (setCell_grown _ _ _) (own_row' h6 (by simp)), (h7.far (by simp; omega) _).far (by simp; omega) _, grown_set_new (grown_set_new h8 (by simp; omega) _) (by simp; omega) _, h9⟩
theorem Spf.setKill {W9 : Int} {A9 : Option Addr} {n9 c9 : Nat} {gs9 : List Nat} (h : Spf w T fc W1 A1 n1 c1 V1 B1 m1 d1 C1 k1 q1 gs1 ks1 cs1 wr) (ha : Arg wr A9 n9 gs9) :
    Spf w T fc W1 A1 n1 c1 W9 A9 n9 c9 C1 k1 q1 gs1 gs9 cs1 ((wr.setCell ⟨w.heap.size + 1 + 1, 2, none⟩ (.int .i64 W9)).setCell ⟨w.heap.size + 1 + 1, 3, none⟩ (.slice A9 n9 c9)) := by
  obtain ⟨hl, h1, h2, h3, h4, h5, h6, h7, h8, h9⟩ := h
  have e1 : Fb (wr.setCell ⟨w.heap.size + 1 + 1, 2, none⟩ (.int .i64 W9)) (w.heap.size + 1 + 1) (cells5 W1 A1 n1 c1 W9 B1 m1 d1 (some ⟨C1, 0, none⟩) k1 q1) 28 := h3.set 2 _
  have e2 : Fb ((wr.setCell ⟨w.heap.size + 1 + 1, 2, none⟩ (.int .i64 W9)).setCell ⟨w.heap.size + 1 + 1, 3, none⟩ (.slice A9 n9 c9)) (w.heap.size + 1 + 1) (cells5 W1 A1 n1 c1 W9 A9 n9 c9 (some ⟨C1, 0, none⟩) k1 q1) 28 := e1.set 3 _
  have kk := fun (A : Option Addr) (n : Nat) (ws : List Nat) (hx : Arg wr A n ws) => arg_far (p := ⟨w.heap.size + 1 + 1, 3, none⟩) (arg_far (p := ⟨w.heap.size + 1 + 1, 2, none⟩) hx h3 (cells5_no _ _ _ _ _ _ _ _ _ _ _) rfl (.int .i64 W9)) e1 (cells5_no _ _ _ _ _ _ _ _ _ _ _) rfl (.slice A9 n9 c9)
  exact ⟨hl, (h1.far (by simp; omega) _).far (by simp; omega) _, (h2.far (by simp) _).far (by simp) _, e2, kk _ _ _ h4, kk _ _ _ ha,
    World.ownsRow.kept (World.ownsRow.kept h6 (setCell_grown wr _ _) (own_row' h6 (by simp))) (setCell_grown _ _ _) (own_row' h6 (by simp)), (h7.far (by simp; omega) _).far (by simp; omega) _, grown_set_new (grown_set_new h8 (by simp; omega) _) (by simp; omega) _, h9⟩
/-- The copies have become others, in a row of the call's own; the sets are those that came in. -/
theorem Spf.copies {C9 k9 q9 : Nat} {cs9 : List (Int × Int)} {row : Option Nat} (h : Spf w T fc W1 A1 n1 c1 V1 B1 m1 d1 C1 k1 q1 gs1 ks1 cs1 wr) (hgen : Arg w A1 n1 gs1) (hkill : Arg w B1 m1 ks1) (ht0 : Tape w T)
    (hl9 : cs9.length = k9) (hown : w'.ownsRow (w.heap.size + 1 + 1 + 1) 51 2 (.slice (some ⟨C9, 0, none⟩) k9 q9) k9 (pairs cs9)) (hg : wr.grownBy w' row) (hrow : ∀ k, row = some k → w.heap.size + 1 + 1 + 1 ≤ k) :
    (w'.cell? ⟨w.heap.size + 1 + 1, 4, none⟩ = some (.slice (some ⟨C1, 0, none⟩) k1 q1) ∧ w'.frozen? ⟨w.heap.size + 1 + 1, 4, none⟩ = false) ∧
    Spf w T fc W1 A1 n1 c1 V1 B1 m1 d1 C9 k9 q9 gs1 ks1 cs9 (w'.setCell ⟨w.heap.size + 1 + 1, 4, none⟩ (.slice (some ⟨C9, 0, none⟩) k9 q9)) := by
  obtain ⟨hl, h1, h2, h3, h4, h5, h6, h7, h8, h9⟩ := h
  have hne : ∀ j, j < w.heap.size + 1 + 1 + 1 → some j ≠ row := fun j hj e => by have := hrow j e.symm; omega
  have e1 := h1.grown hg (hne _ (by omega))
  have e2 := h2.grown hg (hne _ (by omega))
  have e3 := h3.grown hg (hne _ (by omega))
  have hz := h8.size
  have e7 : Tape w' T := h7.keep fun k hk => hg.block k (by omega) (hne _ (by omega))
  have e8 : w.grownBy w' (some T) := ⟨hg.os.trans h8.os, hg.tape.trans h8.tape, hg.output.trans h8.output, Nat.le_trans h8.size hg.size, fun k hk hn => (hg.block k (by omega) (hne _ (by omega))).trans (h8.block k hk hn)⟩
  have e9 := grown_set_new e8 (p := ⟨w.heap.size + 1 + 1, 4, none⟩) (by show w.heap.size ≤ w.heap.size + 1 + 1; omega) (.slice (some ⟨C9, 0, none⟩) k9 q9)
  refine ⟨⟨e3.cell 4, e3.frozen 4⟩, hl9, e1.far (by simp; omega) _, e2.far (by simp) _, e3.set 4 _, hgen.tape ht0 e9, hkill.tape ht0 e9, World.ownsRow.kept hown (setCell_grown _ _ _) (own_row' hown (by simp)), e7.far (by simp; omega) _, e9, h9⟩
/-- A spoiled function came back. -/
def GenF (w : World) (T : Nat) (e : Ending) (w' : World) : Prop :=
  ∃ (W V : Int) (A : Option Addr) (n c : Nat) (B : Option Addr) (m d : Nat) (C : Option Addr) (k q : Nat) (gs ks : List Nat) (cs : List (Int × Int)),
    e = .returned (.agg #[.int .i64 W, .slice A n c, .int .i64 V, .slice B m d, .slice C k q]) ∧ FArg w' A n B m C k gs ks cs ∧ Tape w' T ∧ w.grownBy w' (some T)
theorem Spf.done (h : Spf w T fc W1 A1 n1 c1 V1 B1 m1 d1 C1 k1 q1 gs1 ks1 cs1 wr) :
    GenF w T (.returned (.agg #[.int .i64 W1, .slice A1 n1 c1, .int .i64 V1, .slice B1 m1 d1, .slice (some ⟨C1, 0, none⟩) k1 q1]))
      (((((wr.setCell ⟨w.heap.size + 1, 0, none⟩ (.int .i64 W1)).setCell ⟨w.heap.size + 1, 1, none⟩ (.slice A1 n1 c1)).setCell ⟨w.heap.size + 1, 2, none⟩ (.int .i64 V1)).setCell ⟨w.heap.size + 1, 3, none⟩ (.slice B1 m1 d1)).setCell ⟨w.heap.size + 1, 4, none⟩ (.slice (some ⟨C1, 0, none⟩) k1 q1)) := by
  obtain ⟨hl, h1, h2, h3, h4, h5, h6, h7, h8, h9⟩ := h
  have e0 : Fb wr (w.heap.size + 1) (cells5 0 none 0 0 0 none 0 0 none 0 0) 28 := h2
  have e1 : Fb _ (w.heap.size + 1) (cells5 W1 none 0 0 0 none 0 0 none 0 0) 28 := e0.set 0 (.int .i64 W1)
  have e2 : Fb _ (w.heap.size + 1) (cells5 W1 A1 n1 c1 0 none 0 0 none 0 0) 28 := e1.set 1 (.slice A1 n1 c1)
  have e3 : Fb _ (w.heap.size + 1) (cells5 W1 A1 n1 c1 V1 none 0 0 none 0 0) 28 := e2.set 2 (.int .i64 V1)
  have e4 : Fb _ (w.heap.size + 1) (cells5 W1 A1 n1 c1 V1 B1 m1 d1 none 0 0) 28 := e3.set 3 (.slice B1 m1 d1)
  have kk := fun (A : Option Addr) (n : Nat) (ws : List Nat) (hx : Arg wr A n ws) =>
    arg_far (p := ⟨w.heap.size + 1, 4, none⟩) (arg_far (p := ⟨w.heap.size + 1, 3, none⟩) (arg_far (p := ⟨w.heap.size + 1, 2, none⟩) (arg_far (p := ⟨w.heap.size + 1, 1, none⟩) (arg_far (p := ⟨w.heap.size + 1, 0, none⟩) hx e0 (cells5_no _ _ _ _ _ _ _ _ _ _ _) rfl (.int .i64 W1))
      e1 (cells5_no _ _ _ _ _ _ _ _ _ _ _) rfl (.slice A1 n1 c1)) e2 (cells5_no _ _ _ _ _ _ _ _ _ _ _) rfl (.int .i64 V1)) e3 (cells5_no _ _ _ _ _ _ _ _ _ _ _) rfl (.slice B1 m1 d1)) e4 (cells5_no _ _ _ _ _ _ _ _ _ _ _) rfl (.slice (some ⟨C1, 0, none⟩) k1 q1)
  have ko : ∀ {wx : World} (j : Nat) (u : Value), wx.ownsRow (w.heap.size + 1 + 1 + 1) 51 2 (.slice (some ⟨C1, 0, none⟩) k1 q1) k1 (pairs cs1) → (wx.setCell ⟨w.heap.size + 1, j, none⟩ u).ownsRow (w.heap.size + 1 + 1 + 1) 51 2 (.slice (some ⟨C1, 0, none⟩) k1 q1) k1 (pairs cs1) := fun {wx} j u hx =>
    World.ownsRow.kept hx (setCell_grown wx _ u) (own_row' hx (by simp))
  have kt : ∀ {wx : World} (j : Nat) (u : Value), Tape wx T → Tape (wx.setCell ⟨w.heap.size + 1, j, none⟩ u) T := fun j u h => h.far (by simp; omega) u
  have kg : ∀ {wx : World} (j : Nat) (u : Value), w.grownBy wx (some T) → w.grownBy (wx.setCell ⟨w.heap.size + 1, j, none⟩ u) (some T) := fun j u h => grown_set_new h (by simp) u
  exact ⟨W1, V1, A1, n1, c1, B1, m1, d1, some ⟨C1, 0, none⟩, k1, q1, gs1, ks1, cs1, rfl, ⟨kk _ _ _ h4, kk _ _ _ h5, ⟨own_at (ko 4 _ (ko 3 _ (ko 2 _ (ko 1 _ (ko 0 _ h6))))), hl⟩⟩, kt _ _ (kt _ _ (kt _ _ (kt _ _ (kt _ _ h7)))), kg _ _ (kg _ _ (kg _ _ (kg _ _ (kg _ _ h8))))⟩
end
end Go.Proofs.Ytbcnipnjlmobfaa

namespace Go.Proofs.Ytbcnipnjlmobfaa
set_option maxRecDepth 20000
set_option linter.unusedVariables false
set_option linter.unusedSimpArgs false
open Go.ChangeShapes Go.WideShapes Go.ChangeAt Go.RowKit
attribute [local go_sem ↓] Go.wp_at_zero Go.wp_at_succ

/-- The start: the copies lie in a row of the call's own. -/
theorem Spf.start {w w' : World} {T : Nat} {W V : Int} {A B C : Option Addr} {n c m d k q C9 q9 : Nat} {gs ks : List Nat} {cs : List (Int × Int)} {row : Option Nat} (ht : Tape w T) (hA : Arg w A n gs) (hB : Arg w B m ks) (hl : cs.length = k)
    (hg : ((((w.alloc (.cells (cells5 W A n c V B m d C k q) 28)).alloc (.cells #[.int .i64 0, .slice none 0 0, .int .i64 0, .slice none 0 0, .slice none 0 0] 28)).alloc (.cells (cells5 W A n c V B m d C k q) 28)).alloc (.cells #[] 51)).grownBy w' row)
    (hown : w'.ownsRow (w.heap.size + 1 + 1 + 1) 51 2 (.slice (some ⟨C9, 0, none⟩) k q9) k (pairs cs)) (hrow : ∀ j, row = some j → w.heap.size + 1 + 1 + 1 ≤ j) :
    (w'.cell? ⟨w.heap.size + 1 + 1, 4, none⟩ = some (.slice C k q) ∧ w'.frozen? ⟨w.heap.size + 1 + 1, 4, none⟩ = false) ∧
    Spf w T (cells5 W A n c V B m d C k q) W A n c V B m d C9 k q9 gs ks cs (w'.setCell ⟨w.heap.size + 1 + 1, 4, none⟩ (.slice (some ⟨C9, 0, none⟩) k q9)) := by
  have hT := ht.lt
  have hne : ∀ j, j < w.heap.size + 1 + 1 + 1 → some j ≠ row := fun j hj e => by have := hrow j e.symm; omega
  have f0 := (((Fb.new w (cells5 W A n c V B m d C k q) 28).alloc (.cells #[.int .i64 0, .slice none 0 0, .int .i64 0, .slice none 0 0, .slice none 0 0] 28)).alloc (.cells (cells5 W A n c V B m d C k q) 28)).alloc (.cells #[] 51)
  have f1 := ((Fb.new (w.alloc (.cells (cells5 W A n c V B m d C k q) 28)) #[.int .i64 0, .slice none 0 0, .int .i64 0, .slice none 0 0, .slice none 0 0] 28).alloc (.cells (cells5 W A n c V B m d C k q) 28)).alloc (.cells #[] 51)
  have f2 := (Fb.new ((w.alloc (.cells (cells5 W A n c V B m d C k q) 28)).alloc (.cells #[.int .i64 0, .slice none 0 0, .int .i64 0, .slice none 0 0, .slice none 0 0] 28)) (cells5 W A n c V B m d C k q) 28).alloc (.cells #[] 51)
  rw [World.size_alloc] at f1
  rw [World.size_alloc, World.size_alloc] at f2
  have b0 := (((((Below.refl w.heap.size w).alloc (Nat.le_refl _) (.cells (cells5 W A n c V B m d C k q) 28)).alloc (by simp) (.cells #[.int .i64 0, .slice none 0 0, .int .i64 0, .slice none 0 0, .slice none 0 0] 28)).alloc (by simp; omega) (.cells (cells5 W A n c V B m d C k q) 28)).alloc (by simp; omega) (.cells #[] 51))
  have g0 := grown_of_below b0 (some T)
  have e7 : Tape w' T := (ht.below b0 hT).keep fun j hj => hg.block j (by simp; omega) (hne _ (by omega))
  have e8 : w.grownBy w' (some T) := ⟨hg.os.trans g0.os, hg.tape.trans g0.tape, hg.output.trans g0.output, Nat.le_trans g0.size hg.size, fun j hj hn => (hg.block j (by simp; omega) (hne _ (by omega))).trans (g0.block j hj hn)⟩
  have e9 := grown_set_new e8 (p := ⟨w.heap.size + 1 + 1, 4, none⟩) (by show w.heap.size ≤ w.heap.size + 1 + 1; omega) (.slice (some ⟨C9, 0, none⟩) k q9)
  have e1 := f0.grown hg (hne _ (by omega))
  have e2 := f1.grown hg (hne _ (by omega))
  have e3 := f2.grown hg (hne _ (by omega))
  exact ⟨⟨e3.cell 4, e3.frozen 4⟩, hl, e1.far (by simp; omega) _, e2.far (by simp) _, e3.set 4 _, hA.tape ht e9, hB.tape ht e9, World.ownsRow.kept hown (setCell_grown _ _ _) (own_row' hown (by simp)), e7.far (by simp; omega) _, e9, hT⟩

theorem one_pairI (a b : Int) : ∀ u ∈ [Value.int .i64 a, Value.int .i64 b], u.oneCell' = true := by
  intro u hu
  simp at hu
  rcases hu with rfl | rfl <;> rfl
theorem Spf.alloc {w wr : World} {T : Nat} {fc : Array Value} {W1 V1 : Int} {A1 B1 : Option Addr} {n1 c1 m1 d1 C1 k1 q1 : Nat} {gs1 ks1 : List Nat} {cs1 : List (Int × Int)} (h : Spf w T fc W1 A1 n1 c1 V1 B1 m1 d1 C1 k1 q1 gs1 ks1 cs1 wr) (o : Obj) : Spf w T fc W1 A1 n1 c1 V1 B1 m1 d1 C1 k1 q1 gs1 ks1 cs1 (wr.alloc o) :=
  h.below ((Below.refl _ _).alloc (Nat.le_refl _) o)
theorem Spf.push {w wr w' : World} {T : Nat} {fc : Array Value} {W1 V1 x y : Int} {A1 B1 : Option Addr} {n1 c1 m1 d1 C1 k1 q1 g cap : Nat} {gs1 ks1 : List Nat} {cs1 : List (Int × Int)} (h : Spf w T fc W1 A1 n1 c1 V1 B1 m1 d1 C1 k1 q1 gs1 ks1 cs1 wr) (o : Obj) (hgen : Arg w A1 n1 gs1) (hkill : Arg w B1 m1 ks1) (ht0 : Tape w T)
    (hown : w'.ownsRow (w.heap.size + 1 + 1 + 1) 51 2 (.slice (some ⟨g, 0, none⟩) (k1 + 1) cap) (k1 + 1) (pairs cs1 ++ [.int .i64 x, .int .i64 y])) (hg : (wr.alloc o).grownBy w' (Value.slice (some ⟨C1, 0, none⟩) k1 q1).ownBlock) :
    (w'.cell? ⟨w.heap.size + 1 + 1, 4, none⟩ = some (.slice (some ⟨C1, 0, none⟩) k1 q1) ∧ w'.frozen? ⟨w.heap.size + 1 + 1, 4, none⟩ = false) ∧
    Spf w T fc W1 A1 n1 c1 V1 B1 m1 d1 g (k1 + 1) cap gs1 ks1 (cs1 ++ [(x, y)]) (w'.setCell ⟨w.heap.size + 1 + 1, 4, none⟩ (.slice (some ⟨g, 0, none⟩) (k1 + 1) cap)) :=
  (h.alloc o).copies hgen hkill ht0 (by rw [List.length_append, h.len]; rfl) (by rw [pairs_snoc]; exact hown) hg (fun j hj => (h.own.lt j hj).1)
theorem Spf.front {w wr w' : World} {T : Nat} {fc : Array Value} {W1 V1 x y : Int} {A1 B1 : Option Addr} {n1 c1 m1 d1 C1 k1 q1 L : Nat} {v : Value} {gs1 ks1 : List Nat} {cs1 : List (Int × Int)} (h : Spf w T fc W1 A1 n1 c1 V1 B1 m1 d1 C1 k1 q1 gs1 ks1 cs1 wr) (o : Obj) (hgen : Arg w A1 n1 gs1) (hkill : Arg w B1 m1 ks1) (ht0 : Tape w T)
    (hown : w'.ownsRow (w.heap.size + 1 + 1 + 1) 51 2 v (1 + k1) ([.int .i64 x, .int .i64 y] ++ pairs cs1)) (hg : (wr.alloc o).grownBy w' (some L)) (hL : L = wr.heap.size) :
    ∃ g cap, v = .slice (some ⟨g, 0, none⟩) (1 + k1) cap ∧ (w'.cell? ⟨w.heap.size + 1 + 1, 4, none⟩ = some (.slice (some ⟨C1, 0, none⟩) k1 q1) ∧ w'.frozen? ⟨w.heap.size + 1 + 1, 4, none⟩ = false) ∧
    Spf w T fc W1 A1 n1 c1 V1 B1 m1 d1 g (1 + k1) cap gs1 ks1 ((x, y) :: cs1) (w'.setCell ⟨w.heap.size + 1 + 1, 4, none⟩ (.slice (some ⟨g, 0, none⟩) (1 + k1) cap)) := by
  rcases hown.2 with ⟨_, h0⟩ | ⟨g, cap, cur, rfl, _⟩
  · omega
  · have hz := h.q0.lt
    exact ⟨g, cap, rfl, (h.alloc o).copies hgen hkill ht0 (by rw [List.length_cons, h.len]; omega) (by simpa [pairs] using hown) hg (fun j hj => by injection hj with hj; omega)⟩
theorem Spf.row {w wr : World} {T : Nat} {fc : Array Value} {W1 V1 : Int} {A1 B1 : Option Addr} {n1 c1 m1 d1 C1 k1 q1 : Nat} {gs1 ks1 : List Nat} {cs1 : List (Int × Int)} (h : Spf w T fc W1 A1 n1 c1 V1 B1 m1 d1 C1 k1 q1 gs1 ks1 cs1 wr) :
    ∀ (j : Nat) (u : Value), (pairs cs1)[j]? = some u → wr.cell? ((⟨C1, 0, none⟩ : Addr).add j) = some u := by
  intro j u hu
  have hj : j < (pairs cs1).length := (List.getElem?_eq_some_iff.1 hu).1
  rw [pairs_length, h.len] at hj
  rw [add_of, World.ownsRow.cellAt h.own j (by omega), hu]
theorem Spf.lit {w wr : World} {T : Nat} {fc : Array Value} {W1 V1 : Int} {A1 B1 : Option Addr} {n1 c1 m1 d1 C1 k1 q1 : Nat} {gs1 ks1 : List Nat} {cs1 : List (Int × Int)} (h : Spf w T fc W1 A1 n1 c1 V1 B1 m1 d1 C1 k1 q1 gs1 ks1 cs1 wr) (x y : Int) :
    (wr.alloc (.cells #[.int .i64 x, .int .i64 y] 51)).ownsRow (w.heap.size + 1 + 1 + 1) 51 2 (.slice (some ⟨wr.heap.size, 0, none⟩) 1 1) 1 [.int .i64 x, .int .i64 y] :=
  World.ownsRow_lit wr #[.int .i64 x, .int .i64 y] 1 (by have := h.q0.lt; omega) (by simp [maxLen]) rfl
theorem Spf.start0 {w : World} {T : Nat} {W V : Int} {A B C : Option Addr} {n c m d k q : Nat} {gs ks : List Nat} (ht : Tape w T) (hA : Arg w A n gs) (hB : Arg w B m ks) :
    Spf w T (cells5 W A n c V B m d C k q) W A n c V B m d (w.heap.size + 1 + 1 + 1) 0 0 gs ks []
      ((((w.alloc (.cells (cells5 W A n c V B m d C k q) 28)).alloc (.cells #[.int .i64 0, .slice none 0 0, .int .i64 0, .slice none 0 0, .slice none 0 0] 28)).alloc (.cells (cells5 W A n c V B m d (some ⟨w.heap.size + 1 + 1 + 1, 0, none⟩) 0 0) 28)).alloc (.cells #[] 51)) := by
  have hT := ht.lt
  have f0 := (((Fb.new w (cells5 W A n c V B m d C k q) 28).alloc (.cells #[.int .i64 0, .slice none 0 0, .int .i64 0, .slice none 0 0, .slice none 0 0] 28)).alloc (.cells (cells5 W A n c V B m d (some ⟨w.heap.size + 1 + 1 + 1, 0, none⟩) 0 0) 28)).alloc (.cells #[] 51)
  have f1 := ((Fb.new (w.alloc (.cells (cells5 W A n c V B m d C k q) 28)) #[.int .i64 0, .slice none 0 0, .int .i64 0, .slice none 0 0, .slice none 0 0] 28).alloc (.cells (cells5 W A n c V B m d (some ⟨w.heap.size + 1 + 1 + 1, 0, none⟩) 0 0) 28)).alloc (.cells #[] 51)
  have f2 := (Fb.new ((w.alloc (.cells (cells5 W A n c V B m d C k q) 28)).alloc (.cells #[.int .i64 0, .slice none 0 0, .int .i64 0, .slice none 0 0, .slice none 0 0] 28)) (cells5 W A n c V B m d (some ⟨w.heap.size + 1 + 1 + 1, 0, none⟩) 0 0) 28).alloc (.cells #[] 51)
  rw [World.size_alloc] at f1
  rw [World.size_alloc, World.size_alloc] at f2
  have b0 := (((((Below.refl w.heap.size w).alloc (Nat.le_refl _) (.cells (cells5 W A n c V B m d C k q) 28)).alloc (by simp) (.cells #[.int .i64 0, .slice none 0 0, .int .i64 0, .slice none 0 0, .slice none 0 0] 28)).alloc (by simp; omega) (.cells (cells5 W A n c V B m d (some ⟨w.heap.size + 1 + 1 + 1, 0, none⟩) 0 0) 28)).alloc (by simp; omega) (.cells #[] 51))
  have g0 := grown_of_below b0 (some T)
  have ho := World.ownsRow_lit (base := w.heap.size + 1 + 1 + 1) (e := 51) (size := 2) ((((w.alloc (.cells (cells5 W A n c V B m d C k q) 28)).alloc (.cells #[.int .i64 0, .slice none 0 0, .int .i64 0, .slice none 0 0, .slice none 0 0] 28)).alloc (.cells (cells5 W A n c V B m d (some ⟨w.heap.size + 1 + 1 + 1, 0, none⟩) 0 0) 28))) #[] 0 (by simp) (by simp [maxLen]) rfl
  refine ⟨rfl, f0, f1, f2, hA.below b0, hB.below b0, ?_, ht.below b0 hT, g0, hT⟩
  simpa [pairs] using ho

set_option maxHeartbeats 12800000 in
theorem spoilT_any (T W g1 g2 n c m d k q : Nat) (C : Option Addr) (gs ks : List Nat) (cs : List (Int × Int)) (w : World) (ht : Tape w T) (hA : Arg w (some ⟨g1, 0, none⟩) n gs) (hB : Arg w (some ⟨g2, 0, none⟩) m ks) (hC : ArgC w C k cs)
    (hk : k ≤ 12) (hW : W ≤ 16) (hn : n ≤ 50) (hm : m ≤ 50) :
    Calls Try.prog 12 #[.pointer (some ⟨T, 0, none⟩), .agg #[.int .i64 W, .slice (some ⟨g1, 0, none⟩) n c, .int .i64 W, .slice (some ⟨g2, 0, none⟩) m d, .slice C k q]] w (GenF w T) := by
  obtain ⟨i0, hi, hz0, hz1, hz2⟩ := info_parts info35
  have Hi := hid hi; have Hz0 := hid hz0; have Hz1 := hid hz1; have Hz2 := hid hz2
  have Ht := hid ht; have HA := hid hA; have HB := hid hB; have HC := hid hC
  have HL := hid hC.len
  have hb3 := ((((Below.refl w.heap.size w).alloc (Nat.le_refl _) (.cells (cells5 W (some ⟨g1, 0, none⟩) n c W (some ⟨g2, 0, none⟩) m d C k q) 28)).alloc (by simp) (.cells #[.int .i64 0, .slice none 0 0, .int .i64 0, .slice none 0 0, .slice none 0 0] 28)).alloc (by simp; omega) (.cells (cells5 W (some ⟨g1, 0, none⟩) n c W (some ⟨g2, 0, none⟩) m d C k q) 28))
  have hb4 := hb3.alloc (by simp; omega) (.cells #[] 51)
  have HC4 := hid (hC.below hb4)
  have HE := hid (show ((((w.alloc (.cells (cells5 W (some ⟨g1, 0, none⟩) n c W (some ⟨g2, 0, none⟩) m d C k q) 28)).alloc (.cells #[.int .i64 0, .slice none 0 0, .int .i64 0, .slice none 0 0, .slice none 0 0] 28)).alloc (.cells (cells5 W (some ⟨g1, 0, none⟩) n c W (some ⟨g2, 0, none⟩) m d C k q) 28)).alloc (.cells #[] 51)).ownsRow (w.heap.size + 1 + 1 + 1) 51 2 (.slice (some ⟨w.heap.size + 1 + 1 + 1, 0, none⟩) 0 0) 0 [] from by
    have := World.ownsRow_lit (base := w.heap.size + 1 + 1 + 1) (e := 51) (size := 2) ((((w.alloc (.cells (cells5 W (some ⟨g1, 0, none⟩) n c W (some ⟨g2, 0, none⟩) m d C k q) 28)).alloc (.cells #[.int .i64 0, .slice none 0 0, .int .i64 0, .slice none 0 0, .slice none 0 0] 28)).alloc (.cells (cells5 W (some ⟨g1, 0, none⟩) n c W (some ⟨g2, 0, none⟩) m d C k q) 28))) #[] 0 (by simp) (by simp [maxLen]) rfl
    simpa using this)
  clear hi hz0 hz1 hz2 ht hA hB hC hb3 hb4
  unfold cells5 at HC4 HE
  go_enter Try.func12, Try.ntmps12
  go_upto_region 2 with fail
  go_cut [] (fun wc => Hid (∃ C9 q9 : Nat, Spf w T (cells5 W (some ⟨g1, 0, none⟩) n c W (some ⟨g2, 0, none⟩) m d C k q) W (some ⟨g1, 0, none⟩) n c W (some ⟨g2, 0, none⟩) m d C9 k q9 gs ks cs wc))
  case first =>
    by_cases hk0 : k = 0
    · subst hk0
      have h0 : cs = [] := List.eq_nil_of_length_eq_zero HL.out
      subst h0
      have HS := hid (Spf.start0 (W := W) (V := W) (c := c) (d := d) (C := C) (k := 0) (q := q) Ht.out HA.out HB.out)
      go_wp2_with (at_builtin; refine Lib.wpList_append_run _ rfl _ _ _ _ rfl _ _ rfl rfl _ _ (run_app_none _ _ _ _ _ _ _ (Nat.le_refl _) rfl _) ?_)
      go_meet
      exact ⟨_, _, HS.out⟩
    · obtain ⟨ad, rfl⟩ : ∃ ad, C = some ad := by
        rcases HC.out.lies with h | ⟨ad, e, _⟩
        · exfalso
          have h2 := pairs_length cs
          have h3 := HL.out
          rw [h] at h2; simp at h2; omega
        · exact ⟨ad, e⟩
      have hcs := hid (show ∀ (j : Nat) (u : Value), (pairs cs)[j]? = some u → ((((w.alloc (.cells #[.int .i64 W, .slice (some ⟨g1, 0, none⟩) n c, .int .i64 W, .slice (some ⟨g2, 0, none⟩) m d, .slice (some ad) k q] 28)).alloc (.cells #[.int .i64 0, .slice none 0 0, .int .i64 0, .slice none 0 0, .slice none 0 0] 28)).alloc (.cells #[.int .i64 W, .slice (some ⟨g1, 0, none⟩) n c, .int .i64 W, .slice (some ⟨g2, 0, none⟩) m d, .slice (some ad) k q] 28)).alloc (.cells #[] 51)).cell? (ad.add j) = some u from fun j u hu => by
        obtain ⟨ad', e, _, hc⟩ := HC4.out.lies.cell hu
        injection e with e
        subst e
        exact hc)
      have hl2 := hid (show (pairs cs).length = k * 2 by rw [pairs_length, HL.out]; omega)
      have h1 := hid (show ∀ u ∈ pairs cs, u.oneCell' = true from pairs_one cs)
      have hk1 : 0 < k := by omega
      go_wp2_with ((
        at_builtin
        refine wpList_append_lies _ rfl _ _ 26 rfl (w.heap.size + 1 + 1 + 1) 51 i0 _ 2 16 Try.underlying26 Hi.out Hz0.out Hz1.out Hz2.out rfl (by decide) (.slice (some ⟨w.heap.size + 1 + 1 + 1, 0, none⟩) 0 0) 0 [] rfl HE.out ad k q (pairs cs) rfl hl2.out hcs.out h1.out hk1 (by unfold maxLen; omega) (by omega) (by simp) _ rfl ?_
        intro g9 cap9 w9 hown9 hgr9 hat9 hlt9
        rw [Nat.zero_add, List.nil_append] at hown9
        obtain ⟨⟨y0, y1⟩, hs⟩ := Spf.start (w := w) (W := W) (V := W) (c := c) (d := d) (C := some ad) (q := q) Ht.out HA.out HB.out HL.out hgr9 hown9 (fun j hj => by simp [Value.ownBlock] at hj; omega)
        have HS := hid hs
        clear hown9 hgr9 hat9 hlt9 hs))
      go_meet
      exact ⟨_, _, HS.out⟩
  case rest =>
    obtain ⟨C9, q9, hS⟩ := hcut
    have H0 := hid hS
    clear hS HE HC4 HC
    go_wp2_with fail
    refine (next_any T 5 _ H0.out.tape (by omega)).mono ?_
    rintro e w5 ⟨r5, rfl, hr0, hr1, ht5, hg5, -⟩
    have H5 := hid (H0.out.step ht5 hg5)
    clear ht5 hg5 H0
    by_cases e0 : r5 = 0
    · subst e0
      obtain ⟨f0, f1, f2, f3, f4⟩ := H5.out.f0.five
      have hfl := H5.out.f0.lt
      go_wp2_with fail
      refine (spoil_any T W ⟨g1, 0, none⟩ n c gs _ H5.out.tape (HA.out.tape Ht.out H5.out.gr) hn (by omega) (by omega)).mono ?_
      rintro e w7 ⟨W9, ad9, n9, c9, ws9, rfl, hn9, ha9, ht9, hg9⟩
      have H7 := hid (H5.out.step ht9 hg9)
      have H6 := hid (H7.out.setGen (c9 := c9) (W9 := W9) ha9)
      obtain ⟨⟨c0, c1', c2, c3, c4⟩, ⟨fz0, fz1, fz2, fz3, fz4⟩, hz⟩ := H7.out.cells
      clear ha9 ht9 hg9 f0 f1 f2 f3 f4 hfl H5
      go_upto_region 14 with fail
      generalize (w7.setCell ⟨w.heap.size + 1 + 1, 0, none⟩ (.int .i64 W9)).setCell ⟨w.heap.size + 1 + 1, 1, none⟩ (.slice (some ad9) n9 c9) = wA at *
      clear H7 c0 c1' c2 c3 c4 fz0 fz1 fz2 fz3 fz4 hz
      obtain ⟨⟨c0, c1', c2, c3, c4⟩, ⟨fz0, fz1, fz2, fz3, fz4⟩, hz⟩ := H6.out.cells
      obtain ⟨z0, z1, z2, z3, z4⟩ := H6.out.r0.five
      have zf0 := H6.out.r0.frozen 0
      have zf1 := H6.out.r0.frozen 1
      have zf2 := H6.out.r0.frozen 2
      have zf3 := H6.out.r0.frozen 3
      have zf4 := H6.out.r0.frozen 4
      have hzr := H6.out.r0.lt
      go_wp2_with fail
      refine bodyPost_ret (v := .agg #[.int .i64 W9, .slice (some ad9) n9 c9, .int .i64 W, .slice (some ⟨g2, 0, none⟩) m d, .slice (some ⟨C9, 0, none⟩) k q9]) (by simp [results, Try.results12, go_sem, z0, z1, z2, z3, z4, hzr]) rfl ?_
      exact H6.out.done
    by_cases e1 : r5 = 1
    · subst e1
      obtain ⟨f0, f1, f2, f3, f4⟩ := H5.out.f0.five
      have hfl := H5.out.f0.lt
      go_wp2_with fail
      refine (spoil_any T W ⟨g2, 0, none⟩ m d ks _ H5.out.tape (HB.out.tape Ht.out H5.out.gr) hm (by omega) (by omega)).mono ?_
      rintro e w7 ⟨W9, ad9, n9, c9, ws9, rfl, hn9, ha9, ht9, hg9⟩
      have H7 := hid (H5.out.step ht9 hg9)
      have H6 := hid (H7.out.setKill (c9 := c9) (W9 := W9) ha9)
      obtain ⟨⟨c0, c1', c2, c3, c4⟩, ⟨fz0, fz1, fz2, fz3, fz4⟩, hz⟩ := H7.out.cells
      clear ha9 ht9 hg9 f0 f1 f2 f3 f4 hfl H5
      go_upto_region 14 with fail
      generalize (w7.setCell ⟨w.heap.size + 1 + 1, 2, none⟩ (.int .i64 W9)).setCell ⟨w.heap.size + 1 + 1, 3, none⟩ (.slice (some ad9) n9 c9) = wA at *
      clear H7 c0 c1' c2 c3 c4 fz0 fz1 fz2 fz3 fz4 hz
      obtain ⟨⟨c0, c1', c2, c3, c4⟩, ⟨fz0, fz1, fz2, fz3, fz4⟩, hz⟩ := H6.out.cells
      obtain ⟨z0, z1, z2, z3, z4⟩ := H6.out.r0.five
      have zf0 := H6.out.r0.frozen 0
      have zf1 := H6.out.r0.frozen 1
      have zf2 := H6.out.r0.frozen 2
      have zf3 := H6.out.r0.frozen 3
      have zf4 := H6.out.r0.frozen 4
      have hzr := H6.out.r0.lt
      go_wp2_with fail
      refine bodyPost_ret (v := .agg #[.int .i64 W, .slice (some ⟨g1, 0, none⟩) n c, .int .i64 W9, .slice (some ad9) n9 c9, .slice (some ⟨C9, 0, none⟩) k q9]) (by simp [results, Try.results12, go_sem, z0, z1, z2, z3, z4, hzr]) rfl ?_
      exact H6.out.done
    by_cases e2 : r5 = 2
    · subst e2
      have H5d := hid (H5.out.below (below_drewN (Below.refl _ _) 1))
      change Hid (Spf w T (cells5 W (some ⟨g1, 0, none⟩) n c W (some ⟨g2, 0, none⟩) m d C k q) W (some ⟨g1, 0, none⟩) n c W (some ⟨g2, 0, none⟩) m d C9 k q9 gs ks cs w5.drew) at H5d
      obtain ⟨⟨c0, c1', c2, c3, c4⟩, ⟨fz0, fz1, fz2, fz3, fz4⟩, hz⟩ := H5.out.cells
      go_upto_region 11 with fail
      go_region_law (first
        | ((refine step_append_lies _ (by rfl) _ _ 26 (by rfl) (w.heap.size + 1 + 1 + 1) 51 i0 _ 2 16 Try.underlying26 Hi.out Hz0.out Hz1.out Hz2.out (by rfl) (by decide) (.slice (some ⟨C9, 0, none⟩) k q9) k (pairs cs) (by rfl) (by exact (H8.out.alloc _).own)
               ⟨w8.heap.size, 0, none⟩ 1 1 [.int .i64 (IntKind.i64.wrap (r7 - 1)), .int .i64 (IntKind.i64.wrap (r8 - 1))] (by rfl) rfl (by exact two_new _ _ _ _) (by exact one_pairI _ _) (by decide) (by unfold maxLen; omega) (by omega) (by have := (H8.out.alloc (.cells #[] 0)).q0.lt; rw [World.size_alloc] at this ⊢; omega) _ rfl ?_)
           intro g9 cap9 w9 hown9 hgr9 hat9 hlt9
           obtain ⟨⟨y0, y1⟩, hs⟩ := Spf.push H8.out _ HA.out HB.out Ht.out hown9 hgr9
           have HP := hid hs
           clear hown9 hgr9 hat9 hlt9 hs)
        | (go_simp
           go_at_call 11
           go_must (
           first
           | (refine (next_any T 9 _ H7.out.tape (by omega)).mono ?_
              rintro e w8 ⟨r8, rfl, hr80, hr81, ht8, hg8, -⟩
              have H8 := hid (H7.out.step ht8 hg8)
              obtain ⟨⟨c0, c1', c2, c3, c4⟩, ⟨fz0, fz1, fz2, fz3, fz4⟩, hz⟩ := H8.out.cells
              clear ht8 hg8)
           | (refine (next_any T 9 _ H5d.out.tape (by omega)).mono ?_
              rintro e w7 ⟨r7, rfl, hr70, hr71, ht7, hg7, -⟩
              have H7 := hid (H5d.out.step ht7 hg7)
              obtain ⟨⟨c0, c1', c2, c3, c4⟩, ⟨fz0, fz1, fz2, fz3, fz4⟩, hz⟩ := H7.out.cells
              clear ht7 hg7))))
      all_goals
        go_upto_region 14 with fail
        have H6 := HP
        generalize w9.setCell ⟨w.heap.size + 1 + 1, 4, none⟩ (.slice (some ⟨g9, 0, none⟩) (k + 1) cap9) = wA at *
        clear H7 H8 H5 H5d HP c0 c1' c2 c3 c4 fz0 fz1 fz2 fz3 fz4 hz y0 y1
        obtain ⟨⟨c0, c1', c2, c3, c4⟩, ⟨fz0, fz1, fz2, fz3, fz4⟩, hz⟩ := H6.out.cells
        obtain ⟨z0, z1, z2, z3, z4⟩ := H6.out.r0.five
        have zf0 := H6.out.r0.frozen 0
        have zf1 := H6.out.r0.frozen 1
        have zf2 := H6.out.r0.frozen 2
        have zf3 := H6.out.r0.frozen 3
        have zf4 := H6.out.r0.frozen 4
        have hzr := H6.out.r0.lt
        go_wp2_with fail
        refine bodyPost_ret (v := .agg #[.int .i64 W, .slice (some ⟨g1, 0, none⟩) n c, .int .i64 W, .slice (some ⟨g2, 0, none⟩) m d, .slice (some ⟨g9, 0, none⟩) (k + 1) cap9]) (by simp [results, Try.results12, go_sem, z0, z1, z2, z3, z4, hzr]) rfl ?_
        exact H6.out.done
    by_cases e3 : r5 = 3
    · subst e3
      have H5d := hid (H5.out.below (below_drewN (Below.refl _ _) 1))
      change Hid (Spf w T (cells5 W (some ⟨g1, 0, none⟩) n c W (some ⟨g2, 0, none⟩) m d C k q) W (some ⟨g1, 0, none⟩) n c W (some ⟨g2, 0, none⟩) m d C9 k q9 gs ks cs w5.drew) at H5d
      obtain ⟨⟨c0, c1', c2, c3, c4⟩, ⟨fz0, fz1, fz2, fz3, fz4⟩, hz⟩ := H5.out.cells
      obtain ⟨f0, f1, f2, f3, f4⟩ := H5.out.f0.five
      have hfl := H5.out.f0.lt
      have Hl2 := hid (show (pairs cs).length = k * 2 by rw [pairs_length, HL.out]; omega)
      go_upto_region 13 with fail
      go_region_law (first
        | ((refine step_appv (by rfl) _ _ 26 (by rfl) (w.heap.size + 1 + 1 + 1) 51 i0 _ 2 16 Try.underlying26 Hi.out Hz0.out Hz1.out Hz2.out (by rfl) (by decide) (.slice (some ⟨w8.heap.size, 0, none⟩) 1 1) 1 [.int .i64 r7, .int .i64 (IntKind.i64.wrap ((W : Int) - r8))] (by rfl) (by exact Spf.lit H8.out _ _)
               ⟨C9, 0, none⟩ k q9 (pairs cs) (by rfl) Hl2.out (by exact (H8.out.alloc _).row) (pairs_one cs) (by unfold maxLen; omega) (by omega) (by have := (H8.out.alloc (.cells #[] 0)).q0.lt; rw [World.size_alloc] at this ⊢; omega) ?_)
           intro v9 w9 hown9 hgr9 hnil9
           obtain ⟨g9, cap9, rfl, ⟨y0, y1⟩, hs⟩ := Spf.front H8.out _ HA.out HB.out Ht.out hown9 hgr9 rfl
           have HP := hid hs
           clear hown9 hgr9 hnil9 hs)
        | (go_simp
           go_at_call 11
           go_must (
           first
           | (refine (next_any T 2 _ H7.out.tape (by omega)).mono ?_
              rintro e w8 ⟨r8, rfl, hr80, hr81, ht8, hg8, -⟩
              have H8 := hid (H7.out.step ht8 hg8)
              obtain ⟨⟨c0, c1', c2, c3, c4⟩, ⟨fz0, fz1, fz2, fz3, fz4⟩, hz⟩ := H8.out.cells
              obtain ⟨f0, f1, f2, f3, f4⟩ := H8.out.f0.five
              have hfl := H8.out.f0.lt
              clear ht8 hg8)
           | (refine (next_any T 4 _ H5d.out.tape (by omega)).mono ?_
              rintro e w7 ⟨r7, rfl, hr70, hr71, ht7, hg7, -⟩
              have H7 := hid (H5d.out.step ht7 hg7)
              obtain ⟨⟨c0, c1', c2, c3, c4⟩, ⟨fz0, fz1, fz2, fz3, fz4⟩, hz⟩ := H7.out.cells
              obtain ⟨f0, f1, f2, f3, f4⟩ := H7.out.f0.five
              have hfl := H7.out.f0.lt
              clear ht7 hg7))))
      all_goals
        go_upto_region 14 with fail
        have H6 := HP
        generalize w9.setCell ⟨w.heap.size + 1 + 1, 4, none⟩ (.slice (some ⟨g9, 0, none⟩) (1 + k) cap9) = wA at *
        clear H7 H8 H5 H5d HP c0 c1' c2 c3 c4 fz0 fz1 fz2 fz3 fz4 hz y0 y1 f0 f1 f2 f3 f4 hfl
        obtain ⟨⟨c0, c1', c2, c3, c4⟩, ⟨fz0, fz1, fz2, fz3, fz4⟩, hz⟩ := H6.out.cells
        obtain ⟨z0, z1, z2, z3, z4⟩ := H6.out.r0.five
        have zf0 := H6.out.r0.frozen 0
        have zf1 := H6.out.r0.frozen 1
        have zf2 := H6.out.r0.frozen 2
        have zf3 := H6.out.r0.frozen 3
        have zf4 := H6.out.r0.frozen 4
        have hzr := H6.out.r0.lt
        go_wp2_with fail
        refine bodyPost_ret (v := .agg #[.int .i64 W, .slice (some ⟨g1, 0, none⟩) n c, .int .i64 W, .slice (some ⟨g2, 0, none⟩) m d, .slice (some ⟨g9, 0, none⟩) (1 + k) cap9]) (by simp [results, Try.results12, go_sem, z0, z1, z2, z3, z4, hzr]) rfl ?_
        exact H6.out.done
    have t0 : (r5 == 0) = false := by simp [e0]
    have t1 : (r5 == 1) = false := by simp [e1]
    have t2 : (r5 == 2) = false := by simp [e2]
    have t3 : (r5 == 3) = false := by simp [e3]
    clear e0 e1 e2 e3 hr0 hr1
    obtain ⟨⟨c0, c1', c2, c3, c4⟩, ⟨fz0, fz1, fz2, fz3, fz4⟩, hz⟩ := H5.out.cells
    by_cases hk0 : 0 < k
    · have H5d := hid (H5.out.below (below_drewN (Below.refl _ _) 1))
      change Hid (Spf w T (cells5 W (some ⟨g1, 0, none⟩) n c W (some ⟨g2, 0, none⟩) m d C k q) W (some ⟨g1, 0, none⟩) n c W (some ⟨g2, 0, none⟩) m d C9 k q9 gs ks cs w5.drew) at H5d
      obtain ⟨x, y, hx, hy⟩ : ∃ x y : Int, (pairs cs)[(k - 1) * 2]? = some (Value.int .i64 x) ∧ (pairs cs)[(k - 1) * 2 + 1]? = some (Value.int .i64 y) := by
        have hl := HL.out
        have hg := pairs_get (List.getElem?_eq_getElem (show k - 1 < cs.length by omega))
        exact ⟨_, _, hg.1, hg.2⟩
      have u0 := H5.out.row _ _ hx
      have u1 := H5.out.row _ _ hy
      rw [add_of] at u0 u1
      have hc9 := (H5.out.own.lt C9 rfl).2
      have w1 : IntKind.i64.wrap ((k : Int) - 1) = (k : Int) - 1 := IntWalk.i64_in _ ⟨by omega, by omega⟩
      have w2 : (1 : Int) ≤ (k : Int) := by omega
      have w3 : (k : Int) - 1 < (k : Int) := by omega
      have w4 : ((k : Int) - 1).toNat = k - 1 := by omega
      have W1 := hid w1; have W4 := hid w4
      have p1 := hid (show k + 1 ≤ maxLen by unfold maxLen; omega)
      have p2 := hid (show (k + 1) * 16 ≤ 140737488355328 by omega)
      have p3 := hid (show w.heap.size + 1 + 1 + 1 ≤ (w5.drew.alloc (.cells #[.int .i64 x, .int .i64 y] 51)).heap.size by have := H5d.out.q0.lt; rw [World.size_alloc]; omega)
      clear hx hy
      go_upto_region 5 with fail
      go_region_law (
        ((refine step_append_lies _ (by rfl) _ _ 26 (by rfl) (w.heap.size + 1 + 1 + 1) 51 i0 _ 2 16 Try.underlying26 Hi.out Hz0.out Hz1.out Hz2.out (by rfl) (by decide) (.slice (some ⟨C9, 0, none⟩) k q9) k (pairs cs) (by rfl) (by exact (H5d.out.alloc _).own)
               ⟨w5.heap.size, 0, none⟩ 1 1 [.int .i64 x, .int .i64 y] (by rfl) rfl (by exact two_new w5.drew _ _ _) (by exact one_pairI _ _) (by decide) p1.out p2.out p3.out _ rfl ?_)
         intro g9 cap9 w9 hown9 hgr9 hat9 hlt9
         obtain ⟨⟨y0, y1⟩, hs⟩ := Spf.push H5d.out _ HA.out HB.out Ht.out hown9 hgr9
         have HP := hid hs
         clear hown9 hgr9 hat9 hlt9 hs))
      all_goals
        clear w1 w2 w3 w4
        go_upto_region 14 with fail
        have H6 := HP
        generalize w9.setCell ⟨w.heap.size + 1 + 1, 4, none⟩ (.slice (some ⟨g9, 0, none⟩) (k + 1) cap9) = wA at *
        clear H5 H5d HP c0 c1' c2 c3 c4 fz0 fz1 fz2 fz3 fz4 hz y0 y1 u0 u1
        obtain ⟨⟨c0, c1', c2, c3, c4⟩, ⟨fz0, fz1, fz2, fz3, fz4⟩, hz⟩ := H6.out.cells
        obtain ⟨z0, z1, z2, z3, z4⟩ := H6.out.r0.five
        have zf0 := H6.out.r0.frozen 0
        have zf1 := H6.out.r0.frozen 1
        have zf2 := H6.out.r0.frozen 2
        have zf3 := H6.out.r0.frozen 3
        have zf4 := H6.out.r0.frozen 4
        have hzr := H6.out.r0.lt
        go_wp2_with fail
        refine bodyPost_ret (v := .agg #[.int .i64 W, .slice (some ⟨g1, 0, none⟩) n c, .int .i64 W, .slice (some ⟨g2, 0, none⟩) m d, .slice (some ⟨g9, 0, none⟩) (k + 1) cap9]) (by simp [results, Try.results12, go_sem, z0, z1, z2, z3, z4, hzr]) rfl ?_
        exact H6.out.done
    · have H6 := H5
      go_upto_region 14 with fail
      clear c0 c1' c2 c3 c4 fz0 fz1 fz2 fz3 fz4 hz
      obtain ⟨⟨c0, c1', c2, c3, c4⟩, ⟨fz0, fz1, fz2, fz3, fz4⟩, hz⟩ := H6.out.cells
      obtain ⟨z0, z1, z2, z3, z4⟩ := H6.out.r0.five
      have zf0 := H6.out.r0.frozen 0
      have zf1 := H6.out.r0.frozen 1
      have zf2 := H6.out.r0.frozen 2
      have zf3 := H6.out.r0.frozen 3
      have zf4 := H6.out.r0.frozen 4
      have hzr := H6.out.r0.lt
      go_wp2_with fail
      refine bodyPost_ret (v := .agg #[.int .i64 W, .slice (some ⟨g1, 0, none⟩) n c, .int .i64 W, .slice (some ⟨g2, 0, none⟩) m d, .slice (some ⟨C9, 0, none⟩) k q9]) (by simp [results, Try.results12, go_sem, z0, z1, z2, z3, z4, hzr]) rfl ?_
      exact H6.out.done
end Go.Proofs.Ytbcnipnjlmobfaa

namespace Go.Proofs.Ytbcnipnjlmobfaa
set_option maxRecDepth 20000
set_option linter.unusedVariables false
open Go.ChangeShapes Go.WideShapes Go.ChangeAt Go.RowKit

def SomeB (w : World) (e : Ending) (w' : World) : Prop := ∃ b : Bool, e = .returned (.bool b) ∧ Below w.heap.size w w'
set_option maxHeartbeats 1600000 in
theorem large_any (W V : Int) (A B C : Option Addr) (n c m d k q : Nat) (w : World) :
    Calls Try.prog 14 #[.agg #[.int .i64 W, .slice A n c, .int .i64 V, .slice B m d, .slice C k q]] w (SomeB w) := by
  have HB := hid ((Below.refl w.heap.size w).alloc (Nat.le_refl _) (.cells #[.int .i64 W, .slice A n c, .int .i64 V, .slice B m d, .slice C k q] 28))
  obtain ⟨f0, f1, f2, f3, f4⟩ := (Fb.new w #[.int .i64 W, .slice A n c, .int .i64 V, .slice B m d, .slice C k q] 28).five
  go_enter Try.func14, Try.ntmps14
  go_wp2
  all_goals go_ret
  all_goals exact ⟨_, rfl, HB.out⟩
end Go.Proofs.Ytbcnipnjlmobfaa

namespace Go.Proofs.Ytbcnipnjlmobfaa
set_option maxRecDepth 10000
open Go.ChangeShapes Go.WideShapes Go.ChangeAt Go.RowKit Go.Joins

theorem cells3 : Try.prog.cellsOf 3 = 1 := by kernel_rfl
theorem cells25 : Try.prog.cellsOf 25 = 2 := by kernel_rfl
theorem cells62 : Try.prog.cellsOf 57 = 1 := by kernel_rfl

theorem cell_in {w : World} {a : Addr} {v : Value} (h : w.cell? a = some v) : a.block < w.heap.size := by
  rcases Nat.lt_or_ge a.block w.heap.size with hlt | hge
  · exact hlt
  · unfold World.cell? at h; rw [Array.getElem?_eq_none hge] at h; cases h

theorem wf_u64 {z : Int} (h : (Lit.int .u64 z).wf = true) : 0 ≤ z ∧ z ≤ 18446744073709551615 := by
  have m0 : IntKind.u64.min = 0 := by decide
  have m1 : IntKind.u64.max = 18446744073709551615 := by decide
  simp [Lit.wf] at h
  omega
theorem open_list {H : Type} {enc : TypeId × Value → H} {W : World} {b0 base : Nat} {spare : Nat → Bool} {held : Bool} {v : Value} {d : DataW H} {p : List MemPlace}
    (hv : Value.okWide Try.prog W .any b0 22 v) (h : DataW.Trod enc Try.prog W base spare held 22 v d p) :
    ∃ (A : Option Addr) (n c : Nat) (l : List Int), v = .slice A n c ∧ IArg W A n l ∧ n ≤ maxLen := by
  obtain ⟨A, n, c, rfl⟩ := okWide_slice Try.underlying22 hv
  obtain ⟨fuel, hf⟩ := h
  rcases open_ints Try.underlying22 Try.underlying3 cells3 hf with ⟨hcs, _⟩ | ⟨x, l, c', zs, hcs, _, hl, hm, hz, _, hcell, hwz⟩
  · simp [Value.cells] at hcs
    obtain ⟨rfl, rfl, rfl⟩ := hcs
    exact ⟨none, 0, 0, [], rfl, ⟨.inl rfl, rfl⟩, by simp [maxLen]⟩
  · simp [Value.cells] at hcs
    obtain ⟨rfl, rfl, rfl⟩ := hcs
    have hle : n ≤ zs.length := by rw [hz]; split <;> omega
    refine ⟨some x, n, c, zs.take n, rfl, ⟨?_, by rw [List.length_take]; omega⟩, Nat.le_trans hl hm⟩
    by_cases h0 : n = 0
    · subst h0; exact .inl rfl
    · refine .inr ⟨x, rfl, ?_, fun j u hu => ?_⟩
      · have := cell_in (hcell 0 (by omega)); rwa [add_block] at this
      · unfold ints at hu
        rw [List.getElem?_map] at hu
        have hj : j < n := by
          rcases Nat.lt_or_ge j n with h | h
          · exact h
          · rw [List.getElem?_eq_none (by rw [List.length_take]; omega)] at hu; simp at hu
        rw [List.getElem?_take, if_pos hj, List.getElem?_eq_getElem (by omega)] at hu
        have := hcell j (by omega)
        rw [List.getD_eq_getElem?_getD, List.getElem?_eq_getElem (by omega)] at this
        rw [this]; simpa using hu

theorem open_set {H : Type} {enc : TypeId × Value → H} {W : World} {b0 base : Nat} {spare : Nat → Bool} {held : Bool} {v : Value} {d : DataW H} {p : List MemPlace}
    (hv : Value.okWide Try.prog W .any b0 25 v) (h : DataW.Trod enc Try.prog W base spare held 25 v d p) :
    ∃ (Wd : Int) (A : Option Addr) (n c : Nat) (ws : List Nat), v = .agg #[.int .i64 Wd, .slice A n c] ∧ Arg W A n ws ∧ n ≤ maxLen := by
  obtain ⟨c0, c1, y0, y1, m, rfl, rfl, rfl, hy0, hy1⟩ := open_agg2 Try.underlying25 (by kernel_rfl) cells25 hv h
  obtain ⟨a, e0, _, _⟩ := DataW.trod_int Try.underlying3 hy0
  simp at e0
  subst e0
  rcases open_ints Try.underlying23 Try.underlying57 cells62 hy1 with ⟨hcs, _⟩ | ⟨x, l, c', zs, hcs, _, hl, hm, hz, _, hcell, hwz⟩
  · simp at hcs
    subst hcs
    exact ⟨a, none, 0, 0, [], rfl, Arg.nil _ _, by simp [maxLen]⟩
  · simp at hcs
    subst hcs
    have hle : l ≤ zs.length := by rw [hz]; split <;> omega
    refine ⟨a, some x, l, c', (zs.take l).map Int.toNat, rfl, ⟨?_, by rw [List.length_map, List.length_take]; omega, ?_⟩, Nat.le_trans hl hm⟩
    · by_cases h0 : l = 0
      · subst h0; exact .inl rfl
      · refine .inr ⟨x, rfl, ?_, fun j u hu => ?_⟩
        · have := cell_in (hcell 0 (by omega)); rwa [add_block] at this
        · unfold words at hu
          rw [List.getElem?_map, List.getElem?_map] at hu
          have hj : j < l := by
            rcases Nat.lt_or_ge j l with h | h
            · exact h
            · rw [List.getElem?_eq_none (by rw [List.length_take]; omega)] at hu; simp at hu
          rw [List.getElem?_take, if_pos hj, List.getElem?_eq_getElem (by omega)] at hu
          have := hcell j (by omega)
          rw [List.getD_eq_getElem?_getD, List.getElem?_eq_getElem (by omega)] at this
          have hw := hwz zs[j] (List.getElem_mem _)
          rw [this]
          simp [u64] at hu ⊢
          rw [← hu]
          have h0 := wf_u64 hw
          simp; omega
    · intro y hy
      obtain ⟨z, hz1, rfl⟩ := List.mem_map.1 hy
      have hw := hwz z (List.mem_of_mem_take hz1)
      unfold Bs.W64
      have h0 := wf_u64 hw
      omega
end Go.Proofs.Ytbcnipnjlmobfaa

namespace Go.Proofs.Ytbcnipnjlmobfaa
set_option maxRecDepth 20000
set_option linter.unusedVariables false
set_option linter.unusedSimpArgs false
open Go.Joins Go.ChangeShapes Go.WideShapes Go.ChangeAt Go.RowKit Go.Deep

theorem flat_at {α β : Type} {f : α → List β} {c : Nat} (hc : ∀ x, (f x).length = c) : ∀ (l : List α) (k : Nat) (u : β), (l.flatMap f)[k]? = some u → ∃ (i : Nat) (x : α) (j : Nat), l[i]? = some x ∧ (f x)[j]? = some u ∧ k = i * c + j := by
  intro l
  induction l with
  | nil => intro k u h; simp at h
  | cons x l ih =>
    intro k u h
    rw [List.flatMap_cons] at h
    rcases Nat.lt_or_ge k (f x).length with hk | hk
    · rw [List.getElem?_append_left hk] at h
      exact ⟨0, x, k, rfl, h, by omega⟩
    · rw [List.getElem?_append_right hk] at h
      obtain ⟨i, y, j, h1, h2, h3⟩ := ih _ _ h
      refine ⟨i + 1, y, j, by simpa using h1, h2, ?_⟩
      rw [hc] at hk h3
      rw [Nat.succ_mul]
      omega
theorem choose_list {α : Type} {P : Nat → α → Prop} : ∀ n : Nat, (∀ i, i < n → ∃ x, P i x) → ∃ l : List α, l.length = n ∧ ∀ (i : Nat) (x : α), l[i]? = some x → P i x := by
  intro n
  induction n with
  | zero => intro _; exact ⟨[], rfl, fun i x h => by simp at h⟩
  | succ n ih =>
    intro h
    obtain ⟨l, hl, hp⟩ := ih fun i hi => h i (by omega)
    obtain ⟨x, hx⟩ := h n (by omega)
    refine ⟨l ++ [x], by simp [hl], fun i y hy => ?_⟩
    rcases Nat.lt_or_ge i l.length with hi | hi
    · rw [List.getElem?_append_left hi] at hy; exact hp i y hy
    · rw [List.getElem?_append_right hi] at hy
      have e : i = n := by
        have : i - l.length < 1 := by simpa using (List.getElem?_eq_some_iff.1 hy).1
        omega
      subst e
      rw [hl, Nat.sub_self] at hy
      simp at hy
      subst hy
      exact hx
section
variable {H : Type} {enc : TypeId × Value → H} {w : World} {base : Nat} {spare : Nat → Bool} {held : Bool}
theorem open_copies {fuel : Nat} {v : Value} {x : DataW H × List MemPlace} (h : DataW.trod enc Try.prog w base spare held fuel 26 [v] = some x) :
    ∃ (A : Option Addr) (n c : Nat) (cs : List (Int × Int)), v = .slice A n c ∧ ArgC w A n cs ∧ n ≤ maxLen := by
  rcases open_slice Try.underlying26 h with ⟨e1, -⟩ | ⟨a, len, cap, m, n, D, Pl, e1, -, hl, hcap, hm, -, hi⟩
  · injection e1 with e1
    exact ⟨none, 0, 0, [], e1, ⟨.inl rfl, rfl⟩, by simp [maxLen]⟩
  · injection e1 with e1
    obtain ⟨l, hll, hp⟩ := choose_list (P := fun i (z : Int × Int) => w.cell? (a.add (i * 2)) = some (.int .i64 z.1) ∧ w.cell? (a.add (i * 2 + 1)) = some (.int .i64 z.2)) len fun i him => by
      have him2 : i < m := by rw [hm]; split <;> omega
      obtain ⟨cs', hc, ht'⟩ := hi i him2
      rw [show Try.prog.cellsOf 51 = 2 by kernel_rfl] at hc
      obtain ⟨_, hcl, hat⟩ := World.cells?_some hc
      obtain ⟨ys, n', hn', hy, hlen, hyl, hf⟩ := DataW.trod_struct Try.underlying51 ht'
      match cs', hcl with
      | [c0, c1], _ =>
        have h0 : DataW.trod enc Try.prog w base spare held n' 3 (([c0, c1].drop 0).take (Try.prog.cellsOf 3)) = ys[0]? := hf 0 _ rfl
        have h1 : DataW.trod enc Try.prog w base spare held n' 3 (([c0, c1].drop 1).take (Try.prog.cellsOf 3)) = ys[1]? := hf 1 _ rfl
        rw [show ys[0]? = some (ys[0]'(by rw [hyl]; decide)) from List.getElem?_eq_getElem _] at h0
        rw [show ys[1]? = some (ys[1]'(by rw [hyl]; decide)) from List.getElem?_eq_getElem _] at h1
        rw [show Try.prog.cellsOf 3 = 1 by kernel_rfl] at h0 h1
        obtain ⟨z0, e0, -⟩ := DataW.trod_int Try.underlying3 h0
        obtain ⟨z1, e1, -⟩ := DataW.trod_int Try.underlying3 h1
        simp at e0 e1
        subst e0; subst e1
        have g0 := hat 0 (by omega)
        have g1 := hat 1 (by omega)
        rw [Go.Deep.add_add] at g0 g1
        exact ⟨(z0, z1), g0, g1⟩
    refine ⟨some a, len, cap, l, e1, ⟨?_, hll⟩, by omega⟩
    by_cases h0 : len = 0
    · subst h0
      rw [List.length_eq_zero_iff.1 hll]
      exact .inl rfl
    · refine .inr ⟨a, rfl, ?_, fun k u hk => ?_⟩
      · have := (hp 0 _ (List.getElem?_eq_getElem (by omega))).1
        have := cell_in this
        rwa [add_block] at this
      · obtain ⟨i, x, j, h1, h2, rfl⟩ := flat_at (f := fun p : Int × Int => [Value.int .i64 p.1, Value.int .i64 p.2]) (c := 2) (fun x => rfl) l k u hk
        obtain ⟨g0, g1⟩ := hp i x h1
        match j, h2 with
        | 0, h2 => simp at h2; subst h2; exact g0
        | 1, h2 => simp at h2; subst h2; exact g1
        | j + 2, h2 => simp at h2
theorem open_wordsT {fuel : Nat} {v : Value} {x : DataW H × List MemPlace} (h : DataW.trod enc Try.prog w base spare held fuel 23 [v] = some x) :
    ∃ (A : Option Addr) (n c : Nat) (ws : List Nat), v = .slice A n c ∧ Arg w A n ws ∧ n ≤ maxLen := by
  rcases open_ints Try.underlying23 Try.underlying57 cells62 h with ⟨hcs, _⟩ | ⟨x, l, c', zs, hcs, _, hl, hm, hz, _, hcell, hwz⟩
  · simp at hcs
    exact ⟨none, 0, 0, [], hcs, Arg.nil _ _, by simp [maxLen]⟩
  · simp at hcs
    have hle : l ≤ zs.length := by rw [hz]; split <;> omega
    refine ⟨some x, l, c', (zs.take l).map Int.toNat, hcs, ⟨?_, by rw [List.length_map, List.length_take]; omega, ?_⟩, Nat.le_trans hl hm⟩
    · by_cases h0 : l = 0
      · subst h0; exact .inl rfl
      · refine .inr ⟨x, rfl, ?_, fun j u hu => ?_⟩
        · have := cell_in (hcell 0 (by omega)); rwa [add_block] at this
        · unfold words at hu
          rw [List.getElem?_map, List.getElem?_map] at hu
          have hj : j < l := by
            rcases Nat.lt_or_ge j l with h | h
            · exact h
            · rw [List.getElem?_eq_none (by rw [List.length_take]; omega)] at hu; simp at hu
          rw [List.getElem?_take, if_pos hj, List.getElem?_eq_getElem (by omega)] at hu
          have := hcell j (by omega)
          rw [List.getD_eq_getElem?_getD, List.getElem?_eq_getElem (by omega)] at this
          have hw := hwz zs[j] (List.getElem_mem _)
          rw [this]
          simp [u64] at hu ⊢
          rw [← hu]
          have h0 := wf_u64 hw
          simp; omega
    · intro y hy
      obtain ⟨z, hz1, rfl⟩ := List.mem_map.1 hy
      have hw := hwz z (List.mem_of_mem_take hz1)
      unfold Bs.W64
      have h0 := wf_u64 hw
      omega
theorem open_setT {fuel : Nat} {cs : List Value} {x : DataW H × List MemPlace} (h : DataW.trod enc Try.prog w base spare held fuel 25 cs = some x) :
    ∃ (Wd : Int) (A : Option Addr) (n c : Nat) (ws : List Nat), cs = [.int .i64 Wd, .slice A n c] ∧ Arg w A n ws ∧ n ≤ maxLen := by
  obtain ⟨ys, n', hn', hy, hlen, hyl, hf⟩ := DataW.trod_struct Try.underlying25 h
  rw [cells25] at hlen
  match cs, hlen with
  | [c0, c1], _ =>
    have h0 : DataW.trod enc Try.prog w base spare held n' 3 (([c0, c1].drop 0).take (Try.prog.cellsOf 3)) = ys[0]? := hf 0 _ rfl
    have h1 : DataW.trod enc Try.prog w base spare held n' 23 (([c0, c1].drop 1).take (Try.prog.cellsOf 23)) = ys[1]? := hf 1 _ rfl
    rw [show ys[0]? = some (ys[0]'(by rw [hyl]; decide)) from List.getElem?_eq_getElem _] at h0
    rw [show ys[1]? = some (ys[1]'(by rw [hyl]; decide)) from List.getElem?_eq_getElem _] at h1
    rw [show Try.prog.cellsOf 3 = 1 by kernel_rfl] at h0
    rw [show Try.prog.cellsOf 23 = 1 by kernel_rfl] at h1
    obtain ⟨z0, e0, -⟩ := DataW.trod_int Try.underlying3 h0
    obtain ⟨A, n, c, ws, e1, hA, hn⟩ := open_wordsT h1
    simp at e0
    subst e0; subst e1
    exact ⟨z0, A, n, c, ws, rfl, hA, hn⟩
theorem open_transferT {fuel : Nat} {cs : List Value} {x : DataW H × List MemPlace} (h : DataW.trod enc Try.prog w base spare held fuel 28 cs = some x) :
    ∃ (W V : Int) (A B C : Option Addr) (n c m d k q : Nat) (gs ks : List Nat) (ps : List (Int × Int)), cs = [.int .i64 W, .slice A n c, .int .i64 V, .slice B m d, .slice C k q] ∧ FArg w A n B m C k gs ks ps := by
  obtain ⟨ys, n', hn', hy, hlen, hyl, hf⟩ := DataW.trod_struct Try.underlying28 h
  rw [show Try.prog.cellsOf 28 = 5 by kernel_rfl] at hlen
  match cs, hlen with
  | [c0, c1, c2, c3, c4], _ =>
    have h0 : DataW.trod enc Try.prog w base spare held n' 25 (([c0, c1, c2, c3, c4].drop 0).take (Try.prog.cellsOf 25)) = ys[0]? := hf 0 _ rfl
    have h1 : DataW.trod enc Try.prog w base spare held n' 25 (([c0, c1, c2, c3, c4].drop 2).take (Try.prog.cellsOf 25)) = ys[1]? := hf 1 _ rfl
    have h2 : DataW.trod enc Try.prog w base spare held n' 26 (([c0, c1, c2, c3, c4].drop 4).take (Try.prog.cellsOf 26)) = ys[2]? := hf 2 _ rfl
    rw [show ys[0]? = some (ys[0]'(by rw [hyl]; decide)) from List.getElem?_eq_getElem _] at h0
    rw [show ys[1]? = some (ys[1]'(by rw [hyl]; decide)) from List.getElem?_eq_getElem _] at h1
    rw [show ys[2]? = some (ys[2]'(by rw [hyl]; decide)) from List.getElem?_eq_getElem _] at h2
    rw [cells25] at h0 h1
    rw [show Try.prog.cellsOf 26 = 1 by kernel_rfl] at h2
    obtain ⟨W, A, n, c, gs, e0, hA, -⟩ := open_setT h0
    obtain ⟨V, B, m, d, ks, e1, hB, -⟩ := open_setT h1
    obtain ⟨C, k, q, ps, e2, hC, -⟩ := open_copies h2
    simp at e0 e1
    obtain ⟨rfl, rfl⟩ := e0
    obtain ⟨rfl, rfl⟩ := e1
    subst e2
    exact ⟨W, V, A, B, C, n, c, m, d, k, q, gs, ks, ps, rfl, ⟨hA, hB, hC⟩⟩
theorem open_transfer {r : Reach} {b0 : Nat} {v : Value} {d : DataW H} {p : List MemPlace} (hv : Value.okWide Try.prog w r b0 28 v) (h : DataW.Trod enc Try.prog w base spare held 28 v d p) :
    ∃ (W V : Int) (A B C : Option Addr) (n c m d k q : Nat) (gs ks : List Nat) (ps : List (Int × Int)), v = .agg #[.int .i64 W, .slice A n c, .int .i64 V, .slice B m d, .slice C k q] ∧ FArg w A n B m C k gs ks ps := by
  obtain ⟨cs, rfl, hsz⟩ := okWide_struct Try.underlying28 hv
  obtain ⟨fuel, hf⟩ := h
  obtain ⟨W, V, A, B, C, n, c, m, d, k, q, gs, ks, ps, e, hF⟩ := open_transferT hf
  refine ⟨W, V, A, B, C, n, c, m, d, k, q, gs, ks, ps, ?_, hF⟩
  obtain ⟨l⟩ := cs
  simp [Value.cells] at e
  rw [e]
end
end Go.Proofs.Ytbcnipnjlmobfaa

namespace Go.Proofs.Ytbcnipnjlmobfaa
set_option maxRecDepth 20000
set_option linter.unusedVariables false
set_option linter.unusedSimpArgs false
open Go.ChangeShapes Go.WideShapes Go.ChangeAt Go.RowKit

/-- The function's box, its parts, and the tape. -/
structure Tw (w1 : World) (T b W g1 g2 : Nat) (C : Option Addr) (k q : Nat) (gs ks : List Nat) (cs : List (Int × Int)) (v : World) : Prop where
  go : Going w1 T v
  bx : Fb v b #[.int .i64 W, .slice (some ⟨g1, 0, none⟩) (Bs.nw W) (Bs.nw W), .int .i64 W, .slice (some ⟨g2, 0, none⟩) (Bs.nw W) (Bs.nw W), .slice C k q] 28
  ne : b ≠ T
  gen : Arg v (some ⟨g1, 0, none⟩) (Bs.nw W) gs
  kill : Arg v (some ⟨g2, 0, none⟩) (Bs.nw W) ks
  cops : ArgC v C k cs
section
variable {w1 v v' : World} {T b W g1 g2 k q : Nat} {C : Option Addr} {gs ks : List Nat} {cs : List (Int × Int)}
theorem Tw.step (h : Tw w1 T b W g1 g2 C k q gs ks cs v) (ht : Tape v' T) (hg : v.grownBy v' (some T)) : Tw w1 T b W g1 g2 C k q gs ks cs v' :=
  ⟨h.go.step ht hg, h.bx.grown hg (by intro e; exact h.ne (Option.some.inj e)), h.ne, h.gen.tape h.go.1 hg, h.kill.tape h.go.1 hg, h.cops.tape h.go.1 hg⟩
theorem Tw.below (h : Tw w1 T b W g1 g2 C k q gs ks cs v) (hb : Below v.heap.size v v') : Tw w1 T b W g1 g2 C k q gs ks cs v' :=
  ⟨h.go.below hb, h.bx.below hb h.bx.lt, h.ne, h.gen.below hb, h.kill.below hb, h.cops.below hb⟩
theorem Tw.f (h : Tw w1 T b W g1 g2 C k q gs ks cs v) : FArg v (some ⟨g1, 0, none⟩) (Bs.nw W) (some ⟨g2, 0, none⟩) (Bs.nw W) C k gs ks cs := ⟨h.gen, h.kill, h.cops⟩
end
theorem FArg.tape {v v' : World} {T : Nat} {A B C : Option Addr} {n m k : Nat} {gs ks : List Nat} {cs : List (Int × Int)} (h : FArg v A n B m C k gs ks cs) (ht : Tape v T) (hg : v.grownBy v' (some T)) : FArg v' A n B m C k gs ks cs :=
  ⟨h.gen.tape ht hg, h.kill.tape ht hg, h.cops.tape ht hg⟩
theorem nw_small {W : Nat} (h : W ≤ 16) : Bs.nw W ≤ 50 := by unfold Bs.nw; omega
set_option maxHeartbeats 12800000 in
theorem lawApplies (At : Option Addr) (nt ct : Nat) (zs : List Int) (V0 V1 X a b : Int) (A B C D : Option Addr) (n c m d k q x y : Nat) (gs ks ss : List Nat) (cs : List (Int × Int)) (w : World)
    (ht : IArg w At nt zs) (hnt : nt ≤ maxLen) (hF : FArg w A n B m C k gs ks cs) (hD : Arg w D x ss) :
    Calls Try.prog 3 #[.slice At nt ct, .agg #[.int .i64 V0, .slice A n c, .int .i64 V1, .slice B m d, .slice C k q], .agg #[.int .i64 X, .slice D x y], .int .i64 a, .int .i64 b] w
      fun e w' => e = .returned (.bool true) ∧ Below w.heap.size w w' := by
  have hb0 := ((Below.refl w.heap.size w).alloc (Nat.le_refl _) (.cells #[.int .i64 V0, .slice A n c, .int .i64 V1, .slice B m d, .slice C k q] 28)).alloc (by simp) (.cells #[.int .i64 X, .slice D x y] 25)
  have F0 := hid ((Fb.new w #[.int .i64 V0, .slice A n c, .int .i64 V1, .slice B m d, .slice C k q] 28).alloc (.cells #[.int .i64 X, .slice D x y] 25))
  have S0 := hid (show Fb _ (w.heap.size + 1) #[.int .i64 X, .slice D x y] 25 from by
    have := Fb.new (w.alloc (.cells #[.int .i64 V0, .slice A n c, .int .i64 V1, .slice B m d, .slice C k q] 28)) #[.int .i64 X, .slice D x y] 25
    rw [World.size_alloc] at this; exact this)
  have HB0 := hid hb0
  have HF := hid (hF.below hb0)
  have HD := hid (hD.below hb0)
  have HT := hid (ht.below hb0)
  clear hb0 ht hF hD
  go_enter Try.func3, Try.ntmps3
  go_wp2_with fail
  generalize (w.alloc (.cells #[.int .i64 V0, .slice A n c, .int .i64 V1, .slice B m d, .slice C k q] 28)).alloc (.cells #[.int .i64 X, .slice D x y] 25) = w1 at *
  have hG : ∃ G, w.heap.size = G := ⟨_, rfl⟩
  obtain ⟨G, hG⟩ := hG
  have HGe := hid hG
  rw [hG] at F0 S0
  rw [hG]
  clear hG
  refine (new_any At nt ct _).mono ?_
  rintro e w2 ⟨rfl, rfl⟩
  have Hinv := hid (show Going w1 w1.heap.size (w1.alloc (.cells #[.slice At nt ct, .int .i64 0] 48)) from ⟨tape_new HT.out hnt, (Below.refl _ _).alloc (Nat.le_refl _) _, Nat.le_refl _⟩)
  clear HT
  go_wp2_with fail
  generalize w1.alloc (.cells #[.slice At nt ct, .int .i64 0] 48) = w2 at *
  generalize w1.heap.size = T at Hinv ⊢
  go_loopw [12, 13, 14] (fun iv _ _ wr => ∃ i : Nat, i ≤ 5 ∧ iv = .int .i64 i ∧ Hid (Going w1 T wr)) (fun iv _ _ _ => 5 - (intOf iv).toNat)
  case atStart => exact ⟨0, by omega, rfl, Hinv⟩
  case round =>
    clear Hinv
    obtain ⟨i, hi, rfl, HI⟩ := hrel
    by_cases hlt : i < 5
    · go_wp2_with fail
      refine (width_any T _ HI.out.1).mono ?_
      rintro e w2 ⟨W, rfl, hW, ht2, hg2⟩
      have H2 := hid (HI.out.step ht2 hg2)
      clear ht2 hg2 HI
      go_wp2_with fail
      refine (transfer2_any T W _ H2.out.1 (by omega)).mono ?_
      rintro e w3 ⟨g1, g2, C9, k9, q9, gs9, ks9, cs9, rfl, hA, hB, hC, hv, h12, ht3, hg3⟩
      have H3 := H2.out.step ht3 hg3
      have hal := (Below.refl w3.heap.size w3).alloc (Nat.le_refl _) (.cells #[.int .i64 W, .slice (some ⟨g1, 0, none⟩) (Bs.nw W) (Bs.nw W), .int .i64 W, .slice (some ⟨g2, 0, none⟩) (Bs.nw W) (Bs.nw W), .slice C9 k9 q9] 28)
      have HW := hid (show Tw w1 T w3.heap.size W g1 g2 C9 k9 q9 gs9 ks9 cs9 _ from ⟨H3.below hal, Fb.new w3 _ _, by have := ht3.lt; omega, hA.below hal, hB.below hal, hC.below hal⟩)
      have hk9 : k9 ≤ 12 := by have := hC.len; omega
      have hnw := nw_small (show W ≤ 16 by omega)
      clear hA hB hC hv h12 ht3 hg3 H3 hal H2
      go_wp2_with fail
      generalize w3.alloc (.cells #[.int .i64 W, .slice (some ⟨g1, 0, none⟩) (Bs.nw W) (Bs.nw W), .int .i64 W, .slice (some ⟨g2, 0, none⟩) (Bs.nw W) (Bs.nw W), .slice C9 k9 q9] 28) = w4 at *
      generalize w3.heap.size = bx at *
      have HW := hid (HW.out.below (Below.refl _ _).drew)
      have e2 : IntKind.i64.wrap ((W : Int) + 2) = (W : Int) + 2 := IntWalk.i64_in _ (by omega)
      have e1 : IntKind.i64.wrap ((W : Int) + 1) = ((W + 1 : Nat) : Int) := by rw [IntWalk.i64_in _ (by omega)]; omega
      have HM := hid (fun r : Int => fun (h0 : 0 ≤ r) (h1 : r ≤ 20) => (IntWalk.i64_in (r - 1) (by omega) : IntKind.i64.wrap (r - 1) = r - 1))
      have K1 : Hid True := hid trivial
      have K2 : Hid True := hid trivial
      have K3 : Hid True := hid trivial
      have K4 : Hid True := hid trivial
      have K6 : Hid True := hid trivial
      have K7 : Hid True := hid trivial
      have K8 : Hid True := hid trivial
      have K9 : Hid True := hid trivial
      have hW9 : W ≤ 8 := by omega
      clear hW
      go_region_held3 (fun v => v.cell? ⟨bx, 0, none⟩ = some (.int .i64 W) ∧ v.cell? ⟨bx, 1, none⟩ = some (.slice (some ⟨g1, 0, none⟩) (Bs.nw W) (Bs.nw W)) ∧ v.cell? ⟨bx, 2, none⟩ = some (.int .i64 W) ∧ v.cell? ⟨bx, 3, none⟩ = some (.slice (some ⟨g2, 0, none⟩) (Bs.nw W) (Bs.nw W)) ∧ v.cell? ⟨bx, 4, none⟩ = some (.slice C9 k9 q9))
        (exact HW.out.bx.five)
        (first
         | (go_at_call 10
            clear K1
            refine (set_any T W _ HW.out.go.1 (by omega)).mono ?_
            rintro e v1 ⟨a1, n1, c1, s1, rfl, hf1, hS1, ht1, hg1⟩
            have HS1 := hid hS1
            have HW := hid (HW.out.step ht1 hg1)
            clear hf1 hS1 ht1 hg1)
         | (go_at_call 11
            clear K2
            refine (next_any T _ _ HW.out.go.1 (by omega)).mono ?_
            rintro e v2 ⟨r2, rfl, hr2, hr2b, ht2, hg2, -⟩
            have HS1 := hid (HS1.out.tape HW.out.go.1 hg2)
            have HW := hid (HW.out.step ht2 hg2)
            have hr2c : r2 ≤ 20 := by omega
            have em2 := HM.out r2 hr2 hr2c
            clear ht2 hg2 hr2b)
         | (go_at_call 11
            clear K3
            refine (next_any T _ _ HW.out.go.1 (by omega)).mono ?_
            rintro e v3 ⟨r3, rfl, hr3, hr3b, ht3, hg3, -⟩
            have HS1 := hid (HS1.out.tape HW.out.go.1 hg3)
            have HW := hid (HW.out.step ht3 hg3)
            have hr3c : r3 ≤ 20 := by omega
            have em3 := HM.out r3 hr3 hr3c
            clear ht3 hg3 hr3b)
         | (go_at_call 9
            clear K4
            refine (reads_any W W W _ _ _ _ _ _ _ _ _ _ _ _ _ _ gs9 ks9 s1 cs9 _ HW.out.f HS1.out).mono ?_
            rintro e v4 ⟨rfl, hb4⟩
            have HW := hid (HW.out.below hb4)
            clear hb4 HS1)
         | (go_at_call 12
            refine (spoilT_any T W g1 g2 _ _ _ _ k9 q9 C9 gs9 ks9 cs9 _ HW.out.go.1 HW.out.gen HW.out.kill HW.out.cops hk9 (by omega) hnw hnw).mono ?_
            rintro e v5 ⟨W5, V5, A5, n5, c5, B5, m5, d5, C5, k5, q5, gs5, ks5, cs5, rfl, hf5, ht5, hg5⟩
            have HF5 := hid hf5
            have HW := hid (HW.out.step ht5 hg5)
            clear hf5 ht5 hg5)
         | (go_at_call 10
            clear K6
            refine (set_any T W _ HW.out.go.1 (by omega)).mono ?_
            rintro e v6 ⟨a6, n6, c6, s6, rfl, hf6, hS6, ht6, hg6⟩
            have HS6 := hid hS6
            have HF5 := hid (HF5.out.tape HW.out.go.1 hg6)
            have HW := hid (HW.out.step ht6 hg6)
            clear hf6 hS6 ht6 hg6)
         | (go_at_call 9
            clear K7
            refine (reads_any W5 V5 W _ _ _ _ _ _ _ _ _ _ _ _ _ _ gs5 ks5 s6 cs5 _ HF5.out HS6.out).mono ?_
            rintro e v7 ⟨rfl, hb7⟩
            have HW := hid (HW.out.below hb7)
            clear hb7 HF5 HS6)
         | (go_at_call 10
            clear K8
            refine (set_any T (W + 1) _ HW.out.go.1 (by omega)).mono ?_
            rintro e v8 ⟨a8, n8, c8, s8, rfl, hf8, hS8, ht8, hg8⟩
            have HS8 := hid hS8
            have HW := hid (HW.out.step ht8 hg8)
            clear hf8 hS8 ht8 hg8)
         | (go_at_call 9
            clear K9
            refine (reads_any W W _ _ _ _ _ _ _ _ _ _ _ _ _ _ _ gs9 ks9 s8 cs9 _ HW.out.f HS8.out).mono ?_
            rintro e v9 ⟨rfl, hb9⟩
            have HW := hid (HW.out.below hb9)
            clear hb9 HS8)
         | (go_at_call 10
            refine (set_any T W _ HW.out.go.1 (by omega)).mono ?_
            rintro e v10 ⟨a10, n10, c10, s10, rfl, hf10, hS10, ht10, hg10⟩
            have HS10 := hid hS10
            have hn10 : n10 ≤ 50 := by have h1 := hS10.len; have h2 := hf10.len; omega
            have HW := hid (HW.out.step ht10 hg10)
            clear hf10 hS10 ht10 hg10)
         | (go_at_call 13
            refine (spoil_any T W a10 n10 _ s10 _ HW.out.go.1 HS10.out hn10 (by omega) (by omega)).mono ?_
            rintro e v11 ⟨W11, A11, n11, c11, s11, rfl, hn11, hS11, ht11, hg11⟩
            have HS11 := hid hS11
            have HW := hid (HW.out.step ht11 hg11)
            clear hS11 ht11 hg11)
         | (go_at_call 9
            refine (reads_any W W W11 _ _ _ _ _ _ _ _ _ _ _ _ _ _ gs9 ks9 s11 cs9 _ HW.out.f HS11.out).mono ?_
            rintro e v12 ⟨rfl, hb12⟩
            have HW := hid (HW.out.below hb12)
            clear hb12 HS11))
      all_goals
        clear e2 e1 HM
        go_wp2_with fail
        go_roundw
        case rel => exact ⟨i + 1, by omega, by go_num, hid HW.out.go⟩
        case measure => simp [intOf]; omega
    · obtain rfl : i = 5 := by omega
      have HBw := hid (show Below w.heap.size w wr from below_step HB0.out HI.out.2.1)
      have HF9 := hid (HF.out.below HI.out.2.1)
      have HD9 := hid (HD.out.below HI.out.2.1)
      have F9 := hid (F0.out.below HI.out.2.1 F0.out.lt)
      have S9 := hid (S0.out.below HI.out.2.1 S0.out.lt)
      clear HF HD F0 S0 HB0 HI
      obtain ⟨c0, c1, c2, c3, c4⟩ := F9.out.five
      go_wp2_with fail
      refine (large_any V0 V1 A B C n c m d k q _).mono ?_
      rintro e w5 ⟨r, rfl, hb5⟩
      have HB5 := hid (below_step HBw.out hb5)
      have HF5 := hid (HF9.out.below hb5)
      have HD5 := hid (HD9.out.below hb5)
      have F5 := hid (F9.out.below hb5 F9.out.lt)
      have S5 := hid (S9.out.below hb5 S9.out.lt)
      clear hb5 c0 c1 c2 c3 c4 HF9 HD9 F9 S9 HBw
      obtain ⟨c0, c1, c2, c3, c4⟩ := F5.out.five
      obtain ⟨s0, s1⟩ := S5.out.two
      cases r with
      | true =>
        go_wp2_with fail
        go_ret
        exact ⟨rfl, HB5.out⟩
      | false =>
        go_wp2_with fail
        refine (reads_any V0 V1 X a b A B C D n c m d k q x y gs ks ss cs _ HF5.out HD5.out).mono ?_
        rintro e w6 ⟨rfl, hb6⟩
        have HB6 := hid (below_step HB5.out hb6)
        clear hb6 c0 c1 c2 c3 c4 s0 s1
        go_wp2_with fail
        refine (sane_any _).mono ?_
        rintro e w7 ⟨rfl, hb7⟩
        have HB7 := hid (below_step HB6.out hb7)
        clear hb7
        go_wp2_with fail
        go_ret
        exact ⟨rfl, HB7.out⟩
end Go.Proofs.Ytbcnipnjlmobfaa

namespace Go.Proofs.Ytbcnipnjlmobfaa.transferApplies
open Go.ChangeShapes Go.WideShapes Go.ChangeAt Go.RowKit
open Go.ChangeMaps (open_string)
set_option linter.unusedVariables false

theorem own : ownKnob Try.prog.godebug = none := by kernel_rfl
theorem laidOut : laidOutB Try.prog = true := by kernel_rfl

set_option maxRecDepth 100000 in
theorem lifted (os : Os) (started : os.Started) (H : Type) (enc : TypeId × Value → H) :
    ReturnsInHanded {} Try.checked os 3 .any (Rows.transferAppliesSpec.pre6 enc Try.prog Try.f3 Rows.transferAppliesRow.domain false) (Rows.transferAppliesSpec.post enc Try.prog Try.f3 false true false false) := by
  refine returnsInHanded_of_change (C := Try.checked) own started (by kernel_rfl) Try.func3
    (ChangeSpec.witness6 (enc := enc) (C := Try.checked) false ⟨#[], #[.slice none 0 0, .agg #[.int .i64 0, .slice none 0 0, .int .i64 0, .slice none 0 0, .slice none 0 0], .agg #[.int .i64 0, .slice none 0 0], .int .i64 0, .int .i64 0], []⟩ 8 (by kernel_rfl) (by kernel_rfl) (by kernel_rfl) (by kernel_rfl)) ?_
  intro W base args ds gs before hval0 hW hcnd _
  have hval : ∀ (j : Nat) t v, Try.f3.params[j]? = some t → args[j]? = some v → Value.okWide Try.prog W .any base t v := hval0
  have hW' := hW
  obtain ⟨p, q, hA0, hV, rfl, hfz, hnd⟩ := hW
  have hA : DataW.TrodAll enc Try.prog W 0 (fun _ => true) true Try.f3.params.toList args.toList ds p := hA0
  rw [Try.params3] at hA hval
  obtain ⟨v0, vs0, d0, ds0, p0, q0, hargs, rfl, rfl, h0, r0⟩ := trodAll_cons hA
  obtain ⟨v1, vs1, d1, ds1, p1, q1, rfl, rfl, rfl, h1, r1⟩ := trodAll_cons r0
  obtain ⟨v2, vs2, d2, ds2, p2, q2, rfl, rfl, rfl, h2, r2⟩ := trodAll_cons r1
  obtain ⟨v3, vs3, d3, ds3, p3, q3, rfl, rfl, rfl, h3, r3⟩ := trodAll_cons r2
  obtain ⟨v4, vs4, d4, ds4, p4, q4, rfl, rfl, rfl, h4, r4⟩ := trodAll_cons r3
  obtain ⟨rfl, rfl, rfl⟩ := trodAll_nil r4
  obtain rfl : args = #[v0, v1, v2, v3, v4] := by cases args; simp_all
  obtain ⟨rfl, rfl⟩ := trodVars_none hV
  have k0 := h0
  have lt0 : ∀ x ∈ p0, x.block < W.heap.size := by obtain ⟨m, hm⟩ := k0; exact DataW.trod_lt m _ _ _ hm
  obtain ⟨a0, n0, c0, l0, rfl, g0, m0⟩ := open_list (hval 0 22 v0 rfl rfl) h0
  have k1 := h1
  have lt1 : ∀ x ∈ p1, x.block < W.heap.size := by obtain ⟨m, hm⟩ := k1; exact DataW.trod_lt m _ _ _ hm
  obtain ⟨uV1, uU1, uA1, uB1, uC1, un1, uc1, um1, ud1, uk1, uq1, ugs1, uks1, ups1, rfl, g1⟩ := open_transfer (hval 1 28 v1 rfl rfl) h1
  have k2 := h2
  have lt2 : ∀ x ∈ p2, x.block < W.heap.size := by obtain ⟨m, hm⟩ := k2; exact DataW.trod_lt m _ _ _ hm
  obtain ⟨b2, a2, n2, c2, l2, rfl, g2, m2⟩ := open_set (hval 2 25 v2 rfl rfl) h2
  have k3 := h3
  have lt3 : ∀ x ∈ p3, x.block < W.heap.size := by obtain ⟨m, hm⟩ := k3; exact DataW.trod_lt m _ _ _ hm
  obtain ⟨a3, rfl, -, -, g3⟩ := open_int Try.underlying3 (hval 3 3 v3 rfl rfl) h3
  have k4 := h4
  have lt4 : ∀ x ∈ p4, x.block < W.heap.size := by obtain ⟨m, hm⟩ := k4; exact DataW.trod_lt m _ _ _ hm
  obtain ⟨a4, rfl, -, -, g4⟩ := open_int Try.underlying3 (hval 4 3 v4 rfl rfl) h4
  clear hA0 hval0
  refine (lawApplies a0 n0 c0 l0 uV1 uU1 b2 a3 a4 uA1 uB1 uC1 a2 un1 uc1 um1 ud1 uk1 uq1 n2 c2 ugs1 uks1 l2 ups1 W g0 m0 g1 g2).mono fun e W' ⟨he, bel⟩ => ?_
  subst he
  exact ⟨_, rfl, _, _, _, [], _, [], hW', trodAll_mk1 (shut_bool Try.underlying4 _), (trodAll_cons_mk (Below.trod laidOut (by kernel_rfl) (of_decide_eq_true (by kernel_rfl)) k0 bel lt0) (trodAll_cons_mk (Below.trod laidOut (by kernel_rfl) (of_decide_eq_true (by kernel_rfl)) k1 bel lt1) (trodAll_cons_mk (Below.trod laidOut (by kernel_rfl) (of_decide_eq_true (by kernel_rfl)) k2 bel lt2) (trodAll_cons_mk (Below.trod laidOut (by kernel_rfl) (of_decide_eq_true (by kernel_rfl)) k3 bel lt3) (trodAll_cons_mk (Below.trod laidOut (by kernel_rfl) (of_decide_eq_true (by kernel_rfl)) k4 bel lt4) trodAll_mk0))))), rfl, bel.frame _, fun h => by cases h⟩

theorem over : Rows.transferAppliesRow.holds Try.pinned (OpenSpec.ofChange Rows.transferAppliesSpec) :=
  OpenClaim.holds_of_wide 3 Try.f3 rfl rfl rfl rfl rfl rfl rfl ⟨rfl, rfl, rfl, rfl, rfl⟩ rfl rfl rfl rfl rfl (by kernel_rfl) Try.func3 (by kernel_rfl)
    (of_decide_eq_true (by kernel_rfl)) (by unfold Func.isWrapper; first | (rw [if_pos (by decide +kernel)]; kernel_rfl) | (rw [if_neg (by decide +kernel)]; exact ⟨rfl, rfl⟩))
    (fun os started H enc _ => lifted os started H enc)

theorem proved : Rows.TransferAppliesSaid := over
#print axioms proved
end Go.Proofs.Ytbcnipnjlmobfaa.transferApplies
