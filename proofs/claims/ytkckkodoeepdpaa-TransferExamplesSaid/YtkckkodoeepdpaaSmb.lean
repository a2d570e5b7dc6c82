/- The package's Same and Below: whether two functions are equal, and whether the one lies below the other. -/
import Derived.Test.YtkckkodoeepdpaaJow
namespace Go.Proofs.Ytkckkodoeepdpaa
set_option maxRecDepth 20000
open Go.ChangeShapes Go.WideShapes Go.ChangeAt Go.RowKit

/-- P3.4, as the package says it: the canonical functions are equal. -/
def sameD (W : Int) (gs : List Nat) (V : Int) (ks : List Nat) (cs : List (Int × Int)) (W' : Int) (gs' : List Nat) (V' : Int) (ks' : List Nat) (cs' : List (Int × Int)) : Bool :=
  validT W gs V ks cs && validT W' gs' V' ks' cs' &&
    equal2 (canR W gs V ks cs).1 (canR W gs V ks cs).2.1 (canR W gs V ks cs).1 (canR W gs V ks cs).2.2.1 (canR W gs V ks cs).2.2.2.1 (canR W' gs' V' ks' cs').1 (canR W' gs' V' ks' cs').2.1 (canR W' gs' V' ks' cs').1 (canR W' gs' V' ks' cs').2.2.1 (canR W' gs' V' ks' cs').2.2.2.1
theorem canR_err {W : Int} {gs : List Nat} {V : Int} {ks : List Nat} {cs : List (Int × Int)} : (canR W gs V ks cs).2.2.2.2 = if validT W gs V ks cs = false then 1 else 0 := by
  unfold canR
  by_cases h : validT W gs V ks cs = false
  · rw [if_pos h, if_pos h]
  · rw [if_neg h, if_neg h]
theorem canR_small {W : Int} {gs : List Nat} {V : Int} {ks : List Nat} {cs : List (Int × Int)} {w : World} {A B C : Option Addr} {n m k : Nat} (hF : FArg w A n B m C k gs ks cs) :
    (canR W gs V ks cs).2.1.length ≤ 100 ∧ (canR W gs V ks cs).2.2.1.length ≤ 100 ∧ (canR W gs V ks cs).2.2.2.1.length ≤ 70000 := by
  unfold canR
  by_cases h : validT W gs V ks cs = false
  · rw [if_pos h]; simp
  · rw [if_neg h]
    obtain ⟨h1, h2, h3, h4, h5⟩ := validT_iff (by simpa using h)
    subst h3
    obtain ⟨v, rfl⟩ := Int.eq_ofNat_of_zero_le (Bs.validB_iff.1 h1).1
    have hv256 : v ≤ 256 := by have := (Bs.validB_iff.1 h1).2.1; omega
    rw [Int.toNat_natCast]
    have a1 := (fit_of_valid' h1 hF.gen).len
    have a2 := (fit_killTo gs (oneR gs (folB v ks cs) v) v v).len
    have a3 := copsTo_len gs (oneR gs (folB v ks cs) v) v v
    have a4 : v * v ≤ 256 * 256 := Nat.mul_le_mul hv256 hv256
    unfold Bs.nw at a1 a2
    dsimp only
    refine ⟨by omega, by omega, by omega⟩

set_option maxHeartbeats 800000 in
theorem devSame_any (W V : Int) (A B C : Option Addr) (n c m d k q : Nat) (gs ks : List Nat) (cs : List (Int × Int)) (W' V' : Int) (A' B' C' : Option Addr) (n' c' m' d' k' q' : Nat) (gs' ks' : List Nat) (cs' : List (Int × Int)) (w : World)
    (hF : FArg w A n B m C k gs ks cs) (hG : FArg w A' n' B' m' C' k' gs' ks' cs') :
    Calls Try.prog 39 #[.agg #[.int .i64 W, .slice A n c, .int .i64 V, .slice B m d, .slice C k q], .agg #[.int .i64 W', .slice A' n' c', .int .i64 V', .slice B' m' d', .slice C' k' q']] w
      fun e w' => e = .returned (.bool (sameD W gs V ks cs W' gs' V' ks' cs')) ∧ Below w.heap.size w w' := by
  have HF := hid hF; have HG := hid hG
  have H0 := hid (TwoT.start w W V A B C n c m d k q W' V' A' B' C' n' c' m' d' k' q')
  have hsm := canR_small (W := W) (V := V) hF
  have Hsm := hid hsm
  have He1 := hid (canR_err (W := W) (gs := gs) (V := V) (ks := ks) (cs := cs))
  have He2 := hid (canR_err (W := W') (gs := gs') (V := V') (ks := ks') (cs := cs'))
  have HF0 := hid (HF.out.below H0.out.2.2)
  clear hF hG hsm
  go_enter Try.func39, Try.ntmps39
  go_wp2_with fail
  refine (devCanon_any W V A B C n c m d k q gs ks cs _ HF0.out.gen HF0.out.kill HF0.out.cops).mono ?_
  clear HF0
  obtain ⟨r, hr⟩ : ∃ r, canR W gs V ks cs = r := ⟨_, rfl⟩
  have Hr := hid hr
  rw [hr] at He1 Hsm ⊢
  obtain ⟨W1, gs1, ks1, cs1, er1⟩ := r
  obtain ⟨r', hr'⟩ : ∃ r, canR W' gs' V' ks' cs' = r := ⟨_, rfl⟩
  have Hr' := hid hr'
  rw [hr'] at He2
  obtain ⟨W2, gs2, ks2, cs2, er2⟩ := r'
  clear hr hr'
  rintro e w1 ⟨A1, n1, c1, B1, m1, d1, C1, q1, rfl, hA1, hB1, hC1, hb1⟩
  have hF1 : FArg w1 A1 n1 B1 m1 C1 cs1.length gs1 ks1 cs1 := ⟨hA1, hB1, hC1⟩
  have H1 := hid (H0.out.below hb1)
  have H2 := hid (H1.out.below ((Below.refl _ _).alloc (Nat.le_refl _) (.cells #[.int .i64 W1, .slice A1 n1 c1, .int .i64 W1, .slice B1 m1 d1, .slice C1 cs1.length q1] 29)))
  have HF2 := hid (hF1.alloc (.cells #[.int .i64 W1, .slice A1 n1 c1, .int .i64 W1, .slice B1 m1 d1, .slice C1 cs1.length q1] 29))
  have HX2 := hid (Fb.new w1 #[.int .i64 W1, .slice A1 n1 c1, .int .i64 W1, .slice B1 m1 d1, .slice C1 cs1.length q1] 29)
  clear hA1 hB1 hC1 hb1 hF1 H1
  cases hv1 : validT W gs V ks cs with
  | false =>
    have he1 : er1 = 1 := by have := He1.out; rw [if_pos hv1] at this; exact this
    subst he1
    have E := hid (show sameD W gs V ks cs W' gs' V' ks' cs' = false by unfold sameD; rw [hv1]; rfl)
    clear hv1
    go_wp2
    go_ret
    exact ⟨ret_bool E.out.symm, H2.out.2.2⟩
  | true =>
    have he1 : er1 = 0 := by have := He1.out; rw [if_neg (by rw [hv1]; simp)] at this; exact this
    subst he1
    have Hv1 := hid hv1
    clear hv1
    obtain ⟨t0, t1, t2, t3, t4⟩ := H2.out.2.1.five
    go_wp2_with fail
    generalize w1.alloc (.cells #[.int .i64 W1, .slice A1 n1 c1, .int .i64 W1, .slice B1 m1 d1, .slice C1 cs1.length q1] 29) = w2 at *
    generalize w1.heap.size = b1 at *
    have HG2 := hid (HG.out.below H2.out.2.2)
    refine (devCanon_any W' V' A' B' C' n' c' m' d' k' q' gs' ks' cs' _ HG2.out.gen HG2.out.kill HG2.out.cops).mono ?_
    rw [Hr'.out]
    rintro e w3 ⟨A2, n2, c2, B2, m2, d2, C2, q2, rfl, hA2, hB2, hC2, hb3⟩
    have hG3 : FArg w3 A2 n2 B2 m2 C2 cs2.length gs2 ks2 cs2 := ⟨hA2, hB2, hC2⟩
    have hb4 := hb3.alloc hb3.size (.cells #[.int .i64 W2, .slice A2 n2 c2, .int .i64 W2, .slice B2 m2 d2, .slice C2 cs2.length q2] 29)
    have H4 := hid (H2.out.below hb4)
    have HF4 := hid (HF2.out.below hb4)
    have HX4 := hid (HX2.out.below hb4 HX2.out.lt)
    have HG4 := hid (hG3.alloc (.cells #[.int .i64 W2, .slice A2 n2 c2, .int .i64 W2, .slice B2 m2 d2, .slice C2 cs2.length q2] 29))
    have HY4 := hid (Fb.new w3 #[.int .i64 W2, .slice A2 n2 c2, .int .i64 W2, .slice B2 m2 d2, .slice C2 cs2.length q2] 29)
    clear hA2 hB2 hC2 hb3 hG3 hb4 HG2 t0 t1 t2 t3 t4 H2 HF2 HX2
    cases hv2 : validT W' gs' V' ks' cs' with
    | false =>
      have he2 : er2 = 1 := by have := He2.out; rw [if_pos hv2] at this; exact this
      subst he2
      have E := hid (show sameD W gs V ks cs W' gs' V' ks' cs' = false by unfold sameD; rw [hv2]; simp)
      clear hv2
      go_wp2
      go_ret
      exact ⟨ret_bool E.out.symm, H4.out.2.2⟩
    | true =>
      have he2 : er2 = 0 := by have := He2.out; rw [if_neg (by rw [hv2]; simp)] at this; exact this
      subst he2
      have E := hid (show sameD W gs V ks cs W' gs' V' ks' cs' = equal2 W1 gs1 W1 ks1 cs1 W2 gs2 W2 ks2 cs2 by unfold sameD; rw [hv2, Hv1.out, Hr.out, Hr'.out]; rfl)
      clear hv2
      obtain ⟨x0, x1, x2, x3, x4⟩ := HX4.out.five
      obtain ⟨y0, y1, y2, y3, y4⟩ := HY4.out.five
      go_wp2_with fail
      refine (devEqual2_any W1 W1 A1 B1 C1 n1 c1 m1 d1 cs1.length q1 gs1 ks1 cs1 W2 W2 A2 B2 C2 n2 c2 m2 d2 cs2.length q2 gs2 ks2 cs2 _ HF4.out HG4.out (by have := HF4.out.gen.len; have := Hsm.out.1; unfold maxLen; omega) (by have := HF4.out.kill.len; have := Hsm.out.2.1; unfold maxLen; omega) (by have := Hsm.out.2.2; omega)).mono ?_
      generalize equal2 W1 gs1 W1 ks1 cs1 W2 gs2 W2 ks2 cs2 = res at E ⊢
      rintro e w5 ⟨rfl, hb5⟩
      have H5 := hid (H4.out.below hb5)
      clear hb5 x0 x1 x2 x3 x4 y0 y1 y2 y3 y4
      go_wp2
      go_ret
      exact ⟨ret_bool E.out.symm, H5.out.2.2⟩

/-- P3.4, as the package says it: the join is the second function. -/
def belowD (W : Int) (gs : List Nat) (V : Int) (ks : List Nat) (cs : List (Int × Int)) (W' : Int) (gs' : List Nat) (V' : Int) (ks' : List Nat) (cs' : List (Int × Int)) : Bool :=
  decide ((joinR W gs V ks cs W' gs' V' ks' cs').2.2.2.2 = 0) &&
    sameD (joinR W gs V ks cs W' gs' V' ks' cs').1 (joinR W gs V ks cs W' gs' V' ks' cs').2.1 (joinR W gs V ks cs W' gs' V' ks' cs').1 (joinR W gs V ks cs W' gs' V' ks' cs').2.2.1 (joinR W gs V ks cs W' gs' V' ks' cs').2.2.2.1 W' gs' V' ks' cs'

set_option maxHeartbeats 800000 in
theorem devBelow_any (W V : Int) (A B C : Option Addr) (n c m d k q : Nat) (gs ks : List Nat) (cs : List (Int × Int)) (W' V' : Int) (A' B' C' : Option Addr) (n' c' m' d' k' q' : Nat) (gs' ks' : List Nat) (cs' : List (Int × Int)) (w : World)
    (hF : FArg w A n B m C k gs ks cs) (hG : FArg w A' n' B' m' C' k' gs' ks' cs') :
    Calls Try.prog 40 #[.agg #[.int .i64 W, .slice A n c, .int .i64 V, .slice B m d, .slice C k q], .agg #[.int .i64 W', .slice A' n' c', .int .i64 V', .slice B' m' d', .slice C' k' q']] w
      fun e w' => e = .returned (.bool (belowD W gs V ks cs W' gs' V' ks' cs')) ∧ Below w.heap.size w w' := by
  have HF := hid hF; have HG := hid hG
  have H0 := hid (TwoT.start w W V A B C n c m d k q W' V' A' B' C' n' c' m' d' k' q')
  clear hF hG
  go_enter Try.func40, Try.ntmps40
  go_wp2_with fail
  refine (devJoin_any W V A B C n c m d k q gs ks cs W' V' A' B' C' n' c' m' d' k' q' gs' ks' cs' _ (HF.out.below H0.out.2.2) (HG.out.below H0.out.2.2)).mono ?_
  obtain ⟨r, hr⟩ : ∃ r, joinR W gs V ks cs W' gs' V' ks' cs' = r := ⟨_, rfl⟩
  have Hr := hid hr
  rw [hr]
  obtain ⟨W1, gs1, ks1, cs1, er1⟩ := r
  clear hr
  rintro e w1 ⟨A1, n1, c1, B1, m1, d1, C1, q1, rfl, hA1, hB1, hC1, hb1⟩
  have hF1 : FArg w1 A1 n1 B1 m1 C1 cs1.length gs1 ks1 cs1 := ⟨hA1, hB1, hC1⟩
  have H1 := hid (H0.out.below hb1)
  have H2 := hid (H1.out.below ((Below.refl _ _).alloc (Nat.le_refl _) (.cells #[.int .i64 W1, .slice A1 n1 c1, .int .i64 W1, .slice B1 m1 d1, .slice C1 cs1.length q1] 29)))
  have HF2 := hid (hF1.alloc (.cells #[.int .i64 W1, .slice A1 n1 c1, .int .i64 W1, .slice B1 m1 d1, .slice C1 cs1.length q1] 29))
  have HX2 := hid (Fb.new w1 #[.int .i64 W1, .slice A1 n1 c1, .int .i64 W1, .slice B1 m1 d1, .slice C1 cs1.length q1] 29)
  clear hA1 hB1 hC1 hb1 hF1 H1
  by_cases he : er1 = 0
  · have tt : (er1 == 0) = true := by simp [he]
    have E := hid (show belowD W gs V ks cs W' gs' V' ks' cs' = sameD W1 gs1 W1 ks1 cs1 W' gs' V' ks' cs' by unfold belowD; rw [Hr.out]; simp [he])
    clear he
    obtain ⟨t0, t1, t2, t3, t4⟩ := H2.out.2.1.five
    obtain ⟨x0, x1, x2, x3, x4⟩ := HX2.out.five
    go_wp2_with fail
    generalize w1.alloc (.cells #[.int .i64 W1, .slice A1 n1 c1, .int .i64 W1, .slice B1 m1 d1, .slice C1 cs1.length q1] 29) = w2 at *
    refine (devSame_any W1 W1 A1 B1 C1 n1 c1 m1 d1 cs1.length q1 gs1 ks1 cs1 W' V' A' B' C' n' c' m' d' k' q' gs' ks' cs' _ HF2.out (HG.out.below H2.out.2.2)).mono ?_
    generalize sameD W1 gs1 W1 ks1 cs1 W' gs' V' ks' cs' = res at E ⊢
    rintro e w3 ⟨rfl, hb3⟩
    have H3 := hid (H2.out.below hb3)
    clear hb3 t0 t1 t2 t3 t4 x0 x1 x2 x3 x4
    go_wp2
    go_ret
    exact ⟨ret_bool E.out.symm, H3.out.2.2⟩
  · have tt : (er1 == 0) = false := by simp [he]
    have E := hid (show belowD W gs V ks cs W' gs' V' ks' cs' = false by unfold belowD; rw [Hr.out]; simp [he])
    clear he
    go_wp2
    go_ret
    exact ⟨ret_bool E.out.symm, H2.out.2.2⟩
end Go.Proofs.Ytkckkodoeepdpaa
