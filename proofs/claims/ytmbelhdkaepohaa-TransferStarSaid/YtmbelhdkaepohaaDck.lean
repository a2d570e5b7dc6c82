/- The package's check, equal and Same: the errors of two functions, and whether two are equal. -/
import Derived.Test.YtmbelhdkaepohaaCnn
import Derived.Test.YtmbelhdkaepohaaTeq
namespace Go.Proofs.Ytmbelhdkaepohaa
set_option maxRecDepth 20000
open Go.ChangeShapes Go.WideShapes Go.ChangeAt Go.RowKit

/-- slices.Equal over copies. -/
theorem copsEq_any (A B : Option Addr) (n c m d : Nat) (xs ys : List (Int × Int)) (w : World) (hA : ArgC w A n xs) (hB : ArgC w B m ys) (hn : n ≤ 100000) :
    Calls Try.prog 76 #[.slice A n c, .slice B m d] w fun e w' => e = .returned (.bool (decide (xs = ys))) ∧ Below w.heap.size w w' := by
  by_cases hnm : n = m
  · subst hnm
    have HA := hid hA; have HB := hid hB
    have t2 : ((n : Int) != (n : Int)) = false := by simp
    clear hA hB
    go_enter Try.func76, Try.ntmps76
    go_wp2
    clear t2
    go_loopw [5, 13] (fun _ i wr => ∃ k : Nat, k ≤ n ∧ i = .int .i64 k ∧ Hid (∀ j, j < k → xs[j]? = ys[j]?) ∧ ∃ q : Nat, wr = w.drewN q) (fun _ i _ => n - (intOf i).toNat)
    case atStart => exact ⟨0, by omega, rfl, fun j h => by omega, 0, rfl⟩
    case round =>
      obtain ⟨k, hk, rfl, hb, q, rfl⟩ := hrel
      by_cases hlt : k < n
      · have hgx : xs[k]? = some (xs[k]'(by rw [HA.out.len]; exact hlt)) := List.getElem?_eq_getElem _
        have hgy : ys[k]? = some (ys[k]'(by rw [HB.out.len]; exact hlt)) := List.getElem?_eq_getElem _
        generalize (xs[k]'(by rw [HA.out.len]; exact hlt)) = x at hgx
        generalize (ys[k]'(by rw [HB.out.len]; exact hlt)) = y at hgy
        obtain ⟨x1, x2⟩ := x
        obtain ⟨y1, y2⟩ := y
        obtain ⟨ad, rfl, had, a1, a2⟩ := HA.out.cell hgx
        obtain ⟨bd, rfl, hbd, b1, b2⟩ := HB.out.cell hgy
        have Hx := hid hgx; have Hy := hid hgy
        clear hgx hgy
        have a1' : (w.drewN q).cell? (ad.add (k * 2)) = some (.int .i64 x1) := a1
        have a2' : (w.drewN q).cell? ⟨(ad.add (k * 2)).block, (ad.add (k * 2)).off + 1, none⟩ = some (.int .i64 x2) := a2
        have b1' : (w.drewN q).cell? (bd.add (k * 2)) = some (.int .i64 y1) := b1
        have b2' : (w.drewN q).cell? ⟨(bd.add (k * 2)).block, (bd.add (k * 2)).off + 1, none⟩ = some (.int .i64 y2) := b2
        clear a1 a2 b1 b2
        have hk0 : (0 : Int) ≤ k := by omega
        have hkn : (k : Int).toNat = k := by omega
        have hk1 : (k : Int) < n := by omega
        have bad : ¬(x1 = y1 ∧ x2 = y2) → (decide (xs = ys)) = false := by
          intro h
          refine decide_eq_false fun e => h ?_
          have := Hx.out.symm.trans ((congrArg (·[k]?) e).trans Hy.out)
          simp at this
          exact this
        have Bad := hid bad
        clear bad
        generalize hwq : w.drewN q = wq at *
        have Hwq := hid hwq
        clear hwq
        by_cases e1 : x1 = y1
        · subst e1
          by_cases e2 : x2 = y2
          · subst e2
            go_wp2_with fail
            go_quiet (fail)
            clear a1' a2' b1' b2'
            go_wp2
            go_roundw
            case rel =>
              refine ⟨k + 1, by omega, by go_num, fun j hj => ?_, q + nq, by rw [← Hwq.out, World.drewN_drewN]⟩
              by_cases e : j = k
              · rw [e, Hx.out, Hy.out]
              · exact hb.out j (by omega)
            case measure => simp [intOf]; omega
          · have E := hid (Bad.out (by simp [e2]))
            go_wp2_with fail
            go_quiet (fail)
            go_wp2
            go_ret
            refine ⟨ret_bool E.out.symm, ?_⟩
            rw [← Hwq.out, World.drewN_drewN]; exact below_drewN (Below.refl _ _) _
        · have E := hid (Bad.out (by simp [e1]))
          go_wp2_with fail
          go_quiet (fail)
          go_wp2
          go_ret
          refine ⟨ret_bool E.out.symm, ?_⟩
          rw [← Hwq.out, World.drewN_drewN]; exact below_drewN (Below.refl _ _) _
      · have hkn : k = n := by omega
        subst hkn
        have E := hid (show decide (xs = ys) = true from decide_eq_true (list_ext_to (by rw [HA.out.len, HB.out.len]) (fun x hx => hb.out x (by rw [HA.out.len] at hx; exact hx))))
        go_wp2
        go_ret
        exact ⟨ret_bool E.out.symm, below_drewN (Below.refl _ _) _⟩
  · have t2 : ((n : Int) != (m : Int)) = true := by simp; omega
    have E := hid (show decide (xs = ys) = false from decide_eq_false fun e => hnm (by rw [← hA.len, ← hB.len, e]))
    clear hA hB
    go_enter Try.func76, Try.ntmps76
    go_wp2
    go_ret
    exact ⟨ret_bool E.out.symm, Below.refl _ _⟩

def checkR (v1 v2 : Bool) (W V : Int) : Int := if v1 = false ∨ v2 = false then 1 else if W ≠ V then 2 else 0

/-- A function, as an argument: where its words and its copies lie. -/
structure FArg (w : World) (A : Option Addr) (n : Nat) (B : Option Addr) (m : Nat) (C : Option Addr) (k : Nat) (gs ks : List Nat) (cs : List (Int × Int)) : Prop where
  gen : Arg w A n gs
  kill : Arg w B m ks
  cops : ArgC w C k cs
theorem FArg.below {w w' : World} {A B C : Option Addr} {n m k : Nat} {gs ks : List Nat} {cs : List (Int × Int)} (h : FArg w A n B m C k gs ks cs) (hb : Below w.heap.size w w') : FArg w' A n B m C k gs ks cs :=
  ⟨h.gen.below hb, h.kill.below hb, h.cops.below hb⟩
theorem FArg.alloc {w : World} {A B C : Option Addr} {n m k : Nat} {gs ks : List Nat} {cs : List (Int × Int)} (h : FArg w A n B m C k gs ks cs) (o : Obj) : FArg (w.alloc o) A n B m C k gs ks cs :=
  h.below ((Below.refl _ _).alloc (Nat.le_refl _) o)

set_option maxHeartbeats 800000 in
theorem devCheck_any (W V : Int) (A B C : Option Addr) (n c m d k q : Nat) (gs ks : List Nat) (cs : List (Int × Int)) (W' V' : Int) (A' B' C' : Option Addr) (n' c' m' d' k' q' : Nat) (gs' ks' : List Nat) (cs' : List (Int × Int)) (w : World)
    (hF : FArg w A n B m C k gs ks cs) (hG : FArg w A' n' B' m' C' k' gs' ks' cs') :
    Calls Try.prog 46 #[.agg #[.int .i64 W, .slice A n c, .int .i64 V, .slice B m d, .slice C k q], .agg #[.int .i64 W', .slice A' n' c', .int .i64 V', .slice B' m' d', .slice C' k' q']] w
      fun e w' => e = .returned (.int .i64 (checkR (validT W gs V ks cs) (validT W' gs' V' ks' cs') W W')) ∧ Below w.heap.size w w' := by
  have HF := hid hF; have HG := hid hG
  have H0 := hid (TwoT.start w W V A B C n c m d k q W' V' A' B' C' n' c' m' d' k' q')
  clear hF hG
  go_enter Try.func46, Try.ntmps46
  go_wp2_with fail
  have HF0 := hid (HF.out.below H0.out.2.2)
  refine (devValidT_any W V A B C n c m d k q gs ks cs _ HF0.out.gen HF0.out.kill HF0.out.cops).mono ?_
  cases hv : validT W gs V ks cs with
  | false =>
    have Hr := hid (show checkR (validT W gs V ks cs) (validT W' gs' V' ks' cs') W W' = 1 by rw [hv]; unfold checkR; simp)
    rintro e w1 ⟨rfl, hb1⟩
    have H1 := hid (H0.out.below hb1)
    clear hb1 hv HF0
    go_wp2
    go_ret
    exact ⟨ret_int Hr.out.symm, H1.out.2.2⟩
  | true =>
    have Hv := hid hv
    rintro e w1 ⟨rfl, hb1⟩
    have H1 := hid (H0.out.below hb1)
    clear hb1 hv HF0
    obtain ⟨t0, t1, t2, t3, t4⟩ := H1.out.2.1.five
    have HG1 := hid (HG.out.below H1.out.2.2)
    go_wp2_with fail
    refine (devValidT_any W' V' A' B' C' n' c' m' d' k' q' gs' ks' cs' _ HG1.out.gen HG1.out.kill HG1.out.cops).mono ?_
    cases hv2 : validT W' gs' V' ks' cs' with
    | false =>
      have Hr := hid (show checkR (validT W gs V ks cs) (validT W' gs' V' ks' cs') W W' = 1 by rw [Hv.out, hv2]; unfold checkR; simp)
      rintro e w2 ⟨rfl, hb2⟩
      have H2 := hid (H1.out.below hb2)
      clear hb2 hv2 HG1 t0 t1 t2 t3 t4
      go_wp2
      go_ret
      exact ⟨ret_int Hr.out.symm, H2.out.2.2⟩
    | true =>
      have Hv2 := hid hv2
      rintro e w2 ⟨rfl, hb2⟩
      have H2 := hid (H1.out.below hb2)
      clear hb2 hv2 HG1 t0 t1 t2 t3 t4
      obtain ⟨t0, t1, t2, t3, t4⟩ := H2.out.2.1.five
      obtain ⟨s0, s1, s2, s3, s4⟩ := H2.out.1.five
      by_cases hw : W = W'
      · have Hr := hid (show checkR (validT W gs V ks cs) (validT W' gs' V' ks' cs') W W' = 0 by rw [Hv.out, Hv2.out]; unfold checkR; simp [hw])
        have tt : (W != W') = false := by simp [hw]
        clear hw
        go_wp2
        go_ret
        exact ⟨ret_int Hr.out.symm, H2.out.2.2⟩
      · have Hr := hid (show checkR (validT W gs V ks cs) (validT W' gs' V' ks' cs') W W' = 2 by rw [Hv.out, Hv2.out]; unfold checkR; simp [hw])
        have tt : (W != W') = true := by simp [hw]
        clear hw
        go_wp2
        go_ret
        exact ⟨ret_int Hr.out.symm, H2.out.2.2⟩

/-- Two functions are equal and valid sets. -/
def equal2 (W : Int) (gs : List Nat) (V : Int) (ks : List Nat) (cs : List (Int × Int)) (W' : Int) (gs' : List Nat) (V' : Int) (ks' : List Nat) (cs' : List (Int × Int)) : Bool :=
  equalB W gs W' gs' && equalB V ks V' ks' && decide (cs = cs')
set_option maxHeartbeats 800000 in
theorem devEqual2_any (W V : Int) (A B C : Option Addr) (n c m d k q : Nat) (gs ks : List Nat) (cs : List (Int × Int)) (W' V' : Int) (A' B' C' : Option Addr) (n' c' m' d' k' q' : Nat) (gs' ks' : List Nat) (cs' : List (Int × Int)) (w : World)
    (hF : FArg w A n B m C k gs ks cs) (hG : FArg w A' n' B' m' C' k' gs' ks' cs') (hn : n ≤ maxLen) (hm : m ≤ maxLen) (hk : k ≤ 100000) :
    Calls Try.prog 55 #[.agg #[.int .i64 W, .slice A n c, .int .i64 V, .slice B m d, .slice C k q], .agg #[.int .i64 W', .slice A' n' c', .int .i64 V', .slice B' m' d', .slice C' k' q']] w
      fun e w' => e = .returned (.bool (equal2 W gs V ks cs W' gs' V' ks' cs')) ∧ Below w.heap.size w w' := by
  have HF := hid hF; have HG := hid hG
  have H0 := hid (TwoT.start w W V A B C n c m d k q W' V' A' B' C' n' c' m' d' k' q')
  clear hF hG
  go_enter Try.func55, Try.ntmps55
  go_wp2_with fail
  refine (devEqual_any W W' A A' n c n' c' gs gs' _ (HF.out.gen.below H0.out.2.2) (HG.out.gen.below H0.out.2.2) hn).mono ?_
  cases h1 : equalB W gs W' gs' with
  | false =>
    have Hr := hid (show equal2 W gs V ks cs W' gs' V' ks' cs' = false by unfold equal2; rw [h1]; rfl)
    rintro e w1 ⟨rfl, hb1⟩
    have H1 := hid (H0.out.below hb1)
    clear hb1 h1
    go_wp2
    go_ret
    exact ⟨ret_bool Hr.out.symm, H1.out.2.2⟩
  | true =>
    rintro e w1 ⟨rfl, hb1⟩
    have H1 := hid (H0.out.below hb1)
    have Hq1 := hid h1
    clear hb1 h1
    obtain ⟨t0, t1, t2, t3, t4⟩ := H1.out.2.1.five
    obtain ⟨s0, s1, s2, s3, s4⟩ := H1.out.1.five
    go_wp2_with fail
    refine (devEqual_any V V' B B' m d m' d' ks ks' _ (HF.out.kill.below H1.out.2.2) (HG.out.kill.below H1.out.2.2) hm).mono ?_
    cases h2 : equalB V ks V' ks' with
    | false =>
      have Hr := hid (show equal2 W gs V ks cs W' gs' V' ks' cs' = false by unfold equal2; rw [h2]; simp)
      rintro e w2 ⟨rfl, hb2⟩
      have H2 := hid (H1.out.below hb2)
      clear hb2 h2 t0 t1 t2 t3 t4 s0 s1 s2 s3 s4
      go_wp2
      go_ret
      exact ⟨ret_bool Hr.out.symm, H2.out.2.2⟩
    | true =>
      have Hr := hid (show equal2 W gs V ks cs W' gs' V' ks' cs' = decide (cs = cs') by unfold equal2; rw [h2, Hq1.out]; rfl)
      rintro e w2 ⟨rfl, hb2⟩
      have H2 := hid (H1.out.below hb2)
      clear hb2 h2 t0 t1 t2 t3 t4 s0 s1 s2 s3 s4
      obtain ⟨t0, t1, t2, t3, t4⟩ := H2.out.2.1.five
      obtain ⟨s0, s1, s2, s3, s4⟩ := H2.out.1.five
      go_wp2_with fail
      refine (copsEq_any C C' k q k' q' cs cs' _ (HF.out.cops.below H2.out.2.2) (HG.out.cops.below H2.out.2.2) hk).mono ?_
      generalize decide (cs = cs') = r at Hr
      rintro e w3 ⟨rfl, hb3⟩
      have H3 := hid (H2.out.below hb3)
      clear hb3 t0 t1 t2 t3 t4 s0 s1 s2 s3 s4
      go_wp2
      go_ret
      exact ⟨ret_bool Hr.out.symm, H3.out.2.2⟩
end Go.Proofs.Ytmbelhdkaepohaa
