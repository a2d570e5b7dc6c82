/- The package's Follows: which bit follows from which. -/
import Derived.Test.YtkckkodoeepdpaaDvT
import Derived.Test.YtkckkodoeepdpaaDEq
namespace Go.Proofs.Ytkckkodoeepdpaa
set_option maxRecDepth 20000
open Go.ChangeShapes Go.WideShapes Go.ChangeAt Go.RowKit

set_option maxHeartbeats 1600000 in
theorem devFollowsT_any (W V : Int) (A B C : Option Addr) (n c m d k q : Nat) (gs ks : List Nat) (cs : List (Int × Int)) (a b : Int) (w : World) (hA : Arg w A n gs) (hB : Arg w B m ks) (hC : ArgC w C k cs) :
    Calls Try.prog 44 #[.agg #[.int .i64 W, .slice A n c, .int .i64 V, .slice B m d, .slice C k q], .int .i64 a, .int .i64 b] w fun e w' => e = .returned (.bool (followsB W gs V ks cs a b)) ∧ Below w.heap.size w w' := by
  have HA := hid hA; have HB := hid hB; have HC := hid hC
  have HT := hid (Fb.new w #[.int .i64 W, .slice A n c, .int .i64 V, .slice B m d, .slice C k q] 29)
  have H1 := hid ((Below.refl w.heap.size w).alloc (Nat.le_refl _) (.cells #[.int .i64 W, .slice A n c, .int .i64 V, .slice B m d, .slice C k q] 29))
  clear hA hB hC
  cases hv : validT W gs V ks cs with
  | false =>
    have Hr := hid (show followsB W gs V ks cs a b = false by unfold followsB; rw [hv]; rfl)
    go_enter Try.func44, Try.ntmps44
    go_wp2_with fail
    refine (devValidT_any W V A B C n c m d k q gs ks cs _ (HA.out.below H1.out) (HB.out.below H1.out) (HC.out.below H1.out)).mono ?_
    rw [hv]
    rintro e w1 ⟨rfl, hb1⟩
    have Hb1 := hid (H1.out.trans (hb1.mono (by simp)))
    clear hb1 hv
    go_wp2
    go_ret
    exact ⟨ret_bool Hr.out.symm, Hb1.out⟩
  | true =>
    obtain ⟨h1, h2, h3, h4, h5⟩ := validT_iff hv
    have hk64 : k ≤ 64 := by rw [HC.out.len] at h4; exact h4
    have Hr := hid (show followsB W gs V ks cs a b = (decide (0 ≤ a) && decide (a < W) && decide (0 ≤ b) && decide (b < W) && folB V ks cs a b) by unfold followsB; rw [hv]; rfl)
    clear h1 h2 h3 h4 h5
    go_enter Try.func44, Try.ntmps44
    go_wp2_with fail
    refine (devValidT_any W V A B C n c m d k q gs ks cs _ (HA.out.below H1.out) (HB.out.below H1.out) (HC.out.below H1.out)).mono ?_
    rw [hv]
    rintro e w1 ⟨rfl, hb1⟩
    have HF := hid (HT.out.below hb1 (by simp))
    have Hb1 := hid (H1.out.trans (hb1.mono (by simp)))
    clear hb1 hv
    obtain ⟨t0, t1, t2, t3, t4⟩ := HF.out.five
    go_wp2_with fail
    refine (tin_any W V A B C n c m d k q a _).mono ?_
    cases hi : inB W a with
    | false =>
      have E := hid (show followsB W gs V ks cs a b = false by
        rw [Hr.out]; unfold inB at hi; rw [hi]; rfl)
      rintro e w2 ⟨rfl, hb2⟩
      have Hb2 := hid (Hb1.out.trans (hb2.mono Hb1.out.size))
      clear hb2 hi t0 t1 t2 t3 t4
      go_wp2
      go_ret
      exact ⟨ret_bool E.out.symm, Hb2.out⟩
    | true =>
      rintro e w2 ⟨rfl, hb2⟩
      have HF2 := hid (HF.out.below hb2 HF.out.lt)
      have Hb2 := hid (Hb1.out.trans (hb2.mono Hb1.out.size))
      clear hb2 t0 t1 t2 t3 t4
      obtain ⟨t0, t1, t2, t3, t4⟩ := HF2.out.five
      go_wp2_with fail
      refine (tin_any W V A B C n c m d k q b _).mono ?_
      cases hj : inB W b with
      | false =>
        have E := hid (show followsB W gs V ks cs a b = false by
          rw [Hr.out]; unfold inB at hj; rw [Bool.and_assoc (decide (0 ≤ a) && decide (a < W)), hj]; simp)
        rintro e w3 ⟨rfl, hb3⟩
        have Hb3 := hid (Hb2.out.trans (hb3.mono Hb2.out.size))
        clear hb3 hi hj t0 t1 t2 t3 t4
        go_wp2
        go_ret
        exact ⟨ret_bool E.out.symm, Hb3.out⟩
      | true =>
        have Hr2 := hid (show followsB W gs V ks cs a b = folB V ks cs a b by
          rw [Hr.out]; unfold inB at hi hj; rw [Bool.and_assoc (decide (0 ≤ a) && decide (a < W)), hi, hj]; rfl)
        rintro e w3 ⟨rfl, hb3⟩
        have HF3 := hid (HF2.out.below hb3 HF2.out.lt)
        have Hb3 := hid (Hb2.out.trans (hb3.mono Hb2.out.size))
        clear hb3 hi hj t0 t1 t2 t3 t4
        obtain ⟨t0, t1, t2, t3, t4⟩ := HF3.out.five
        by_cases hab : a = b
        · subst hab
          have tt : (a == a) = true := by simp
          go_wp2_with fail
          refine (devHas_any V B m d ks a _ (HB.out.below Hb3.out)).mono ?_
          generalize hh : Bs.hasB V ks a = r
          rintro e w4 ⟨rfl, hb4⟩
          have HF4 := hid (HF3.out.below hb4 HF3.out.lt)
          have Hb4 := hid (Hb3.out.trans (hb4.mono Hb3.out.size))
          clear hb4 t0 t1 t2 t3 t4
          cases r with
          | false =>
            have Hres := hid (show folB V ks cs a a = true by unfold folB; simp [hh])
            clear hh tt
            go_wp2
            go_ret
            exact ⟨ret_bool (by rw [Hr2.out, Hres.out]), Hb4.out⟩
          | true =>
            have Hres := hid (show folB V ks cs a a = decide ((a, a) ∈ cs) by unfold folB; simp [hh])
            clear hh
            obtain ⟨t0, t1, t2, t3, t4⟩ := HF4.out.five
            go_wp2_with fail
            clear t0 t1 t2 t3 t4 tt
            go_loopw [8, 37] (fun _ i wr => ∃ j : Nat, j ≤ k ∧ i = .int .i64 j ∧ Hid (∀ x, x < j → cs[x]? ≠ some (a, a)) ∧ Hid (Below w.heap.size w wr)) (fun _ i _ => k - (intOf i).toNat)
            case atStart => exact ⟨0, by omega, rfl, fun x h => by omega, Hb4.out⟩
            case round =>
              obtain ⟨j, hj, rfl, hb, hI⟩ := hrel
              by_cases hlt : j < k
              · have hget : cs[j]? = some (cs[j]'(by rw [HC.out.len]; exact hlt)) := List.getElem?_eq_getElem _
                generalize (cs[j]'(by rw [HC.out.len]; exact hlt)) = p at hget
                obtain ⟨p1, p2⟩ := p
                obtain ⟨ad, rfl, had, g1, g2⟩ := (HC.out.below hI.out).cell hget
                have Hget := hid hget
                clear hget
                have one : ∀ x, x < j + 1 → ¬(p1 = a ∧ p2 = a) → cs[x]? ≠ some (a, a) := by
                  intro x hx hne he
                  by_cases e : x = j
                  · rw [e, Hget.out] at he; simp only [Option.some.injEq, Prod.mk.injEq] at he; exact hne he
                  · exact hb.out x (by omega) he
                have One := hid one
                clear one
                have Hb5 := fun (x y : Int) => hid (hI.out.alloc hI.out.size (.cells #[.int .i64 x, .int .i64 y] 35))
                by_cases e1 : p1 = a
                · have u1 : (p1 == a) = true := by simp [e1]
                  by_cases e2 : p2 = a
                  · have u2 : (p2 == a) = true := by simp [e2]
                    have E := hid (show (a, a) ∈ cs by have q := List.mem_of_getElem? Hget.out; rw [e1, e2] at q; exact q)
                    clear e1 e2
                    go_wp2
                    go_ret
                    exact ⟨ret_bool (by rw [Hr2.out, Hres.out]; simp [E.out]), (Hb5 _ _).out⟩
                  · have u2 : (p2 == a) = false := by simp [e2]
                    have E := hid (show ¬(p1 = a ∧ p2 = a) by simp [e2])
                    clear e1 e2
                    go_wp2
                    go_roundw
                    case rel => exact ⟨j + 1, by omega, by go_num, fun x hx => One.out x hx E.out, (Hb5 _ _).out⟩
                    case measure => simp [intOf]; omega
                · have u1 : (p1 == a) = false := by simp [e1]
                  have E := hid (show ¬(p1 = a ∧ p2 = a) by simp [e1])
                  clear e1
                  go_wp2
                  go_roundw
                  case rel => exact ⟨j + 1, by omega, by go_num, fun x hx => One.out x hx E.out, (Hb5 _ _).out⟩
                  case measure => simp [intOf]; omega
              · have HI := hid hI.out
                go_wp2
                go_ret
                refine ⟨ret_bool ?_, HI.out⟩
                have : (a, a) ∉ cs := by
                  intro h
                  obtain ⟨x, hx, e⟩ := List.getElem_of_mem h
                  have := HC.out.len
                  exact hb.out x (by omega) (by rw [List.getElem?_eq_getElem hx, e])
                rw [Hr2.out, Hres.out]; simp [this]
        · have tt : (a == b) = false := by simp [hab]
          have Hres := hid (show folB V ks cs a b = decide ((a, b) ∈ cs) by unfold folB; simp [hab])
          clear hab
          go_wp2_with fail
          clear t0 t1 t2 t3 t4 tt
          go_loopw [8, 37] (fun _ i wr => ∃ j : Nat, j ≤ k ∧ i = .int .i64 j ∧ Hid (∀ x, x < j → cs[x]? ≠ some (a, b)) ∧ Hid (Below w.heap.size w wr)) (fun _ i _ => k - (intOf i).toNat)
          case atStart => exact ⟨0, by omega, rfl, fun x h => by omega, Hb3.out⟩
          case round =>
            obtain ⟨j, hj, rfl, hb, hI⟩ := hrel
            by_cases hlt : j < k
            · have hget : cs[j]? = some (cs[j]'(by rw [HC.out.len]; exact hlt)) := List.getElem?_eq_getElem _
              generalize (cs[j]'(by rw [HC.out.len]; exact hlt)) = p at hget
              obtain ⟨p1, p2⟩ := p
              obtain ⟨ad, rfl, had, g1, g2⟩ := (HC.out.below hI.out).cell hget
              have Hget := hid hget
              clear hget
              have one : ∀ x, x < j + 1 → ¬(p1 = a ∧ p2 = b) → cs[x]? ≠ some (a, b) := by
                intro x hx hne he
                by_cases e : x = j
                · rw [e, Hget.out] at he; simp only [Option.some.injEq, Prod.mk.injEq] at he; exact hne he
                · exact hb.out x (by omega) he
              have One := hid one
              clear one
              have Hb5 := fun (x y : Int) => hid (hI.out.alloc hI.out.size (.cells #[.int .i64 x, .int .i64 y] 35))
              by_cases e1 : p1 = a
              · have u1 : (p1 == a) = true := by simp [e1]
                by_cases e2 : p2 = b
                · have u2 : (p2 == b) = true := by simp [e2]
                  have E := hid (show (a, b) ∈ cs by have q := List.mem_of_getElem? Hget.out; rw [e1, e2] at q; exact q)
                  clear e1 e2
                  go_wp2
                  go_ret
                  exact ⟨ret_bool (by rw [Hr2.out, Hres.out]; simp [E.out]), (Hb5 _ _).out⟩
                · have u2 : (p2 == b) = false := by simp [e2]
                  have E := hid (show ¬(p1 = a ∧ p2 = b) by simp [e2])
                  clear e1 e2
                  go_wp2
                  go_roundw
                  case rel => exact ⟨j + 1, by omega, by go_num, fun x hx => One.out x hx E.out, (Hb5 _ _).out⟩
                  case measure => simp [intOf]; omega
              · have u1 : (p1 == a) = false := by simp [e1]
                have E := hid (show ¬(p1 = a ∧ p2 = b) by simp [e1])
                clear e1
                go_wp2
                go_roundw
                case rel => exact ⟨j + 1, by omega, by go_num, fun x hx => One.out x hx E.out, (Hb5 _ _).out⟩
                case measure => simp [intOf]; omega
            · have HI := hid hI.out
              go_wp2
              go_ret
              refine ⟨ret_bool ?_, HI.out⟩
              have : (a, b) ∉ cs := by
                intro h
                obtain ⟨x, hx, e⟩ := List.getElem_of_mem h
                have := HC.out.len
                exact hb.out x (by omega) (by rw [List.getElem?_eq_getElem hx, e])
              rw [Hr2.out, Hres.out]; simp [this]
end Go.Proofs.Ytkckkodoeepdpaa
