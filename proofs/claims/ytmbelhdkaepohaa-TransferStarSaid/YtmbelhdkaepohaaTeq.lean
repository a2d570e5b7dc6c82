/- The reference's Equals: two functions are equal as values. -/
import Derived.Test.YtmbelhdkaepohaaTap
namespace Go.Proofs.Ytmbelhdkaepohaa
set_option maxRecDepth 20000
open Go.ChangeShapes Go.WideShapes Go.ChangeAt Go.RowKit

def equalsT (W : Int) (gs : List Nat) (V : Int) (ks : List Nat) (cs : List (Int × Int)) (W' : Int) (gs' : List Nat) (V' : Int) (ks' : List Nat) (cs' : List (Int × Int)) : Bool :=
  sameB W gs W' gs' && sameB V ks V' ks' && decide (cs = cs')

/-- Two functions in two new blocks. -/
def TwoT (w : World) (W V : Int) (A B C : Option Addr) (n c m d k q : Nat) (W' V' : Int) (A' B' C' : Option Addr) (n' c' m' d' k' q' : Nat) (wr : World) : Prop :=
  Fb wr w.heap.size #[.int .i64 W, .slice A n c, .int .i64 V, .slice B m d, .slice C k q] 28 ∧ Fb wr (w.heap.size + 1) #[.int .i64 W', .slice A' n' c', .int .i64 V', .slice B' m' d', .slice C' k' q'] 28 ∧ Below w.heap.size w wr
section
variable {w : World} {W V : Int} {A B C : Option Addr} {n c m d k q : Nat} {W' V' : Int} {A' B' C' : Option Addr} {n' c' m' d' k' q' : Nat} {wr w' : World}
theorem TwoT.start (w : World) (W V : Int) (A B C : Option Addr) (n c m d k q : Nat) (W' V' : Int) (A' B' C' : Option Addr) (n' c' m' d' k' q' : Nat) :
    TwoT w W V A B C n c m d k q W' V' A' B' C' n' c' m' d' k' q' ((w.alloc (.cells #[.int .i64 W, .slice A n c, .int .i64 V, .slice B m d, .slice C k q] 28)).alloc (.cells #[.int .i64 W', .slice A' n' c', .int .i64 V', .slice B' m' d', .slice C' k' q'] 28)) := by
  have hS := Fb.new (w.alloc (.cells #[.int .i64 W, .slice A n c, .int .i64 V, .slice B m d, .slice C k q] 28)) #[.int .i64 W', .slice A' n' c', .int .i64 V', .slice B' m' d', .slice C' k' q'] 28
  simp only [World.size_alloc] at hS
  exact ⟨(Fb.new w _ 28).alloc _, hS, ((Below.refl _ _).alloc (Nat.le_refl _) _).alloc (by simp) _⟩
theorem TwoT.below (h : TwoT w W V A B C n c m d k q W' V' A' B' C' n' c' m' d' k' q' wr) (hb : Below wr.heap.size wr w') : TwoT w W V A B C n c m d k q W' V' A' B' C' n' c' m' d' k' q' w' :=
  ⟨h.1.below hb h.1.lt, h.2.1.below hb h.2.1.lt, h.2.2.trans (hb.mono h.2.2.size)⟩
end

theorem list_ext_to {α : Type} {a b : List α} (hl : a.length = b.length) (h : ∀ x, x < a.length → a[x]? = b[x]?) : a = b :=
  List.ext_getElem? fun i => by
    rcases Nat.lt_or_ge i a.length with hi | hi
    · exact h i hi
    · rw [List.getElem?_eq_none hi, List.getElem?_eq_none (by omega)]

set_option maxHeartbeats 800000 in
theorem refEquals_any (W V : Int) (A B C : Option Addr) (n c m d k q : Nat) (W' V' : Int) (A' B' C' : Option Addr) (n' c' m' d' k' q' : Nat) (gs ks gs' ks' : List Nat) (cs cs' : List (Int × Int)) (w : World)
    (hA : Arg w A n gs) (hB : Arg w B m ks) (hC : ArgC w C k cs) (hA' : Arg w A' n' gs') (hB' : Arg w B' m' ks') (hC' : ArgC w C' k' cs') (hn : n ≤ maxLen) (hm : m ≤ maxLen) (hk : k ≤ maxLen) :
    Calls Try.prog 15 #[.agg #[.int .i64 W, .slice A n c, .int .i64 V, .slice B m d, .slice C k q], .agg #[.int .i64 W', .slice A' n' c', .int .i64 V', .slice B' m' d', .slice C' k' q']] w fun e w' =>
      e = .returned (.bool (equalsT W gs V ks cs W' gs' V' ks' cs')) ∧ Below w.heap.size w w' := by
  have HA := hid hA; have HB := hid hB; have HC := hid hC; have HA' := hid hA'; have HB' := hid hB'; have HC' := hid hC'; have HN := hid hn; have HM := hid hm
  have H0 := hid (TwoT.start w W V A B C n c m d k q W' V' A' B' C' n' c' m' d' k' q')
  unfold maxLen at hk
  clear hA hB hC hA' hB' hC' hn hm
  go_enter Try.func15, Try.ntmps15
  go_wp2_with fail
  refine (refSame_any W W' A A' n c n' c' gs gs' _ (HA.out.below H0.out.2.2) (HA'.out.below H0.out.2.2) HN.out).mono ?_
  cases h1 : sameB W gs W' gs' with
  | false =>
    have Hr := hid (show equalsT W gs V ks cs W' gs' V' ks' cs' = false by unfold equalsT; rw [h1]; rfl)
    rintro e w1 ⟨rfl, hb1⟩
    have H1 := hid (H0.out.below hb1)
    clear hb1 h1
    go_wp2
    go_ret
    exact ⟨ret_bool Hr.out.symm, H1.out.2.2⟩
  | true =>
    rintro e w1 ⟨rfl, hb1⟩
    have H1 := hid (H0.out.below hb1)
    clear hb1
    obtain ⟨t0, t1, t2, t3, t4⟩ := H1.out.1.five
    obtain ⟨s0, s1, s2, s3, s4⟩ := H1.out.2.1.five
    go_wp2_with fail
    refine (refSame_any V V' B B' m d m' d' ks ks' _ (HB.out.below H1.out.2.2) (HB'.out.below H1.out.2.2) HM.out).mono ?_
    clear t0 t1 t2 t3 t4 s0 s1 s2 s3 s4
    cases h2 : sameB V ks V' ks' with
    | false =>
      have Hr := hid (show equalsT W gs V ks cs W' gs' V' ks' cs' = false by unfold equalsT; rw [h1, h2]; rfl)
      rintro e w2 ⟨rfl, hb2⟩
      have H2 := hid (H1.out.below hb2)
      clear hb2 h1 h2
      go_wp2
      go_ret
      exact ⟨ret_bool Hr.out.symm, H2.out.2.2⟩
    | true =>
      rintro e w2 ⟨rfl, hb2⟩
      have H2 := hid (H1.out.below hb2)
      have Hr := hid (show equalsT W gs V ks cs W' gs' V' ks' cs' = decide (cs = cs') by unfold equalsT; rw [h1, h2]; rfl)
      clear hb2 h1 h2
      obtain ⟨t0, t1, t2, t3, t4⟩ := H2.out.1.five
      obtain ⟨s0, s1, s2, s3, s4⟩ := H2.out.2.1.five
      by_cases hkk : k = k'
      · subst hkk
        have t : ((k : Int) != (k : Int)) = false := by simp
        go_wp2_with fail
        clear t
        go_loopw [5] (fun i wr => ∃ j : Nat, j ≤ k ∧ i = .int .i64 j ∧ Hid (∀ x, x < j → cs[x]? = cs'[x]?) ∧ Hid (TwoT w W V A B C n c m d k q W' V' A' B' C' n' c' m' d' k q' wr)) (fun i _ => k - (intOf i).toNat)
        case atStart => exact ⟨0, by omega, rfl, fun x h => by omega, H2.out⟩
        case round =>
          obtain ⟨j, hj, rfl, hb, hI⟩ := hrel
          clear t0 t1 t2 t3 t4 s0 s1 s2 s3 s4
          obtain ⟨t0, t1, t2, t3, t4⟩ := hI.out.1.five
          obtain ⟨s0, s1, s2, s3, s4⟩ := hI.out.2.1.five
          by_cases hlt : j < k
          · have hget : cs[j]? = some (cs[j]'(by rw [HC.out.len]; exact hlt)) := List.getElem?_eq_getElem _
            have hget' : cs'[j]? = some (cs'[j]'(by rw [HC'.out.len]; exact hlt)) := List.getElem?_eq_getElem _
            generalize (cs[j]'(by rw [HC.out.len]; exact hlt)) = p at hget
            generalize (cs'[j]'(by rw [HC'.out.len]; exact hlt)) = p' at hget'
            obtain ⟨p1, p2⟩ := p
            obtain ⟨q1, q2⟩ := p'
            obtain ⟨ad, rfl, had, h1, h2⟩ := HC.out.cell hget
            obtain ⟨bd, rfl, hbd, h3, h4⟩ := HC'.out.cell hget'
            have Hget := hid hget; have Hget' := hid hget'
            clear hget hget'
            have g1 : wr.cell? (ad.add (j * 2)) = some (.int .i64 p1) := (hI.out.2.2.cell (by rw [add_block]; exact had)).trans h1
            have g2 : wr.cell? ⟨(ad.add (j * 2)).block, (ad.add (j * 2)).off + 1, none⟩ = some (.int .i64 p2) := (hI.out.2.2.cell (by simp only [add_block]; exact had)).trans h2
            have g3 : wr.cell? (bd.add (j * 2)) = some (.int .i64 q1) := (hI.out.2.2.cell (by rw [add_block]; exact hbd)).trans h3
            have g4 : wr.cell? ⟨(bd.add (j * 2)).block, (bd.add (j * 2)).off + 1, none⟩ = some (.int .i64 q2) := (hI.out.2.2.cell (by simp only [add_block]; exact hbd)).trans h4
            clear h1 h2 h3 h4
            have hk0 : (0 : Int) ≤ j := by omega
            have hkn : (j : Int).toNat = j := by omega
            have hk1 : (j : Int) < k := by omega
            by_cases hpq : p1 = q1 ∧ p2 = q2
            · obtain ⟨e1, e2⟩ := hpq
              subst e1
              subst e2
              go_wp2_with fail
              go_quiet (fail)
              clear g1 g2 g3 g4 t0 t1 t2 t3 t4 s0 s1 s2 s3 s4
              have hI2 := hid (hI.out.below (below_drewN (Below.refl _ _) nq))
              clear hI
              generalize wr.drewN nq = wn at *
              go_wp2
              go_roundw
              case rel =>
                refine ⟨j + 1, by omega, by go_num, fun x hx => ?_, hI2.out⟩
                by_cases e : x = j
                · rw [e, Hget.out, Hget'.out]
                · exact hb.out x (by omega)
              case measure => simp [intOf]; omega
            · have E := hid (show decide (cs = cs') = false from decide_eq_false (by
                rintro rfl
                have := Hget.out.symm.trans Hget'.out
                simp only [Option.some.injEq, Prod.mk.injEq] at this
                exact hpq this))
              by_cases e1 : p1 = q1
              · subst e1
                have e2 : ¬ p2 = q2 := fun h => hpq ⟨rfl, h⟩
                have x2 : (p2 == q2) = false := by simp [e2]
                clear hpq e2
                go_wp2_with fail
                go_quiet (fail)
                go_wp2
                go_ret
                exact ⟨ret_bool (by rw [Hr.out]; exact E.out.symm), below_drewN hI.out.2.2 _⟩
              · have x1 : (p1 == q1) = false := by simp [e1]
                clear hpq e1
                go_wp2_with fail
                go_quiet (fail)
                go_wp2
                go_ret
                exact ⟨ret_bool (by rw [Hr.out]; exact E.out.symm), below_drewN hI.out.2.2 _⟩
          · go_wp2
            go_ret
            have e : cs = cs' := list_ext_to (HC.out.len.trans HC'.out.len.symm) fun x hx => hb.out x (by have := HC.out.len; omega)
            exact ⟨ret_bool (by rw [Hr.out]; simp [e]), hI.out.2.2⟩
      · have Hr2 := hid (show decide (cs = cs') = false from decide_eq_false (by rintro rfl; exact hkk (HC.out.len.symm.trans HC'.out.len)))
        have t : ((k : Int) != (k' : Int)) = true := by simp; omega
        have t' : (k != k') = true := by simp [hkk]
        clear hkk
        go_wp2
        go_ret
        exact ⟨ret_bool (by rw [Hr.out, Hr2.out]), H2.out.2.2⟩
end Go.Proofs.Ytmbelhdkaepohaa
