/- The reference's ValidTransfer: which functions are valid. -/
import Derived.Test.YtadkjnjibefocaaTr
import Derived.Test.YtadkjnjibefocaaWide
import Derived.IntWalk
namespace Go.Proofs.Ytadkjnjibefocaa
set_option maxRecDepth 20000
open Go.ChangeShapes Go.WideShapes Go.ChangeAt Go.RowKit

/-- Block g holds just these cells. -/
def Fb (w : World) (g : Nat) (cs : Array Value) (t : Nat) : Prop := w.heap[g]? = some (.cells cs t (0, 0))
section
variable {w w' : World} {g B t : Nat} {cs : Array Value}
theorem Fb.lt (h : Fb w g cs t) : g < w.heap.size := by
  rcases Nat.lt_or_ge g w.heap.size with hlt | hge
  · exact hlt
  · unfold Fb at h; rw [Array.getElem?_eq_none hge] at h; cases h
theorem Fb.cell (h : Fb w g cs t) (j : Nat) : w.cell? ⟨g, j, none⟩ = cs[j]? := by
  unfold Fb at h
  simp [World.cell?, h]
theorem Fb.frozen (h : Fb w g cs t) (j : Nat) : w.frozen? ⟨g, j, none⟩ = false := by
  unfold Fb at h
  simp [World.frozen?, h]
theorem Fb.below (h : Fb w g cs t) (hb : Below B w w') (hg : g < B) : Fb w' g cs t := (hb.block g hg).trans h
theorem Fb.grown {row : Option Nat} (h : Fb w g cs t) (hb : w.grownBy w' row) (hne : some g ≠ row) : Fb w' g cs t := (hb.block g h.lt hne).trans h
theorem Fb.new (w : World) (cs : Array Value) (t : Nat) : Fb (w.alloc (.cells cs t)) w.heap.size cs t := heap_alloc_new w _
theorem Fb.alloc (h : Fb w g cs t) (o : Obj) : Fb (w.alloc o) g cs t := (Below.heap_alloc w o g h.lt).trans h
theorem Fb.far (h : Fb w g cs t) {p : Addr} (hp : g ≠ p.block) (u : Value) : Fb (w.setCell p u) g cs t := (Below.heap_setCell w p u g hp).trans h
theorem Fb.drewN (h : Fb w g cs t) (q : Nat) : Fb (w.drewN q) g cs t := h
end
/-- The cells of a function. -/
def tcells (W : Int) (A : Option Addr) (n c : Nat) (V : Int) (B : Option Addr) (m d : Nat) (C : Option Addr) (k q : Nat) : Array Value :=
  #[.int .i64 W, .slice A n c, .int .i64 V, .slice B m d, .slice C k q]
theorem Fb.five {w : World} {g t : Nat} {a b c d e : Value} (h : Fb w g #[a, b, c, d, e] t) :
    w.cell? ⟨g, 0, none⟩ = some a ∧ w.cell? ⟨g, 1, none⟩ = some b ∧ w.cell? ⟨g, 2, none⟩ = some c ∧ w.cell? ⟨g, 3, none⟩ = some d ∧ w.cell? ⟨g, 4, none⟩ = some e :=
  ⟨h.cell 0, h.cell 1, h.cell 2, h.cell 3, h.cell 4⟩
theorem Fb.two {w : World} {g t : Nat} {a b : Value} (h : Fb w g #[a, b] t) :
    w.cell? ⟨g, 0, none⟩ = some a ∧ w.cell? ⟨g, 1, none⟩ = some b := ⟨h.cell 0, h.cell 1⟩

def inW (W : Int) (p : Int × Int) : Bool := decide (0 ≤ p.1) && decide (p.1 < W) && decide (0 ≤ p.2) && decide (p.2 < W)
def okAt (W : Int) (cs : List (Int × Int)) (i : Nat) : Bool := inW W (cs.getD i (0, 0)) && (decide (i = 0) || beforeB (cs.getD (i - 1) (0, 0)) (cs.getD i (0, 0)))
/-- P3.1: which functions are valid. -/
def validT (W : Int) (gs : List Nat) (V : Int) (ks : List Nat) (cs : List (Int × Int)) : Bool :=
  Bs.validB W gs && Bs.validB V ks && decide (W = V) && decide (cs.length ≤ 64) && (List.range cs.length).all (okAt W cs)

set_option maxHeartbeats 800000 in
theorem refValidT_any (W V : Int) (A B C : Option Addr) (n c m d k q : Nat) (gs ks : List Nat) (cs : List (Int × Int)) (w : World) (hA : Arg w A n gs) (hB : Arg w B m ks) (hC : ArgC w C k cs) :
    Calls Try.prog 31 #[.agg #[.int .i64 W, .slice A n c, .int .i64 V, .slice B m d, .slice C k q]] w fun e w' => e = .returned (.bool (validT W gs V ks cs)) ∧ Below w.heap.size w w' := by
  have HA := hid hA; have HB := hid hB; have HC := hid hC
  clear hA hB hC
  cases hv : Bs.validB W gs with
  | false =>
    have hres : validT W gs V ks cs = false := by unfold validT; simp [hv]
    have Hres := hid hres; have Hv := hid hv
    clear hres hv
    go_enter Try.func31, Try.ntmps31
    go_wp2_with fail
    refine (refValid_any W A n c gs _ (HA.out.alloc _).lies HA.out.ok HA.out.len).mono ?_
    rw [Hv.out]
    rintro e w1 ⟨rfl, hb1⟩
    have Hb1 := hid (((Below.refl w.heap.size w).alloc (Nat.le_refl _) _).trans (hb1.mono (by simp)))
    clear hb1
    go_wp2
    go_ret
    exact ⟨ret_bool Hres.out.symm, Hb1.out⟩
  | true =>
    have Hv := hid hv
    go_enter Try.func31, Try.ntmps31
    go_wp2_with fail
    refine (refValid_any W A n c gs _ (HA.out.alloc _).lies HA.out.ok HA.out.len).mono ?_
    rw [Hv.out]
    rintro e w1 ⟨rfl, hb1⟩
    have hF := hid ((Fb.new w #[.int .i64 W, .slice A n c, .int .i64 V, .slice B m d, .slice C k q] 51).below hb1 (by simp))
    have Hb1 := hid (((Below.refl w.heap.size w).alloc (Nat.le_refl _) _).trans (hb1.mono (by simp)))
    clear hb1
    obtain ⟨c0, c1, c2, c3, c4⟩ := hF.out.five
    go_wp2_with fail
    refine (refValid_any V B m d ks _ (HB.out.below Hb1.out).lies HB.out.ok HB.out.len).mono ?_
    cases hk : Bs.validB V ks with
    | false =>
      have hres : validT W gs V ks cs = false := by unfold validT; simp [hk]
      have Hres := hid hres
      clear hres hk hv
      rintro e w2 ⟨rfl, hb2⟩
      have hF2 := hid (hF.out.below hb2 hF.out.lt)
      have Hb2 := hid (Hb1.out.trans (hb2.mono Hb1.out.size))
      clear hb2 c0 c1 c2 c3 c4
      go_wp2
      go_ret
      exact ⟨ret_bool Hres.out.symm, Hb2.out⟩
    | true =>
      have Hk := hid hk
      clear hk hv
      rintro e w2 ⟨rfl, hb2⟩
      have hF2 := hid (hF.out.below hb2 hF.out.lt)
      have Hb2 := hid (Hb1.out.trans (hb2.mono Hb1.out.size))
      clear hb2 c0 c1 c2 c3 c4
      obtain ⟨c0, c1, c2, c3, c4⟩ := hF2.out.five
      by_cases hWV : W = V
      · have t1 : (W != V) = false := by simp [hWV]
        have HWV := hid hWV
        clear hWV
        by_cases hle : k ≤ 64
        · have hsp : validT W gs V ks cs = (List.range cs.length).all (okAt W cs) := by
            unfold validT; rw [Hv.out, Hk.out, HC.out.len]; simp [HWV.out, hle]
          have Hsp := hid hsp
          clear hsp
          go_wp2_with fail
          clear t1 c0 c1 c2 c3 c4
          go_loopw [4] (fun i wr => ∃ j : Nat, j ≤ k ∧ i = .int .i64 j ∧ Hid (∀ x, x < j → okAt W cs x = true) ∧ Hid (Fb wr w.heap.size #[.int .i64 W, .slice A n c, .int .i64 V, .slice B m d, .slice C k q] 51 ∧ Below w.heap.size w wr)) (fun i _ => k - (intOf i).toNat)
          case atStart => exact ⟨0, by omega, rfl, fun x h => by omega, hF2.out, Hb2.out⟩
          case round =>
            obtain ⟨j, hj, rfl, hb, hI⟩ := hrel
            obtain ⟨c0, c1, c2, c3, c4⟩ := hI.out.1.five
            by_cases hlt : j < k
            · have hget : cs[j]? = some (cs[j]'(by rw [HC.out.len]; exact hlt)) := List.getElem?_eq_getElem _
              have hok : okAt W cs j = (inW W (cs[j]'(by rw [HC.out.len]; exact hlt)) && (decide (j = 0) || beforeB (cs.getD (j - 1) (0, 0)) (cs[j]'(by rw [HC.out.len]; exact hlt)))) := by
                unfold okAt; rw [List.getD_eq_getElem?_getD (i := j), hget]; rfl
              generalize (cs[j]'(by rw [HC.out.len]; exact hlt)) = p at hget hok
              obtain ⟨p1, p2⟩ := p
              obtain ⟨ad, rfl, had, h1, h2⟩ := HC.out.cell hget
              have Hok := hid hok
              clear hget hok
              have g1 : wr.cell? (ad.add (j * 2)) = some (.int .i64 p1) := (hI.out.2.cell (by rw [add_block]; exact had)).trans h1
              have g2 : wr.cell? ⟨(ad.add (j * 2)).block, (ad.add (j * 2)).off + 1, none⟩ = some (.int .i64 p2) := (hI.out.2.cell (by simp only [add_block]; exact had)).trans h2
              clear h1 h2
              have hF3 := hid ((hI.out.1.alloc (.cells #[.int .i64 p1, .int .i64 p2] 62)))
              have hB3 := hid ((hI.out.2.alloc hI.out.2.size (.cells #[.int .i64 p1, .int .i64 p2] 62)))
              have e0 := (Fb.new wr #[.int .i64 p1, .int .i64 p2] 62).two
              obtain ⟨b0, b1⟩ := e0
              have c4' := hF3.out.five.2.2.2.2
              have r1 := (hB3.out.cell (p := ad.add (j * 2)) (by rw [add_block]; exact had)).trans ((hI.out.2.cell (p := ad.add (j * 2)) (by rw [add_block]; exact had)).symm.trans g1)
              have r2 := (hB3.out.cell (p := ⟨(ad.add (j * 2)).block, (ad.add (j * 2)).off + 1, none⟩) (by simp only [add_block]; exact had)).trans ((hI.out.2.cell (p := ⟨(ad.add (j * 2)).block, (ad.add (j * 2)).off + 1, none⟩) (by simp only [add_block]; exact had)).symm.trans g2)
              go_wp2_with fail
              clear c0 c1 c2 c3 c4 g1 g2
              generalize wr.alloc (.cells #[.int .i64 p1, .int .i64 p2] 62) = wv at *
              generalize wr.heap.size = gv at *
              by_cases i1 : p1 < 0
              · have E := hid (show validT W gs V ks cs = false by
                  rw [Hsp.out]
                  refine Bool.eq_false_iff.2 fun hall => ?_
                  have := List.all_eq_true.1 hall j (List.mem_range.2 (by rw [HC.out.len]; exact hlt))
                  rw [Hok.out] at this
                  simp [inW] at this
                  omega)
                go_quiet (fail)
                go_wp2
                go_ret
                exact ⟨ret_bool E.out.symm, below_drewN hB3.out _⟩
              by_cases i2 : W ≤ p1
              · have E := hid (show validT W gs V ks cs = false by
                  rw [Hsp.out]
                  refine Bool.eq_false_iff.2 fun hall => ?_
                  have := List.all_eq_true.1 hall j (List.mem_range.2 (by rw [HC.out.len]; exact hlt))
                  rw [Hok.out] at this
                  simp [inW] at this
                  omega)
                go_quiet (fail)
                go_wp2
                go_ret
                exact ⟨ret_bool E.out.symm, below_drewN hB3.out _⟩
              by_cases i3 : p2 < 0
              · have E := hid (show validT W gs V ks cs = false by
                  rw [Hsp.out]
                  refine Bool.eq_false_iff.2 fun hall => ?_
                  have := List.all_eq_true.1 hall j (List.mem_range.2 (by rw [HC.out.len]; exact hlt))
                  rw [Hok.out] at this
                  simp [inW] at this
                  omega)
                go_quiet (fail)
                go_wp2
                go_ret
                exact ⟨ret_bool E.out.symm, below_drewN hB3.out _⟩
              by_cases i4 : W ≤ p2
              · have E := hid (show validT W gs V ks cs = false by
                  rw [Hsp.out]
                  refine Bool.eq_false_iff.2 fun hall => ?_
                  have := List.all_eq_true.1 hall j (List.mem_range.2 (by rw [HC.out.len]; exact hlt))
                  rw [Hok.out] at this
                  simp [inW] at this
                  omega)
                go_quiet (fail)
                go_wp2
                go_ret
                exact ⟨ret_bool E.out.symm, below_drewN hB3.out _⟩
              by_cases j0 : j = 0
              · have E := hid (show okAt W cs j = true by rw [Hok.out]; simp [inW, j0]; omega)
                have tj : decide (0 < (j : Int)) = false := by simp [j0]
                have tj2 : decide (0 < j) = false := by simp [j0]
                clear j0
                go_quiet (fail)
                go_wp2
                go_roundw
                case rel =>
                  refine ⟨j + 1, by omega, by go_num, fun x hx => ?_, hF3.out.drewN _, below_drewN hB3.out _⟩
                  by_cases e : x = j
                  · rw [e]; exact E.out
                  · exact hb.out x (by omega)
                case measure => simp [intOf]; omega
              · have hget : cs[j - 1]? = some (cs[j - 1]'(by rw [HC.out.len]; omega)) := List.getElem?_eq_getElem _
                have hok := Hok.out
                rw [List.getD_eq_getElem?_getD (i := j - 1), hget] at hok
                generalize (cs[j - 1]'(by rw [HC.out.len]; omega)) = p at hget hok
                obtain ⟨q1, q2⟩ := p
                obtain ⟨ad', e', _, h1, h2⟩ := HC.out.cell hget
                cases e'
                have hok2 : okAt W cs j = beforeB (q1, q2) (p1, p2) := by
                  rw [hok]; simp [inW, j0]; omega
                have Hok2 := hid hok2
                clear hget hok hok2
                have r3 := (hB3.out.cell (p := ad.add ((j - 1) * 2)) (by rw [add_block]; exact had)).trans h1
                have r4 := (hB3.out.cell (p := ⟨(ad.add ((j - 1) * 2)).block, (ad.add ((j - 1) * 2)).off + 1, none⟩) (by simp only [add_block]; exact had)).trans h2
                clear h1 h2
                have tj : decide (0 < (j : Int)) = true := by simp; omega
                have tj2 : decide (0 < j) = true := by simp; omega
                have s1 : IntKind.i64.wrap ((j : Int) - 1) = (j : Int) - 1 := IntWalk.i64_in _ (by omega)
                have s2 : (1 : Int) ≤ (j : Int) := by omega
                have s3 : ((j : Int) - 1) < (k : Int) := by omega
                have s4 : ((j : Int) - 1).toNat = j - 1 := by omega
                refine wp_region_still_tail 31 (by kernel_rfl) (by kernel_rfl) ?_
                simp only [List.take_succ_cons, List.take_zero, List.drop_succ_cons, List.drop_zero]
                repeat still_step
                try refine wpStill_nil ?_
                change wpList _ _ _ _ _ wv.drew
                clear s1 s2 s3 s4
                have hF4 := hid (hF3.out.drewN 1)
                have hB4 := hid (below_drewN hB3.out 1)
                change Hid (Fb wv.drew w.heap.size _ 51) at hF4
                change Hid (Below w.heap.size w wv.drew) at hB4
                generalize wv.drew = wd at *
                clear r1 r2 r3 r4 b0 b1 c4' hF3 hB3
                cases hbf : beforeB (q1, q2) (p1, p2) with
                | true =>
                  have E := hid (show okAt W cs j = true by rw [Hok2.out]; exact hbf)
                  go_wp2_with fail
                  refine (refBefore_any q1 q2 p1 p2 _).mono ?_
                  rw [hbf]
                  rintro e w9 ⟨rfl, hb9⟩
                  have hF9 := hid (hF4.out.below hb9 hF4.out.lt)
                  have hB9 := hid (hB4.out.trans (hb9.mono hB4.out.size))
                  clear hb9 hbf
                  go_wp2_with fail
                  go_roundw
                  case rel =>
                    refine ⟨j + 1, by omega, by go_num, fun x hx => ?_, hF9.out, hB9.out⟩
                    by_cases e : x = j
                    · rw [e]; exact E.out
                    · exact hb.out x (by omega)
                  case measure => simp [intOf]; omega
                | false =>
                  have E := hid (show validT W gs V ks cs = false by
                    rw [Hsp.out]
                    refine Bool.eq_false_iff.2 fun hall => ?_
                    have := List.all_eq_true.1 hall j (List.mem_range.2 (by rw [HC.out.len]; exact hlt))
                    rw [Hok2.out, hbf] at this
                    exact absurd this (by simp))
                  go_wp2_with fail
                  refine (refBefore_any q1 q2 p1 p2 _).mono ?_
                  rw [hbf]
                  rintro e w9 ⟨rfl, hb9⟩
                  have hB9 := hid (hB4.out.trans (hb9.mono hB4.out.size))
                  clear hb9 hbf
                  go_wp2_with fail
                  go_ret
                  exact ⟨ret_bool E.out.symm, hB9.out⟩
            · go_wp2
              go_ret
              refine ⟨ret_bool ?_, hI.out.2⟩
              rw [Hsp.out]
              refine (List.all_eq_true.2 fun x hx => hb.out x ?_).symm
              have := List.mem_range.1 hx
              rw [HC.out.len] at this; omega
        · have hres : validT W gs V ks cs = false := by unfold validT; rw [HC.out.len]; simp [hle]
          have Hres := hid hres
          clear hres
          go_wp2
          go_ret
          exact ⟨ret_bool Hres.out.symm, Hb2.out⟩
      · have t1 : (W != V) = true := by simp [hWV]
        have hres : validT W gs V ks cs = false := by unfold validT; simp [hWV]
        have Hres := hid hres
        clear hres hWV
        go_wp2
        go_ret
        exact ⟨ret_bool Hres.out.symm, Hb2.out⟩
end Go.Proofs.Ytadkjnjibefocaa
