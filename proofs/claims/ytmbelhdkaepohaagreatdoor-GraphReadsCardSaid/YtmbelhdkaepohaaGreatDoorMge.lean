/- Texts that the proof leans on, merged. -/
import Derived.Test.YtmbelhdkaepohaaGreatDoorMga
import Derived.Test.YtmbelhdkaepohaaGreatDoorMgb
import Derived.Test.YtmbelhdkaepohaaGreatDoorMgc
import Derived.Test.YtmbelhdkaepohaaGreatDoorMgd
import Derived.Test.YtmbelhdkaepohaaGreatDoorMpp
namespace Go.Proofs.YtmbelhdkaepohaaGreatDoor
set_option maxRecDepth 20000
set_option linter.unusedVariables false
set_option linter.unusedSimpArgs false
open Go.ChangeShapes Go.WideShapes Go.ChangeAt Go.RowKit

/-- A graph and its box. -/
structure Bxg (v : World) (G : Nat) (x : GH) : Prop where
  box : Fb v G #[.slice x.A x.n x.c, .slice x.S.A x.S.n x.S.c, .slice x.P.A x.P.n x.P.c] 26
  g : GHok v [] x
theorem Bxg.below {v v' : World} {G : Nat} {x : GH} (h : Bxg v G x) (hb : Below v.heap.size v v') : Bxg v' G x := ⟨h.box.below hb h.box.lt, h.g.below hb⟩
theorem Bxg.new {v : World} {x : GH} (h : GHok v [] x) : Bxg (v.alloc (.cells #[.slice x.A x.n x.c, .slice x.S.A x.S.n x.S.c, .slice x.P.A x.P.n x.P.c] 26)) v.heap.size x := ⟨Fb.new _ _ _, h.below ((Below.refl _ _).alloc (Nat.le_refl _) _)⟩
theorem edg_val {N : Nat} {S P : List (List Int)} (h : ValG N S P) : edgN N S P = tot S := by unfold edgN; rw [validB_iff.2 h]; rfl
theorem retq_below {w : World} {v : Value} {e : Ending} {w' : World} (h : RetQ w v e w') : e = .returned v ∧ Below w.heap.size w w' := by
  obtain ⟨h1, q, rfl⟩ := h
  exact ⟨h1, below_drewN (Below.refl _ _) q⟩
end Go.Proofs.YtmbelhdkaepohaaGreatDoor

namespace Go.Proofs.YtmbelhdkaepohaaGreatDoor
set_option maxRecDepth 20000
set_option linter.unusedVariables false
set_option linter.unusedSimpArgs false
open Go.ChangeShapes Go.WideShapes Go.ChangeAt Go.RowKit

/-- A graph, its reversal, and the tape. -/
structure Gw2 (w : World) (T G1 G2 : Nat) (x y : GH) (v : World) : Prop where
  gos : GoS w T v
  bx : Fb v G1 #[.slice x.A x.n x.c, .slice x.S.A x.S.n x.S.c, .slice x.P.A x.P.n x.P.c] 26
  by' : Fb v G2 #[.slice y.A y.n y.c, .slice y.S.A y.S.n y.S.c, .slice y.P.A y.P.n y.P.c] 26
  gx : GHok v [some T] x
  gy : GHok v [some T] y
  n1 : G1 ≠ T
  n2 : G2 ≠ T
theorem Gw2.step {w v v' : World} {T G1 G2 : Nat} {x y : GH} (h : Gw2 w T G1 G2 x y v) (ht : Tape v' T) (hg : v.grownBy v' (some T)) : Gw2 w T G1 G2 x y v' :=
  ⟨h.gos.stepT ht hg, h.bx.grown hg (by intro e; injection e with e; exact h.n1 e), h.by'.grown hg (by intro e; injection e with e; exact h.n2 e), h.gx.go (Go2.same hg (.inr (by simp))), h.gy.go (Go2.same hg (.inr (by simp))), h.n1, h.n2⟩
theorem Gw2.below {w v v' : World} {T G1 G2 : Nat} {x y : GH} (h : Gw2 w T G1 G2 x y v) (hb : Below v.heap.size v v') : Gw2 w T G1 G2 x y v' := h.step (h.gos.go.below hb).1 (grown_of_below hb _)
theorem hasI_iff {l : List Int} {n : Int} : hasI l n = true ↔ n ∈ l := by unfold hasI; simp
theorem hasI_congr {l m : List Int} {a b : Int} (h : a ∈ l ↔ b ∈ m) : hasI l a = hasI m b := by rw [Bool.eq_iff_iff, hasI_iff, hasI_iff]; exact h
theorem retq_of {P : Program} {f : FuncId} {args : Array Value} {w : World} {b : Bool} (h : Calls P f args w (RetQ w (.bool b))) (hb : b = true) : Calls P f args w fun e w' => e = .returned (.bool true) ∧ Below w.heap.size w w' :=
  h.mono fun _ _ h => by rw [← hb]; exact retq_below h
theorem GHok.out0 {v : World} {ex : List (Option Nat)} {x : GH} (h : GHok v ex x) : GHok v [] x := h.go (Go2.less v (by simp))
end Go.Proofs.YtmbelhdkaepohaaGreatDoor

namespace Go.Proofs.YtmbelhdkaepohaaGreatDoor
set_option maxRecDepth 20000
set_option linter.unusedVariables false
set_option linter.unusedSimpArgs false
open Go.ChangeShapes Go.WideShapes Go.ChangeAt Go.RowKit

/-- What stands while a graph is read. -/
structure Grd (w : World) (G : Nat) (x : GH) (f : RH) (v : World) : Prop where
  bel : Below w.heap.size w v
  bx : Fb v G #[.slice x.A x.n x.c, .slice x.S.A x.S.n x.S.c, .slice x.P.A x.P.n x.P.c] 26
  g : GHok v [] x
  r : RHok v [] f
theorem Grd.below {w v v' : World} {G : Nat} {x : GH} {f : RH} (h : Grd w G x f v) (hb : Below v.heap.size v v') : Grd w G x f v' :=
  ⟨below_step h.bel hb, h.bx.below hb h.bx.lt, h.g.below hb, h.r.below hb⟩
theorem Grd.start {w : World} {x : GH} {f : RH} (h : GHok w [] x) (hf : RHok w [] f) : Grd w w.heap.size x f (w.alloc (.cells #[.slice x.A x.n x.c, .slice x.S.A x.S.n x.S.c, .slice x.P.A x.P.n x.P.c] 26)) :=
  have hb := (Below.refl w.heap.size w).alloc (Nat.le_refl _) (.cells #[.slice x.A x.n x.c, .slice x.S.A x.S.n x.S.c, .slice x.P.A x.P.n x.P.c] 26)
  ⟨hb, Fb.new _ _ _, h.below hb, hf.below hb⟩
set_option maxHeartbeats 6400000 in
theorem reads_any (x : GH) (f : RH) (w : World) (h : GHok w [] x) (hf : RHok w [] f) :
    Calls Tryz.prog 6 #[x.a, .slice f.A f.n f.c] w fun e w' => e = .returned (.bool true) ∧ Below w.heap.size w w' := by
  have HG := hid (Grd.start h hf)
  have HV1 := hid (fun (v : World) (hv : Grd w w.heap.size x f v) => refValidGraph_any x [] v hv.g)
  have HV2 := hid (fun (v : World) (hv : Grd w w.heap.size x f v) => valid_graph x [] v hv.g)
  have HE1 := hid (fun (v : World) (hv : Grd w w.heap.size x f v) => edges_any x [] v hv.g)
  have HE2 := hid (fun (v : World) (hv : Grd w w.heap.size x f v) => refEdges_any x [] v hv.g)
  have HR1 := hid (fun (v : World) (hv : Grd w w.heap.size x f v) => devReach_all x f v hv.g hv.r)
  have HR2 := hid (fun (v : World) (hv : Grd w w.heap.size x f v) => refReach_all x f v hv.g hv.r)
  generalize edgN x.n x.S.v x.P.v = en at HE1 HE2
  generalize rchD x f = D at HR1 HR2
  cases hvb : validB x.n x.S.v x.P.v with
  | true =>
    have hval := validB_iff.1 hvb
    have HRv := hid (fun (v : World) (hv : Grd w w.heap.size x f v) => reverse_yes x [] v hv.g hval)
    clear hval
    rw [hvb] at HV1 HV2
    clear h hf hvb
    unfold GH.a at *
    go_enter Tryz.func6, Tryz.ntmps6
    have hc := HG.out.bx.thr
    have hl := HG.out.bx.lt
    go_wp2_with fail
    clear hc hl
    generalize w.alloc (.cells #[.slice x.A x.n x.c, .slice x.S.A x.S.n x.S.c, .slice x.P.A x.P.n x.P.c] 26) = w1 at *
    generalize hGd : w.heap.size = G at *
    refine (HRv.out _ HG.out).mono ?_
    rintro e w2 ⟨y, rfl, hyn, hyS, hyP, hyok, hb⟩
    have hy := hyok [] (by simp)
    have ha := (Below.refl w2.heap.size w2).alloc (Nat.le_refl _) (.cells #[.slice y.A y.n y.c, .slice y.S.A y.S.n y.S.c, .slice y.P.A y.P.n y.P.c] 26)
    have HG2 := hid ((HG.out.below hb).below ha)
    have HY2 := hid (Bxg.new hy)
    have HE := hid (And.intro hyn (And.intro hyS hyP))
    clear hyok hy hb ha hyn hyS hyP HG HRv
    unfold GH.a at *
    have hc := HY2.out.box.thr
    have hl := HY2.out.box.lt
    have hc1 := HG2.out.bx.thr
    have hl1 := HG2.out.bx.lt
    simp only
    go_wp2_with fail
    clear hc hl hc1 hl1
    generalize w2.alloc (.cells #[.slice y.A y.n y.c, .slice y.S.A y.S.n y.S.c, .slice y.P.A y.P.n y.P.c] 26) = w3 at *
    generalize w2.heap.size = G2 at *
    refine (HV1.out _ HG2.out).mono ?_
    rintro e w4 ⟨rfl, hb4⟩
    have HG4 := hid (HG2.out.below hb4)
    have HY4 := hid (HY2.out.below hb4)
    clear hb4 HG2 HY2
    have hc := HY4.out.box.thr
    have hl := HY4.out.box.lt
    have hc1 := HG4.out.bx.thr
    have hl1 := HG4.out.bx.lt
    go_wp2_with fail
    clear hc hl hc1 hl1
    refine (sameGraph_yes y ⟨x.A, x.n, x.c, x.ns, x.P, x.S⟩ [] [] _ HY4.out.g ⟨HG4.out.g.lies, HG4.out.g.len, HG4.out.g.few, HG4.out.g.p, HG4.out.g.s⟩ HE.out.1.symm HE.out.2.1.symm HE.out.2.2.symm).mono ?_
    rintro e w5 ⟨rfl, hb5⟩
    have HG5 := hid (HG4.out.below hb5)
    clear hb5 HG4 HY4 HE
    go_wp2_with fail
    have HB := hid (HG5.out.below (Below.refl _ _).drew)
    clear HG5
    go_region_held3 (fun v => v.cell? ⟨G, 0, none⟩ = some (.slice x.A x.n x.c) ∧ v.cell? ⟨G, 1, none⟩ = some (.slice x.S.A x.S.n x.S.c) ∧ v.cell? ⟨G, 2, none⟩ = some (.slice x.P.A x.P.n x.P.c))
      (exact HB.out.bx.thr)
      (first
       | (go_at_call 14
          refine (HV2.out _ HB.out).mono ?_
          rintro e va ⟨rfl, hba⟩
          have HB := hid (HB.out.below hba)
          clear hba)
       | (go_at_call 12
          refine (HV1.out _ HB.out).mono ?_
          rintro e vb ⟨rfl, hbb⟩
          have HB := hid (HB.out.below hbb)
          clear hbb)
       | (go_at_call 15
          refine (HE1.out _ HB.out).mono ?_
          rintro e vc ⟨rfl, hbc⟩
          have HB := hid (HB.out.below hbc)
          clear hbc)
       | (go_at_call 16
          refine (HE2.out _ HB.out).mono ?_
          rintro e vd ⟨rfl, hbd⟩
          have HB := hid (HB.out.below hbd)
          clear hbd)
       | (go_at_call 18
          refine (HR1.out _ HB.out).mono ?_
          rintro e ve ⟨r1, rfl, hr1, hrk1, hbe⟩
          have HQ1 := hid (And.intro hrk1 hr1)
          have HB := hid (HB.out.below hbe)
          clear hbe hr1 hrk1)
       | (go_at_call 19
          refine (HR2.out _ HB.out).mono ?_
          rintro e vf ⟨r2, rfl, hr2, hrk2, hbf⟩
          have HQ2 := hid (And.intro hrk2 hr2)
          have HQ1 := hid (And.intro (HQ1.out.1.below hbf) HQ1.out.2)
          have HB := hid (HB.out.below hbf)
          clear hbf hr2 hrk2)
       | (go_at_call 17
          refine (retq_of (refInts_any r1 r2 [] [] _ HQ1.out.1 HQ2.out.1) (show eqD r1.l r2.l = true by unfold eqD; rw [HQ1.out.2, HQ2.out.2]; simp)).mono ?_
          rintro e vg ⟨rfl, hbg⟩
          have HB := hid (HB.out.below hbg)
          clear hbg))
    all_goals
      have HF := hid HB.out.bel
      go_wp2_with fail
      go_ret
      first | exact ⟨rfl, HF.out⟩ | exact ⟨rfl, hGd ▸ HF.out⟩
  | false =>
    have HRv := hid (fun (v : World) (hv : Grd w w.heap.size x f v) => reverse_no x [] v hv.g hvb)
    rw [hvb] at HV1 HV2
    clear h hf hvb
    unfold GH.a at *
    go_enter Tryz.func6, Tryz.ntmps6
    have hc := HG.out.bx.thr
    have hl := HG.out.bx.lt
    go_wp2_with fail
    clear hc hl
    generalize w.alloc (.cells #[.slice x.A x.n x.c, .slice x.S.A x.S.n x.S.c, .slice x.P.A x.P.n x.P.c] 26) = w1 at *
    generalize hGd : w.heap.size = G at *
    refine (HRv.out _ HG.out).mono ?_
    rintro e w2 ⟨y, rfl, hyn, hyS, hyP, hyok, hb⟩
    have hy := hyok [] (by simp)
    have ha := (Below.refl w2.heap.size w2).alloc (Nat.le_refl _) (.cells #[.slice y.A y.n y.c, .slice y.S.A y.S.n y.S.c, .slice y.P.A y.P.n y.P.c] 26)
    have HG2 := hid ((HG.out.below hb).below ha)
    have HY2 := hid (Bxg.new hy)
    have HE := hid (And.intro hyn (And.intro hyS hyP))
    have hy0 : y.n = 0 := by rw [← hy.len, hyn]; rfl
    have HY0 := hid hy0
    clear hyok hy hb ha hyn hyS hyP HG HRv hy0
    unfold GH.a at *
    have hc := HY2.out.box.thr
    have hl := HY2.out.box.lt
    have hc1 := HG2.out.bx.thr
    have hl1 := HG2.out.bx.lt
    simp only
    go_wp2_with fail
    clear hc hl hc1 hl1
    generalize w2.alloc (.cells #[.slice y.A y.n y.c, .slice y.S.A y.S.n y.S.c, .slice y.P.A y.P.n y.P.c] 26) = w3 at *
    generalize w2.heap.size = G2 at *
    refine (HV1.out _ HG2.out).mono ?_
    rintro e w4 ⟨rfl, hb4⟩
    have HG4 := hid (HG2.out.below hb4)
    have HY4 := hid (HY2.out.below hb4)
    clear hb4 HG2 HY2
    have hc := HY4.out.box.thr
    have hl := HY4.out.box.lt
    have hc1 := HG4.out.bx.thr
    have hl1 := HG4.out.bx.lt
    rw [HY0.out] at hc
    go_wp2_with fail
    clear hc hl hc1 hl1
    have HG5 := HG4
    clear HG4 HY4 HE HY0
    generalize w4 = w5 at *
    have HB := hid (HG5.out.below (Below.refl _ _).drew)
    clear HG5
    go_region_held3 (fun v => v.cell? ⟨G, 0, none⟩ = some (.slice x.A x.n x.c) ∧ v.cell? ⟨G, 1, none⟩ = some (.slice x.S.A x.S.n x.S.c) ∧ v.cell? ⟨G, 2, none⟩ = some (.slice x.P.A x.P.n x.P.c))
      (exact HB.out.bx.thr)
      (first
       | (go_at_call 14
          refine (HV2.out _ HB.out).mono ?_
          rintro e va ⟨rfl, hba⟩
          have HB := hid (HB.out.below hba)
          clear hba)
       | (go_at_call 12
          refine (HV1.out _ HB.out).mono ?_
          rintro e vb ⟨rfl, hbb⟩
          have HB := hid (HB.out.below hbb)
          clear hbb)
       | (go_at_call 15
          refine (HE1.out _ HB.out).mono ?_
          rintro e vc ⟨rfl, hbc⟩
          have HB := hid (HB.out.below hbc)
          clear hbc)
       | (go_at_call 16
          refine (HE2.out _ HB.out).mono ?_
          rintro e vd ⟨rfl, hbd⟩
          have HB := hid (HB.out.below hbd)
          clear hbd)
       | (go_at_call 18
          refine (HR1.out _ HB.out).mono ?_
          rintro e ve ⟨r1, rfl, hr1, hrk1, hbe⟩
          have HQ1 := hid (And.intro hrk1 hr1)
          have HB := hid (HB.out.below hbe)
          clear hbe hr1 hrk1)
       | (go_at_call 19
          refine (HR2.out _ HB.out).mono ?_
          rintro e vf ⟨r2, rfl, hr2, hrk2, hbf⟩
          have HQ2 := hid (And.intro hrk2 hr2)
          have HQ1 := hid (And.intro (HQ1.out.1.below hbf) HQ1.out.2)
          have HB := hid (HB.out.below hbf)
          clear hbf hr2 hrk2)
       | (go_at_call 17
          refine (retq_of (refInts_any r1 r2 [] [] _ HQ1.out.1 HQ2.out.1) (show eqD r1.l r2.l = true by unfold eqD; rw [HQ1.out.2, HQ2.out.2]; simp)).mono ?_
          rintro e vg ⟨rfl, hbg⟩
          have HB := hid (HB.out.below hbg)
          clear hbg))
    all_goals
      have HF := hid HB.out.bel
      go_wp2_with fail
      go_ret
      first | exact ⟨rfl, HF.out⟩ | exact ⟨rfl, hGd ▸ HF.out⟩
end Go.Proofs.YtmbelhdkaepohaaGreatDoor
