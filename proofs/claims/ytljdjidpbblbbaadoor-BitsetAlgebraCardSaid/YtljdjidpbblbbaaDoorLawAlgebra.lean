/- The walk of BitsetAlgebra: it returns true for every list of choices, and writes new memory only. -/
import Derived.Test.YtljdjidpbblbbaaDoorAlg
import Derived.Test.YtljdjidpbblbbaaDoorLawMakes
namespace Go.Proofs.YtljdjidpbblbbaaDoor
open Go.ChangeShapes Go.WideShapes Go.ChangeAt Go.RowKit

set_option maxRecDepth 100000 in
set_option maxHeartbeats 12800000 in
theorem lawAlgebra (At : Option Addr) (nt ct : Nat) (zs : List Int) (w : World) (ht : IArg w At nt zs) (hnt : nt ≤ maxLen) :
    Calls Tryd.prog 8 #[.slice At nt ct] w fun e w' => e = .returned (.bool true) ∧ Below w.heap.size w w' := by
  have hinv : Going w w.heap.size (w.alloc (.cells #[.slice At nt ct, .int .i64 0] 58)) := ⟨tape_new ht hnt, (Below.refl _ _).alloc (Nat.le_refl _) _, Nat.le_refl _⟩
  have Hinv := hid hinv
  clear hinv ht
  go_enter Tryd.func8, Tryd.ntmps8
  go_wp2_with (go_at_call 9; refine (new_any At nt ct _).mono ?_; rintro e w1 ⟨rfl, rfl⟩)
  generalize hT : w.heap.size = T at *
  have HT := hid hT
  clear hT
  have htt := hid Hinv.out.1
  refine (next_any T 4 _ (htt.out.alloc _) (by omega)).mono ?_
  rintro e w1 ⟨r, rfl, hr0, hr1, ht1, hg1, hs1⟩
  obtain ⟨v, hv, hcell⟩ := pick4 4 64 65 129 (by omega) r hr0 (by omega) _ w1 hg1 (by have := htt.out.lt; omega)
  have hr2 : r < 4 := by omega
  rw [World.size_alloc, HT.out] at hcell
  have G1 := hid ((Hinv.out.alloc _).step ht1 hg1)
  clear hr1 ht1 hg1 hs1 htt Hinv
  go_wp2_with fail
  refine (set_any T v _ G1.out.1 hv).mono ?_
  rintro e w2 ⟨Aa, na, ca, sa, rfl, hf, ha, ht2, hg2⟩
  have G2 := hid (G1.out.step ht2 hg2)
  have la := fit_len hf ha hv
  obtain ⟨pa, rfl⟩ := st_of hf
  have aa := hid ha
  clear hf ha ht2 hg2 hcell
  go_wp2_with fail
  refine (set_any T v _ G2.out.1 hv).mono ?_
  rintro e w3 ⟨Ab, nb, cb, sb, rfl, hf, ha, ht2, hg2⟩
  have G3 := hid (G2.out.step ht2 hg2)
  have aa := hid (aa.out.tape G2.out.1 hg2)
  have lb := fit_len hf ha hv
  obtain ⟨pb, rfl⟩ := st_of hf
  have ab := hid ha
  clear hf ha ht2 hg2
  go_wp2_with fail
  refine (set_any T v _ G3.out.1 hv).mono ?_
  rintro e w4 ⟨Ac, nc, cc, sc, rfl, hf, ha, ht2, hg2⟩
  have G4 := hid (G3.out.step ht2 hg2)
  have aa := hid (aa.out.tape G3.out.1 hg2)
  have ab := hid (ab.out.tape G3.out.1 hg2)
  have lc := fit_len hf ha hv
  obtain ⟨pc, rfl⟩ := st_of hf
  have ac := hid ha
  clear hf ha ht2 hg2
  have ba := hid (((Box.new w4 v (some Aa) na ca).alloc (.cells #[.int .i64 v, .slice (some Ab) nb cb] 25)).alloc (.cells #[.int .i64 v, .slice (some Ac) nc cc] 25))
  have hbb : Box (((w4.alloc (.cells #[.int .i64 v, .slice (some Aa) na ca] 25)).alloc (.cells #[.int .i64 v, .slice (some Ab) nb cb] 25)).alloc (.cells #[.int .i64 v, .slice (some Ac) nc cc] 25)) (w4.heap.size + 1) v (some Ab) nb cb := by
    have h := (Box.new (w4.alloc (.cells #[.int .i64 v, .slice (some Aa) na ca] 25)) v (some Ab) nb cb).alloc (.cells #[.int .i64 v, .slice (some Ac) nc cc] 25)
    rw [World.size_alloc] at h; exact h
  have hbc : Box (((w4.alloc (.cells #[.int .i64 v, .slice (some Aa) na ca] 25)).alloc (.cells #[.int .i64 v, .slice (some Ab) nb cb] 25)).alloc (.cells #[.int .i64 v, .slice (some Ac) nc cc] 25)) (w4.heap.size + 1 + 1) v (some Ac) nc cc := by
    have h := Box.new ((w4.alloc (.cells #[.int .i64 v, .slice (some Aa) na ca] 25)).alloc (.cells #[.int .i64 v, .slice (some Ab) nb cb] 25)) v (some Ac) nc cc
    rw [World.size_alloc, World.size_alloc] at h; exact h
  have bb := hid hbb; have bc := hid hbc
  have aa := hid (((aa.out.alloc (.cells #[.int .i64 v, .slice (some Aa) na ca] 25)).alloc (.cells #[.int .i64 v, .slice (some Ab) nb cb] 25)).alloc (.cells #[.int .i64 v, .slice (some Ac) nc cc] 25))
  have ab := hid (((ab.out.alloc (.cells #[.int .i64 v, .slice (some Aa) na ca] 25)).alloc (.cells #[.int .i64 v, .slice (some Ab) nb cb] 25)).alloc (.cells #[.int .i64 v, .slice (some Ac) nc cc] 25))
  have ac := hid (((ac.out.alloc (.cells #[.int .i64 v, .slice (some Aa) na ca] 25)).alloc (.cells #[.int .i64 v, .slice (some Ab) nb cb] 25)).alloc (.cells #[.int .i64 v, .slice (some Ac) nc cc] 25))
  have G := hid (((G4.out.alloc (.cells #[.int .i64 v, .slice (some Aa) na ca] 25)).alloc (.cells #[.int .i64 v, .slice (some Ab) nb cb] 25)).alloc (.cells #[.int .i64 v, .slice (some Ac) nc cc] 25))
  clear hbb hbc G1 G2 G3 G4
  have z4 : w4.heap.size + 1 + 1 < ((((w4.alloc (.cells #[.int .i64 v, .slice (some Aa) na ca] 25)).alloc (.cells #[.int .i64 v, .slice (some Ab) nb cb] 25)).alloc (.cells #[.int .i64 v, .slice (some Ac) nc cc] 25))).heap.size := bc.out.lt
  go_wp2_with fail
  refine (devUnion_any v v (some Aa) (some Ab) na ca nb cb _ _ _ aa.out ab.out).mono ?_
  rw [mix_st hv]
  generalize hpu : (fun i => flag true true true (pa i) (pb i)) = pu
  have Eu := hid hpu
  clear hpu
  rintro e w5 ⟨Au, nu, cu, rfl, ha, hb⟩
  simp only [] at ha
  have lu : nu ≤ 5 := by rw [← ha.len, (st_fit v pu).len]; unfold Bs.nw; omega
  have hx := ba.out.below hb ba.out.lt
  have ma := hx.lt
  have fa0 := hx.c0
  have fa1 := hx.c1
  have ba := hid (hx.alloc (.cells #[.int .i64 v, .slice Au nu cu] 25))
  have aa := hid ((aa.out.below hb).alloc (.cells #[.int .i64 v, .slice Au nu cu] 25))
  clear hx
  have hx := bb.out.below hb bb.out.lt
  have mb := hx.lt
  have fb0 := hx.c0
  have fb1 := hx.c1
  have bb := hid (hx.alloc (.cells #[.int .i64 v, .slice Au nu cu] 25))
  have ab := hid ((ab.out.below hb).alloc (.cells #[.int .i64 v, .slice Au nu cu] 25))
  clear hx
  have hx := bc.out.below hb bc.out.lt
  have mc := hx.lt
  have fc0 := hx.c0
  have fc1 := hx.c1
  have bc := hid (hx.alloc (.cells #[.int .i64 v, .slice Au nu cu] 25))
  have ac := hid ((ac.out.below hb).alloc (.cells #[.int .i64 v, .slice Au nu cu] 25))
  clear hx
  clear fa0 fa1 fb0 fb1 ma mb
  have bu := hid (Box.new w5 v Au nu cu)
  have au := hid (ha.alloc (.cells #[.int .i64 v, .slice Au nu cu] 25))
  have G := hid ((G.out.below hb).alloc (.cells #[.int .i64 v, .slice Au nu cu] 25))
  clear ha hb
  simp only []
  go_wp2_with fail
  refine (devInter_any v v Au (some Ac) nu cu nc cc _ _ _ au.out ac.out).mono ?_
  rw [mix_st hv]
  generalize hpx : (fun i => flag false false true (pu i) (pc i)) = px
  have Ex := hid hpx
  clear hpx
  rintro e w6 ⟨Ax, nx, cx, rfl, ha, hb⟩
  simp only [] at ha
  have lx : nx ≤ 5 := by rw [← ha.len, (st_fit v px).len]; unfold Bs.nw; omega
  clear fc0 fc1 mc
  have hx := ba.out.below hb ba.out.lt
  have ma := hx.lt
  have fa0 := hx.c0
  have fa1 := hx.c1
  have ba := hid (hx.alloc (.cells #[.int .i64 v, .slice Ax nx cx] 25))
  have aa := hid ((aa.out.below hb).alloc (.cells #[.int .i64 v, .slice Ax nx cx] 25))
  clear hx
  have hx := bb.out.below hb bb.out.lt
  have mb := hx.lt
  have fb0 := hx.c0
  have fb1 := hx.c1
  have bb := hid (hx.alloc (.cells #[.int .i64 v, .slice Ax nx cx] 25))
  have ab := hid ((ab.out.below hb).alloc (.cells #[.int .i64 v, .slice Ax nx cx] 25))
  clear hx
  have hx := bc.out.below hb bc.out.lt
  have mc := hx.lt
  have fc0 := hx.c0
  have fc1 := hx.c1
  have bc := hid (hx.alloc (.cells #[.int .i64 v, .slice Ax nx cx] 25))
  have ac := hid ((ac.out.below hb).alloc (.cells #[.int .i64 v, .slice Ax nx cx] 25))
  clear hx
  have hx := bu.out.below hb bu.out.lt
  have mu := hx.lt
  have fu0 := hx.c0
  have fu1 := hx.c1
  have bu := hid (hx.alloc (.cells #[.int .i64 v, .slice Ax nx cx] 25))
  have au := hid ((au.out.below hb).alloc (.cells #[.int .i64 v, .slice Ax nx cx] 25))
  clear hx
  clear fb0 fb1 fu0 fu1 mb mu
  have bx := hid (Box.new w6 v Ax nx cx)
  have ax := hid (ha.alloc (.cells #[.int .i64 v, .slice Ax nx cx] 25))
  have G := hid ((G.out.below hb).alloc (.cells #[.int .i64 v, .slice Ax nx cx] 25))
  clear ha hb
  simp only []
  go_wp2_with fail
  refine (devInter_any v v (some Aa) (some Ac) na ca nc cc _ _ _ aa.out ac.out).mono ?_
  rw [mix_st hv]
  generalize hpp : (fun i => flag false false true (pa i) (pc i)) = pp
  have Ep := hid hpp
  clear hpp
  rintro e w7 ⟨Ap, np, cp, rfl, ha, hb⟩
  simp only [] at ha
  have lp : np ≤ 5 := by rw [← ha.len, (st_fit v pp).len]; unfold Bs.nw; omega
  clear fa0 fa1 ma fc0 fc1 mc
  have hx := ba.out.below hb ba.out.lt
  have ma := hx.lt
  have fa0 := hx.c0
  have fa1 := hx.c1
  have ba := hid (hx.alloc (.cells #[.int .i64 v, .slice Ap np cp] 25))
  have aa := hid ((aa.out.below hb).alloc (.cells #[.int .i64 v, .slice Ap np cp] 25))
  clear hx
  have hx := bb.out.below hb bb.out.lt
  have mb := hx.lt
  have fb0 := hx.c0
  have fb1 := hx.c1
  have bb := hid (hx.alloc (.cells #[.int .i64 v, .slice Ap np cp] 25))
  have ab := hid ((ab.out.below hb).alloc (.cells #[.int .i64 v, .slice Ap np cp] 25))
  clear hx
  have hx := bc.out.below hb bc.out.lt
  have mc := hx.lt
  have fc0 := hx.c0
  have fc1 := hx.c1
  have bc := hid (hx.alloc (.cells #[.int .i64 v, .slice Ap np cp] 25))
  have ac := hid ((ac.out.below hb).alloc (.cells #[.int .i64 v, .slice Ap np cp] 25))
  clear hx
  have hx := bu.out.below hb bu.out.lt
  have mu := hx.lt
  have fu0 := hx.c0
  have fu1 := hx.c1
  have bu := hid (hx.alloc (.cells #[.int .i64 v, .slice Ap np cp] 25))
  have au := hid ((au.out.below hb).alloc (.cells #[.int .i64 v, .slice Ap np cp] 25))
  clear hx
  have hx := bx.out.below hb bx.out.lt
  have mx := hx.lt
  have fx0 := hx.c0
  have fx1 := hx.c1
  have bx := hid (hx.alloc (.cells #[.int .i64 v, .slice Ap np cp] 25))
  have ax := hid ((ax.out.below hb).alloc (.cells #[.int .i64 v, .slice Ap np cp] 25))
  clear hx
  clear fa0 fa1 fu0 fu1 fx0 fx1 ma mu mx
  have bp := hid (Box.new w7 v Ap np cp)
  have ap := hid (ha.alloc (.cells #[.int .i64 v, .slice Ap np cp] 25))
  have G := hid ((G.out.below hb).alloc (.cells #[.int .i64 v, .slice Ap np cp] 25))
  clear ha hb
  simp only []
  go_wp2_with fail
  refine (devInter_any v v (some Ab) (some Ac) nb cb nc cc _ _ _ ab.out ac.out).mono ?_
  rw [mix_st hv]
  generalize hpq : (fun i => flag false false true (pb i) (pc i)) = pq
  have Eq := hid hpq
  clear hpq
  rintro e w8 ⟨Aq, nq, cq, rfl, ha, hb⟩
  simp only [] at ha
  have lq : nq ≤ 5 := by rw [← ha.len, (st_fit v pq).len]; unfold Bs.nw; omega
  clear fb0 fb1 mb fc0 fc1 mc
  have hx := ba.out.below hb ba.out.lt
  have ma := hx.lt
  have fa0 := hx.c0
  have fa1 := hx.c1
  have ba := hid (hx.alloc (.cells #[.int .i64 v, .slice Aq nq cq] 25))
  have aa := hid ((aa.out.below hb).alloc (.cells #[.int .i64 v, .slice Aq nq cq] 25))
  clear hx
  have hx := bb.out.below hb bb.out.lt
  have mb := hx.lt
  have fb0 := hx.c0
  have fb1 := hx.c1
  have bb := hid (hx.alloc (.cells #[.int .i64 v, .slice Aq nq cq] 25))
  have ab := hid ((ab.out.below hb).alloc (.cells #[.int .i64 v, .slice Aq nq cq] 25))
  clear hx
  have hx := bc.out.below hb bc.out.lt
  have mc := hx.lt
  have fc0 := hx.c0
  have fc1 := hx.c1
  have bc := hid (hx.alloc (.cells #[.int .i64 v, .slice Aq nq cq] 25))
  have ac := hid ((ac.out.below hb).alloc (.cells #[.int .i64 v, .slice Aq nq cq] 25))
  clear hx
  have hx := bu.out.below hb bu.out.lt
  have mu := hx.lt
  have fu0 := hx.c0
  have fu1 := hx.c1
  have bu := hid (hx.alloc (.cells #[.int .i64 v, .slice Aq nq cq] 25))
  have au := hid ((au.out.below hb).alloc (.cells #[.int .i64 v, .slice Aq nq cq] 25))
  clear hx
  have hx := bx.out.below hb bx.out.lt
  have mx := hx.lt
  have fx0 := hx.c0
  have fx1 := hx.c1
  have bx := hid (hx.alloc (.cells #[.int .i64 v, .slice Aq nq cq] 25))
  have ax := hid ((ax.out.below hb).alloc (.cells #[.int .i64 v, .slice Aq nq cq] 25))
  clear hx
  have hx := bp.out.below hb bp.out.lt
  have mp := hx.lt
  have fp0 := hx.c0
  have fp1 := hx.c1
  have bp := hid (hx.alloc (.cells #[.int .i64 v, .slice Aq nq cq] 25))
  have ap := hid ((ap.out.below hb).alloc (.cells #[.int .i64 v, .slice Aq nq cq] 25))
  clear hx
  clear fa0 fa1 fb0 fb1 fc0 fc1 fu0 fu1 fx0 fx1 ma mb mc mu mx
  have bq := hid (Box.new w8 v Aq nq cq)
  have aq := hid (ha.alloc (.cells #[.int .i64 v, .slice Aq nq cq] 25))
  have G := hid ((G.out.below hb).alloc (.cells #[.int .i64 v, .slice Aq nq cq] 25))
  clear ha hb
  simp only []
  go_wp2_with fail
  refine (devUnion_any v v Ap Aq np cp nq cq _ _ _ ap.out aq.out).mono ?_
  rw [mix_st hv]
  generalize hpyy : (fun i => flag true true true (pp i) (pq i)) = pyy
  have Eyy := hid hpyy
  clear hpyy
  rintro e w9 ⟨Ayy, nyy, cyy, rfl, ha, hb⟩
  simp only [] at ha
  have lyy : nyy ≤ 5 := by rw [← ha.len, (st_fit v pyy).len]; unfold Bs.nw; omega
  clear fp0 fp1 mp
  have hx := ba.out.below hb ba.out.lt
  have ma := hx.lt
  have fa0 := hx.c0
  have fa1 := hx.c1
  have ba := hid (hx.alloc (.cells #[.int .i64 v, .slice Ayy nyy cyy] 25))
  have aa := hid ((aa.out.below hb).alloc (.cells #[.int .i64 v, .slice Ayy nyy cyy] 25))
  clear hx
  have hx := bb.out.below hb bb.out.lt
  have mb := hx.lt
  have fb0 := hx.c0
  have fb1 := hx.c1
  have bb := hid (hx.alloc (.cells #[.int .i64 v, .slice Ayy nyy cyy] 25))
  have ab := hid ((ab.out.below hb).alloc (.cells #[.int .i64 v, .slice Ayy nyy cyy] 25))
  clear hx
  have hx := bc.out.below hb bc.out.lt
  have mc := hx.lt
  have fc0 := hx.c0
  have fc1 := hx.c1
  have bc := hid (hx.alloc (.cells #[.int .i64 v, .slice Ayy nyy cyy] 25))
  have ac := hid ((ac.out.below hb).alloc (.cells #[.int .i64 v, .slice Ayy nyy cyy] 25))
  clear hx
  have hx := bu.out.below hb bu.out.lt
  have mu := hx.lt
  have fu0 := hx.c0
  have fu1 := hx.c1
  have bu := hid (hx.alloc (.cells #[.int .i64 v, .slice Ayy nyy cyy] 25))
  have au := hid ((au.out.below hb).alloc (.cells #[.int .i64 v, .slice Ayy nyy cyy] 25))
  clear hx
  have hx := bx.out.below hb bx.out.lt
  have mx := hx.lt
  have fx0 := hx.c0
  have fx1 := hx.c1
  have bx := hid (hx.alloc (.cells #[.int .i64 v, .slice Ayy nyy cyy] 25))
  have ax := hid ((ax.out.below hb).alloc (.cells #[.int .i64 v, .slice Ayy nyy cyy] 25))
  clear hx
  have hx := bp.out.below hb bp.out.lt
  have mp := hx.lt
  have fp0 := hx.c0
  have fp1 := hx.c1
  have bp := hid (hx.alloc (.cells #[.int .i64 v, .slice Ayy nyy cyy] 25))
  have ap := hid ((ap.out.below hb).alloc (.cells #[.int .i64 v, .slice Ayy nyy cyy] 25))
  clear hx
  have hx := bq.out.below hb bq.out.lt
  have mq := hx.lt
  have fq0 := hx.c0
  have fq1 := hx.c1
  have bq := hid (hx.alloc (.cells #[.int .i64 v, .slice Ayy nyy cyy] 25))
  have aq := hid ((aq.out.below hb).alloc (.cells #[.int .i64 v, .slice Ayy nyy cyy] 25))
  clear hx
  clear fa0 fa1 fc0 fc1 fx0 fx1 fp0 fp1 fq0 fq1 ma mc mx mp mq
  have byy := hid (Box.new w9 v Ayy nyy cyy)
  have ayy := hid (ha.alloc (.cells #[.int .i64 v, .slice Ayy nyy cyy] 25))
  have G := hid ((G.out.below hb).alloc (.cells #[.int .i64 v, .slice Ayy nyy cyy] 25))
  clear ha hb
  simp only []
  go_wp2_with fail
  refine (devDiff_any v v Au (some Ab) nu cu nb cb _ _ _ au.out ab.out).mono ?_
  rw [mix_st hv]
  generalize hpd : (fun i => flag true false false (pu i) (pb i)) = pd
  have Ed := hid hpd
  clear hpd
  rintro e w10 ⟨Ad, nd, cd, rfl, ha, hb⟩
  simp only [] at ha
  have ld : nd ≤ 5 := by rw [← ha.len, (st_fit v pd).len]; unfold Bs.nw; omega
  clear fu0 fu1 mu fb0 fb1 mb
  have hx := ba.out.below hb ba.out.lt
  have ma := hx.lt
  have fa0 := hx.c0
  have fa1 := hx.c1
  have ba := hid (hx.alloc (.cells #[.int .i64 v, .slice Ad nd cd] 25))
  have aa := hid ((aa.out.below hb).alloc (.cells #[.int .i64 v, .slice Ad nd cd] 25))
  clear hx
  have hx := bb.out.below hb bb.out.lt
  have mb := hx.lt
  have fb0 := hx.c0
  have fb1 := hx.c1
  have bb := hid (hx.alloc (.cells #[.int .i64 v, .slice Ad nd cd] 25))
  have ab := hid ((ab.out.below hb).alloc (.cells #[.int .i64 v, .slice Ad nd cd] 25))
  clear hx
  have hx := bc.out.below hb bc.out.lt
  have mc := hx.lt
  have fc0 := hx.c0
  have fc1 := hx.c1
  have bc := hid (hx.alloc (.cells #[.int .i64 v, .slice Ad nd cd] 25))
  have ac := hid ((ac.out.below hb).alloc (.cells #[.int .i64 v, .slice Ad nd cd] 25))
  clear hx
  have hx := bu.out.below hb bu.out.lt
  have mu := hx.lt
  have fu0 := hx.c0
  have fu1 := hx.c1
  have bu := hid (hx.alloc (.cells #[.int .i64 v, .slice Ad nd cd] 25))
  have au := hid ((au.out.below hb).alloc (.cells #[.int .i64 v, .slice Ad nd cd] 25))
  clear hx
  have hx := bx.out.below hb bx.out.lt
  have mx := hx.lt
  have fx0 := hx.c0
  have fx1 := hx.c1
  have bx := hid (hx.alloc (.cells #[.int .i64 v, .slice Ad nd cd] 25))
  have ax := hid ((ax.out.below hb).alloc (.cells #[.int .i64 v, .slice Ad nd cd] 25))
  clear hx
  have hx := bp.out.below hb bp.out.lt
  have mp := hx.lt
  have fp0 := hx.c0
  have fp1 := hx.c1
  have bp := hid (hx.alloc (.cells #[.int .i64 v, .slice Ad nd cd] 25))
  have ap := hid ((ap.out.below hb).alloc (.cells #[.int .i64 v, .slice Ad nd cd] 25))
  clear hx
  have hx := bq.out.below hb bq.out.lt
  have mq := hx.lt
  have fq0 := hx.c0
  have fq1 := hx.c1
  have bq := hid (hx.alloc (.cells #[.int .i64 v, .slice Ad nd cd] 25))
  have aq := hid ((aq.out.below hb).alloc (.cells #[.int .i64 v, .slice Ad nd cd] 25))
  clear hx
  have hx := byy.out.below hb byy.out.lt
  have myy := hx.lt
  have fyy0 := hx.c0
  have fyy1 := hx.c1
  have byy := hid (hx.alloc (.cells #[.int .i64 v, .slice Ad nd cd] 25))
  have ayy := hid ((ayy.out.below hb).alloc (.cells #[.int .i64 v, .slice Ad nd cd] 25))
  clear hx
  clear fc0 fc1 fu0 fu1 fx0 fx1 fp0 fp1 fq0 fq1 fyy0 fyy1 mc mu mx mp mq myy
  have bd := hid (Box.new w10 v Ad nd cd)
  have ad := hid (ha.alloc (.cells #[.int .i64 v, .slice Ad nd cd] 25))
  have G := hid ((G.out.below hb).alloc (.cells #[.int .i64 v, .slice Ad nd cd] 25))
  clear ha hb
  simp only []
  go_wp2_with fail
  refine (devDiff_any v v (some Aa) (some Ab) na ca nb cb _ _ _ aa.out ab.out).mono ?_
  rw [mix_st hv]
  generalize hpf : (fun i => flag true false false (pa i) (pb i)) = pf
  have Ef := hid hpf
  clear hpf
  rintro e w11 ⟨Af, nf, cf, rfl, ha, hb⟩
  simp only [] at ha
  have lf : nf ≤ 5 := by rw [← ha.len, (st_fit v pf).len]; unfold Bs.nw; omega
  clear fa0 fa1 ma fb0 fb1 mb
  have hx := ba.out.below hb ba.out.lt
  have ma := hx.lt
  have fa0 := hx.c0
  have fa1 := hx.c1
  have ba := hid (hx.alloc (.cells #[.int .i64 v, .slice Af nf cf] 25))
  have aa := hid ((aa.out.below hb).alloc (.cells #[.int .i64 v, .slice Af nf cf] 25))
  clear hx
  have hx := bb.out.below hb bb.out.lt
  have mb := hx.lt
  have fb0 := hx.c0
  have fb1 := hx.c1
  have bb := hid (hx.alloc (.cells #[.int .i64 v, .slice Af nf cf] 25))
  have ab := hid ((ab.out.below hb).alloc (.cells #[.int .i64 v, .slice Af nf cf] 25))
  clear hx
  have hx := bc.out.below hb bc.out.lt
  have mc := hx.lt
  have fc0 := hx.c0
  have fc1 := hx.c1
  have bc := hid (hx.alloc (.cells #[.int .i64 v, .slice Af nf cf] 25))
  have ac := hid ((ac.out.below hb).alloc (.cells #[.int .i64 v, .slice Af nf cf] 25))
  clear hx
  have hx := bu.out.below hb bu.out.lt
  have mu := hx.lt
  have fu0 := hx.c0
  have fu1 := hx.c1
  have bu := hid (hx.alloc (.cells #[.int .i64 v, .slice Af nf cf] 25))
  have au := hid ((au.out.below hb).alloc (.cells #[.int .i64 v, .slice Af nf cf] 25))
  clear hx
  have hx := bx.out.below hb bx.out.lt
  have mx := hx.lt
  have fx0 := hx.c0
  have fx1 := hx.c1
  have bx := hid (hx.alloc (.cells #[.int .i64 v, .slice Af nf cf] 25))
  have ax := hid ((ax.out.below hb).alloc (.cells #[.int .i64 v, .slice Af nf cf] 25))
  clear hx
  have hx := bp.out.below hb bp.out.lt
  have mp := hx.lt
  have fp0 := hx.c0
  have fp1 := hx.c1
  have bp := hid (hx.alloc (.cells #[.int .i64 v, .slice Af nf cf] 25))
  have ap := hid ((ap.out.below hb).alloc (.cells #[.int .i64 v, .slice Af nf cf] 25))
  clear hx
  have hx := bq.out.below hb bq.out.lt
  have mq := hx.lt
  have fq0 := hx.c0
  have fq1 := hx.c1
  have bq := hid (hx.alloc (.cells #[.int .i64 v, .slice Af nf cf] 25))
  have aq := hid ((aq.out.below hb).alloc (.cells #[.int .i64 v, .slice Af nf cf] 25))
  clear hx
  have hx := byy.out.below hb byy.out.lt
  have myy := hx.lt
  have fyy0 := hx.c0
  have fyy1 := hx.c1
  have byy := hid (hx.alloc (.cells #[.int .i64 v, .slice Af nf cf] 25))
  have ayy := hid ((ayy.out.below hb).alloc (.cells #[.int .i64 v, .slice Af nf cf] 25))
  clear hx
  have hx := bd.out.below hb bd.out.lt
  have md := hx.lt
  have fd0 := hx.c0
  have fd1 := hx.c1
  have bd := hid (hx.alloc (.cells #[.int .i64 v, .slice Af nf cf] 25))
  have ad := hid ((ad.out.below hb).alloc (.cells #[.int .i64 v, .slice Af nf cf] 25))
  clear hx
  clear fa0 fa1 fb0 fb1 fc0 fc1 fu0 fu1 fx0 fx1 fp0 fp1 fq0 fq1 fyy0 fyy1 fd0 fd1 ma mb mc mu mx mp mq myy md
  have bf := hid (Box.new w11 v Af nf cf)
  have af := hid (ha.alloc (.cells #[.int .i64 v, .slice Af nf cf] 25))
  have G := hid ((G.out.below hb).alloc (.cells #[.int .i64 v, .slice Af nf cf] 25))
  clear ha hb
  simp only []
  go_wp2_with fail
  refine (devFull_any v _).mono ?_
  rw [full_st hv]
  generalize hpg : (fun _ : Nat => true) = pg
  have Eg := hid hpg
  clear hpg
  rintro e w12 ⟨Ag, ng, cg, rfl, ha, hb⟩
  simp only [] at ha
  have lg : ng ≤ 5 := by rw [← ha.len, (st_fit v pg).len]; unfold Bs.nw; omega
  have hx := ba.out.below hb ba.out.lt
  have ma := hx.lt
  have fa0 := hx.c0
  have fa1 := hx.c1
  have ba := hid (hx.alloc (.cells #[.int .i64 v, .slice Ag ng cg] 25))
  have aa := hid ((aa.out.below hb).alloc (.cells #[.int .i64 v, .slice Ag ng cg] 25))
  clear hx
  have hx := bb.out.below hb bb.out.lt
  have mb := hx.lt
  have fb0 := hx.c0
  have fb1 := hx.c1
  have bb := hid (hx.alloc (.cells #[.int .i64 v, .slice Ag ng cg] 25))
  have ab := hid ((ab.out.below hb).alloc (.cells #[.int .i64 v, .slice Ag ng cg] 25))
  clear hx
  have hx := bc.out.below hb bc.out.lt
  have mc := hx.lt
  have fc0 := hx.c0
  have fc1 := hx.c1
  have bc := hid (hx.alloc (.cells #[.int .i64 v, .slice Ag ng cg] 25))
  have ac := hid ((ac.out.below hb).alloc (.cells #[.int .i64 v, .slice Ag ng cg] 25))
  clear hx
  have hx := bu.out.below hb bu.out.lt
  have mu := hx.lt
  have fu0 := hx.c0
  have fu1 := hx.c1
  have bu := hid (hx.alloc (.cells #[.int .i64 v, .slice Ag ng cg] 25))
  have au := hid ((au.out.below hb).alloc (.cells #[.int .i64 v, .slice Ag ng cg] 25))
  clear hx
  have hx := bx.out.below hb bx.out.lt
  have mx := hx.lt
  have fx0 := hx.c0
  have fx1 := hx.c1
  have bx := hid (hx.alloc (.cells #[.int .i64 v, .slice Ag ng cg] 25))
  have ax := hid ((ax.out.below hb).alloc (.cells #[.int .i64 v, .slice Ag ng cg] 25))
  clear hx
  have hx := bp.out.below hb bp.out.lt
  have mp := hx.lt
  have fp0 := hx.c0
  have fp1 := hx.c1
  have bp := hid (hx.alloc (.cells #[.int .i64 v, .slice Ag ng cg] 25))
  have ap := hid ((ap.out.below hb).alloc (.cells #[.int .i64 v, .slice Ag ng cg] 25))
  clear hx
  have hx := bq.out.below hb bq.out.lt
  have mq := hx.lt
  have fq0 := hx.c0
  have fq1 := hx.c1
  have bq := hid (hx.alloc (.cells #[.int .i64 v, .slice Ag ng cg] 25))
  have aq := hid ((aq.out.below hb).alloc (.cells #[.int .i64 v, .slice Ag ng cg] 25))
  clear hx
  have hx := byy.out.below hb byy.out.lt
  have myy := hx.lt
  have fyy0 := hx.c0
  have fyy1 := hx.c1
  have byy := hid (hx.alloc (.cells #[.int .i64 v, .slice Ag ng cg] 25))
  have ayy := hid ((ayy.out.below hb).alloc (.cells #[.int .i64 v, .slice Ag ng cg] 25))
  clear hx
  have hx := bd.out.below hb bd.out.lt
  have md := hx.lt
  have fd0 := hx.c0
  have fd1 := hx.c1
  have bd := hid (hx.alloc (.cells #[.int .i64 v, .slice Ag ng cg] 25))
  have ad := hid ((ad.out.below hb).alloc (.cells #[.int .i64 v, .slice Ag ng cg] 25))
  clear hx
  have hx := bf.out.below hb bf.out.lt
  have mf := hx.lt
  have ff0 := hx.c0
  have ff1 := hx.c1
  have bf := hid (hx.alloc (.cells #[.int .i64 v, .slice Ag ng cg] 25))
  have af := hid ((af.out.below hb).alloc (.cells #[.int .i64 v, .slice Ag ng cg] 25))
  clear hx
  clear fb0 fb1 fc0 fc1 fu0 fu1 fx0 fx1 fp0 fp1 fq0 fq1 fyy0 fyy1 fd0 fd1 ff0 ff1 mb mc mu mx mp mq myy md mf
  have bg := hid (Box.new w12 v Ag ng cg)
  have ag := hid (ha.alloc (.cells #[.int .i64 v, .slice Ag ng cg] 25))
  have G := hid ((G.out.below hb).alloc (.cells #[.int .i64 v, .slice Ag ng cg] 25))
  clear ha hb
  simp only []
  go_wp2_with fail
  refine (devDiff_any v v Ag (some Aa) ng cg na ca _ _ _ ag.out aa.out).mono ?_
  rw [mix_st hv]
  generalize hpna : (fun i => flag true false false (pg i) (pa i)) = pna
  have Ena := hid hpna
  clear hpna
  rintro e w13 ⟨Ana, nna, cna, rfl, ha, hb⟩
  simp only [] at ha
  have lna : nna ≤ 5 := by rw [← ha.len, (st_fit v pna).len]; unfold Bs.nw; omega
  clear fa0 fa1 ma
  have hx := ba.out.below hb ba.out.lt
  have ma := hx.lt
  have fa0 := hx.c0
  have fa1 := hx.c1
  have ba := hid (hx.alloc (.cells #[.int .i64 v, .slice Ana nna cna] 25))
  have aa := hid ((aa.out.below hb).alloc (.cells #[.int .i64 v, .slice Ana nna cna] 25))
  clear hx
  have hx := bb.out.below hb bb.out.lt
  have mb := hx.lt
  have fb0 := hx.c0
  have fb1 := hx.c1
  have bb := hid (hx.alloc (.cells #[.int .i64 v, .slice Ana nna cna] 25))
  have ab := hid ((ab.out.below hb).alloc (.cells #[.int .i64 v, .slice Ana nna cna] 25))
  clear hx
  have hx := bc.out.below hb bc.out.lt
  have mc := hx.lt
  have fc0 := hx.c0
  have fc1 := hx.c1
  have bc := hid (hx.alloc (.cells #[.int .i64 v, .slice Ana nna cna] 25))
  have ac := hid ((ac.out.below hb).alloc (.cells #[.int .i64 v, .slice Ana nna cna] 25))
  clear hx
  have hx := bu.out.below hb bu.out.lt
  have mu := hx.lt
  have fu0 := hx.c0
  have fu1 := hx.c1
  have bu := hid (hx.alloc (.cells #[.int .i64 v, .slice Ana nna cna] 25))
  have au := hid ((au.out.below hb).alloc (.cells #[.int .i64 v, .slice Ana nna cna] 25))
  clear hx
  have hx := bx.out.below hb bx.out.lt
  have mx := hx.lt
  have fx0 := hx.c0
  have fx1 := hx.c1
  have bx := hid (hx.alloc (.cells #[.int .i64 v, .slice Ana nna cna] 25))
  have ax := hid ((ax.out.below hb).alloc (.cells #[.int .i64 v, .slice Ana nna cna] 25))
  clear hx
  have hx := bp.out.below hb bp.out.lt
  have mp := hx.lt
  have fp0 := hx.c0
  have fp1 := hx.c1
  have bp := hid (hx.alloc (.cells #[.int .i64 v, .slice Ana nna cna] 25))
  have ap := hid ((ap.out.below hb).alloc (.cells #[.int .i64 v, .slice Ana nna cna] 25))
  clear hx
  have hx := bq.out.below hb bq.out.lt
  have mq := hx.lt
  have fq0 := hx.c0
  have fq1 := hx.c1
  have bq := hid (hx.alloc (.cells #[.int .i64 v, .slice Ana nna cna] 25))
  have aq := hid ((aq.out.below hb).alloc (.cells #[.int .i64 v, .slice Ana nna cna] 25))
  clear hx
  have hx := byy.out.below hb byy.out.lt
  have myy := hx.lt
  have fyy0 := hx.c0
  have fyy1 := hx.c1
  have byy := hid (hx.alloc (.cells #[.int .i64 v, .slice Ana nna cna] 25))
  have ayy := hid ((ayy.out.below hb).alloc (.cells #[.int .i64 v, .slice Ana nna cna] 25))
  clear hx
  have hx := bd.out.below hb bd.out.lt
  have md := hx.lt
  have fd0 := hx.c0
  have fd1 := hx.c1
  have bd := hid (hx.alloc (.cells #[.int .i64 v, .slice Ana nna cna] 25))
  have ad := hid ((ad.out.below hb).alloc (.cells #[.int .i64 v, .slice Ana nna cna] 25))
  clear hx
  have hx := bf.out.below hb bf.out.lt
  have mf := hx.lt
  have ff0 := hx.c0
  have ff1 := hx.c1
  have bf := hid (hx.alloc (.cells #[.int .i64 v, .slice Ana nna cna] 25))
  have af := hid ((af.out.below hb).alloc (.cells #[.int .i64 v, .slice Ana nna cna] 25))
  clear hx
  have hx := bg.out.below hb bg.out.lt
  have mg := hx.lt
  have fg0 := hx.c0
  have fg1 := hx.c1
  have bg := hid (hx.alloc (.cells #[.int .i64 v, .slice Ana nna cna] 25))
  have ag := hid ((ag.out.below hb).alloc (.cells #[.int .i64 v, .slice Ana nna cna] 25))
  clear hx
  clear fa0 fa1 fc0 fc1 fu0 fu1 fx0 fx1 fp0 fp1 fq0 fq1 fyy0 fyy1 fd0 fd1 ff0 ff1 ma mc mu mx mp mq myy md mf
  have bna := hid (Box.new w13 v Ana nna cna)
  have ana := hid (ha.alloc (.cells #[.int .i64 v, .slice Ana nna cna] 25))
  have G := hid ((G.out.below hb).alloc (.cells #[.int .i64 v, .slice Ana nna cna] 25))
  clear ha hb
  simp only []
  go_wp2_with fail
  refine (devDiff_any v v Ag (some Ab) ng cg nb cb _ _ _ ag.out ab.out).mono ?_
  rw [mix_st hv]
  generalize hpnb : (fun i => flag true false false (pg i) (pb i)) = pnb
  have Enb := hid hpnb
  clear hpnb
  rintro e w14 ⟨Anb, nnb, cnb, rfl, ha, hb⟩
  simp only [] at ha
  have lnb : nnb ≤ 5 := by rw [← ha.len, (st_fit v pnb).len]; unfold Bs.nw; omega
  clear fg0 fg1 mg fb0 fb1 mb
  have hx := ba.out.below hb ba.out.lt
  have ma := hx.lt
  have fa0 := hx.c0
  have fa1 := hx.c1
  have ba := hid (hx.alloc (.cells #[.int .i64 v, .slice Anb nnb cnb] 25))
  have aa := hid ((aa.out.below hb).alloc (.cells #[.int .i64 v, .slice Anb nnb cnb] 25))
  clear hx
  have hx := bb.out.below hb bb.out.lt
  have mb := hx.lt
  have fb0 := hx.c0
  have fb1 := hx.c1
  have bb := hid (hx.alloc (.cells #[.int .i64 v, .slice Anb nnb cnb] 25))
  have ab := hid ((ab.out.below hb).alloc (.cells #[.int .i64 v, .slice Anb nnb cnb] 25))
  clear hx
  have hx := bc.out.below hb bc.out.lt
  have mc := hx.lt
  have fc0 := hx.c0
  have fc1 := hx.c1
  have bc := hid (hx.alloc (.cells #[.int .i64 v, .slice Anb nnb cnb] 25))
  have ac := hid ((ac.out.below hb).alloc (.cells #[.int .i64 v, .slice Anb nnb cnb] 25))
  clear hx
  have hx := bu.out.below hb bu.out.lt
  have mu := hx.lt
  have fu0 := hx.c0
  have fu1 := hx.c1
  have bu := hid (hx.alloc (.cells #[.int .i64 v, .slice Anb nnb cnb] 25))
  have au := hid ((au.out.below hb).alloc (.cells #[.int .i64 v, .slice Anb nnb cnb] 25))
  clear hx
  have hx := bx.out.below hb bx.out.lt
  have mx := hx.lt
  have fx0 := hx.c0
  have fx1 := hx.c1
  have bx := hid (hx.alloc (.cells #[.int .i64 v, .slice Anb nnb cnb] 25))
  have ax := hid ((ax.out.below hb).alloc (.cells #[.int .i64 v, .slice Anb nnb cnb] 25))
  clear hx
  have hx := bp.out.below hb bp.out.lt
  have mp := hx.lt
  have fp0 := hx.c0
  have fp1 := hx.c1
  have bp := hid (hx.alloc (.cells #[.int .i64 v, .slice Anb nnb cnb] 25))
  have ap := hid ((ap.out.below hb).alloc (.cells #[.int .i64 v, .slice Anb nnb cnb] 25))
  clear hx
  have hx := bq.out.below hb bq.out.lt
  have mq := hx.lt
  have fq0 := hx.c0
  have fq1 := hx.c1
  have bq := hid (hx.alloc (.cells #[.int .i64 v, .slice Anb nnb cnb] 25))
  have aq := hid ((aq.out.below hb).alloc (.cells #[.int .i64 v, .slice Anb nnb cnb] 25))
  clear hx
  have hx := byy.out.below hb byy.out.lt
  have myy := hx.lt
  have fyy0 := hx.c0
  have fyy1 := hx.c1
  have byy := hid (hx.alloc (.cells #[.int .i64 v, .slice Anb nnb cnb] 25))
  have ayy := hid ((ayy.out.below hb).alloc (.cells #[.int .i64 v, .slice Anb nnb cnb] 25))
  clear hx
  have hx := bd.out.below hb bd.out.lt
  have md := hx.lt
  have fd0 := hx.c0
  have fd1 := hx.c1
  have bd := hid (hx.alloc (.cells #[.int .i64 v, .slice Anb nnb cnb] 25))
  have ad := hid ((ad.out.below hb).alloc (.cells #[.int .i64 v, .slice Anb nnb cnb] 25))
  clear hx
  have hx := bf.out.below hb bf.out.lt
  have mf := hx.lt
  have ff0 := hx.c0
  have ff1 := hx.c1
  have bf := hid (hx.alloc (.cells #[.int .i64 v, .slice Anb nnb cnb] 25))
  have af := hid ((af.out.below hb).alloc (.cells #[.int .i64 v, .slice Anb nnb cnb] 25))
  clear hx
  have hx := bg.out.below hb bg.out.lt
  have mg := hx.lt
  have fg0 := hx.c0
  have fg1 := hx.c1
  have bg := hid (hx.alloc (.cells #[.int .i64 v, .slice Anb nnb cnb] 25))
  have ag := hid ((ag.out.below hb).alloc (.cells #[.int .i64 v, .slice Anb nnb cnb] 25))
  clear hx
  have hx := bna.out.below hb bna.out.lt
  have mna := hx.lt
  have fna0 := hx.c0
  have fna1 := hx.c1
  have bna := hid (hx.alloc (.cells #[.int .i64 v, .slice Anb nnb cnb] 25))
  have ana := hid ((ana.out.below hb).alloc (.cells #[.int .i64 v, .slice Anb nnb cnb] 25))
  clear hx
  clear fa0 fa1 fb0 fb1 fc0 fc1 fu0 fu1 fx0 fx1 fp0 fp1 fq0 fq1 fyy0 fyy1 fd0 fd1 ff0 ff1 fg0 fg1 ma mb mc mu mx mp mq myy md mf mg
  have bnb := hid (Box.new w14 v Anb nnb cnb)
  have anb := hid (ha.alloc (.cells #[.int .i64 v, .slice Anb nnb cnb] 25))
  have G := hid ((G.out.below hb).alloc (.cells #[.int .i64 v, .slice Anb nnb cnb] 25))
  clear ha hb
  simp only []
  go_wp2_with fail
  refine (devInter_any v v Ana Anb nna cna nnb cnb _ _ _ ana.out anb.out).mono ?_
  rw [mix_st hv]
  generalize hpbo : (fun i => flag false false true (pna i) (pnb i)) = pbo
  have Ebo := hid hpbo
  clear hpbo
  rintro e w15 ⟨Abo, nbo, cbo, rfl, ha, hb⟩
  simp only [] at ha
  have lbo : nbo ≤ 5 := by rw [← ha.len, (st_fit v pbo).len]; unfold Bs.nw; omega
  clear fna0 fna1 mna
  have hx := ba.out.below hb ba.out.lt
  have ma := hx.lt
  have fa0 := hx.c0
  have fa1 := hx.c1
  have ba := hid (hx.alloc (.cells #[.int .i64 v, .slice Abo nbo cbo] 25))
  have aa := hid ((aa.out.below hb).alloc (.cells #[.int .i64 v, .slice Abo nbo cbo] 25))
  clear hx
  have hx := bb.out.below hb bb.out.lt
  have mb := hx.lt
  have fb0 := hx.c0
  have fb1 := hx.c1
  have bb := hid (hx.alloc (.cells #[.int .i64 v, .slice Abo nbo cbo] 25))
  have ab := hid ((ab.out.below hb).alloc (.cells #[.int .i64 v, .slice Abo nbo cbo] 25))
  clear hx
  have hx := bc.out.below hb bc.out.lt
  have mc := hx.lt
  have fc0 := hx.c0
  have fc1 := hx.c1
  have bc := hid (hx.alloc (.cells #[.int .i64 v, .slice Abo nbo cbo] 25))
  have ac := hid ((ac.out.below hb).alloc (.cells #[.int .i64 v, .slice Abo nbo cbo] 25))
  clear hx
  have hx := bu.out.below hb bu.out.lt
  have mu := hx.lt
  have fu0 := hx.c0
  have fu1 := hx.c1
  have bu := hid (hx.alloc (.cells #[.int .i64 v, .slice Abo nbo cbo] 25))
  have au := hid ((au.out.below hb).alloc (.cells #[.int .i64 v, .slice Abo nbo cbo] 25))
  clear hx
  have hx := bx.out.below hb bx.out.lt
  have mx := hx.lt
  have fx0 := hx.c0
  have fx1 := hx.c1
  have bx := hid (hx.alloc (.cells #[.int .i64 v, .slice Abo nbo cbo] 25))
  have ax := hid ((ax.out.below hb).alloc (.cells #[.int .i64 v, .slice Abo nbo cbo] 25))
  clear hx
  have hx := bp.out.below hb bp.out.lt
  have mp := hx.lt
  have fp0 := hx.c0
  have fp1 := hx.c1
  have bp := hid (hx.alloc (.cells #[.int .i64 v, .slice Abo nbo cbo] 25))
  have ap := hid ((ap.out.below hb).alloc (.cells #[.int .i64 v, .slice Abo nbo cbo] 25))
  clear hx
  have hx := bq.out.below hb bq.out.lt
  have mq := hx.lt
  have fq0 := hx.c0
  have fq1 := hx.c1
  have bq := hid (hx.alloc (.cells #[.int .i64 v, .slice Abo nbo cbo] 25))
  have aq := hid ((aq.out.below hb).alloc (.cells #[.int .i64 v, .slice Abo nbo cbo] 25))
  clear hx
  have hx := byy.out.below hb byy.out.lt
  have myy := hx.lt
  have fyy0 := hx.c0
  have fyy1 := hx.c1
  have byy := hid (hx.alloc (.cells #[.int .i64 v, .slice Abo nbo cbo] 25))
  have ayy := hid ((ayy.out.below hb).alloc (.cells #[.int .i64 v, .slice Abo nbo cbo] 25))
  clear hx
  have hx := bd.out.below hb bd.out.lt
  have md := hx.lt
  have fd0 := hx.c0
  have fd1 := hx.c1
  have bd := hid (hx.alloc (.cells #[.int .i64 v, .slice Abo nbo cbo] 25))
  have ad := hid ((ad.out.below hb).alloc (.cells #[.int .i64 v, .slice Abo nbo cbo] 25))
  clear hx
  have hx := bf.out.below hb bf.out.lt
  have mf := hx.lt
  have ff0 := hx.c0
  have ff1 := hx.c1
  have bf := hid (hx.alloc (.cells #[.int .i64 v, .slice Abo nbo cbo] 25))
  have af := hid ((af.out.below hb).alloc (.cells #[.int .i64 v, .slice Abo nbo cbo] 25))
  clear hx
  have hx := bg.out.below hb bg.out.lt
  have mg := hx.lt
  have fg0 := hx.c0
  have fg1 := hx.c1
  have bg := hid (hx.alloc (.cells #[.int .i64 v, .slice Abo nbo cbo] 25))
  have ag := hid ((ag.out.below hb).alloc (.cells #[.int .i64 v, .slice Abo nbo cbo] 25))
  clear hx
  have hx := bna.out.below hb bna.out.lt
  have mna := hx.lt
  have fna0 := hx.c0
  have fna1 := hx.c1
  have bna := hid (hx.alloc (.cells #[.int .i64 v, .slice Abo nbo cbo] 25))
  have ana := hid ((ana.out.below hb).alloc (.cells #[.int .i64 v, .slice Abo nbo cbo] 25))
  clear hx
  have hx := bnb.out.below hb bnb.out.lt
  have mnb := hx.lt
  have fnb0 := hx.c0
  have fnb1 := hx.c1
  have bnb := hid (hx.alloc (.cells #[.int .i64 v, .slice Abo nbo cbo] 25))
  have anb := hid ((anb.out.below hb).alloc (.cells #[.int .i64 v, .slice Abo nbo cbo] 25))
  clear hx
  clear fa0 fa1 fb0 fb1 fc0 fc1 fx0 fx1 fp0 fp1 fq0 fq1 fyy0 fyy1 fd0 fd1 ff0 ff1 fna0 fna1 fnb0 fnb1 ma mb mc mx mp mq myy md mf mna mnb
  have bbo := hid (Box.new w15 v Abo nbo cbo)
  have abo := hid (ha.alloc (.cells #[.int .i64 v, .slice Abo nbo cbo] 25))
  have G := hid ((G.out.below hb).alloc (.cells #[.int .i64 v, .slice Abo nbo cbo] 25))
  clear ha hb
  simp only []
  go_wp2_with fail
  refine (devDiff_any v v Ag Au ng cg nu cu _ _ _ ag.out au.out).mono ?_
  rw [mix_st hv]
  generalize hpnu : (fun i => flag true false false (pg i) (pu i)) = pnu
  have Enu := hid hpnu
  clear hpnu
  rintro e w16 ⟨Anu, nnu, cnu, rfl, ha, hb⟩
  simp only [] at ha
  have lnu : nnu ≤ 5 := by rw [← ha.len, (st_fit v pnu).len]; unfold Bs.nw; omega
  clear fg0 fg1 mg fu0 fu1 mu
  have hx := ba.out.below hb ba.out.lt
  have ma := hx.lt
  have fa0 := hx.c0
  have fa1 := hx.c1
  have ba := hid (hx.alloc (.cells #[.int .i64 v, .slice Anu nnu cnu] 25))
  have aa := hid ((aa.out.below hb).alloc (.cells #[.int .i64 v, .slice Anu nnu cnu] 25))
  clear hx
  have hx := bb.out.below hb bb.out.lt
  have mb := hx.lt
  have fb0 := hx.c0
  have fb1 := hx.c1
  have bb := hid (hx.alloc (.cells #[.int .i64 v, .slice Anu nnu cnu] 25))
  have ab := hid ((ab.out.below hb).alloc (.cells #[.int .i64 v, .slice Anu nnu cnu] 25))
  clear hx
  have hx := bc.out.below hb bc.out.lt
  have mc := hx.lt
  have fc0 := hx.c0
  have fc1 := hx.c1
  have bc := hid (hx.alloc (.cells #[.int .i64 v, .slice Anu nnu cnu] 25))
  have ac := hid ((ac.out.below hb).alloc (.cells #[.int .i64 v, .slice Anu nnu cnu] 25))
  clear hx
  have hx := bu.out.below hb bu.out.lt
  have mu := hx.lt
  have fu0 := hx.c0
  have fu1 := hx.c1
  have bu := hid (hx.alloc (.cells #[.int .i64 v, .slice Anu nnu cnu] 25))
  have au := hid ((au.out.below hb).alloc (.cells #[.int .i64 v, .slice Anu nnu cnu] 25))
  clear hx
  have hx := bx.out.below hb bx.out.lt
  have mx := hx.lt
  have fx0 := hx.c0
  have fx1 := hx.c1
  have bx := hid (hx.alloc (.cells #[.int .i64 v, .slice Anu nnu cnu] 25))
  have ax := hid ((ax.out.below hb).alloc (.cells #[.int .i64 v, .slice Anu nnu cnu] 25))
  clear hx
  have hx := bp.out.below hb bp.out.lt
  have mp := hx.lt
  have fp0 := hx.c0
  have fp1 := hx.c1
  have bp := hid (hx.alloc (.cells #[.int .i64 v, .slice Anu nnu cnu] 25))
  have ap := hid ((ap.out.below hb).alloc (.cells #[.int .i64 v, .slice Anu nnu cnu] 25))
  clear hx
  have hx := bq.out.below hb bq.out.lt
  have mq := hx.lt
  have fq0 := hx.c0
  have fq1 := hx.c1
  have bq := hid (hx.alloc (.cells #[.int .i64 v, .slice Anu nnu cnu] 25))
  have aq := hid ((aq.out.below hb).alloc (.cells #[.int .i64 v, .slice Anu nnu cnu] 25))
  clear hx
  have hx := byy.out.below hb byy.out.lt
  have myy := hx.lt
  have fyy0 := hx.c0
  have fyy1 := hx.c1
  have byy := hid (hx.alloc (.cells #[.int .i64 v, .slice Anu nnu cnu] 25))
  have ayy := hid ((ayy.out.below hb).alloc (.cells #[.int .i64 v, .slice Anu nnu cnu] 25))
  clear hx
  have hx := bd.out.below hb bd.out.lt
  have md := hx.lt
  have fd0 := hx.c0
  have fd1 := hx.c1
  have bd := hid (hx.alloc (.cells #[.int .i64 v, .slice Anu nnu cnu] 25))
  have ad := hid ((ad.out.below hb).alloc (.cells #[.int .i64 v, .slice Anu nnu cnu] 25))
  clear hx
  have hx := bf.out.below hb bf.out.lt
  have mf := hx.lt
  have ff0 := hx.c0
  have ff1 := hx.c1
  have bf := hid (hx.alloc (.cells #[.int .i64 v, .slice Anu nnu cnu] 25))
  have af := hid ((af.out.below hb).alloc (.cells #[.int .i64 v, .slice Anu nnu cnu] 25))
  clear hx
  have hx := bg.out.below hb bg.out.lt
  have mg := hx.lt
  have fg0 := hx.c0
  have fg1 := hx.c1
  have bg := hid (hx.alloc (.cells #[.int .i64 v, .slice Anu nnu cnu] 25))
  have ag := hid ((ag.out.below hb).alloc (.cells #[.int .i64 v, .slice Anu nnu cnu] 25))
  clear hx
  have hx := bna.out.below hb bna.out.lt
  have mna := hx.lt
  have fna0 := hx.c0
  have fna1 := hx.c1
  have bna := hid (hx.alloc (.cells #[.int .i64 v, .slice Anu nnu cnu] 25))
  have ana := hid ((ana.out.below hb).alloc (.cells #[.int .i64 v, .slice Anu nnu cnu] 25))
  clear hx
  have hx := bnb.out.below hb bnb.out.lt
  have mnb := hx.lt
  have fnb0 := hx.c0
  have fnb1 := hx.c1
  have bnb := hid (hx.alloc (.cells #[.int .i64 v, .slice Anu nnu cnu] 25))
  have anb := hid ((anb.out.below hb).alloc (.cells #[.int .i64 v, .slice Anu nnu cnu] 25))
  clear hx
  have hx := bbo.out.below hb bbo.out.lt
  have mbo := hx.lt
  have fbo0 := hx.c0
  have fbo1 := hx.c1
  have bbo := hid (hx.alloc (.cells #[.int .i64 v, .slice Anu nnu cnu] 25))
  have abo := hid ((abo.out.below hb).alloc (.cells #[.int .i64 v, .slice Anu nnu cnu] 25))
  clear hx
  clear fa0 fa1 fb0 fb1 fc0 fc1 fu0 fu1 fx0 fx1 fp0 fp1 fq0 fq1 fyy0 fyy1 fd0 fd1 ff0 ff1 fg0 fg1 fna0 fna1 fnb0 fnb1 fbo0 fbo1 ma mb mc mu mx mp mq myy md mf mg mna mnb mbo
  have bnu := hid (Box.new w16 v Anu nnu cnu)
  have anu := hid (ha.alloc (.cells #[.int .i64 v, .slice Anu nnu cnu] 25))
  have G := hid ((G.out.below hb).alloc (.cells #[.int .i64 v, .slice Anu nnu cnu] 25))
  clear ha hb
  simp only []
  go_upto_region 16 with fail
  have eu : ∀ i, pu i = flag true true true (pa i) (pb i) := fun i => (congrFun Eu.out i).symm
  have ex : ∀ i, px i = flag false false true (pu i) (pc i) := fun i => (congrFun Ex.out i).symm
  have ep : ∀ i, pp i = flag false false true (pa i) (pc i) := fun i => (congrFun Ep.out i).symm
  have eq_ : ∀ i, pq i = flag false false true (pb i) (pc i) := fun i => (congrFun Eq.out i).symm
  have eyy : ∀ i, pyy i = flag true true true (pp i) (pq i) := fun i => (congrFun Eyy.out i).symm
  have ed : ∀ i, pd i = flag true false false (pu i) (pb i) := fun i => (congrFun Ed.out i).symm
  have ef : ∀ i, pf i = flag true false false (pa i) (pb i) := fun i => (congrFun Ef.out i).symm
  have ena : ∀ i, pna i = flag true false false (pg i) (pa i) := fun i => (congrFun Ena.out i).symm
  have enb : ∀ i, pnb i = flag true false false (pg i) (pb i) := fun i => (congrFun Enb.out i).symm
  have ebo : ∀ i, pbo i = flag false false true (pna i) (pnb i) := fun i => (congrFun Ebo.out i).symm
  have enu : ∀ i, pnu i = flag true false false (pg i) (pu i) := fun i => (congrFun Enu.out i).symm
  have eg : ∀ i, pg i = true := fun i => (congrFun Eg.out i).symm
  have K1 := hid (equal_st hv (p := px) (q := pyy) (fun i => by simp only [ex, eyy, eu, ep, eq_]; cases pa i <;> cases pb i <;> cases pc i <;> rfl))
  have K2 := hid (equal_st hv (p := pd) (q := pf) (fun i => by simp only [ed, ef, eu]; cases pa i <;> cases pb i <;> rfl))
  have K3 := hid (equal_st hv (p := pbo) (q := pnu) (fun i => by simp only [ebo, enu, ena, enb, eg, eu]; cases pa i <;> cases pb i <;> rfl))
  have K4 := hid (subset_st hv (p := pa) (q := pu) (fun i h => by simp only [eu, h]; cases pb i <;> rfl))
  have hs : cnt pu v + cnt (fun i => flag false false true (pa i) (pb i)) v = cnt pa v + cnt pb v := by
    rw [← cnt_both pa pb v]
    congr 1
    · exact cnt_congr fun i _ => by simp only [eu]; cases pa i <;> cases pb i <;> rfl
    · exact cnt_congr fun i _ => by cases pa i <;> cases pb i <;> rfl
  have hc1 := count_st hv pu
  have hc2 := count_st hv (fun i => flag false false true (pa i) (pb i))
  have hc3 := count_st hv pa
  have hc4 := count_st hv pb
  have hcl1 := cnt_le pa v
  have hcl2 := cnt_le pb v
  generalize cnt pu v = qu at *
  generalize cnt (fun i => flag false false true (pa i) (pb i)) v = qw at *
  generalize cnt pa v = qa at *
  generalize cnt pb v = qb at *
  have C1 := hid hc1; have C2 := hid hc2; have C3 := hid hc3; have C4 := hid hc4
  have s1 : IntKind.i64.wrap ((qu : Int) + (qw : Int)) = ((qa + qb : Nat) : Int) := by rw [IntWalk.i64_in _ (by omega)]; omega
  have s2 : IntKind.i64.wrap ((qa : Int) + (qb : Int)) = ((qa + qb : Nat) : Int) := by rw [IntWalk.i64_in _ (by omega)]; omega
  generalize hcs : qa + qb = qs at s1 s2
  clear hc1 hc2 hc3 hc4 hs hcs
  clear eu ex ep eq_ eyy ed ef ena enb ebo enu eg Eu Ex Ep Eq Eyy Ed Ef Ena Enb Ebo Enu Eg
  have vx : nx ≤ maxLen := by unfold maxLen; omega
  have vd : nd ≤ maxLen := by unfold maxLen; omega
  have vbo : nbo ≤ maxLen := by unfold maxLen; omega
  generalize w16.alloc (.cells #[.int .i64 v, .slice Anu nnu cnu] 25) = W8 at *
  generalize w5.heap.size = ku at *
  generalize w6.heap.size = kx at *
  generalize w9.heap.size = kyy at *
  generalize w10.heap.size = kd at *
  generalize w11.heap.size = kf at *
  generalize w15.heap.size = kbo at *
  generalize w16.heap.size = knu at *
  generalize w4.heap.size = ka at *
  have hK : ∀ w', Below W8.heap.size W8 w' → ((fun w' => Below W8.heap.size W8 w' ∧ (w'.cell? ⟨ka, 0, none⟩ = some (.int .i64 (v : Int)) ∧ w'.cell? ⟨ka, 1, none⟩ = some (.slice (some Aa) na ca)) ∧ (w'.cell? ⟨ka + 1, 0, none⟩ = some (.int .i64 (v : Int)) ∧ w'.cell? ⟨ka + 1, 1, none⟩ = some (.slice (some Ab) nb cb)) ∧ (w'.cell? ⟨ku, 0, none⟩ = some (.int .i64 (v : Int)) ∧ w'.cell? ⟨ku, 1, none⟩ = some (.slice Au nu cu)) ∧ (w'.cell? ⟨kx, 0, none⟩ = some (.int .i64 (v : Int)) ∧ w'.cell? ⟨kx, 1, none⟩ = some (.slice Ax nx cx)) ∧ (w'.cell? ⟨kyy, 0, none⟩ = some (.int .i64 (v : Int)) ∧ w'.cell? ⟨kyy, 1, none⟩ = some (.slice Ayy nyy cyy)) ∧ (w'.cell? ⟨kd, 0, none⟩ = some (.int .i64 (v : Int)) ∧ w'.cell? ⟨kd, 1, none⟩ = some (.slice Ad nd cd)) ∧ (w'.cell? ⟨kf, 0, none⟩ = some (.int .i64 (v : Int)) ∧ w'.cell? ⟨kf, 1, none⟩ = some (.slice Af nf cf)) ∧ (w'.cell? ⟨kbo, 0, none⟩ = some (.int .i64 (v : Int)) ∧ w'.cell? ⟨kbo, 1, none⟩ = some (.slice Abo nbo cbo)) ∧ (w'.cell? ⟨knu, 0, none⟩ = some (.int .i64 (v : Int)) ∧ w'.cell? ⟨knu, 1, none⟩ = some (.slice Anu nnu cnu))) w') := fun w' h => ⟨h, ba.out.keep h, bb.out.keep h, bu.out.keep h, bx.out.keep h, byy.out.keep h, bd.out.keep h, bf.out.keep h, bbo.out.keep h, bnu.out.keep h⟩
  have HK := hid hK
  clear hK
  go_region_held3 (fun w' => Below W8.heap.size W8 w' ∧ (w'.cell? ⟨ka, 0, none⟩ = some (.int .i64 (v : Int)) ∧ w'.cell? ⟨ka, 1, none⟩ = some (.slice (some Aa) na ca)) ∧ (w'.cell? ⟨ka + 1, 0, none⟩ = some (.int .i64 (v : Int)) ∧ w'.cell? ⟨ka + 1, 1, none⟩ = some (.slice (some Ab) nb cb)) ∧ (w'.cell? ⟨ku, 0, none⟩ = some (.int .i64 (v : Int)) ∧ w'.cell? ⟨ku, 1, none⟩ = some (.slice Au nu cu)) ∧ (w'.cell? ⟨kx, 0, none⟩ = some (.int .i64 (v : Int)) ∧ w'.cell? ⟨kx, 1, none⟩ = some (.slice Ax nx cx)) ∧ (w'.cell? ⟨kyy, 0, none⟩ = some (.int .i64 (v : Int)) ∧ w'.cell? ⟨kyy, 1, none⟩ = some (.slice Ayy nyy cyy)) ∧ (w'.cell? ⟨kd, 0, none⟩ = some (.int .i64 (v : Int)) ∧ w'.cell? ⟨kd, 1, none⟩ = some (.slice Ad nd cd)) ∧ (w'.cell? ⟨kf, 0, none⟩ = some (.int .i64 (v : Int)) ∧ w'.cell? ⟨kf, 1, none⟩ = some (.slice Af nf cf)) ∧ (w'.cell? ⟨kbo, 0, none⟩ = some (.int .i64 (v : Int)) ∧ w'.cell? ⟨kbo, 1, none⟩ = some (.slice Abo nbo cbo)) ∧ (w'.cell? ⟨knu, 0, none⟩ = some (.int .i64 (v : Int)) ∧ w'.cell? ⟨knu, 1, none⟩ = some (.slice Anu nnu cnu)))
    (first | exact HK.out _ (Below.refl _ _).drew | assumption)
    (first
      | (go_at_call 35
         go_must (
         go_split_ands
         first
           | (with_reducible refine (devEqual_any v v Ax Ayy nx cx nyy cyy (St v px) (St v pyy) _ (by exact ax.out.below (by assumption)) (by exact ayy.out.below (by assumption)) vx).mono ?_)
           | (with_reducible refine (devEqual_any v v Ad Af nd cd nf cf (St v pd) (St v pf) _ (by exact ad.out.below (by assumption)) (by exact af.out.below (by assumption)) vd).mono ?_)
           | (with_reducible refine (devEqual_any v v Abo Anu nbo cbo nnu cnu (St v pbo) (St v pnu) _ (by exact abo.out.below (by assumption)) (by exact anu.out.below (by assumption)) vbo).mono ?_)
         first | rw [K1.out] | rw [K2.out] | rw [K3.out]
         rintro e wn ⟨rfl, hbk⟩
         have hcur := below_step (W := W8) (by assumption) hbk
         have hS := HK.out _ hcur
         clear hbk))
      | (go_at_call 36
         go_must (
         go_split_ands
         refine (devSubset_any v v (some Aa) Au na ca nu cu (St v pa) (St v pu) _ (by exact aa.out.below (by assumption)) (by exact au.out.below (by assumption))).mono ?_
         rw [K4.out]
         rintro e wn ⟨rfl, hbk⟩
         have hcur := below_step (W := W8) (by assumption) hbk
         have hS := HK.out _ hcur
         clear hbk))
      | (go_at_call 38
         go_must (
         go_split_ands
         refine (bothOf_any hv (some Aa) (some Ab) na ca nb cb pa pb _ (by exact aa.out.below (by assumption)) (by exact ab.out.below (by assumption))).mono ?_
         rintro e wn ⟨A7, n7, c7, rfl, ha7', hbk⟩
         have ha7 := hid ha7'
         have hcur := below_step (W := W8) (by assumption) hbk
         have hS := HK.out _ hcur
         clear hbk))
      | (go_at_call 37
         go_must (
         go_split_ands
         first
           | (with_reducible refine (devCount_any v Au nu cu (St v pu) _ (by exact au.out.below (by assumption))).mono ?_)
           | (with_reducible refine (devCount_any v (some Aa) na ca (St v pa) _ (by exact aa.out.below (by assumption))).mono ?_)
           | (with_reducible refine (devCount_any v (some Ab) nb cb (St v pb) _ (by exact ab.out.below (by assumption))).mono ?_)
           | (with_reducible refine (devCount_any v A7 n7 c7 (St v (fun i => flag false false true (pa i) (pb i))) _ ha7.out).mono ?_)
         first | rw [C1.out] | rw [C2.out] | rw [C3.out] | rw [C4.out]
         rintro e wn ⟨rfl, hbk⟩
         have hcur := below_step (W := W8) (by assumption) hbk
         have hS := HK.out _ hcur
         clear hbk))
      | (go_at_call 14
         go_must (
         go_split_ands
         refine (sane_any _).mono ?_
         rintro e wn ⟨rfl, hbk⟩
         have hcur := below_step (W := W8) (by assumption) hbk
         have hS := HK.out _ hcur
         clear hbk))
    )
  go_wp2_with fail
  go_ret
  exact ⟨ret_bool (by simp), HT.out ▸ (G.out.2.1.trans (hcur.mono (HT.out ▸ G.out.2.1.size)))⟩
end Go.Proofs.YtljdjidpbblbbaaDoor
