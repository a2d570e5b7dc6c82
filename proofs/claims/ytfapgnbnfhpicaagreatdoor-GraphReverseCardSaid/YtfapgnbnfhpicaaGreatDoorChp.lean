/- The package's fits and Check. -/
import Derived.Test.YtfapgnbnfhpicaaGreatDoorChb
import Derived.Test.YtfapgnbnfhpicaaGreatDoorVrs
namespace Go.Proofs.YtfapgnbnfhpicaaGreatDoor
set_option maxRecDepth 20000
set_option linter.unusedVariables false
set_option linter.unusedSimpArgs false
open Go.ChangeShapes Go.WideShapes Go.ChangeAt Go.RowKit

def fitB (p : List Fnc) : Bool := decide ((varsP p).length ≤ 64) && (decide ((sizesP p).1 ≤ 256) && decide ((sizesP p).2 ≤ 1024))
set_option maxHeartbeats 3200000 in
theorem fits_any (x : PH) (ex : List (Option Nat)) (w : World) (h : PHok w ex x) (hs : Shp w) :
    Calls Tryz.prog 91 #[.agg #[.slice x.A x.n x.c]] w fun e w' => e = .returned (.bool (fitB x.p)) ∧ Below w.heap.size w w' := by
  have hb0 := (Below.refl w.heap.size w).alloc (Nat.le_refl _) (.cells #[.slice x.A x.n x.c] 44)
  have HB0 := hid hb0
  have HG0 := hid (Fb.new w #[.slice x.A x.n x.c] 44)
  have HX0 := hid (PHok.below h hb0)
  have HS0 := hid (hs.keep (hb0.block 1 hs.pos0))
  have Hfit := hid (show fitB x.p = (decide ((varsP x.p).length ≤ 64) && (decide ((sizesP x.p).1 ≤ 256) && decide ((sizesP x.p).2 ≤ 1024))) from rfl)
  generalize fitB x.p = fb at *
  clear h hb0 hs
  go_enter Tryz.func91, Tryz.ntmps91
  go_wp2_with fail
  generalize w.alloc (.cells #[.slice x.A x.n x.c] 44) = w0 at *
  refine (sizes_any x ex _ HX0.out HS0.out).mono ?_
  generalize sizesP x.p = sz at *
  obtain ⟨n1, n2⟩ := sz
  rintro e w1 ⟨rfl, hb1⟩
  have HB1 := hid (below_step HB0.out hb1)
  have HG1 := hid (HG0.out.below hb1 HG0.out.lt)
  have HX1 := hid (PHok.below HX0.out hb1)
  have HS1 := hid (HS0.out.keep (hb1.block 1 HS0.out.pos0))
  clear hb1 HB0 HG0 HX0 HS0
  have g0 := HG1.out.onec
  simp only
  go_wp2_with fail
  refine (variables_any x ex _ HX1.out HS1.out).mono ?_
  generalize varsP x.p = V at *
  rintro e w2 ⟨A, c, rfl, ha, hb2⟩
  have HB2 := hid (below_step HB1.out hb2)
  clear hb2 ha g0 HX1 HS1 HG1
  cases h1 : decide (V.length ≤ 64) with
  | false =>
    as_aux_lemma =>
      have Hr := hid (show fb = false by rw [Hfit.out, h1]; rfl)
      have t1 : decide ((V.length : Int) ≤ 64) = false := by simp at h1 ⊢; omega
      clear h1
      go_wp2_with fail
      go_ret
      exact ⟨ret_b Hr.out, HB2.out⟩
  | true =>
    have t1 : decide ((V.length : Int) ≤ 64) = true := by simp at h1 ⊢; omega
    have Hfit2 := hid (show fb = (decide (n1 ≤ 256) && decide (n2 ≤ 1024)) by rw [Hfit.out, h1]; rfl)
    clear h1
    cases h2 : decide (n1 ≤ 256) with
    | false =>
      as_aux_lemma =>
        have Hr := hid (show fb = false by rw [Hfit2.out, h2]; rfl)
        have t2 : decide ((n1 : Int) ≤ 256) = false := by simp at h2 ⊢; omega
        clear h2
        go_wp2_with fail
        go_ret
        exact ⟨ret_b Hr.out, HB2.out⟩
    | true =>
      have t2 : decide ((n1 : Int) ≤ 256) = true := by simp at h2 ⊢; omega
      have Hfit3 := hid (show fb = decide (n2 ≤ 1024) by rw [Hfit2.out, h2]; rfl)
      clear h2
      cases h3 : decide (n2 ≤ 1024) with
      | false =>
        as_aux_lemma =>
          have Hr := hid (show fb = false by rw [Hfit3.out, h3])
          have t3 : decide ((n2 : Int) ≤ 1024) = false := by simp at h3 ⊢; omega
          clear h3
          go_wp2_with fail
          go_ret
          exact ⟨ret_b Hr.out, HB2.out⟩
      | true =>
        as_aux_lemma =>
          have Hr := hid (show fb = true by rw [Hfit3.out, h3])
          have t3 : decide ((n2 : Int) ≤ 1024) = true := by simp at h3 ⊢; omega
          clear h3
          go_wp2_with fail
          go_ret
          exact ⟨ret_b Hr.out, HB2.out⟩
/-- P6.1. -/
def checkP (p : List Fnc) : (Int × Int × Int × Int) × Int :=
  if prgB p then (if (funcsE p).2 == 0 then (if fitB p then ((0, 0, 0, 0), 0) else ((0, 0, 0, 0), 7)) else funcsE p) else ((0, 0, 0, 0), 1)
theorem chk_bad {p : List Fnc} (h : prgB p = false) : checkP p = ((0, 0, 0, 0), 1) := by unfold checkP; rw [h]; rfl
theorem chk_err {p : List Fnc} {r : (Int × Int × Int × Int) × Int} (h : prgB p = true) (hr : funcsE p = r) (h0 : (r.2 == 0) = false) : checkP p = r := by unfold checkP; rw [h, hr]; simp only [h0]; rfl
theorem chk_full {p : List Fnc} {r : (Int × Int × Int × Int) × Int} (h : prgB p = true) (hr : funcsE p = r) (h0 : (r.2 == 0) = true) (hf : fitB p = false) : checkP p = ((0, 0, 0, 0), 7) := by unfold checkP; rw [h, hr, hf]; simp only [h0]; rfl
theorem chk_fine {p : List Fnc} {r : (Int × Int × Int × Int) × Int} (h : prgB p = true) (hr : funcsE p = r) (h0 : (r.2 == 0) = true) (hf : fitB p = true) : checkP p = ((0, 0, 0, 0), 0) := by unfold checkP; rw [h, hr, hf]; simp only [h0]; rfl
set_option maxHeartbeats 3200000 in
theorem check_any (x : PH) (ex : List (Option Nat)) (w : World) (h : PHok w ex x) (hs : Shp w) :
    Calls Tryz.prog 59 #[.agg #[.slice x.A x.n x.c]] w (RetNd w (checkP x.p)) := by
  have hb0 : Below w.heap.size w ((w.alloc (.cells #[.slice x.A x.n x.c] 44)).alloc (.cells #[.int .i64 0, .int .i64 0, .int .i64 0, .int .i64 0] 75)) := ((Below.refl w.heap.size w).alloc (Nat.le_refl _) _).alloc (by rw [World.size_alloc]; omega) _
  have HB0 := hid hb0
  have HG0 := hid ((Fb.new w #[.slice x.A x.n x.c] 44).alloc (.cells #[.int .i64 0, .int .i64 0, .int .i64 0, .int .i64 0] 75))
  have HN0 := hid (show Fb ((w.alloc (.cells #[.slice x.A x.n x.c] 44)).alloc (.cells #[.int .i64 0, .int .i64 0, .int .i64 0, .int .i64 0] 75)) (w.heap.size + 1) #[.int .i64 0, .int .i64 0, .int .i64 0, .int .i64 0] 75 by have := Fb.new (w.alloc (.cells #[.slice x.A x.n x.c] 44)) #[.int .i64 0, .int .i64 0, .int .i64 0, .int .i64 0] 75; rwa [World.size_alloc] at this)
  have HX0 := hid (PHok.below h hb0)
  have HS0 := hid (hs.keep (hb0.block 1 hs.pos0))
  clear h hb0 hs
  go_enter Tryz.func59, Tryz.ntmps59
  have HQ : Hid (∀ {v : World} (h : Below w.heap.size w v) (a b c d : Value), Below w.heap.size w ((((v.setCell ⟨w.heap.size + 1, 0, none⟩ a).setCell ⟨w.heap.size + 1, 1, none⟩ b).setCell ⟨w.heap.size + 1, 2, none⟩ c).setCell ⟨w.heap.size + 1, 3, none⟩ d)) :=
    hid (fun h a b c d => (((h.setCell (p := ⟨w.heap.size + 1, 0, none⟩) (Nat.le_succ _) a).setCell (p := ⟨w.heap.size + 1, 1, none⟩) (Nat.le_succ _) b).setCell (p := ⟨w.heap.size + 1, 2, none⟩) (Nat.le_succ _) c).setCell (p := ⟨w.heap.size + 1, 3, none⟩) (Nat.le_succ _) d)
  go_wp2_with fail
  generalize (w.alloc (.cells #[.slice x.A x.n x.c] 44)).alloc (.cells #[.int .i64 0, .int .i64 0, .int .i64 0, .int .i64 0] 75) = w0 at *
  refine (devValid_any x ex _ HX0.out HS0.out).mono ?_
  rintro e w1 ⟨rfl, hb1⟩
  have HB1 := hid (below_step HB0.out hb1)
  have HG1 := hid (HG0.out.below hb1 HG0.out.lt)
  have HN1 := hid (HN0.out.below hb1 HN0.out.lt)
  have HX1 := hid (PHok.below HX0.out hb1)
  have HS1 := hid (HS0.out.keep (hb1.block 1 HS0.out.pos0))
  clear hb1 HB0 HG0 HX0 HS0 HN0
  have g0 := HG1.out.onec
  cases hv : prgB x.p with
  | false =>
    as_aux_lemma =>
      have Hr := hid (chk_bad hv)
      obtain ⟨c0, c1, c2, c3⟩ := Fb.four HN1.out
      have z0 := HN1.out.frozen 0
      have z1 := HN1.out.frozen 1
      have z2 := HN1.out.frozen 2
      have z3 := HN1.out.frozen 3
      have hlt1 := HN1.out.lt
      clear hv
      go_wp2_with fail
      refine bodyPost_ret (v := .tuple #[.agg #[.int .i64 0, .int .i64 0, .int .i64 0, .int .i64 0], .int .i64 1]) (by simp [results, Tryz.results59, go_sem, c0, c1, c2, c3, z0, z1, z2, z3, hlt1]) rfl ?_
      exact retNd_mk Hr.out (HQ.out HB1.out _ _ _ _)
  | true =>
    have Hv := hid hv
    clear hv
    go_wp2_with fail
    refine (checkFuncs_any x ex _ HX1.out).mono ?_
    have hq : ∃ q, funcsE x.p = q := ⟨_, rfl⟩
    obtain ⟨⟨⟨qa, qb, qc, qd⟩, qe⟩, hq⟩ := hq
    rw [hq]
    have Hq := hid hq
    clear hq
    rintro e w2 ⟨rfl, hb2⟩
    have ha2 := (Below.refl w2.heap.size w2).alloc (Nat.le_refl _) (.cells #[.int .i64 qa, .int .i64 qb, .int .i64 qc, .int .i64 qd] 75)
    have hb3 := below_step hb2 ha2
    have HB3 := hid (below_step HB1.out hb3)
    have HG3 := hid (HG1.out.below hb3 HG1.out.lt)
    have HN3 := hid (HN1.out.below hb3 HN1.out.lt)
    have HX3 := hid (PHok.below HX1.out hb3)
    have HS3 := hid (HS1.out.keep (hb3.block 1 HS1.out.pos0))
    have HM3 := hid (Fb.new w2 #[.int .i64 qa, .int .i64 qb, .int .i64 qc, .int .i64 qd] 75)
    clear hb2 ha2 hb3 HB1 HG1 HN1 HX1 HS1 g0
    simp only
    cases h0 : (qe == 0) with
    | false =>
      as_aux_lemma =>
        have h1 : (qe != 0) = true := by show (!(qe == 0)) = true; rw [h0]; rfl
        have Hr := hid (chk_err Hv.out Hq.out h0)
        obtain ⟨c0, c1, c2, c3⟩ := Fb.four HN3.out
        obtain ⟨m0, m1, m2, m3⟩ := Fb.four HM3.out
        have z0 := HN3.out.frozen 0
        have z1 := HN3.out.frozen 1
        have z2 := HN3.out.frozen 2
        have z3 := HN3.out.frozen 3
        have hlt1 := HN3.out.lt
        go_wp2_with fail
        refine bodyPost_ret (v := .tuple #[.agg #[.int .i64 qa, .int .i64 qb, .int .i64 qc, .int .i64 qd], .int .i64 qe]) (by simp [results, Tryz.results59, go_sem, c0, c1, c2, c3, z0, z1, z2, z3, hlt1]) rfl ?_
        exact retNd_mk Hr.out (HQ.out HB3.out _ _ _ _)
    | true =>
      have h1 : (qe != 0) = false := by show (!(qe == 0)) = false; rw [h0]; rfl
      have Hh := hid h0
      have g0 := HG3.out.onec
      clear h0
      go_wp2_with fail
      refine (fits_any x ex _ HX3.out HS3.out).mono ?_
      rintro e w4 ⟨rfl, hb4⟩
      have HB4 := hid (below_step HB3.out hb4)
      have HN4 := hid (HN3.out.below hb4 HN3.out.lt)
      clear hb4 g0 HX3 HS3 HG3 HM3 HB3 HN3
      obtain ⟨c0, c1, c2, c3⟩ := Fb.four HN4.out
      have z0 := HN4.out.frozen 0
      have z1 := HN4.out.frozen 1
      have z2 := HN4.out.frozen 2
      have z3 := HN4.out.frozen 3
      have hlt1 := HN4.out.lt
      cases hf : fitB x.p with
      | false =>
        as_aux_lemma =>
          have Hr := hid (chk_full Hv.out Hq.out Hh.out hf)
          clear hf
          go_wp2_with fail
          refine bodyPost_ret (v := .tuple #[.agg #[.int .i64 0, .int .i64 0, .int .i64 0, .int .i64 0], .int .i64 7]) (by simp [results, Tryz.results59, go_sem, c0, c1, c2, c3, z0, z1, z2, z3, hlt1]) rfl ?_
          exact retNd_mk Hr.out (HQ.out HB4.out _ _ _ _)
      | true =>
        as_aux_lemma =>
          have Hr := hid (chk_fine Hv.out Hq.out Hh.out hf)
          clear hf
          go_wp2_with fail
          refine bodyPost_ret (v := .tuple #[.agg #[.int .i64 0, .int .i64 0, .int .i64 0, .int .i64 0], .int .i64 0]) (by simp [results, Tryz.results59, go_sem, c0, c1, c2, c3, z0, z1, z2, z3, hlt1]) rfl ?_
          exact retNd_mk Hr.out (HQ.out HB4.out _ _ _ _)
end Go.Proofs.YtfapgnbnfhpicaaGreatDoor
