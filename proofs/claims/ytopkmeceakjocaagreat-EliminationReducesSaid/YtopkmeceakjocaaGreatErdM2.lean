/- Merged texts: what YtopkmeceakjocaaGreatEliminationReducesProof leans on. -/
import Derived.Deep.RegionHeld3
import Derived.Deep.DeepCutAuto
import Derived.Test.YtopkmeceakjocaaGreatErdM0d
import Derived.Test.YtopkmeceakjocaaGreatErdM0
namespace Go.Proofs.YtopkmeceakjocaaGreat
set_option maxRecDepth 20000
set_option linter.unusedVariables false
set_option linter.unusedSimpArgs false
open Go.ChangeShapes Go.WideShapes Go.ChangeAt Go.RowKit
def RetCh (w : World) (v N : Nat) (p : PW) (Q : List AL → Prop) (e : Ending) (w' : World) : Prop :=
 ∃ (gB gI : Nat) (B : List ZH) (J : List AL), e = .returned (.tuple #[.agg #[.int .i64 v, .slice (some ⟨gB, 0, none⟩) N N, .slice (some ⟨gI, 0, none⟩) N N], .int .i64 0]) ∧ Ow w v N gB gI B (J.map AL.v) J w' ∧ p.To (pwO v B J) ∧ Q J ∧ Below w.heap.size w w'
set_option maxHeartbeats 6400000 in
theorem changedResolve_any (v N n : Nat) (BA IA : Option Addr) (bc ic : Nat) (bl : List ZH) (il : List AL) (ex : List (Option Nat)) (w : World) (h : WBok w ex ⟨v, ⟨BA, N, bc, bl⟩, ⟨IA, N, ic, il⟩⟩) (ho : WOk ⟨v, ⟨BA, N, bc, bl⟩, ⟨IA, N, ic, il⟩⟩ v N) (hk : WLk ⟨v, ⟨BA, N, bc, bl⟩, ⟨IA, N, ic, il⟩⟩ N) (hv : v ≤ 8) (hN : N ≤ 20) (hnN : n < N) :
 Calls Tryz.prog 63 #[.agg #[.int .i64 v, .slice BA N bc, .slice IA N ic], .int .i64 n, .func (Fn.func 100) #[] #[]] w (RetCh w v N (⟨v, ⟨BA, N, bc, bl⟩, ⟨IA, N, ic, il⟩⟩ : WB).pw (fun J => ∀ r, J[n]? = some r → ∀ a ∈ r.l, a.m ≠ n)) := by
 have HC1 := hid (fun (u : World) (hu : Below w.heap.size w u) => validWeb_any _ v N ex u (h.below hu) ho hk)
 have HC2 := hid (fun (u : World) (hu : Below w.heap.size w u) => copiedWeb_any _ v N ex u (h.below hu) ho hk)
 have hb1 := (Below.refl w.heap.size w).alloc (Nat.le_refl _) (.cells #[.int .i64 v, .slice BA N bc, .slice IA N ic] 67)
 have hb2 := hb1.alloc hb1.size (.cells #[.int .i64 0, .slice none 0 0, .slice none 0 0] 67)
 have HB2 := hid hb2
 have HF2 := hid (show Fb ((w.alloc (.cells #[.int .i64 v, .slice BA N bc, .slice IA N ic] 67)).alloc (.cells #[.int .i64 0, .slice none 0 0, .slice none 0 0] 67)) w.heap.size #[.int .i64 v, .slice BA N bc, .slice IA N ic] 67 ∧ Fb ((w.alloc (.cells #[.int .i64 v, .slice BA N bc, .slice IA N ic] 67)).alloc (.cells #[.int .i64 0, .slice none 0 0, .slice none 0 0] 67)) (w.heap.size + 1) #[.int .i64 0, .slice none 0 0, .slice none 0 0] 67 from by
  have f1 := Fb.new w #[.int .i64 v, .slice BA N bc, .slice IA N ic] 67
  have f2 := Fb.new (w.alloc (.cells #[.int .i64 v, .slice BA N bc, .slice IA N ic] 67)) #[.int .i64 0, .slice none 0 0, .slice none 0 0] 67
  exact ⟨f1.below ((Below.refl _ _).alloc (Nat.le_refl _) _) f1.lt, by simpa using f2⟩)
 clear h ho hk hb1 hb2
 go_enter Tryz.func63, Tryz.ntmps63
 go_upto_region 1 with fail
 generalize ((w.alloc (.cells #[.int .i64 v, .slice BA N bc, .slice IA N ic] 67)).alloc (.cells #[.int .i64 0, .slice none 0 0, .slice none 0 0] 67)) = w2 at *
 obtain ⟨x0, x1, x2⟩ := HF2.out.1.three
 go_wp2_with fail
 refine (HC1.out w2 HB2.out).mono ?_
 rintro _ w3 ⟨rfl, hb3⟩
 have HB3 := hid (below_step HB2.out hb3)
 have HF3 := hid (And.intro (HF2.out.1.below hb3 HF2.out.1.lt) (HF2.out.2.below hb3 HF2.out.2.lt))
 clear x0 x1 x2 hb3 HB2 HF2 HC1
 obtain ⟨x0, x1, x2⟩ := HF3.out.1.three
 go_wp2_with fail
 refine (isUnknown_any v N n BA IA bc ic w3 hnN).mono ?_
 rintro _ w4 ⟨rfl, hb4⟩
 have HB4 := hid (below_step HB3.out hb4)
 have HF4 := hid (And.intro (HF3.out.1.below hb4 HF3.out.1.lt) (HF3.out.2.below hb4 HF3.out.2.lt))
 clear x0 x1 x2 hb4 HB3 HF3
 obtain ⟨x0, x1, x2⟩ := HF4.out.1.three
 go_wp2_with fail
 refine (HC2.out w4 HB4.out).mono ?_
 rintro _ w6 ⟨gB, gI, B, J, rfl, how, he1, he2⟩
 have hb6 := how.bel
 have hsz := hb6.size
 have hb7 := (Below.refl w6.heap.size w6).alloc (Nat.le_refl _) (.cells #[.int .i64 v, .slice (some ⟨gB, 0, none⟩) N N, .slice (some ⟨gI, 0, none⟩) N N] 67)
 have hb67 := below_step hb6 hb7
 have HF7 := hid (And.intro (HF4.out.1.below hb67 HF4.out.1.lt) (HF4.out.2.below hb67 HF4.out.2.lt))
 have HZl := hid HF4.out.2.lt
 have HO7 := hid (Fb.new w6 #[.int .i64 v, .slice (some ⟨gB, 0, none⟩) N N, .slice (some ⟨gI, 0, none⟩) N N] 67)
 have hpw : pwO v B J = (⟨v, ⟨BA, N, bc, bl⟩, ⟨IA, N, ic, il⟩⟩ : WB).pw := by
  show PW.mk v (B.map ZH.ws) (J.map AL.pa) = PW.mk (Int.toNat v) (bl.map ZH.ws) (il.map AL.pa)
  rw [he1, he2, Int.toNat_natCast]
 have Hpw := hid hpw
 have HOw7 := hid (how.below hb7)
 clear x0 x1 x2 how he1 he2 hb6 hb7 hsz hpw hb67 HF4 HC2
 go_upto_region 6 with fail
 generalize w6.alloc (.cells #[.int .i64 v, .slice (some ⟨gB, 0, none⟩) N N, .slice (some ⟨gI, 0, none⟩) N N] 67) = w7 at *
 generalize w6.heap.size = bO at *
 obtain ⟨x0, x1, x2⟩ := HO7.out.three
 go_wp2_with fail
 refine (resolve_any w4 v N gB gI n B J w7 HOw7.out hv (by omega) hnN).mono ?_
 rintro _ wr ⟨B2, J2, rfl, how, hto, hfs, hno, htx⟩
 have HOw := hid how
 have HTo := hid hto
 have HNo := hid hno
 have HFz := hid (htx.fb HF7.out.2 (by decide) (by decide) (by decide))
 have HO := hid (htx.fb HO7.out (by decide) (by decide) (by decide))
 clear x0 x1 x2 how hto hfs hno htx HOw7 HO7 HF7
 obtain ⟨x0, x1, x2⟩ := HO.out.three
 obtain ⟨z0, z1, z2⟩ := HFz.out.three
 have f0 := HFz.out.frozen 0
 have f1 := HFz.out.frozen 1
 have f2 := HFz.out.frozen 2
 have hl := HFz.out.lt
 have hsz := HB4.out.size
 have hst := three_stp HFz.out (.int .i64 v) (.slice (some ⟨gB, 0, none⟩) N N) (.slice (some ⟨gI, 0, none⟩) N N)
 have hwz : w.heap.size + 1 < w4.heap.size := HZl.out
 have hb0 := below_step HB4.out HOw.out.bel
 have hb9 : Below w.heap.size w (((wr.setCell ⟨w.heap.size + 1, 0, none⟩ (.int .i64 v)).setCell ⟨w.heap.size + 1, 1, none⟩ (.slice (some ⟨gB, 0, none⟩) N N)).setCell ⟨w.heap.size + 1, 2, none⟩ (.slice (some ⟨gI, 0, none⟩) N N)) :=
  ((hb0.setCell (by show _ ≤ w.heap.size + 1; omega) _).setCell (by show _ ≤ w.heap.size + 1; omega) _).setCell (by show _ ≤ w.heap.size + 1; omega) _
 have HFin := hid (show RetCh w v N (⟨v, ⟨BA, N, bc, bl⟩, ⟨IA, N, ic, il⟩⟩ : WB).pw (fun J => ∀ r, J[n]? = some r → ∀ a ∈ r.l, a.m ≠ n) (.returned (.tuple #[.agg #[.int .i64 v, .slice (some ⟨gB, 0, none⟩) N N, .slice (some ⟨gI, 0, none⟩) N N], .int .i64 0])) (((wr.setCell ⟨w.heap.size + 1, 0, none⟩ (.int .i64 v)).setCell ⟨w.heap.size + 1, 1, none⟩ (.slice (some ⟨gB, 0, none⟩) N N)).setCell ⟨w.heap.size + 1, 2, none⟩ (.slice (some ⟨gI, 0, none⟩) N N)) from ⟨gB, gI, B2, J2, rfl, (HOw.out.base HB4.out).stp hst hb9 (by decide) (by decide) (by decide) (by decide) (by decide), by rw [← Hpw.out]; exact HTo.out, HNo.out, hb9⟩)
 clear hst hwz hb0 hb9 hsz HOw HTo HNo HFz HO
 go_wp2_with fail
 exact bodyPost_ret (v := .tuple #[.agg #[.int .i64 v, .slice (some ⟨gB, 0, none⟩) N N, .slice (some ⟨gI, 0, none⟩) N N], .int .i64 0]) (by simp [results, Tryz.results63, go_sem, z0, z1, z2]) rfl HFin.out
set_option maxHeartbeats 6400000 in
theorem eResolve_any (v N n : Nat) (BA IA : Option Addr) (bc ic : Nat) (bl : List ZH) (il : List AL) (ex : List (Option Nat)) (w : World) (h : WBok w ex ⟨v, ⟨BA, N, bc, bl⟩, ⟨IA, N, ic, il⟩⟩) (ho : WOk ⟨v, ⟨BA, N, bc, bl⟩, ⟨IA, N, ic, il⟩⟩ v N) (hk : WLk ⟨v, ⟨BA, N, bc, bl⟩, ⟨IA, N, ic, il⟩⟩ N) (hv : v ≤ 8) (hN : N ≤ 20) (hnN : n < N) :
 Calls Tryz.prog 69 #[.agg #[.int .i64 v, .slice BA N bc, .slice IA N ic], .int .i64 n] w (RetCh w v N (⟨v, ⟨BA, N, bc, bl⟩, ⟨IA, N, ic, il⟩⟩ : WB).pw (fun J => ∀ r, J[n]? = some r → ∀ a ∈ r.l, a.m ≠ n)) := by
 have hb1 := (Below.refl w.heap.size w).alloc (Nat.le_refl _) (.cells #[.int .i64 v, .slice BA N bc, .slice IA N ic] 67)
 have hb2 := hb1.alloc hb1.size (.cells #[.int .i64 0, .slice none 0 0, .slice none 0 0] 67)
 have HB2 := hid hb2
 have HF2 := hid (show Fb ((w.alloc (.cells #[.int .i64 v, .slice BA N bc, .slice IA N ic] 67)).alloc (.cells #[.int .i64 0, .slice none 0 0, .slice none 0 0] 67)) w.heap.size #[.int .i64 v, .slice BA N bc, .slice IA N ic] 67 ∧ Fb ((w.alloc (.cells #[.int .i64 v, .slice BA N bc, .slice IA N ic] 67)).alloc (.cells #[.int .i64 0, .slice none 0 0, .slice none 0 0] 67)) (w.heap.size + 1) #[.int .i64 0, .slice none 0 0, .slice none 0 0] 67 from by
  have f1 := Fb.new w #[.int .i64 v, .slice BA N bc, .slice IA N ic] 67
  have f2 := Fb.new (w.alloc (.cells #[.int .i64 v, .slice BA N bc, .slice IA N ic] 67)) #[.int .i64 0, .slice none 0 0, .slice none 0 0] 67
  exact ⟨f1.below ((Below.refl _ _).alloc (Nat.le_refl _) _) f1.lt, by simpa using f2⟩)
 have HC := hid (changedResolve_any v N n BA IA bc ic bl il ex _ (h.below hb2) ho hk hv hN hnN)
 clear h ho hk hb1 hb2
 go_enter Tryz.func69, Tryz.ntmps69
 go_upto_region 1 with fail
 generalize ((w.alloc (.cells #[.int .i64 v, .slice BA N bc, .slice IA N ic] 67)).alloc (.cells #[.int .i64 0, .slice none 0 0, .slice none 0 0] 67)) = w2 at *
 obtain ⟨x0, x1, x2⟩ := HF2.out.1.three
 go_wp2_with fail
 refine HC.out.mono ?_
 rintro _ wr ⟨gB, gI, B2, J2, rfl, how, hto, hno, hbw⟩
 have HFz := hid (HF2.out.2.below hbw HF2.out.2.lt)
 clear x0 x1 x2
 obtain ⟨z0, z1, z2⟩ := HFz.out.three
 have f0 := HFz.out.frozen 0
 have f1 := HFz.out.frozen 1
 have f2 := HFz.out.frozen 2
 have hl := HFz.out.lt
 have hsz := HB2.out.size
 have hst := three_stp HFz.out (.int .i64 v) (.slice (some ⟨gB, 0, none⟩) N N) (.slice (some ⟨gI, 0, none⟩) N N)
 have hb0 := below_step HB2.out hbw
 have hb9 : Below w.heap.size w (((wr.setCell ⟨w.heap.size + 1, 0, none⟩ (.int .i64 v)).setCell ⟨w.heap.size + 1, 1, none⟩ (.slice (some ⟨gB, 0, none⟩) N N)).setCell ⟨w.heap.size + 1, 2, none⟩ (.slice (some ⟨gI, 0, none⟩) N N)) :=
  ((hb0.setCell (by show _ ≤ w.heap.size + 1; omega) _).setCell (by show _ ≤ w.heap.size + 1; omega) _).setCell (by show _ ≤ w.heap.size + 1; omega) _
 have HFin := hid (show RetCh w v N (⟨v, ⟨BA, N, bc, bl⟩, ⟨IA, N, ic, il⟩⟩ : WB).pw (fun J => ∀ r, J[n]? = some r → ∀ a ∈ r.l, a.m ≠ n) (.returned (.tuple #[.agg #[.int .i64 v, .slice (some ⟨gB, 0, none⟩) N N, .slice (some ⟨gI, 0, none⟩) N N], .int .i64 0])) (((wr.setCell ⟨w.heap.size + 1, 0, none⟩ (.int .i64 v)).setCell ⟨w.heap.size + 1, 1, none⟩ (.slice (some ⟨gB, 0, none⟩) N N)).setCell ⟨w.heap.size + 1, 2, none⟩ (.slice (some ⟨gI, 0, none⟩) N N)) from ⟨gB, gI, B2, J2, rfl, (how.base HB2.out).stp hst hb9 (by decide) (by decide) (by decide) (by decide) (by decide), hto, hno, hb9⟩)
 clear hst hb0 hb9 hsz how hto hno hbw HFz
 go_wp2_with fail
 exact bodyPost_ret (v := .tuple #[.agg #[.int .i64 v, .slice (some ⟨gB, 0, none⟩) N N, .slice (some ⟨gI, 0, none⟩) N N], .int .i64 0]) (by simp [results, Tryz.results69, go_sem, z0, z1, z2]) rfl HFin.out
set_option maxHeartbeats 6400000 in
theorem changedEliminate_any (v N n : Nat) (BA IA : Option Addr) (bc ic : Nat) (bl : List ZH) (il : List AL) (ex : List (Option Nat)) (w : World) (h : WBok w ex ⟨v, ⟨BA, N, bc, bl⟩, ⟨IA, N, ic, il⟩⟩) (ho : WOk ⟨v, ⟨BA, N, bc, bl⟩, ⟨IA, N, ic, il⟩⟩ v N) (hk : WLk ⟨v, ⟨BA, N, bc, bl⟩, ⟨IA, N, ic, il⟩⟩ N) (hv : v ≤ 8) (hN : N ≤ 20) (hnN : n < N) :
 Calls Tryz.prog 63 #[.agg #[.int .i64 v, .slice BA N bc, .slice IA N ic], .int .i64 n, .func (Fn.func 64) #[] #[]] w (RetCh w v N (⟨v, ⟨BA, N, bc, bl⟩, ⟨IA, N, ic, il⟩⟩ : WB).pw (fun J => ∀ r ∈ J, ∀ a ∈ r.l, a.m ≠ n)) := by
 have HC1 := hid (fun (u : World) (hu : Below w.heap.size w u) => validWeb_any _ v N ex u (h.below hu) ho hk)
 have HC2 := hid (fun (u : World) (hu : Below w.heap.size w u) => copiedWeb_any _ v N ex u (h.below hu) ho hk)
 have hb1 := (Below.refl w.heap.size w).alloc (Nat.le_refl _) (.cells #[.int .i64 v, .slice BA N bc, .slice IA N ic] 67)
 have hb2 := hb1.alloc hb1.size (.cells #[.int .i64 0, .slice none 0 0, .slice none 0 0] 67)
 have HB2 := hid hb2
 have HF2 := hid (show Fb ((w.alloc (.cells #[.int .i64 v, .slice BA N bc, .slice IA N ic] 67)).alloc (.cells #[.int .i64 0, .slice none 0 0, .slice none 0 0] 67)) w.heap.size #[.int .i64 v, .slice BA N bc, .slice IA N ic] 67 ∧ Fb ((w.alloc (.cells #[.int .i64 v, .slice BA N bc, .slice IA N ic] 67)).alloc (.cells #[.int .i64 0, .slice none 0 0, .slice none 0 0] 67)) (w.heap.size + 1) #[.int .i64 0, .slice none 0 0, .slice none 0 0] 67 from by
  have f1 := Fb.new w #[.int .i64 v, .slice BA N bc, .slice IA N ic] 67
  have f2 := Fb.new (w.alloc (.cells #[.int .i64 v, .slice BA N bc, .slice IA N ic] 67)) #[.int .i64 0, .slice none 0 0, .slice none 0 0] 67
  exact ⟨f1.below ((Below.refl _ _).alloc (Nat.le_refl _) _) f1.lt, by simpa using f2⟩)
 clear h ho hk hb1 hb2
 go_enter Tryz.func63, Tryz.ntmps63
 go_upto_region 1 with fail
 generalize ((w.alloc (.cells #[.int .i64 v, .slice BA N bc, .slice IA N ic] 67)).alloc (.cells #[.int .i64 0, .slice none 0 0, .slice none 0 0] 67)) = w2 at *
 obtain ⟨x0, x1, x2⟩ := HF2.out.1.three
 go_wp2_with fail
 refine (HC1.out w2 HB2.out).mono ?_
 rintro _ w3 ⟨rfl, hb3⟩
 have HB3 := hid (below_step HB2.out hb3)
 have HF3 := hid (And.intro (HF2.out.1.below hb3 HF2.out.1.lt) (HF2.out.2.below hb3 HF2.out.2.lt))
 clear x0 x1 x2 hb3 HB2 HF2 HC1
 obtain ⟨x0, x1, x2⟩ := HF3.out.1.three
 go_wp2_with fail
 refine (isUnknown_any v N n BA IA bc ic w3 hnN).mono ?_
 rintro _ w4 ⟨rfl, hb4⟩
 have HB4 := hid (below_step HB3.out hb4)
 have HF4 := hid (And.intro (HF3.out.1.below hb4 HF3.out.1.lt) (HF3.out.2.below hb4 HF3.out.2.lt))
 clear x0 x1 x2 hb4 HB3 HF3
 obtain ⟨x0, x1, x2⟩ := HF4.out.1.three
 go_wp2_with fail
 refine (HC2.out w4 HB4.out).mono ?_
 rintro _ w6 ⟨gB, gI, B, J, rfl, how, he1, he2⟩
 have hb6 := how.bel
 have hsz := hb6.size
 have hb7 := (Below.refl w6.heap.size w6).alloc (Nat.le_refl _) (.cells #[.int .i64 v, .slice (some ⟨gB, 0, none⟩) N N, .slice (some ⟨gI, 0, none⟩) N N] 67)
 have hb67 := below_step hb6 hb7
 have HF7 := hid (And.intro (HF4.out.1.below hb67 HF4.out.1.lt) (HF4.out.2.below hb67 HF4.out.2.lt))
 have HZl := hid HF4.out.2.lt
 have HO7 := hid (Fb.new w6 #[.int .i64 v, .slice (some ⟨gB, 0, none⟩) N N, .slice (some ⟨gI, 0, none⟩) N N] 67)
 have hpw : pwO v B J = (⟨v, ⟨BA, N, bc, bl⟩, ⟨IA, N, ic, il⟩⟩ : WB).pw := by
  show PW.mk v (B.map ZH.ws) (J.map AL.pa) = PW.mk (Int.toNat v) (bl.map ZH.ws) (il.map AL.pa)
  rw [he1, he2, Int.toNat_natCast]
 have Hpw := hid hpw
 have HOw7 := hid (how.below hb7)
 clear x0 x1 x2 how he1 he2 hb6 hb7 hsz hpw hb67 HF4 HC2
 go_upto_region 6 with fail
 generalize w6.alloc (.cells #[.int .i64 v, .slice (some ⟨gB, 0, none⟩) N N, .slice (some ⟨gI, 0, none⟩) N N] 67) = w7 at *
 generalize w6.heap.size = bO at *
 obtain ⟨x0, x1, x2⟩ := HO7.out.three
 go_wp2_with fail
 refine (eliminate_any w4 v N gB gI n B J w7 HOw7.out hv hN hnN).mono ?_
 rintro _ wr ⟨B2, J2, rfl, how, hto, hfs, hno, htx⟩
 have HOw := hid how
 have HTo := hid hto
 have HNo := hid hno
 have HFz := hid (htx.fb HF7.out.2 (by decide) (by decide) (by decide))
 have HO := hid (htx.fb HO7.out (by decide) (by decide) (by decide))
 clear x0 x1 x2 how hto hfs hno htx HOw7 HO7 HF7
 obtain ⟨x0, x1, x2⟩ := HO.out.three
 obtain ⟨z0, z1, z2⟩ := HFz.out.three
 have f0 := HFz.out.frozen 0
 have f1 := HFz.out.frozen 1
 have f2 := HFz.out.frozen 2
 have hl := HFz.out.lt
 have hsz := HB4.out.size
 have hst := three_stp HFz.out (.int .i64 v) (.slice (some ⟨gB, 0, none⟩) N N) (.slice (some ⟨gI, 0, none⟩) N N)
 have hwz : w.heap.size + 1 < w4.heap.size := HZl.out
 have hb0 := below_step HB4.out HOw.out.bel
 have hb9 : Below w.heap.size w (((wr.setCell ⟨w.heap.size + 1, 0, none⟩ (.int .i64 v)).setCell ⟨w.heap.size + 1, 1, none⟩ (.slice (some ⟨gB, 0, none⟩) N N)).setCell ⟨w.heap.size + 1, 2, none⟩ (.slice (some ⟨gI, 0, none⟩) N N)) :=
  ((hb0.setCell (by show _ ≤ w.heap.size + 1; omega) _).setCell (by show _ ≤ w.heap.size + 1; omega) _).setCell (by show _ ≤ w.heap.size + 1; omega) _
 have HFin := hid (show RetCh w v N (⟨v, ⟨BA, N, bc, bl⟩, ⟨IA, N, ic, il⟩⟩ : WB).pw (fun J => ∀ r ∈ J, ∀ a ∈ r.l, a.m ≠ n) (.returned (.tuple #[.agg #[.int .i64 v, .slice (some ⟨gB, 0, none⟩) N N, .slice (some ⟨gI, 0, none⟩) N N], .int .i64 0])) (((wr.setCell ⟨w.heap.size + 1, 0, none⟩ (.int .i64 v)).setCell ⟨w.heap.size + 1, 1, none⟩ (.slice (some ⟨gB, 0, none⟩) N N)).setCell ⟨w.heap.size + 1, 2, none⟩ (.slice (some ⟨gI, 0, none⟩) N N)) from ⟨gB, gI, B2, J2, rfl, (HOw.out.base HB4.out).stp hst hb9 (by decide) (by decide) (by decide) (by decide) (by decide), by rw [← Hpw.out]; exact HTo.out, HNo.out, hb9⟩)
 clear hst hwz hb0 hb9 hsz HOw HTo HNo HFz HO
 go_wp2_with fail
 exact bodyPost_ret (v := .tuple #[.agg #[.int .i64 v, .slice (some ⟨gB, 0, none⟩) N N, .slice (some ⟨gI, 0, none⟩) N N], .int .i64 0]) (by simp [results, Tryz.results63, go_sem, z0, z1, z2]) rfl HFin.out
set_option maxHeartbeats 6400000 in
theorem eEliminate_any (v N n : Nat) (BA IA : Option Addr) (bc ic : Nat) (bl : List ZH) (il : List AL) (ex : List (Option Nat)) (w : World) (h : WBok w ex ⟨v, ⟨BA, N, bc, bl⟩, ⟨IA, N, ic, il⟩⟩) (ho : WOk ⟨v, ⟨BA, N, bc, bl⟩, ⟨IA, N, ic, il⟩⟩ v N) (hk : WLk ⟨v, ⟨BA, N, bc, bl⟩, ⟨IA, N, ic, il⟩⟩ N) (hv : v ≤ 8) (hN : N ≤ 20) (hnN : n < N) :
 Calls Tryz.prog 27 #[.agg #[.int .i64 v, .slice BA N bc, .slice IA N ic], .int .i64 n] w (RetCh w v N (⟨v, ⟨BA, N, bc, bl⟩, ⟨IA, N, ic, il⟩⟩ : WB).pw (fun J => ∀ r ∈ J, ∀ a ∈ r.l, a.m ≠ n)) := by
 have hb1 := (Below.refl w.heap.size w).alloc (Nat.le_refl _) (.cells #[.int .i64 v, .slice BA N bc, .slice IA N ic] 67)
 have hb2 := hb1.alloc hb1.size (.cells #[.int .i64 0, .slice none 0 0, .slice none 0 0] 67)
 have HB2 := hid hb2
 have HF2 := hid (show Fb ((w.alloc (.cells #[.int .i64 v, .slice BA N bc, .slice IA N ic] 67)).alloc (.cells #[.int .i64 0, .slice none 0 0, .slice none 0 0] 67)) w.heap.size #[.int .i64 v, .slice BA N bc, .slice IA N ic] 67 ∧ Fb ((w.alloc (.cells #[.int .i64 v, .slice BA N bc, .slice IA N ic] 67)).alloc (.cells #[.int .i64 0, .slice none 0 0, .slice none 0 0] 67)) (w.heap.size + 1) #[.int .i64 0, .slice none 0 0, .slice none 0 0] 67 from by
  have f1 := Fb.new w #[.int .i64 v, .slice BA N bc, .slice IA N ic] 67
  have f2 := Fb.new (w.alloc (.cells #[.int .i64 v, .slice BA N bc, .slice IA N ic] 67)) #[.int .i64 0, .slice none 0 0, .slice none 0 0] 67
  exact ⟨f1.below ((Below.refl _ _).alloc (Nat.le_refl _) _) f1.lt, by simpa using f2⟩)
 have HC := hid (changedEliminate_any v N n BA IA bc ic bl il ex _ (h.below hb2) ho hk hv hN hnN)
 clear h ho hk hb1 hb2
 go_enter Tryz.func27, Tryz.ntmps27
 go_upto_region 1 with fail
 generalize ((w.alloc (.cells #[.int .i64 v, .slice BA N bc, .slice IA N ic] 67)).alloc (.cells #[.int .i64 0, .slice none 0 0, .slice none 0 0] 67)) = w2 at *
 obtain ⟨x0, x1, x2⟩ := HF2.out.1.three
 go_wp2_with fail
 refine HC.out.mono ?_
 rintro _ wr ⟨gB, gI, B2, J2, rfl, how, hto, hno, hbw⟩
 have HFz := hid (HF2.out.2.below hbw HF2.out.2.lt)
 clear x0 x1 x2
 obtain ⟨z0, z1, z2⟩ := HFz.out.three
 have f0 := HFz.out.frozen 0
 have f1 := HFz.out.frozen 1
 have f2 := HFz.out.frozen 2
 have hl := HFz.out.lt
 have hsz := HB2.out.size
 have hst := three_stp HFz.out (.int .i64 v) (.slice (some ⟨gB, 0, none⟩) N N) (.slice (some ⟨gI, 0, none⟩) N N)
 have hb0 := below_step HB2.out hbw
 have hb9 : Below w.heap.size w (((wr.setCell ⟨w.heap.size + 1, 0, none⟩ (.int .i64 v)).setCell ⟨w.heap.size + 1, 1, none⟩ (.slice (some ⟨gB, 0, none⟩) N N)).setCell ⟨w.heap.size + 1, 2, none⟩ (.slice (some ⟨gI, 0, none⟩) N N)) :=
  ((hb0.setCell (by show _ ≤ w.heap.size + 1; omega) _).setCell (by show _ ≤ w.heap.size + 1; omega) _).setCell (by show _ ≤ w.heap.size + 1; omega) _
 have HFin := hid (show RetCh w v N (⟨v, ⟨BA, N, bc, bl⟩, ⟨IA, N, ic, il⟩⟩ : WB).pw (fun J => ∀ r ∈ J, ∀ a ∈ r.l, a.m ≠ n) (.returned (.tuple #[.agg #[.int .i64 v, .slice (some ⟨gB, 0, none⟩) N N, .slice (some ⟨gI, 0, none⟩) N N], .int .i64 0])) (((wr.setCell ⟨w.heap.size + 1, 0, none⟩ (.int .i64 v)).setCell ⟨w.heap.size + 1, 1, none⟩ (.slice (some ⟨gB, 0, none⟩) N N)).setCell ⟨w.heap.size + 1, 2, none⟩ (.slice (some ⟨gI, 0, none⟩) N N)) from ⟨gB, gI, B2, J2, rfl, (how.base HB2.out).stp hst hb9 (by decide) (by decide) (by decide) (by decide) (by decide), hto, hno, hb9⟩)
 clear hst hb0 hb9 hsz how hto hno hbw HFz
 go_wp2_with fail
 exact bodyPost_ret (v := .tuple #[.agg #[.int .i64 v, .slice (some ⟨gB, 0, none⟩) N N, .slice (some ⟨gI, 0, none⟩) N N], .int .i64 0]) (by simp [results, Tryz.results27, go_sem, z0, z1, z2]) rfl HFin.out
theorem none_last {q : PW} (hq : q.Ok) (h : ∀ l ∈ q.arcs, l = []) : ∃ K, q.Last K ∧ q.round K = q.bd := by
 have hr : ∀ x, q.rights x = q.bd := fun x => by
  refine vals_ext (n := q.n) (by simp [PW.rights]) hq.len fun k hk => ?_
  rw [PW.rights_at hk]
  unfold PW.right
  have : q.arcs.getD k [] = [] := by
   rw [List.getD_eq_getElem?_getD]
   cases e : q.arcs[k]? with
   | none => rfl
   | some l => exact h l (List.mem_of_getElem? e)
  rw [this]; rfl
 by_cases e : q.round 0 = q.bd
 · exact ⟨0, ⟨by rw [e]; exact hr _, fun k hk => by omega⟩, e⟩
 · refine ⟨1, ⟨(hr _).trans (hr _).symm, fun k hk => ?_⟩, hr _⟩
   obtain rfl : k = 0 := by omega
   intro h2
   exact e (h2.symm.trans (hr _))
theorem emp2b : Bs.emp 2 = [0] := by rfl
theorem full2b : Bs.ofP 2 (fun _ => true) 2 = [3] := by rfl
structure S13 (w : World) (b1 ga gb gc : Nat) (u : World) : Prop where
 box : Fb u b1 #[.int .i64 2, .slice (some ⟨ga, 0, none⟩) 1 1, .int .i64 2, .slice (some ⟨gb, 0, none⟩) 1 1, .slice (some ⟨gc, 0, none⟩) 1 1] 61
 ra : Row u ga [0]
 rb : Row u gb [0]
 cp : Fb u gc #[.int .i64 0, .int .i64 1] 58
 bel : Below w.heap.size w u
theorem S13.below {w u u' : World} {b1 ga gb gc : Nat} (h : S13 w b1 ga gb gc u) (hb : Below u.heap.size u u') : S13 w b1 ga gb gc u' := ⟨h.box.below hb h.box.lt, h.ra.below hb h.ra.lt, h.rb.below hb h.rb.lt, h.cp.below hb h.cp.lt, below_step h.bel hb⟩
theorem S13.put {w u u' : World} {b1 ga gb gc : Nat} (h : S13 w b1 ga gb gc u) (hs : Stp1 67 u u') (hb : Below w.heap.size w u') : S13 w b1 ga gb gc u' := ⟨hs.fb h.box (by decide), hs.row h.ra (by decide), hs.row h.rb (by decide), hs.fb h.cp (by decide), hb⟩
def x13 (h2 g1 h6 h5 ga gb gc : Nat) : WB := ⟨((2 : Nat) : Int), ⟨some ⟨h2, 0, none⟩, 1, 1, [⟨2, some ⟨g1, 0, none⟩, 1, 1, [1]⟩]⟩, ⟨some ⟨h6, 0, none⟩, 1, 1, [⟨some ⟨h5, 0, none⟩, 1, 1, [⟨0, ⟨⟨2, some ⟨ga, 0, none⟩, 1, 1, [0]⟩, ⟨2, some ⟨gb, 0, none⟩, 1, 1, [0]⟩, some ⟨gc, 0, none⟩, 1, 1, [(0, 1)]⟩⟩]⟩]⟩⟩
theorem x13_mem {u : World} {h2 g1 h6 h5 ga gb gc : Nat} (a1 : Fb u h2 #[.int .i64 2, .slice (some ⟨g1, 0, none⟩) 1 1] 49) (r1 : Row u g1 [1]) (a2 : Fb u h6 #[.slice (some ⟨h5, 0, none⟩) 1 1] 64) (a3 : Fb u h5 #[.int .i64 0, .int .i64 2, .slice (some ⟨ga, 0, none⟩) 1 1, .int .i64 2, .slice (some ⟨gb, 0, none⟩) 1 1, .slice (some ⟨gc, 0, none⟩) 1 1] 63) (ra : Row u ga [0]) (rb : Row u gb [0]) (cp : Fb u gc #[.int .i64 0, .int .i64 1] 58) : WBok u [] (x13 h2 g1 h6 h5 ga gb gc) := by
 have z : ∀ {g : Nat} {ws : List Nat}, Row u g ws → ws.length = 1 → (∀ y ∈ ws, y < Bs.W64) → ZHok u [] ⟨2, some ⟨g, 0, none⟩, 1, 1, ws⟩ := fun hr hl ho => ⟨EAt.fb hr (by simp) (fun j x hx => by simpa using hx), hl, ho⟩
 refine ⟨⟨EAt.fb a1 (by simp) (fun j x hx => by simpa [x13, ZH.cs] using hx), rfl, by show 1 ≤ 9223372036854775807; omega, fun y hy => ?_⟩, ⟨EAt.fb a2 (by simp) (fun j x hx => by simpa [x13, AL.v] using hx), rfl, by show 1 ≤ 9223372036854775807; omega, fun y hy => ?_⟩⟩
 · rw [List.mem_singleton.1 hy]
   exact z r1 rfl (by decide)
 · rw [List.mem_singleton.1 hy]
   refine ⟨EAt.fb a3 (by simp) (fun j x hx => by simpa [AH.cells] using hx), rfl, by show 1 ≤ 9223372036854775807; omega, fun a ha => ?_⟩
   rw [List.mem_singleton.1 ha]
   exact ⟨z ra rfl (by decide), z rb rfl (by decide), EAt.fb cp (by simp) (fun j x hx => by simpa [pairs] using hx), rfl⟩
theorem x13_ok (h2 g1 h6 h5 ga gb gc : Nat) : WOk (x13 h2 g1 h6 h5 ga gb gc) 2 1 := by
 refine ⟨rfl, by omega, by omega, rfl, rfl, fun y hy => ?_, fun y hy => ?_⟩
 · rw [List.mem_singleton.1 hy]
   refine ⟨rfl, ?_⟩
   show Bs.Fit 2 [1]
   rw [show [1] = Bs.ofP 2 (fun i => i == 0) 2 from rfl]
   exact Bs.fit_ofP 2 _ 2 (Nat.le_refl _)
 · rw [List.mem_singleton.1 hy]
   refine ⟨by show 1 ≤ 256; omega, fun a ha => ?_⟩
   rw [List.mem_singleton.1 ha]
   exact ⟨by show (0 : Int) ≤ 0 ∧ (0 : Int) < ((1 : Nat) : Int); omega, rfl, rfl, show validT 2 [0] 2 [0] [(0, 1)] = true by kernel_rfl⟩
theorem x13_lk (h2 g1 h6 h5 ga gb gc : Nat) : WLk (x13 h2 g1 h6 h5 ga gb gc) 1 := by
 refine ⟨by omega, fun y hy => ?_, by show tot [[0]] ≤ 1024; decide⟩
 rw [List.mem_singleton.1 hy]
 exact ⟨by simp, fun x hx => by rw [List.mem_singleton.1 hx]; show (0 : Int) ≤ 0 ∧ (0 : Int) < ((1 : Nat) : Int); omega⟩
theorem x13_last (h2 g1 h6 h5 ga gb gc : Nat) : (x13 h2 g1 h6 h5 ga gb gc).pw.Last 2 ∧ (x13 h2 g1 h6 h5 ga gb gc).pw.round 2 = [[3]] := by
 have e : (x13 h2 g1 h6 h5 ga gb gc).pw = ⟨2, [[1]], [[(0, ⟨[0], [0], [(0, 1)]⟩)]]⟩ := rfl
 rw [e]
 refine ⟨⟨by kernel_rfl, fun k hk => ?_⟩, by kernel_rfl⟩
 rcases (show k = 0 ∨ k = 1 by omega) with rfl | rfl
 · show ([[1]] : List (List Nat)) ≠ [[0]]; decide
 · show ([[3]] : List (List Nat)) ≠ [[1]]; decide
def s2R (j : Nat) (u u' : World) : Prop := if j = 9 then Stp1 67 u u' else Below u.heap.size u u'
theorem s2R_stp {j : Nat} {u u' : World} (h : s2R j u u') : Stp1 67 u u' := by
 unfold s2R at h
 split at h
 · exact h
 · exact Stp1.below h
theorem s2R_bel {j : Nat} {u u' : World} (h : s2R j u u') (hj : j ≠ 9) : Below u.heap.size u u' := by
 unfold s2R at h
 rwa [if_neg hj] at h
theorem s2R_of {j : Nat} {u u' : World} (h : Below u.heap.size u u') (hj : j ≠ 9) : s2R j u u' := by
 unfold s2R; rwa [if_neg hj]
theorem s2R_refl (j : Nat) (u : World) (hj : j ≠ 9) : s2R j u u := s2R_of (Below.refl _ _) hj
theorem s2R_w {u u' : World} (h : Stp1 67 u u') : s2R 9 u u' := by unfold s2R; rw [if_pos rfl]; exact h
def s2F (w : World) (b1 ga gb gc : Nat) : Nat → (Nat → Value) → World → Prop
 | 0, f, u => ∃ g0 : Nat, f 0 = .agg #[.int .i64 2, .slice (some ⟨g0, 0, none⟩) 1 1] ∧ Row u g0 [0]
 | 1, f, u => ∃ g1 : Nat, f 1 = .agg #[.int .i64 2, .slice (some ⟨g1, 0, none⟩) 1 1] ∧ Row u g1 [1]
 | 2, f, u => ∃ h2 : Nat, ∃ g1 : Nat, f 2 = .slice (some ⟨h2, 0, none⟩) 1 1 ∧ Fb u h2 #[.int .i64 2, .slice (some ⟨g1, 0, none⟩) 1 1] 49 ∧ Row u g1 [1]
 | 3, f, u => f 3 = .agg #[.int .i64 2, .slice (some ⟨ga, 0, none⟩) 1 1, .int .i64 2, .slice (some ⟨gb, 0, none⟩) 1 1, .slice (some ⟨gc, 0, none⟩) 1 1]
 | 4, f, u => f 4 = .agg #[.int .i64 0, .int .i64 2, .slice (some ⟨ga, 0, none⟩) 1 1, .int .i64 2, .slice (some ⟨gb, 0, none⟩) 1 1, .slice (some ⟨gc, 0, none⟩) 1 1]
 | 5, f, u => ∃ h5 : Nat, f 5 = .slice (some ⟨h5, 0, none⟩) 1 1 ∧ Fb u h5 #[.int .i64 0, .int .i64 2, .slice (some ⟨ga, 0, none⟩) 1 1, .int .i64 2, .slice (some ⟨gb, 0, none⟩) 1 1, .slice (some ⟨gc, 0, none⟩) 1 1] 63
 | 6, f, u => ∃ h6 : Nat, ∃ h5 : Nat, f 6 = .slice (some ⟨h6, 0, none⟩) 1 1 ∧ Fb u h6 #[.slice (some ⟨h5, 0, none⟩) 1 1] 64 ∧ Fb u h5 #[.int .i64 0, .int .i64 2, .slice (some ⟨ga, 0, none⟩) 1 1, .int .i64 2, .slice (some ⟨gb, 0, none⟩) 1 1, .slice (some ⟨gc, 0, none⟩) 1 1] 63
 | 7, f, u => ∃ h2 : Nat, ∃ g1 : Nat, ∃ h6 : Nat, ∃ h5 : Nat, f 7 = .agg #[.int .i64 2, .slice (some ⟨h2, 0, none⟩) 1 1, .slice (some ⟨h6, 0, none⟩) 1 1] ∧ Fb u h2 #[.int .i64 2, .slice (some ⟨g1, 0, none⟩) 1 1] 49 ∧ Row u g1 [1] ∧ Fb u h6 #[.slice (some ⟨h5, 0, none⟩) 1 1] 64 ∧ Fb u h5 #[.int .i64 0, .int .i64 2, .slice (some ⟨ga, 0, none⟩) 1 1, .int .i64 2, .slice (some ⟨gb, 0, none⟩) 1 1, .slice (some ⟨gc, 0, none⟩) 1 1] 63
 | 8, f, u => ∃ bO : Nat, f 8 = .pointer (some ⟨bO, 0, none⟩) ∧ Fb u bO #[.int .i64 0, .slice none 0 0, .slice none 0 0] 67 ∧ w.heap.size ≤ bO
 | 9, f, u => ∃ bO : Nat, ∃ h2 : Nat, ∃ g1 : Nat, ∃ h6 : Nat, ∃ h5 : Nat, f 8 = .pointer (some ⟨bO, 0, none⟩) ∧ Fb u bO #[.int .i64 2, .slice (some ⟨h2, 0, none⟩) 1 1, .slice (some ⟨h6, 0, none⟩) 1 1] 67 ∧ Fb u h2 #[.int .i64 2, .slice (some ⟨g1, 0, none⟩) 1 1] 49 ∧ Row u g1 [1] ∧ Fb u h6 #[.slice (some ⟨h5, 0, none⟩) 1 1] 64 ∧ Fb u h5 #[.int .i64 0, .int .i64 2, .slice (some ⟨ga, 0, none⟩) 1 1, .int .i64 2, .slice (some ⟨gb, 0, none⟩) 1 1, .slice (some ⟨gc, 0, none⟩) 1 1] 63
 | _, _, _ => True
def s2U : Nat → Option Nat
 | 8 => some 9
 | _ => none
theorem s2F_st {w : World} {b1 ga gb gc : Nat} {ops : Array Oper} (hq9 : ∀ j, (reachL ops 5 9).contains j = false → j ≠ 8)  (jx : Nat) (vx : Value) (u u' : World) (ix : Nat) (f : Nat → Value) (hR : s2R  jx u u') (hne : ix ≠ jx) (hu : s2U ix ≠ some jx) (hc : (reachL ops 5 ix).contains jx = false) (h : s2F w b1 ga gb gc ix f u) : s2F w b1 ga gb gc ix (updV f jx vx) u' := by
 match ix, hne, hu, hc, h with
 | 0, hne, hu, hc, h => 
   obtain ⟨g0, hf, i0⟩ := h
   have hs := s2R_stp hR
   exact ⟨g0, (updV_ne f vx hne).trans hf, hs.row i0 (by decide)⟩
 | 1, hne, hu, hc, h => 
   obtain ⟨g1, hf, i0⟩ := h
   have hs := s2R_stp hR
   exact ⟨g1, (updV_ne f vx hne).trans hf, hs.row i0 (by decide)⟩
 | 2, hne, hu, hc, h => 
   obtain ⟨h2, g1, hf, i0, i1⟩ := h
   have hs := s2R_stp hR
   exact ⟨h2, g1, (updV_ne f vx hne).trans hf, hs.fb i0 (by decide), hs.row i1 (by decide)⟩
 | 3, hne, hu, hc, h => exact (updV_ne f vx hne).trans h
 | 4, hne, hu, hc, h => exact (updV_ne f vx hne).trans h
 | 5, hne, hu, hc, h => 
   obtain ⟨h5, hf, i0⟩ := h
   have hs := s2R_stp hR
   exact ⟨h5, (updV_ne f vx hne).trans hf, hs.fb i0 (by decide)⟩
 | 6, hne, hu, hc, h => 
   obtain ⟨h6, h5, hf, i0, i1⟩ := h
   have hs := s2R_stp hR
   exact ⟨h6, h5, (updV_ne f vx hne).trans hf, hs.fb i0 (by decide), hs.fb i1 (by decide)⟩
 | 7, hne, hu, hc, h => 
   obtain ⟨h2, g1, h6, h5, hf, i0, i1, i2, i3⟩ := h
   have hs := s2R_stp hR
   exact ⟨h2, g1, h6, h5, (updV_ne f vx hne).trans hf, hs.fb i0 (by decide), hs.row i1 (by decide), hs.fb i2 (by decide), hs.fb i3 (by decide)⟩
 | 8, hne, hu, hc, h => obtain ⟨bO, hf, h0, h1⟩ := h; have hb := s2R_bel hR (fun e => hu (by rw [e]; rfl)); exact ⟨bO, (updV_ne f vx hne).trans hf, h0.below hb h0.lt, h1⟩
 | 9, hne, hu, hc, h => obtain ⟨bO, h2, g1, h6, h5, hf, i0, i1, i2, i3, i4⟩ := h; have hb := s2R_bel hR (fun e => hne e.symm); exact ⟨bO, h2, g1, h6, h5, (updV_ne f vx (fun e => hq9 jx hc e.symm)).trans hf, i0.below hb i0.lt, i1.below hb i1.lt, i2.below hb i2.lt, i3.below hb i3.lt, i4.below hb i4.lt⟩
 | ix + 10, _, _, _, _ => trivial
set_option maxHeartbeats 6400000 in
theorem sane13_any (w : World) : Calls Tryz.prog 30 #[] w fun e w' => e = .returned (.bool true) ∧ Below w.heap.size w w' := by
 go_enter Tryz.func30, Tryz.ntmps30
 go_wp2_with fail
 refine (refEmpty_any 2 _ (by omega)).mono ?_
 rw [emp2b]
 rintro e w1 ⟨ga, rfl, -, hra, hb1⟩
 have Hra := hid hra
 have Hb1 := hid hb1
 clear hra hb1
 go_wp2_with fail
 refine (refEmpty_any 2 _ (by omega)).mono ?_
 rw [emp2b]
 rintro e w2 ⟨gb, rfl, -, hrb, hb2⟩
 have hba := (Below.refl w2.heap.size w2).alloc (Nat.le_refl _) (.cells #[.int .i64 0, .int .i64 1] 58)
 have hbb := hba.alloc hba.size (.cells #[.int .i64 2, .slice (some ⟨ga, 0, none⟩) 1 1, .int .i64 2, .slice (some ⟨gb, 0, none⟩) 1 1, .slice (some ⟨w2.heap.size, 0, none⟩) 1 1] 61)
 have f1 := Fb.new w2 #[.int .i64 0, .int .i64 1] 58
 have f2 := Fb.new (w2.alloc (.cells #[.int .i64 0, .int .i64 1] 58)) #[.int .i64 2, .slice (some ⟨ga, 0, none⟩) 1 1, .int .i64 2, .slice (some ⟨gb, 0, none⟩) 1 1, .slice (some ⟨w2.heap.size, 0, none⟩) 1 1] 61
 rw [World.size_alloc] at f2
 have HS1 := hid (show S13 w (w2.heap.size + 1) ga gb w2.heap.size ((w2.alloc (.cells #[.int .i64 0, .int .i64 1] 58)).alloc (.cells #[.int .i64 2, .slice (some ⟨ga, 0, none⟩) 1 1, .int .i64 2, .slice (some ⟨gb, 0, none⟩) 1 1, .slice (some ⟨w2.heap.size, 0, none⟩) 1 1] 61)) from ⟨f2, (Hra.out.below hb2 Hra.out.lt).below hbb (by have := hb2.size; have := Hra.out.lt; omega), hrb.below hbb hrb.lt, f1.below ((Below.refl _ _).alloc (Nat.le_refl _) _) f1.lt, below_step (below_step Hb1.out hb2) hbb⟩)
 clear hba hbb f1 f2 hrb hb2 Hra Hb1
 go_upto_region 2 with fail
 rename_i Kx hKx
 generalize hg : (w2.alloc (.cells #[.int .i64 0, .int .i64 1] 58)).alloc (.cells #[.int .i64 2, .slice (some ⟨ga, 0, none⟩) 1 1, .int .i64 2, .slice (some ⟨gb, 0, none⟩) 1 1, .slice (some ⟨w2.heap.size, 0, none⟩) 1 1] 61) = w3 at *
 clear hg
 generalize w2.heap.size + 1 = b1 at *
 generalize w2.heap.size = gc at *
 refine wp_region_factsI (fun _ _ => True) (s2F w b1 ga gb gc) (fun u => S13 w b1 ga gb gc u) s2U (s2R ) Kx (fun _ _ h => h) 10 10 (some 10 :: some 11 :: some 12 :: some 13 :: some 14 :: some 15 :: some 16 :: some 17 :: some 2 :: none :: []) (by kernel_rfl) (by kernel_rfl) (by kernel_rfl) (by kernel_rfl) (by kernel_rfl) (by kernel_rfl) (by decide)
  (s2F_st (fun j h e => by subst e; exact Bool.false_ne_true (h.symm.trans (by kernel_rfl)))) ?bs ?gb ?gs ?ar ?en
 case bs => exact HS1.out.below (Below.refl _ _).drew
 case gb =>
  exact fun c => trivial
 case gs =>
  exact fun _ _ _ _ _ _ _ _ => trivial
 case ar =>
  intro j o f u ho hi hB hG hpre K hK
  match j, ho, hG, hpre, hK with
  | 0, ho, hG, hpre, hK =>
    obtain rfl := Option.some.inj ho
    refine wpOp_step rfl fun K' hK' => ?_
    simp only [putL, updV]
    go_simp
    go_at_call 25
    refine (refEmpty_any 2 u (by omega)).mono ?_
    rw [emp2b]
    rintro e u5 ⟨g0, rfl, -, hr0, hb⟩
    have hz := hK' _ _ (hK (.agg #[.int .i64 2, .slice (some ⟨g0, 0, none⟩) 1 1]) (u5) (hB.below hb) (s2R_of hb (by decide)) (⟨g0, rfl, hr0⟩))
    refine Eq.mp (congrArg (fun act => K' act (u5)) ?_) hz
    kernel_rfl
  | 1, ho, hG, hpre, hK =>
    obtain rfl := Option.some.inj ho
    obtain ⟨g0, e0, q00⟩ : ∃ g0 : Nat, f 0 = .agg #[.int .i64 2, .slice (some ⟨g0, 0, none⟩) 1 1] ∧ Row u g0 [0] := hpre ⟨0, .data⟩ (by simp) rfl (.inl rfl)
    obtain ⟨f, rfl⟩ := fixG f 0 _ e0
    clear e0
    refine wpOp_step rfl fun K' hK' => ?_
    simp only [putL, updV]
    go_simp
    go_at_call 62
    refine (refPut_any 2 (some ⟨g0, 0, none⟩) 1 1 [0] 0 u (q00.arg (by decide)) (by omega) rfl (by omega)).mono ?_
    rw [show Bs.put [0] 0 = [1] from rfl]
    rintro e u5 ⟨g1, rfl, -, hr1, hb⟩
    have hz := hK' _ _ (hK (.agg #[.int .i64 2, .slice (some ⟨g1, 0, none⟩) 1 1]) (u5) (hB.below hb) (s2R_of hb (by decide)) (⟨g1, rfl, hr1⟩))
    refine Eq.mp (congrArg (fun act => K' act (u5)) ?_) hz
    kernel_rfl
  | 2, ho, hG, hpre, hK =>
    obtain rfl := Option.some.inj ho
    obtain ⟨g1, e1, q10⟩ : ∃ g1 : Nat, f 1 = .agg #[.int .i64 2, .slice (some ⟨g1, 0, none⟩) 1 1] ∧ Row u g1 [1] := hpre ⟨1, .data⟩ (by simp) rfl (.inl rfl)
    have hb := (Below.refl u.heap.size u).alloc (Nat.le_refl _) (.cells #[.int .i64 2, .slice (some ⟨g1, 0, none⟩) 1 1] 49)
    obtain ⟨f, rfl⟩ := fixG f 1 _ e1
    clear e1
    refine wpOp_step rfl fun K' hK' => ?_
    simp only [putL, updV]
    go_simp
    have hz := hK' _ _ (hK (.slice (some ⟨u.heap.size, 0, none⟩) 1 1) (u.alloc (.cells #[.int .i64 2, .slice (some ⟨g1, 0, none⟩) 1 1] 49)) (hB.below hb) (s2R_of hb (by decide)) (⟨_, g1, rfl, Fb.new u _ _, q10.below hb q10.lt⟩))
    refine Eq.mp (congrArg (fun act => K' act (u.alloc (.cells #[.int .i64 2, .slice (some ⟨g1, 0, none⟩) 1 1] 49))) ?_) hz
    kernel_rfl
  | 3, ho, hG, hpre, hK =>
    obtain rfl := Option.some.inj ho
    obtain ⟨y0, y1, y2, y3, y4⟩ := hB.box.five
    have hl := hB.box.lt
    refine wpOp_step rfl fun K' hK' => ?_
    simp only [putL, updV]
    go_simp
    have hz := hK' _ _ (hK (.agg #[.int .i64 2, .slice (some ⟨ga, 0, none⟩) 1 1, .int .i64 2, .slice (some ⟨gb, 0, none⟩) 1 1, .slice (some ⟨gc, 0, none⟩) 1 1]) (u) (hB) (s2R_refl _ _ (by decide)) (rfl))
    refine Eq.mp (congrArg (fun act => K' act (u)) ?_) hz
    kernel_rfl
  | 4, ho, hG, hpre, hK =>
    obtain rfl := Option.some.inj ho
    have e3 : f 3 = .agg #[.int .i64 2, .slice (some ⟨ga, 0, none⟩) 1 1, .int .i64 2, .slice (some ⟨gb, 0, none⟩) 1 1, .slice (some ⟨gc, 0, none⟩) 1 1] := hpre ⟨3, .data⟩ (by simp) rfl (.inl rfl)
    obtain ⟨f, rfl⟩ := fixG f 3 _ e3
    clear e3
    refine wpOp_step rfl fun K' hK' => ?_
    simp only [putL, updV]
    go_simp
    have hz := hK' _ _ (hK (.agg #[.int .i64 0, .int .i64 2, .slice (some ⟨ga, 0, none⟩) 1 1, .int .i64 2, .slice (some ⟨gb, 0, none⟩) 1 1, .slice (some ⟨gc, 0, none⟩) 1 1]) (u) (hB) (s2R_refl _ _ (by decide)) (rfl))
    refine Eq.mp (congrArg (fun act => K' act (u)) ?_) hz
    kernel_rfl
  | 5, ho, hG, hpre, hK =>
    obtain rfl := Option.some.inj ho
    have e4 : f 4 = .agg #[.int .i64 0, .int .i64 2, .slice (some ⟨ga, 0, none⟩) 1 1, .int .i64 2, .slice (some ⟨gb, 0, none⟩) 1 1, .slice (some ⟨gc, 0, none⟩) 1 1] := hpre ⟨4, .data⟩ (by simp) rfl (.inl rfl)
    have hb := (Below.refl u.heap.size u).alloc (Nat.le_refl _) (.cells #[.int .i64 0, .int .i64 2, .slice (some ⟨ga, 0, none⟩) 1 1, .int .i64 2, .slice (some ⟨gb, 0, none⟩) 1 1, .slice (some ⟨gc, 0, none⟩) 1 1] 63)
    obtain ⟨f, rfl⟩ := fixG f 4 _ e4
    clear e4
    refine wpOp_step rfl fun K' hK' => ?_
    simp only [putL, updV]
    go_simp
    have hz := hK' _ _ (hK (.slice (some ⟨u.heap.size, 0, none⟩) 1 1) (u.alloc (.cells #[.int .i64 0, .int .i64 2, .slice (some ⟨ga, 0, none⟩) 1 1, .int .i64 2, .slice (some ⟨gb, 0, none⟩) 1 1, .slice (some ⟨gc, 0, none⟩) 1 1] 63)) (hB.below hb) (s2R_of hb (by decide)) (⟨_, rfl, Fb.new u _ _⟩))
    refine Eq.mp (congrArg (fun act => K' act (u.alloc (.cells #[.int .i64 0, .int .i64 2, .slice (some ⟨ga, 0, none⟩) 1 1, .int .i64 2, .slice (some ⟨gb, 0, none⟩) 1 1, .slice (some ⟨gc, 0, none⟩) 1 1] 63))) ?_) hz
    kernel_rfl
  | 6, ho, hG, hpre, hK =>
    obtain rfl := Option.some.inj ho
    obtain ⟨h5, e5, q50⟩ : ∃ h5 : Nat, f 5 = .slice (some ⟨h5, 0, none⟩) 1 1 ∧ Fb u h5 #[.int .i64 0, .int .i64 2, .slice (some ⟨ga, 0, none⟩) 1 1, .int .i64 2, .slice (some ⟨gb, 0, none⟩) 1 1, .slice (some ⟨gc, 0, none⟩) 1 1] 63 := hpre ⟨5, .data⟩ (by simp) rfl (.inl rfl)
    have hb := (Below.refl u.heap.size u).alloc (Nat.le_refl _) (.cells #[.slice (some ⟨h5, 0, none⟩) 1 1] 64)
    obtain ⟨f, rfl⟩ := fixG f 5 _ e5
    clear e5
    refine wpOp_step rfl fun K' hK' => ?_
    simp only [putL, updV]
    go_simp
    have hz := hK' _ _ (hK (.slice (some ⟨u.heap.size, 0, none⟩) 1 1) (u.alloc (.cells #[.slice (some ⟨h5, 0, none⟩) 1 1] 64)) (hB.below hb) (s2R_of hb (by decide)) (⟨_, h5, rfl, Fb.new u _ _, q50.below hb q50.lt⟩))
    refine Eq.mp (congrArg (fun act => K' act (u.alloc (.cells #[.slice (some ⟨h5, 0, none⟩) 1 1] 64))) ?_) hz
    kernel_rfl
  | 7, ho, hG, hpre, hK =>
    obtain rfl := Option.some.inj ho
    obtain ⟨h2, g1, e2, q20, q21⟩ : ∃ h2 : Nat, ∃ g1 : Nat, f 2 = .slice (some ⟨h2, 0, none⟩) 1 1 ∧ Fb u h2 #[.int .i64 2, .slice (some ⟨g1, 0, none⟩) 1 1] 49 ∧ Row u g1 [1] := hpre ⟨2, .data⟩ (by simp) rfl (.inl rfl)
    obtain ⟨h6, h5, e6, q60, q61⟩ : ∃ h6 : Nat, ∃ h5 : Nat, f 6 = .slice (some ⟨h6, 0, none⟩) 1 1 ∧ Fb u h6 #[.slice (some ⟨h5, 0, none⟩) 1 1] 64 ∧ Fb u h5 #[.int .i64 0, .int .i64 2, .slice (some ⟨ga, 0, none⟩) 1 1, .int .i64 2, .slice (some ⟨gb, 0, none⟩) 1 1, .slice (some ⟨gc, 0, none⟩) 1 1] 63 := hpre ⟨6, .data⟩ (by simp) rfl (.inl rfl)
    obtain ⟨f, rfl⟩ := fixG f 2 _ e2
    rw [updV_ne _ _ (by decide)] at e6
    obtain ⟨f, rfl⟩ := fixG f 6 _ e6
    clear e2 e6
    refine wpOp_step rfl fun K' hK' => ?_
    simp only [putL, updV]
    go_simp
    have hz := hK' _ _ (hK (.agg #[.int .i64 2, .slice (some ⟨h2, 0, none⟩) 1 1, .slice (some ⟨h6, 0, none⟩) 1 1]) (u) (hB) (s2R_refl _ _ (by decide)) (⟨h2, g1, h6, h5, rfl, q20, q21, q60, q61⟩))
    refine Eq.mp (congrArg (fun act => K' act (u)) ?_) hz
    kernel_rfl
  | 8, ho, hG, hpre, hK =>
    obtain rfl := Option.some.inj ho
    have hb := (Below.refl u.heap.size u).alloc (Nat.le_refl _) (.cells #[.int .i64 0, .slice none 0 0, .slice none 0 0] 67)
    refine wpOp_step rfl fun K' hK' => ?_
    simp only [putL, updV]
    go_simp
    have hz := hK' _ _ (hK (.pointer (some ⟨u.heap.size, 0, none⟩)) (u.alloc (.cells #[.int .i64 0, .slice none 0 0, .slice none 0 0] 67)) (hB.below hb) (s2R_of hb (by decide)) (⟨_, rfl, Fb.new u _ _, hB.bel.size⟩))
    refine Eq.mp (congrArg (fun act => K' act (u.alloc (.cells #[.int .i64 0, .slice none 0 0, .slice none 0 0] 67))) ?_) hz
    kernel_rfl
  | 9, ho, hG, hpre, hK =>
    obtain rfl := Option.some.inj ho
    obtain ⟨bO, e8, q80, q81⟩ : ∃ bO : Nat, f 8 = .pointer (some ⟨bO, 0, none⟩) ∧ Fb u bO #[.int .i64 0, .slice none 0 0, .slice none 0 0] 67 ∧ w.heap.size ≤ bO := hpre ⟨8, .data⟩ (by simp) rfl (.inr rfl)
    obtain ⟨h2, g1, h6, h5, e7, q70, q71, q72, q73⟩ : ∃ h2 : Nat, ∃ g1 : Nat, ∃ h6 : Nat, ∃ h5 : Nat, f 7 = .agg #[.int .i64 2, .slice (some ⟨h2, 0, none⟩) 1 1, .slice (some ⟨h6, 0, none⟩) 1 1] ∧ Fb u h2 #[.int .i64 2, .slice (some ⟨g1, 0, none⟩) 1 1] 49 ∧ Row u g1 [1] ∧ Fb u h6 #[.slice (some ⟨h5, 0, none⟩) 1 1] 64 ∧ Fb u h5 #[.int .i64 0, .int .i64 2, .slice (some ⟨ga, 0, none⟩) 1 1, .int .i64 2, .slice (some ⟨gb, 0, none⟩) 1 1, .slice (some ⟨gc, 0, none⟩) 1 1] 63 := hpre ⟨7, .data⟩ (by simp) rfl (.inl rfl)
    obtain ⟨y0, y1, y2⟩ := q80.three
    have f0 := q80.frozen 0
    have f1 := q80.frozen 1
    have f2 := q80.frozen 2
    have hl := q80.lt
    have hs := three_stp q80 (.int .i64 2) (.slice (some ⟨h2, 0, none⟩) 1 1) (.slice (some ⟨h6, 0, none⟩) 1 1)
    obtain ⟨f, rfl⟩ := fixG f 8 _ e8
    rw [updV_ne _ _ (by decide)] at e7
    obtain ⟨f, rfl⟩ := fixG f 7 _ e7
    clear e8 e7
    refine wpOp_step rfl fun K' hK' => ?_
    simp only [putL, updV]
    go_simp
    have hz := hK' _ _ (hK (undef) (((u.setCell ⟨bO, 0, none⟩ (.int .i64 2)).setCell ⟨bO, 1, none⟩ (.slice (some ⟨h2, 0, none⟩) 1 1)).setCell ⟨bO, 2, none⟩ (.slice (some ⟨h6, 0, none⟩) 1 1)) (hB.put hs (((hB.bel.setCell (by exact q81) _).setCell (by exact q81) _).setCell (by exact q81) _)) (s2R_w hs) (⟨bO, h2, g1, h6, h5, rfl, ((q80.set 0 _).set 1 _).set 2 _, hs.fb q70 (by decide), hs.row q71 (by decide), hs.fb q72 (by decide), hs.fb q73 (by decide)⟩))
    refine Eq.mp (congrArg (fun act => K' act (((u.setCell ⟨bO, 0, none⟩ (.int .i64 2)).setCell ⟨bO, 1, none⟩ (.slice (some ⟨h2, 0, none⟩) 1 1)).setCell ⟨bO, 2, none⟩ (.slice (some ⟨h6, 0, none⟩) 1 1))) ?_) hz
    kernel_rfl
  | j + 10, ho, hG, hpre, hK => exact absurd hi (by omega)
 case en =>
  intro Q2 hQ2 f u hB hF
  obtain ⟨bO, h2, g1, h6, h5, e8, q90, q91, q92, q93, q94⟩ : ∃ bO : Nat, ∃ h2 : Nat, ∃ g1 : Nat, ∃ h6 : Nat, ∃ h5 : Nat, f 8 = .pointer (some ⟨bO, 0, none⟩) ∧ Fb u bO #[.int .i64 2, .slice (some ⟨h2, 0, none⟩) 1 1, .slice (some ⟨h6, 0, none⟩) 1 1] 67 ∧ Fb u h2 #[.int .i64 2, .slice (some ⟨g1, 0, none⟩) 1 1] 49 ∧ Row u g1 [1] ∧ Fb u h6 #[.slice (some ⟨h5, 0, none⟩) 1 1] 64 ∧ Fb u h5 #[.int .i64 0, .int .i64 2, .slice (some ⟨ga, 0, none⟩) 1 1, .int .i64 2, .slice (some ⟨gb, 0, none⟩) 1 1, .slice (some ⟨gc, 0, none⟩) 1 1] 63 := hF 9 (by decide) rfl
  have HS2 := hid hB
  have HQ := hid (And.intro q90 (And.intro q91 (And.intro q92 (And.intro q93 q94))))
  obtain ⟨f, rfl⟩ := fixG f 8 _ e8
  clear e8
  clear hF
  show wpAny _ _ _ _ 0 (tailArr 10 10) _ _
  refine ⟨by kernel_rfl, hQ2 _ _ (hKx _ _ ?_)⟩
  simp only [putL, updV]
  clear q90 q91 q92 q93 q94 hB HS1
  obtain ⟨x0, x1, x2⟩ := HQ.out.1.three
  have HC := hid (eResolve_any 2 1 0 (some ⟨h2, 0, none⟩) (some ⟨h6, 0, none⟩) 1 1 _ _ [] u (x13_mem HQ.out.2.1 HQ.out.2.2.1 HQ.out.2.2.2.1 HQ.out.2.2.2.2 HS2.out.ra HS2.out.rb HS2.out.cp) (x13_ok h2 g1 h6 h5 ga gb gc) (x13_lk h2 g1 h6 h5 ga gb gc) (by omega) (by omega) (by omega))
  have HP := hid (((x13_ok h2 g1 h6 h5 ga gb gc).pw (x13_mem HQ.out.2.1 HQ.out.2.2.1 HQ.out.2.2.2.1 HQ.out.2.2.2.2 HS2.out.ra HS2.out.rb HS2.out.cp)))
  have HB2 := hid HS2.out.bel
  clear HQ HS2
  go_wp2_with fail
  refine HC.out.mono ?_
  clear HC x0 x1 x2
  rintro _ w4 ⟨gB, gI, B, J, rfl, how, hto, hno, hb4⟩
  obtain ⟨z, hz⟩ : ∃ z, B[0]? = some z := ⟨_, List.getElem?_eq_getElem (by rw [how.bl]; omega)⟩
  obtain ⟨r, hr⟩ : ∃ r, J[0]? = some r := ⟨_, List.getElem?_eq_getElem (by rw [how.jl]; omega)⟩
  have hra := how.rt r (List.mem_of_getElem? hr)
  have hrl : r.l = [] := by
   cases e : r.l with
   | nil => rfl
   | cons a l =>
     have h1 := hno r hr a (by rw [e]; exact List.mem_cons_self)
     have h2 := hra.ris.2 a.m (List.mem_map.2 ⟨a, by rw [e]; exact List.mem_cons_self, rfl⟩)
     omega
  have hrn : r.n = 0 := by rw [← hra.len, hrl]; rfl
  obtain ⟨o1, i1, n1⟩ := how.pok
  have hall : ∀ l ∈ (pwO 2 B J).arcs, l = [] := fun l hl => by
   obtain ⟨r2, hr2, rfl⟩ := List.mem_map.1 hl
   obtain ⟨k, hk⟩ := List.mem_iff_getElem?.1 hr2
   have hkl := (List.getElem?_eq_some_iff.1 hk).1
   rw [how.jl] at hkl
   obtain rfl : k = 0 := by omega
   rw [hr] at hk
   obtain rfl := Option.some.inj hk
   show r.l.map AH.pa = []
   rw [hrl]; rfl
  obtain ⟨J0, hJ1, hJ2⟩ := none_last o1 hall
  have hle := hto.least HP.out.inn i1 HP.out.ok o1 (x13_last h2 g1 h6 h5 ga gb gc).1 hJ1
  have hws : B.map ZH.ws = [[3]] := by
   show (pwO 2 B J).bd = [[3]]
   rw [← hJ2, hle]
   exact (x13_last h2 g1 h6 h5 ga gb gc).2
  have hz3 : z.ws = [3] := by
   have h1 := congrArg (fun l => l[0]?) hws
   simp only [List.getElem?_map, hz, Option.map_some, List.getElem?_cons_zero] at h1
   exact Option.some.inj h1
  have hzt := how.bt z (List.mem_of_getElem? hz)
  have hzw := hzt.w
  have hza := hzt.t.arg
  obtain ⟨ZW, ZA, zn, zc, zs⟩ := z
  simp only at hz3 hzw hza
  subst hz3
  subst hzw
  have hzn : zn = 1 := by rw [← hza.len]; rfl
  subst hzn
  have hm : (J.map AL.v)[0]? = some (.slice r.A 0 r.c) := by rw [List.getElem?_map, hr, ← hrn]; rfl
  have hba := (Below.refl w4.heap.size w4).alloc (Nat.le_refl _) (.cells #[.int .i64 2, .slice (some ⟨gB, 0, none⟩) 1 1, .slice (some ⟨gI, 0, none⟩) 1 1] 67)
  have how5 := how.below hba
  have h5 := Fb.new w4 #[.int .i64 2, .slice (some ⟨gB, 0, none⟩) 1 1, .slice (some ⟨gI, 0, none⟩) 1 1] 67
  have Hza := hid (hza.below hba)
  have HK := hid (fun (v : World) (hv : Below (w4.alloc (.cells #[.int .i64 2, .slice (some ⟨gB, 0, none⟩) 1 1, .slice (some ⟨gI, 0, none⟩) 1 1] 67)).heap.size (w4.alloc (.cells #[.int .i64 2, .slice (some ⟨gB, 0, none⟩) 1 1, .slice (some ⟨gI, 0, none⟩) 1 1] 67)) v) => show v.cell? ⟨w4.heap.size, 1, none⟩ = some (.slice (some ⟨gB, 0, none⟩) 1 1) ∧ v.cell? ⟨w4.heap.size, 2, none⟩ = some (.slice (some ⟨gI, 0, none⟩) 1 1) ∧ v.cell? ⟨gI, 0, none⟩ = some (.slice r.A 0 r.c) ∧ v.cell? ⟨gB, 0, none⟩ = some (.int .i64 2) ∧ v.cell? ⟨gB, 1, none⟩ = some (.slice ZA 1 zc) from by
   obtain ⟨y0, y1, y2⟩ := (h5.below hv h5.lt).three
   have how6 := how5.below hv
   obtain ⟨p0, p1⟩ := how6.cellB hz
   exact ⟨y1, y2, how6.cellM hm, p0, p1⟩)
  have Hb5 := hid (below_step (below_step HB2.out hb4) hba)
  clear how hto hno hb4 hz hr hra hrl hrn o1 i1 n1 hall hJ1 hJ2 hle hws hzt hza hm hba how5 h5 HP HB2
  go_upto_region 4 with fail
  generalize w4.alloc (.cells #[.int .i64 2, .slice (some ⟨gB, 0, none⟩) 1 1, .slice (some ⟨gI, 0, none⟩) 1 1] 67) = w5 at *
  generalize w4.heap.size = b5 at *
  have Hcur := hid ((Below.refl w5.heap.size w5).drew)
  go_region_held3 (fun u => u.cell? ⟨b5, 1, none⟩ = some (.slice (some ⟨gB, 0, none⟩) 1 1) ∧ u.cell? ⟨b5, 2, none⟩ = some (.slice (some ⟨gI, 0, none⟩) 1 1) ∧ u.cell? ⟨gI, 0, none⟩ = some (.slice r.A 0 r.c) ∧ u.cell? ⟨gB, 0, none⟩ = some (.int .i64 2) ∧ u.cell? ⟨gB, 1, none⟩ = some (.slice ZA 1 zc))
   (exact HK.out _ Hcur.out)
   (first
    | (go_at_call 26
       go_must (
       refine (refFull_any 2 _ (by omega)).mono ?_
       rw [full2b]
       rintro e wn ⟨AF, nF, cF, rfl, haF, hbk⟩
       have HaF := hid haF
       have Hcur := hid (below_step Hcur.out hbk)
       clear haF hbk))
    | (go_at_call 24
       go_must (
       refine (refSame_any 2 2 ZA AF 1 zc nF cF [3] [3] _ (Hza.out.below Hcur.out) HaF.out (by decide)).mono ?_
       rw [show sameB 2 [3] 2 [3] = true from rfl]
       rintro e wn ⟨rfl, hbk⟩
       have Hcur := hid (below_step Hcur.out hbk)
       clear hbk)))
  all_goals
   go_wp2_with fail
   go_ret
   exact ⟨rfl, below_step Hb5.out Hcur.out⟩
end Go.Proofs.YtopkmeceakjocaaGreat
