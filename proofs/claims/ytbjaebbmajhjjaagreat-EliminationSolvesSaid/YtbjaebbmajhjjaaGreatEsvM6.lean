/- EliminationSolves holds for every input: elimination gives the least solution of systems. No condition: every list of numbers, in whatever memory, on every schedule. -/
import Derived.Deep.RegionHeld3
import Derived.Deep.DeepCutAuto
import Derived.Lib.SmallJoins
import Derived.ShutString
import Derived.ChangeOld
import Derived.Test.YtbjaebbmajhjjaaGreatEsvM5
import Derived.Test.YtbjaebbmajhjjaaGreatEsvM3
import Derived.Test.YtbjaebbmajhjjaaGreatEsvM0
import Derived.Test.YtbjaebbmajhjjaaGreatEsvM1
namespace Go.Proofs.YtbjaebbmajhjjaaGreat
set_option maxRecDepth 20000
set_option linter.unusedVariables false
set_option linter.unusedSimpArgs false
open Go.ChangeShapes Go.WideShapes Go.ChangeAt Go.RowKit
theorem isUnknown_any (v N m : Nat) (BA IA : Option Addr) (bc ic : Nat) (w : World) (hm : m < N) :
    Calls Tryz.prog 51 #[.agg #[.int .i64 v, .slice BA N bc, .slice IA N ic], .int .i64 m] w fun e w' => e = .returned (.bool true) ∧ Below w.heap.size w w' := by
  have hb1 := (Below.refl w.heap.size w).alloc (Nat.le_refl _) (.cells #[.int .i64 v, .slice BA N bc, .slice IA N ic] 37)
  have HW1 := hid (Fb.new w #[.int .i64 v, .slice BA N bc, .slice IA N ic] 37)
  have HB := hid hb1
  clear hb1
  go_enter Tryz.func51, Tryz.ntmps51
  go_upto_region 1 with fail
  generalize w.alloc (.cells #[.int .i64 v, .slice BA N bc, .slice IA N ic] 37) = w1 at *
  have n0 : (0 : Int) ≤ m := by omega
  have n1 : (m : Int) < N := by omega
  obtain ⟨x0, x1, x2⟩ := HW1.out.three
  go_wp2_with fail
  exact bodyPost_ret (v := .bool true) (by simp [results, Tryz.results51, go_sem]) rfl ⟨rfl, HB.out⟩
def RetRd (w : World) (v N : Nat) (p : PW) (ks : List Int) (e : Ending) (w' : World) : Prop :=
  ∃ (w0 : World) (gB gI : Nat) (B : List ZH) (J : List AL), e = .returned (.tuple #[.agg #[.int .i64 v, .slice (some ⟨gB, 0, none⟩) N N, .slice (some ⟨gI, 0, none⟩) N N], .int .i64 0]) ∧ Ow w0 v N gB gI B (J.map AL.v) J w' ∧ p.To (pwO v B J) ∧ (∀ r ∈ J, ∀ a ∈ r.l, a.m ∈ ks) ∧ Below w.heap.size w w'
structure Rdb (w : World) (WX : Array Value) (gk N : Nat) (fs : List Bool) (u : World) : Prop where
  a : Fb u w.heap.size WX 37
  z : Fb u (w.heap.size + 1) #[.int .i64 0, .slice none 0 0, .slice none 0 0] 37
  k : BRow u gk N fs
theorem Rdb.ty {w u u' : World} {WX : Array Value} {gk N : Nat} {fs : List Bool} (h : Rdb w WX gk N fs u) (hx : TyX u u') : Rdb w WX gk N fs u' :=
  ⟨hx.fb h.a (by decide) (by decide) (by decide), hx.fb h.z (by decide) (by decide) (by decide), hx.fb h.k.fb (by decide) (by decide) (by decide), h.k.len⟩
def Kpt (N : Nat) (ks : List Int) (fs : List Bool) : Prop := ∀ m, m < N → (fs[m]? = some true ↔ (m : Int) ∈ ks)
theorem Kpt.start (N : Nat) : Kpt N [] (List.replicate N false) := fun m hm => by
  rw [List.getElem?_replicate, if_pos hm]; simp
theorem Kpt.next {N i m : Nat} {ks : List Int} {fs : List Bool} (h : Kpt N (ks.take i) fs) (hl : fs.length = N) (hi : ks[i]? = some (m : Int)) : Kpt N (ks.take (i + 1)) (fs.set m true) := by
  intro j hj
  have hil := (List.getElem?_eq_some_iff.1 hi).1
  rw [List.take_add_one, hi]
  simp only [Option.toList, List.mem_append, List.mem_singleton]
  by_cases e : j = m
  · subst e
    rw [List.getElem?_set_self (by omega)]; simp
  · rw [List.getElem?_set_ne (fun e' => e e'.symm), h j hj]
    constructor
    · exact .inl
    · rintro (h1 | h1)
      · exact h1
      · omega
theorem Ow.base {w w0 u : World} {v N gB gI : Nat} {B : List ZH} {M : List Value} {J : List AL} (h : Ow w0 v N gB gI B M J u) (hb : Below w.heap.size w w0) : Ow w v N gB gI B M J u := by
  have hs := hb.size
  refine ⟨below_step hb h.bel, by have := h.gb; omega, by have := h.gi; omega, h.fb, h.fi, h.bl, h.ml, h.jl, h.bt, fun r hr => ?_, h.ap⟩
  have h1 := h.rt r hr
  refine ⟨⟨h1.own.1, ?_⟩, h1.arcs, h1.ris⟩
  rcases h1.own.2 with h2 | ⟨g, cap, cur, e, hg, hr⟩
  · exact .inl h2
  · exact .inr ⟨g, cap, cur, e, by omega, hr⟩
structure Rdl (wc : World) (v N gB gI : Nat) (p : PW) (ks : List Int) (j : Nat) (u : World) : Prop where
  ow : ∃ B J, Ow wc v N gB gI B (J.map AL.v) J u ∧ p.To (pwO v B J) ∧ (∀ r ∈ J, ∀ a ∈ r.l, a.m ∈ ks ∨ (j : Int) ≤ a.m)
set_option maxHeartbeats 12800000 in
theorem reduce_any (v N : Nat) (BA IA : Option Addr) (bc ic : Nat) (bl : List ZH) (il : List AL) (rk : RH) (ex ex' : List (Option Nat)) (w : World) (h : WBok w ex ⟨v, ⟨BA, N, bc, bl⟩, ⟨IA, N, ic, il⟩⟩) (ho : WOk ⟨v, ⟨BA, N, bc, bl⟩, ⟨IA, N, ic, il⟩⟩ v N) (hk : WLk ⟨v, ⟨BA, N, bc, bl⟩, ⟨IA, N, ic, il⟩⟩ N) (hr : RHok w ex' rk) (hrm : ∀ m ∈ rk.l, 0 ≤ m ∧ m < (N : Int)) (hrn : rk.n ≤ 1000) (hv : v ≤ 8) (hN : N ≤ 20) :
    Calls Tryz.prog 22 #[.agg #[.int .i64 v, .slice BA N bc, .slice IA N ic], .slice rk.A rk.n rk.c] w (RetRd w v N (⟨v, ⟨BA, N, bc, bl⟩, ⟨IA, N, ic, il⟩⟩ : WB).pw rk.l) := by
  have HC1 := hid (fun (u : World) (hu : Below w.heap.size w u) => validWeb_any _ v N ex u (h.below hu) ho hk)
  have HC2 := hid (fun (u : World) (hu : Below w.heap.size w u) => copiedWeb_any _ v N ex u (h.below hu) ho hk)
  have HR := hid (fun (u : World) (hu : Below w.heap.size w u) => hr.below hu)
  have HRl := hid hr.len
  have HRm := hid hrm
  have hb1 := (Below.refl w.heap.size w).alloc (Nat.le_refl _) (.cells #[.int .i64 v, .slice BA N bc, .slice IA N ic] 37)
  have hb2 := hb1.alloc hb1.size (.cells #[.int .i64 0, .slice none 0 0, .slice none 0 0] 37)
  have HB2 := hid hb2
  have HF2 := hid (show Fb ((w.alloc (.cells #[.int .i64 v, .slice BA N bc, .slice IA N ic] 37)).alloc (.cells #[.int .i64 0, .slice none 0 0, .slice none 0 0] 37)) w.heap.size #[.int .i64 v, .slice BA N bc, .slice IA N ic] 37 ∧ Fb ((w.alloc (.cells #[.int .i64 v, .slice BA N bc, .slice IA N ic] 37)).alloc (.cells #[.int .i64 0, .slice none 0 0, .slice none 0 0] 37)) (w.heap.size + 1) #[.int .i64 0, .slice none 0 0, .slice none 0 0] 37 from by
    have f1 := Fb.new w #[.int .i64 v, .slice BA N bc, .slice IA N ic] 37
    have f2 := Fb.new (w.alloc (.cells #[.int .i64 v, .slice BA N bc, .slice IA N ic] 37)) #[.int .i64 0, .slice none 0 0, .slice none 0 0] 37
    exact ⟨f1.below ((Below.refl _ _).alloc (Nat.le_refl _) _) f1.lt, by simpa using f2⟩)
  have hmk := run_mkbools N (by omega)
  have HK0 := hid (Kpt.start N)
  have HL0 := hid (show (List.replicate N false).length = N from List.length_replicate)
  generalize List.replicate N false = ds0 at *
  have Hmk := hid hmk
  clear h ho hk hr hrm hb1 hb2 hmk
  go_enter Tryz.func22, Tryz.ntmps22
  go_upto_region 1 with fail
  generalize (w.alloc (.cells #[.int .i64 v, .slice BA N bc, .slice IA N ic] 37)).alloc (.cells #[.int .i64 0, .slice none 0 0, .slice none 0 0] 37) = w2 at *
  obtain ⟨x0, x1, x2⟩ := HF2.out.1.three
  go_wp2_with fail
  refine (HC1.out w2 HB2.out).mono ?_
  rintro _ w3 ⟨rfl, hb3⟩
  have hmk := Hmk.out w3
  have HB3 := hid (below_step HB2.out hb3)
  have HF3 := hid (And.intro (HF2.out.1.below hb3 HF2.out.1.lt) (HF2.out.2.below hb3 HF2.out.2.lt))
  clear x0 x1 x2 hb3 HB2 HF2 HC1
  obtain ⟨x0, x1, x2⟩ := HF3.out.1.three
  have hb4 := (Below.refl w3.heap.size w3).alloc (Nat.le_refl _) (.cells (ds0.map Value.bool).toArray 4)
  have HB4 := hid (below_step HB3.out hb4)
  have HD4 := hid (show Rdb w #[.int .i64 v, .slice BA N bc, .slice IA N ic] w3.heap.size N ds0 (w3.alloc (.cells (ds0.map Value.bool).toArray 4)) from ⟨HF3.out.1.below hb4 HF3.out.1.lt, HF3.out.2.below hb4 HF3.out.2.lt, Fb.new _ _ _, HL0.out⟩)
  have HB3s := hid HB3.out.size
  clear hb4 HB3 HF3
  go_upto_region 4 with fail
  generalize w3.alloc (.cells (ds0.map Value.bool).toArray 4) = w4 at *
  have Hgk := hid (show w.heap.size ≤ w3.heap.size from HB3s.out)
  generalize w3.heap.size = gk at *
  have HI0 := hid (show ∃ fs, Rdb w #[.int .i64 v, .slice BA N bc, .slice IA N ic] gk N fs w4 ∧ Below w.heap.size w w4 ∧ Kpt N (rk.l.take 0) fs from ⟨_, HD4.out, HB4.out, HK0.out⟩)
  clear x0 x1 x2 hmk HD4 HB4
  go_wp2_with fail
  go_loopw [22] (fun iv wr => ∃ i : Nat, i ≤ rk.n ∧ iv = .int .i64 i ∧ Hid (∃ fs, Rdb w #[.int .i64 v, .slice BA N bc, .slice IA N ic] gk N fs wr ∧ Below w.heap.size w wr ∧ Kpt N (rk.l.take i) fs)) (fun iv _ => rk.n - (intOf iv).toNat)
  case atStart => exact ⟨0, by omega, rfl, HI0⟩
  case round =>
    clear HI0
    obtain ⟨i, hi, rfl, HI⟩ := hrel
    obtain ⟨fs, hd, hb, hkp⟩ := HI.out
    have HD := hid hd
    have HB := hid hb
    have HK := hid hkp
    clear HI hd hb hkp
    by_cases hlt : i < rk.n
    · have n0 : (0 : Int) ≤ i := by omega
      have n1 : (i : Int) < rk.n := by omega
      have n2 : (i : Int).toNat = i := by omega
      obtain ⟨mi, hmi, hmm⟩ := get_at HRl.out hlt
      obtain ⟨m0, m1⟩ := HRm.out mi hmm
      obtain ⟨m, rfl⟩ : ∃ m : Nat, mi = m := ⟨mi.toNat, by omega⟩
      have Hmi := hid hmi
      obtain ⟨ad, hA, hal, y0⟩ := (HR.out wr HB.out).cell hmi
      have hmN : m < N := by omega
      have m2 : (m : Int).toNat = m := by omega
      obtain ⟨x0, x1, x2⟩ := HD.out.a.three
      clear hmi hmm
      rw [hA]
      go_wp2_with fail
      refine (isUnknown_any v N m BA IA bc ic wr hmN).mono ?_
      rintro _ w5 ⟨rfl, hb5⟩
      have HD5 := hid (HD.out.ty (TyX.below hb5))
      have HB5 := hid (below_step HB.out hb5)
      clear y0 x0 x1 x2 hb5 HD HB
      obtain ⟨fb, hfb⟩ : ∃ fb, fs[m]? = some fb := ⟨_, List.getElem?_eq_getElem (by rw [HD5.out.k.len]; exact hmN)⟩
      have y0 := HD5.out.k.cell hfb
      have f0 := HD5.out.k.fb.frozen m
      have hl := HD5.out.k.fb.lt
      have hs := stp_cell HD5.out.k.fb m (.bool true)
      have HI1 := hid (show ∃ fs', Rdb w #[.int .i64 v, .slice BA N bc, .slice IA N ic] gk N fs' (w5.setCell ⟨gk, m, none⟩ (.bool true)) ∧ Below w.heap.size w (w5.setCell ⟨gk, m, none⟩ (.bool true)) ∧ Kpt N (rk.l.take (i + 1)) fs' from ⟨fs.set m true, ⟨hs.fb HD5.out.a (by decide), hs.fb HD5.out.z (by decide), HD5.out.k.put m true⟩, HB5.out.setCell (by exact Hgk.out) _, HK.out.next HD5.out.k.len Hmi.out⟩)
      clear hs hfb HD5 HB5
      go_wp2_with fail
      go_roundw
      case rel => exact ⟨i + 1, by omega, by go_num, HI1⟩
      case measure => simp [intOf]; omega
    · have e : i = rk.n := by omega
      generalize wr = wc at *
      have HZl := hid HD.out.z.lt
      have hk0 := HK.out
      rw [e, ← HRl.out, List.take_length] at hk0
      have HK1 := hid hk0
      obtain ⟨x0, x1, x2⟩ := HD.out.a.three
      clear e hk0 HK
      go_wp2_with fail
      refine (HC2.out wc HB.out).mono ?_
      rintro _ w6 ⟨gB, gI, B, J, rfl, how, he1, he2⟩
      have hb6 := how.bel
      have hsz := hb6.size
      have hb7 := (Below.refl w6.heap.size w6).alloc (Nat.le_refl _) (.cells #[.int .i64 v, .slice (some ⟨gB, 0, none⟩) N N, .slice (some ⟨gI, 0, none⟩) N N] 37)
      have HD7 := hid (HD.out.ty (TyX.below (below_step hb6 hb7)))
      have HO7 := hid (Fb.new w6 #[.int .i64 v, .slice (some ⟨gB, 0, none⟩) N N, .slice (some ⟨gI, 0, none⟩) N N] 37)
      have hpw : pwO v B J = (⟨v, ⟨BA, N, bc, bl⟩, ⟨IA, N, ic, il⟩⟩ : WB).pw := by
        show PW.mk v (B.map ZH.ws) (J.map AL.pa) = PW.mk (Int.toNat v) (bl.map ZH.ws) (il.map AL.pa)
        rw [he1, he2, Int.toNat_natCast]
      have HI0 := hid (show Rdl wc v N gB gI (⟨v, ⟨BA, N, bc, bl⟩, ⟨IA, N, ic, il⟩⟩ : WB).pw rk.l 0 (w6.alloc (.cells #[.int .i64 v, .slice (some ⟨gB, 0, none⟩) N N, .slice (some ⟨gI, 0, none⟩) N N] 37)) from ⟨B, J, how.below hb7, by rw [hpw]; exact PW.To.refl _, fun r hr a ha => .inr ((how.rt r hr).ris.2 _ (List.mem_map.2 ⟨a, ha, rfl⟩)).1⟩)
      clear x0 x1 x2 how he1 he2 hb6 hb7 hsz hpw HD
      go_upto_region 12 with fail
      generalize w6.alloc (.cells #[.int .i64 v, .slice (some ⟨gB, 0, none⟩) N N, .slice (some ⟨gI, 0, none⟩) N N] 37) = w7 at *
      generalize w6.heap.size = bO at *
      obtain ⟨x0, x1, x2⟩ := HO7.out.three
      have HI1 := hid (And.intro HI0.out (And.intro HD7.out HO7.out))
      go_wp2_with fail
      clear x0 x1 x2 HI0 HD7 HO7
      go_loopw [40] (fun jv wr => ∃ j : Nat, j ≤ N ∧ jv = .int .i64 j ∧ Hid (Rdl wc v N gB gI (⟨v, ⟨BA, N, bc, bl⟩, ⟨IA, N, ic, il⟩⟩ : WB).pw rk.l j wr ∧ Rdb w #[.int .i64 v, .slice BA N bc, .slice IA N ic] gk N fs wr ∧ Fb wr bO #[.int .i64 v, .slice (some ⟨gB, 0, none⟩) N N, .slice (some ⟨gI, 0, none⟩) N N] 37)) (fun jv _ => N - (intOf jv).toNat)
      case atStart => exact ⟨0, by omega, rfl, HI1⟩
      case round =>
        clear HI1
        obtain ⟨j, hj, rfl, HI⟩ := hrel
        obtain ⟨⟨B2, J2, how, hto, hfr⟩, hd, ho⟩ := HI.out
        have HOw := hid how
        have HTo := hid hto
        have HFr := hid hfr
        have HD := hid hd
        have HO := hid ho
        clear HI how hto hfr hd ho
        by_cases hjN : j < N
        · have n0 : (0 : Int) ≤ j := by omega
          have n1 : (j : Int) < N := by omega
          have n2 : (j : Int).toNat = j := by omega
          obtain ⟨fj, hfj⟩ : ∃ fj, fs[j]? = some fj := ⟨_, List.getElem?_eq_getElem (by rw [HD.out.k.len]; exact hjN)⟩
          have y0 := HD.out.k.cell hfj
          have Hkj := hid (HK1.out j hjN)
          rw [hfj] at Hkj
          cases fj with
          | true =>
            have hjk := Hkj.out.1 rfl
            have HI2 := hid (show Rdl wc v N gB gI (⟨v, ⟨BA, N, bc, bl⟩, ⟨IA, N, ic, il⟩⟩ : WB).pw rk.l (j + 1) wr ∧ Rdb w #[.int .i64 v, .slice BA N bc, .slice IA N ic] gk N fs wr ∧ Fb wr bO #[.int .i64 v, .slice (some ⟨gB, 0, none⟩) N N, .slice (some ⟨gI, 0, none⟩) N N] 37 from ⟨⟨B2, J2, HOw.out, HTo.out, fun r hr a ha => by
              rcases HFr.out r hr a ha with h1 | h1
              · exact .inl h1
              · by_cases e : a.m = (j : Int)
                · rw [e]; exact .inl hjk
                · exact .inr (by omega)⟩, HD.out, HO.out⟩)
            clear hjk HOw HTo HFr HD HO hfj
            go_wp2_with fail
            go_roundw
            case rel => exact ⟨j + 1, by omega, by go_num, HI2⟩
            case measure => simp [intOf]; omega
          | false =>
            obtain ⟨x0, x1, x2⟩ := HO.out.three
            clear hfj
            go_wp2_with fail
            refine (eliminate_any wc v N gB gI j B2 J2 wr HOw.out hv hN hjN).mono ?_
            rintro _ w9 ⟨B3, J3, rfl, how, hto, hfs, hno, htx⟩
            have HI2 := hid (show Rdl wc v N gB gI (⟨v, ⟨BA, N, bc, bl⟩, ⟨IA, N, ic, il⟩⟩ : WB).pw rk.l (j + 1) w9 ∧ Rdb w #[.int .i64 v, .slice BA N bc, .slice IA N ic] gk N fs w9 ∧ Fb w9 bO #[.int .i64 v, .slice (some ⟨gB, 0, none⟩) N N, .slice (some ⟨gI, 0, none⟩) N N] 37 from ⟨⟨B3, J3, how, HTo.out.trans hto, fun r hr a ha => by
              obtain ⟨r2, hr2, b, hb, e⟩ := hfs r hr a ha
              have hne := hno r hr a ha
              rw [e] at hne ⊢
              rcases HFr.out r2 hr2 b hb with h1 | h1
              · exact .inl h1
              · exact .inr (by omega)⟩, HD.out.ty htx, htx.fb HO.out (by decide) (by decide) (by decide)⟩)
            clear x0 x1 x2 y0 how hto hfs hno htx HOw HTo HFr HD HO
            go_wp2_with fail
            go_roundw
            case rel => exact ⟨j + 1, by omega, by go_num, HI2⟩
            case measure => simp [intOf]; omega
        · have e : j = N := by omega
          obtain ⟨x0, x1, x2⟩ := HO.out.three
          obtain ⟨z0, z1, z2⟩ := HD.out.z.three
          have f0 := HD.out.z.frozen 0
          have f1 := HD.out.z.frozen 1
          have f2 := HD.out.z.frozen 2
          have hl := HD.out.z.lt
          have hsz := HB.out.size
          have hst := three_stp HD.out.z (.int .i64 v) (.slice (some ⟨gB, 0, none⟩) N N) (.slice (some ⟨gI, 0, none⟩) N N)
          have hwz : w.heap.size + 1 < wc.heap.size := HZl.out
          have hb0 := below_step HB.out HOw.out.bel
          have hb9 : Below w.heap.size w (((wr.setCell ⟨w.heap.size + 1, 0, none⟩ (.int .i64 v)).setCell ⟨w.heap.size + 1, 1, none⟩ (.slice (some ⟨gB, 0, none⟩) N N)).setCell ⟨w.heap.size + 1, 2, none⟩ (.slice (some ⟨gI, 0, none⟩) N N)) :=
            ((hb0.setCell (by show _ ≤ w.heap.size + 1; omega) _).setCell (by show _ ≤ w.heap.size + 1; omega) _).setCell (by show _ ≤ w.heap.size + 1; omega) _
          have HFin := hid (show RetRd w v N (⟨v, ⟨BA, N, bc, bl⟩, ⟨IA, N, ic, il⟩⟩ : WB).pw rk.l (.returned (.tuple #[.agg #[.int .i64 v, .slice (some ⟨gB, 0, none⟩) N N, .slice (some ⟨gI, 0, none⟩) N N], .int .i64 0])) (((wr.setCell ⟨w.heap.size + 1, 0, none⟩ (.int .i64 v)).setCell ⟨w.heap.size + 1, 1, none⟩ (.slice (some ⟨gB, 0, none⟩) N N)).setCell ⟨w.heap.size + 1, 2, none⟩ (.slice (some ⟨gI, 0, none⟩) N N)) from ⟨w, gB, gI, B2, J2, rfl, (HOw.out.base HB.out).stp hst hb9 (by decide) (by decide) (by decide) (by decide) (by decide), HTo.out, fun r hr a ha => by
            rcases HFr.out r hr a ha with h1 | h1
            · exact h1
            · have := ((HOw.out.rt r hr).ris.2 _ (List.mem_map.2 ⟨a, ha, rfl⟩)).2
              omega, hb9⟩)
          clear hst hwz hb0 hb9 hsz HOw HTo HFr HD HO
          go_wp2_with fail
          exact bodyPost_ret (v := .tuple #[.agg #[.int .i64 v, .slice (some ⟨gB, 0, none⟩) N N, .slice (some ⟨gI, 0, none⟩) N N], .int .i64 0]) (by simp [results, Tryz.results22, go_sem, z0, z1, z2]) rfl HFin.out
end Go.Proofs.YtbjaebbmajhjjaaGreat
namespace Go.Proofs.YtbjaebbmajhjjaaGreat
set_option maxRecDepth 20000
set_option linter.unusedVariables false
set_option linter.unusedSimpArgs false
open Go.ChangeShapes Go.WideShapes Go.ChangeAt Go.RowKit
def RetCh (w : World) (v N : Nat) (p : PW) (Q : List AL → Prop) (e : Ending) (w' : World) : Prop :=
  ∃ (gB gI : Nat) (B : List ZH) (J : List AL), e = .returned (.tuple #[.agg #[.int .i64 v, .slice (some ⟨gB, 0, none⟩) N N, .slice (some ⟨gI, 0, none⟩) N N], .int .i64 0]) ∧ Ow w v N gB gI B (J.map AL.v) J w' ∧ p.To (pwO v B J) ∧ Q J ∧ Below w.heap.size w w'
set_option maxHeartbeats 6400000 in
theorem changedResolve_any (v N n : Nat) (BA IA : Option Addr) (bc ic : Nat) (bl : List ZH) (il : List AL) (ex : List (Option Nat)) (w : World) (h : WBok w ex ⟨v, ⟨BA, N, bc, bl⟩, ⟨IA, N, ic, il⟩⟩) (ho : WOk ⟨v, ⟨BA, N, bc, bl⟩, ⟨IA, N, ic, il⟩⟩ v N) (hk : WLk ⟨v, ⟨BA, N, bc, bl⟩, ⟨IA, N, ic, il⟩⟩ N) (hv : v ≤ 8) (hN : N ≤ 20) (hnN : n < N) :
    Calls Tryz.prog 29 #[.agg #[.int .i64 v, .slice BA N bc, .slice IA N ic], .int .i64 n, .func (Fn.func 59) #[] #[]] w (RetCh w v N (⟨v, ⟨BA, N, bc, bl⟩, ⟨IA, N, ic, il⟩⟩ : WB).pw (fun J => ∀ r, J[n]? = some r → ∀ a ∈ r.l, a.m ≠ n)) := by
  have HC1 := hid (fun (u : World) (hu : Below w.heap.size w u) => validWeb_any _ v N ex u (h.below hu) ho hk)
  have HC2 := hid (fun (u : World) (hu : Below w.heap.size w u) => copiedWeb_any _ v N ex u (h.below hu) ho hk)
  have hb1 := (Below.refl w.heap.size w).alloc (Nat.le_refl _) (.cells #[.int .i64 v, .slice BA N bc, .slice IA N ic] 37)
  have hb2 := hb1.alloc hb1.size (.cells #[.int .i64 0, .slice none 0 0, .slice none 0 0] 37)
  have HB2 := hid hb2
  have HF2 := hid (show Fb ((w.alloc (.cells #[.int .i64 v, .slice BA N bc, .slice IA N ic] 37)).alloc (.cells #[.int .i64 0, .slice none 0 0, .slice none 0 0] 37)) w.heap.size #[.int .i64 v, .slice BA N bc, .slice IA N ic] 37 ∧ Fb ((w.alloc (.cells #[.int .i64 v, .slice BA N bc, .slice IA N ic] 37)).alloc (.cells #[.int .i64 0, .slice none 0 0, .slice none 0 0] 37)) (w.heap.size + 1) #[.int .i64 0, .slice none 0 0, .slice none 0 0] 37 from by
    have f1 := Fb.new w #[.int .i64 v, .slice BA N bc, .slice IA N ic] 37
    have f2 := Fb.new (w.alloc (.cells #[.int .i64 v, .slice BA N bc, .slice IA N ic] 37)) #[.int .i64 0, .slice none 0 0, .slice none 0 0] 37
    exact ⟨f1.below ((Below.refl _ _).alloc (Nat.le_refl _) _) f1.lt, by simpa using f2⟩)
  clear h ho hk hb1 hb2
  go_enter Tryz.func29, Tryz.ntmps29
  go_upto_region 1 with fail
  generalize ((w.alloc (.cells #[.int .i64 v, .slice BA N bc, .slice IA N ic] 37)).alloc (.cells #[.int .i64 0, .slice none 0 0, .slice none 0 0] 37)) = w2 at *
  obtain ⟨x0, x1, x2⟩ := HF2.out.1.three
  go_wp2_with fail
  refine (HC1.out w2 HB2.out).mono ?_
  rintro _ w3 ⟨rfl, hb3⟩
  have HB3 := hid (below_step HB2.out hb3)
  have HF3 := hid (And.intro (HF2.out.1.below hb3 HF2.out.1.lt) (HF2.out.2.below hb3 HF2.out.2.lt))
  clear x0 x1 x2 hb3 HB2 HF2 HC1
  obtain ⟨x0, x1, x2⟩ := HF3.out.1.three
  go_wp2_with fail
  refine (isUnknown_any v N n BA IA bc ic w3 hnN).mono ?_
  rintro _ w4 ⟨rfl, hb4⟩
  have HB4 := hid (below_step HB3.out hb4)
  have HF4 := hid (And.intro (HF3.out.1.below hb4 HF3.out.1.lt) (HF3.out.2.below hb4 HF3.out.2.lt))
  clear x0 x1 x2 hb4 HB3 HF3
  obtain ⟨x0, x1, x2⟩ := HF4.out.1.three
  go_wp2_with fail
  refine (HC2.out w4 HB4.out).mono ?_
  rintro _ w6 ⟨gB, gI, B, J, rfl, how, he1, he2⟩
  have hb6 := how.bel
  have hsz := hb6.size
  have hb7 := (Below.refl w6.heap.size w6).alloc (Nat.le_refl _) (.cells #[.int .i64 v, .slice (some ⟨gB, 0, none⟩) N N, .slice (some ⟨gI, 0, none⟩) N N] 37)
  have hb67 := below_step hb6 hb7
  have HF7 := hid (And.intro (HF4.out.1.below hb67 HF4.out.1.lt) (HF4.out.2.below hb67 HF4.out.2.lt))
  have HZl := hid HF4.out.2.lt
  have HO7 := hid (Fb.new w6 #[.int .i64 v, .slice (some ⟨gB, 0, none⟩) N N, .slice (some ⟨gI, 0, none⟩) N N] 37)
  have hpw : pwO v B J = (⟨v, ⟨BA, N, bc, bl⟩, ⟨IA, N, ic, il⟩⟩ : WB).pw := by
    show PW.mk v (B.map ZH.ws) (J.map AL.pa) = PW.mk (Int.toNat v) (bl.map ZH.ws) (il.map AL.pa)
    rw [he1, he2, Int.toNat_natCast]
  have Hpw := hid hpw
  have HOw7 := hid (how.below hb7)
  clear x0 x1 x2 how he1 he2 hb6 hb7 hsz hpw hb67 HF4 HC2
  go_upto_region 6 with fail
  generalize w6.alloc (.cells #[.int .i64 v, .slice (some ⟨gB, 0, none⟩) N N, .slice (some ⟨gI, 0, none⟩) N N] 37) = w7 at *
  generalize w6.heap.size = bO at *
  obtain ⟨x0, x1, x2⟩ := HO7.out.three
  go_wp2_with fail
  refine (resolve_any w4 v N gB gI n B J w7 HOw7.out hv (by omega) hnN).mono ?_
  rintro _ wr ⟨B2, J2, rfl, how, hto, hfs, hno, htx⟩
  have HOw := hid how
  have HTo := hid hto
  have HNo := hid hno
  have HFz := hid (htx.fb HF7.out.2 (by decide) (by decide) (by decide))
  have HO := hid (htx.fb HO7.out (by decide) (by decide) (by decide))
  clear x0 x1 x2 how hto hfs hno htx HOw7 HO7 HF7
  obtain ⟨x0, x1, x2⟩ := HO.out.three
  obtain ⟨z0, z1, z2⟩ := HFz.out.three
  have f0 := HFz.out.frozen 0
  have f1 := HFz.out.frozen 1
  have f2 := HFz.out.frozen 2
  have hl := HFz.out.lt
  have hsz := HB4.out.size
  have hst := three_stp HFz.out (.int .i64 v) (.slice (some ⟨gB, 0, none⟩) N N) (.slice (some ⟨gI, 0, none⟩) N N)
  have hwz : w.heap.size + 1 < w4.heap.size := HZl.out
  have hb0 := below_step HB4.out HOw.out.bel
  have hb9 : Below w.heap.size w (((wr.setCell ⟨w.heap.size + 1, 0, none⟩ (.int .i64 v)).setCell ⟨w.heap.size + 1, 1, none⟩ (.slice (some ⟨gB, 0, none⟩) N N)).setCell ⟨w.heap.size + 1, 2, none⟩ (.slice (some ⟨gI, 0, none⟩) N N)) :=
    ((hb0.setCell (by show _ ≤ w.heap.size + 1; omega) _).setCell (by show _ ≤ w.heap.size + 1; omega) _).setCell (by show _ ≤ w.heap.size + 1; omega) _
  have HFin := hid (show RetCh w v N (⟨v, ⟨BA, N, bc, bl⟩, ⟨IA, N, ic, il⟩⟩ : WB).pw (fun J => ∀ r, J[n]? = some r → ∀ a ∈ r.l, a.m ≠ n) (.returned (.tuple #[.agg #[.int .i64 v, .slice (some ⟨gB, 0, none⟩) N N, .slice (some ⟨gI, 0, none⟩) N N], .int .i64 0])) (((wr.setCell ⟨w.heap.size + 1, 0, none⟩ (.int .i64 v)).setCell ⟨w.heap.size + 1, 1, none⟩ (.slice (some ⟨gB, 0, none⟩) N N)).setCell ⟨w.heap.size + 1, 2, none⟩ (.slice (some ⟨gI, 0, none⟩) N N)) from ⟨gB, gI, B2, J2, rfl, (HOw.out.base HB4.out).stp hst hb9 (by decide) (by decide) (by decide) (by decide) (by decide), by rw [← Hpw.out]; exact HTo.out, HNo.out, hb9⟩)
  clear hst hwz hb0 hb9 hsz HOw HTo HNo HFz HO
  go_wp2_with fail
  exact bodyPost_ret (v := .tuple #[.agg #[.int .i64 v, .slice (some ⟨gB, 0, none⟩) N N, .slice (some ⟨gI, 0, none⟩) N N], .int .i64 0]) (by simp [results, Tryz.results29, go_sem, z0, z1, z2]) rfl HFin.out
set_option maxHeartbeats 6400000 in
theorem eResolve_any (v N n : Nat) (BA IA : Option Addr) (bc ic : Nat) (bl : List ZH) (il : List AL) (ex : List (Option Nat)) (w : World) (h : WBok w ex ⟨v, ⟨BA, N, bc, bl⟩, ⟨IA, N, ic, il⟩⟩) (ho : WOk ⟨v, ⟨BA, N, bc, bl⟩, ⟨IA, N, ic, il⟩⟩ v N) (hk : WLk ⟨v, ⟨BA, N, bc, bl⟩, ⟨IA, N, ic, il⟩⟩ N) (hv : v ≤ 8) (hN : N ≤ 20) (hnN : n < N) :
    Calls Tryz.prog 36 #[.agg #[.int .i64 v, .slice BA N bc, .slice IA N ic], .int .i64 n] w (RetCh w v N (⟨v, ⟨BA, N, bc, bl⟩, ⟨IA, N, ic, il⟩⟩ : WB).pw (fun J => ∀ r, J[n]? = some r → ∀ a ∈ r.l, a.m ≠ n)) := by
  have hb1 := (Below.refl w.heap.size w).alloc (Nat.le_refl _) (.cells #[.int .i64 v, .slice BA N bc, .slice IA N ic] 37)
  have hb2 := hb1.alloc hb1.size (.cells #[.int .i64 0, .slice none 0 0, .slice none 0 0] 37)
  have HB2 := hid hb2
  have HF2 := hid (show Fb ((w.alloc (.cells #[.int .i64 v, .slice BA N bc, .slice IA N ic] 37)).alloc (.cells #[.int .i64 0, .slice none 0 0, .slice none 0 0] 37)) w.heap.size #[.int .i64 v, .slice BA N bc, .slice IA N ic] 37 ∧ Fb ((w.alloc (.cells #[.int .i64 v, .slice BA N bc, .slice IA N ic] 37)).alloc (.cells #[.int .i64 0, .slice none 0 0, .slice none 0 0] 37)) (w.heap.size + 1) #[.int .i64 0, .slice none 0 0, .slice none 0 0] 37 from by
    have f1 := Fb.new w #[.int .i64 v, .slice BA N bc, .slice IA N ic] 37
    have f2 := Fb.new (w.alloc (.cells #[.int .i64 v, .slice BA N bc, .slice IA N ic] 37)) #[.int .i64 0, .slice none 0 0, .slice none 0 0] 37
    exact ⟨f1.below ((Below.refl _ _).alloc (Nat.le_refl _) _) f1.lt, by simpa using f2⟩)
  have HC := hid (changedResolve_any v N n BA IA bc ic bl il ex _ (h.below hb2) ho hk hv hN hnN)
  clear h ho hk hb1 hb2
  go_enter Tryz.func36, Tryz.ntmps36
  go_upto_region 1 with fail
  generalize ((w.alloc (.cells #[.int .i64 v, .slice BA N bc, .slice IA N ic] 37)).alloc (.cells #[.int .i64 0, .slice none 0 0, .slice none 0 0] 37)) = w2 at *
  obtain ⟨x0, x1, x2⟩ := HF2.out.1.three
  go_wp2_with fail
  refine HC.out.mono ?_
  rintro _ wr ⟨gB, gI, B2, J2, rfl, how, hto, hno, hbw⟩
  have HFz := hid (HF2.out.2.below hbw HF2.out.2.lt)
  clear x0 x1 x2
  obtain ⟨z0, z1, z2⟩ := HFz.out.three
  have f0 := HFz.out.frozen 0
  have f1 := HFz.out.frozen 1
  have f2 := HFz.out.frozen 2
  have hl := HFz.out.lt
  have hsz := HB2.out.size
  have hst := three_stp HFz.out (.int .i64 v) (.slice (some ⟨gB, 0, none⟩) N N) (.slice (some ⟨gI, 0, none⟩) N N)
  have hb0 := below_step HB2.out hbw
  have hb9 : Below w.heap.size w (((wr.setCell ⟨w.heap.size + 1, 0, none⟩ (.int .i64 v)).setCell ⟨w.heap.size + 1, 1, none⟩ (.slice (some ⟨gB, 0, none⟩) N N)).setCell ⟨w.heap.size + 1, 2, none⟩ (.slice (some ⟨gI, 0, none⟩) N N)) :=
    ((hb0.setCell (by show _ ≤ w.heap.size + 1; omega) _).setCell (by show _ ≤ w.heap.size + 1; omega) _).setCell (by show _ ≤ w.heap.size + 1; omega) _
  have HFin := hid (show RetCh w v N (⟨v, ⟨BA, N, bc, bl⟩, ⟨IA, N, ic, il⟩⟩ : WB).pw (fun J => ∀ r, J[n]? = some r → ∀ a ∈ r.l, a.m ≠ n) (.returned (.tuple #[.agg #[.int .i64 v, .slice (some ⟨gB, 0, none⟩) N N, .slice (some ⟨gI, 0, none⟩) N N], .int .i64 0])) (((wr.setCell ⟨w.heap.size + 1, 0, none⟩ (.int .i64 v)).setCell ⟨w.heap.size + 1, 1, none⟩ (.slice (some ⟨gB, 0, none⟩) N N)).setCell ⟨w.heap.size + 1, 2, none⟩ (.slice (some ⟨gI, 0, none⟩) N N)) from ⟨gB, gI, B2, J2, rfl, (how.base HB2.out).stp hst hb9 (by decide) (by decide) (by decide) (by decide) (by decide), hto, hno, hb9⟩)
  clear hst hb0 hb9 hsz how hto hno hbw HFz
  go_wp2_with fail
  exact bodyPost_ret (v := .tuple #[.agg #[.int .i64 v, .slice (some ⟨gB, 0, none⟩) N N, .slice (some ⟨gI, 0, none⟩) N N], .int .i64 0]) (by simp [results, Tryz.results36, go_sem, z0, z1, z2]) rfl HFin.out
end Go.Proofs.YtbjaebbmajhjjaaGreat
namespace Go.Proofs.YtbjaebbmajhjjaaGreat
set_option maxRecDepth 20000
set_option linter.unusedVariables false
set_option linter.unusedSimpArgs false
open Go.ChangeShapes Go.WideShapes Go.ChangeAt Go.RowKit
theorem none_last {q : PW} (hq : q.Ok) (h : ∀ l ∈ q.arcs, l = []) : ∃ K, q.Last K ∧ q.round K = q.bd := by
  have hr : ∀ x, q.rights x = q.bd := fun x => by
    refine vals_ext (n := q.n) (by simp [PW.rights]) hq.len fun k hk => ?_
    rw [PW.rights_at hk]
    unfold PW.right
    have : q.arcs.getD k [] = [] := by
      rw [List.getD_eq_getElem?_getD]
      cases e : q.arcs[k]? with
      | none => rfl
      | some l => exact h l (List.mem_of_getElem? e)
    rw [this]; rfl
  by_cases e : q.round 0 = q.bd
  · exact ⟨0, ⟨by rw [e]; exact hr _, fun k hk => by omega⟩, e⟩
  · refine ⟨1, ⟨(hr _).trans (hr _).symm, fun k hk => ?_⟩, hr _⟩
    obtain rfl : k = 0 := by omega
    intro h2
    exact e (h2.symm.trans (hr _))
def RetEs (w : World) (v N : Nat) (p : PW) (e : Ending) (w' : World) : Prop :=
  ∃ (K : Nat) (g : Nat) (l : List ZH), p.Last K ∧ e = .returned (.tuple #[.slice (some ⟨g, 0, none⟩) N N, .int .i64 0]) ∧ ZLok w' [] ⟨some ⟨g, 0, none⟩, N, N, l⟩ ∧ (∀ z ∈ l, z.W = v ∧ Bs.Fit v z.ws) ∧ l.map ZH.ws = p.round K ∧ Below w.heap.size w w'
theorem esolve_any (v N K : Nat) (BA IA : Option Addr) (bc ic : Nat) (bl : List ZH) (il : List AL) (ex : List (Option Nat)) (w : World) (h : WBok w ex ⟨v, ⟨BA, N, bc, bl⟩, ⟨IA, N, ic, il⟩⟩) (ho : WOk ⟨v, ⟨BA, N, bc, bl⟩, ⟨IA, N, ic, il⟩⟩ v N) (hk : WLk ⟨v, ⟨BA, N, bc, bl⟩, ⟨IA, N, ic, il⟩⟩ N) (hv : v ≤ 8) (hN : N ≤ 20) (hK : (⟨v, ⟨BA, N, bc, bl⟩, ⟨IA, N, ic, il⟩⟩ : WB).pw.Last K) :
    Calls Tryz.prog 26 #[.agg #[.int .i64 v, .slice BA N bc, .slice IA N ic]] w (RetEs w v N (⟨v, ⟨BA, N, bc, bl⟩, ⟨IA, N, ic, il⟩⟩ : WB).pw) := by
  have Hpw := hid (ho.pw h)
  have hb1 := (Below.refl w.heap.size w).alloc (Nat.le_refl _) (.cells #[.int .i64 v, .slice BA N bc, .slice IA N ic] 37)
  have HF1 := hid (Fb.new w #[.int .i64 v, .slice BA N bc, .slice IA N ic] 37)
  have HB1 := hid hb1
  have HC := hid (reduce_any v N BA IA bc ic bl il ⟨none, 0, 0, []⟩ ex [] _ (h.below hb1) ho hk ⟨.inl rfl, rfl, by show 0 ≤ 9223372036854775807; omega⟩ (fun m hm => by cases hm) (by show 0 ≤ 1000; omega) hv hN)
  have HK := hid hK
  clear h ho hk hb1 hK
  go_enter Tryz.func26, Tryz.ntmps26
  go_upto_region 1 with fail
  generalize w.alloc (.cells #[.int .i64 v, .slice BA N bc, .slice IA N ic] 37) = w1 at *
  obtain ⟨x0, x1, x2⟩ := HF1.out.three
  go_wp2_with fail
  refine HC.out.mono ?_
  rintro _ w2 ⟨w0, gB, gI, B, J, rfl, how, hto, hfr, hb2⟩
  have hba := (Below.refl w2.heap.size w2).alloc (Nat.le_refl _) (.cells #[.int .i64 v, .slice (some ⟨gB, 0, none⟩) N N, .slice (some ⟨gI, 0, none⟩) N N] 37)
  have how3 := how.below hba
  obtain ⟨o1, i1, n1⟩ := how.pok
  obtain ⟨J0, hJ1, hJ2⟩ := none_last o1 (fun l hl => by
    obtain ⟨r, hr, rfl⟩ := List.mem_map.1 hl
    show r.l.map AH.pa = []
    cases hrl : r.l with
    | nil => rfl
    | cons a l => exact absurd (hfr r hr a (by rw [hrl]; exact List.mem_cons_self)) (by simp))
  have hle := hto.least Hpw.out.inn i1 Hpw.out.ok o1 HK.out hJ1
  have HFin := hid (show RetEs w v N (⟨v, ⟨BA, N, bc, bl⟩, ⟨IA, N, ic, il⟩⟩ : WB).pw (.returned (.tuple #[.slice (some ⟨gB, 0, none⟩) N N, .int .i64 0])) (w2.alloc (.cells #[.int .i64 v, .slice (some ⟨gB, 0, none⟩) N N, .slice (some ⟨gI, 0, none⟩) N N] 37)) from
    ⟨K, gB, B, HK.out, rfl, (how3.wb (by omega)).b, fun z hz => ⟨(how3.bt z hz).w, (how3.bt z hz).fit⟩, by rw [← hle, hJ2]; rfl, below_step (below_step HB1.out hb2) hba⟩)
  have HF3 := hid (Fb.new w2 #[.int .i64 v, .slice (some ⟨gB, 0, none⟩) N N, .slice (some ⟨gI, 0, none⟩) N N] 37)
  clear x0 x1 x2 how hto hfr hb2 hba how3 o1 i1 n1 hJ1 hJ2 hle
  go_upto_region 2 with fail
  generalize w2.alloc (.cells #[.int .i64 v, .slice (some ⟨gB, 0, none⟩) N N, .slice (some ⟨gI, 0, none⟩) N N] 37) = w3 at *
  obtain ⟨x0, x1, x2⟩ := HF3.out.three
  go_wp2_with fail
  exact bodyPost_ret (v := .tuple #[.slice (some ⟨gB, 0, none⟩) N N, .int .i64 0]) (by simp [results, Tryz.results26, go_sem]) rfl HFin.out
end Go.Proofs.YtbjaebbmajhjjaaGreat
namespace Go.Proofs.YtbjaebbmajhjjaaGreat
set_option maxRecDepth 20000
set_option linter.unusedVariables false
set_option linter.unusedSimpArgs false
open Go.ChangeShapes Go.WideShapes Go.ChangeAt Go.RowKit
theorem emp2b : Bs.emp 2 = [0] := by rfl
theorem full2b : Bs.ofP 2 (fun _ => true) 2 = [3] := by rfl
structure S13 (w : World) (b1 ga gb gc : Nat) (u : World) : Prop where
  box : Fb u b1 #[.int .i64 2, .slice (some ⟨ga, 0, none⟩) 1 1, .int .i64 2, .slice (some ⟨gb, 0, none⟩) 1 1, .slice (some ⟨gc, 0, none⟩) 1 1] 30
  ra : Row u ga [0]
  rb : Row u gb [0]
  cp : Fb u gc #[.int .i64 0, .int .i64 1] 27
  bel : Below w.heap.size w u
theorem S13.below {w u u' : World} {b1 ga gb gc : Nat} (h : S13 w b1 ga gb gc u) (hb : Below u.heap.size u u') : S13 w b1 ga gb gc u' := ⟨h.box.below hb h.box.lt, h.ra.below hb h.ra.lt, h.rb.below hb h.rb.lt, h.cp.below hb h.cp.lt, below_step h.bel hb⟩
theorem S13.put {w u u' : World} {b1 ga gb gc : Nat} (h : S13 w b1 ga gb gc u) (hs : Stp1 37 u u') (hb : Below w.heap.size w u') : S13 w b1 ga gb gc u' := ⟨hs.fb h.box (by decide), hs.row h.ra (by decide), hs.row h.rb (by decide), hs.fb h.cp (by decide), hb⟩
def x13 (h2 g1 h6 h5 ga gb gc : Nat) : WB := ⟨((2 : Nat) : Int), ⟨some ⟨h2, 0, none⟩, 1, 1, [⟨2, some ⟨g1, 0, none⟩, 1, 1, [1]⟩]⟩, ⟨some ⟨h6, 0, none⟩, 1, 1, [⟨some ⟨h5, 0, none⟩, 1, 1, [⟨0, ⟨⟨2, some ⟨ga, 0, none⟩, 1, 1, [0]⟩, ⟨2, some ⟨gb, 0, none⟩, 1, 1, [0]⟩, some ⟨gc, 0, none⟩, 1, 1, [(0, 1)]⟩⟩]⟩]⟩⟩
theorem x13_mem {u : World} {h2 g1 h6 h5 ga gb gc : Nat} (a1 : Fb u h2 #[.int .i64 2, .slice (some ⟨g1, 0, none⟩) 1 1] 24) (r1 : Row u g1 [1]) (a2 : Fb u h6 #[.slice (some ⟨h5, 0, none⟩) 1 1] 34) (a3 : Fb u h5 #[.int .i64 0, .int .i64 2, .slice (some ⟨ga, 0, none⟩) 1 1, .int .i64 2, .slice (some ⟨gb, 0, none⟩) 1 1, .slice (some ⟨gc, 0, none⟩) 1 1] 33) (ra : Row u ga [0]) (rb : Row u gb [0]) (cp : Fb u gc #[.int .i64 0, .int .i64 1] 27) : WBok u [] (x13 h2 g1 h6 h5 ga gb gc) := by
  have z : ∀ {g : Nat} {ws : List Nat}, Row u g ws → ws.length = 1 → (∀ y ∈ ws, y < Bs.W64) → ZHok u [] ⟨2, some ⟨g, 0, none⟩, 1, 1, ws⟩ := fun hr hl ho => ⟨EAt.fb hr (by simp) (fun j x hx => by simpa using hx), hl, ho⟩
  refine ⟨⟨EAt.fb a1 (by simp) (fun j x hx => by simpa [x13, ZH.cs] using hx), rfl, by show 1 ≤ 9223372036854775807; omega, fun y hy => ?_⟩, ⟨EAt.fb a2 (by simp) (fun j x hx => by simpa [x13, AL.v] using hx), rfl, by show 1 ≤ 9223372036854775807; omega, fun y hy => ?_⟩⟩
  · rw [List.mem_singleton.1 hy]
    exact z r1 rfl (by decide)
  · rw [List.mem_singleton.1 hy]
    refine ⟨EAt.fb a3 (by simp) (fun j x hx => by simpa [AH.cells] using hx), rfl, by show 1 ≤ 9223372036854775807; omega, fun a ha => ?_⟩
    rw [List.mem_singleton.1 ha]
    exact ⟨z ra rfl (by decide), z rb rfl (by decide), EAt.fb cp (by simp) (fun j x hx => by simpa [pairs] using hx), rfl⟩
theorem x13_ok (h2 g1 h6 h5 ga gb gc : Nat) : WOk (x13 h2 g1 h6 h5 ga gb gc) 2 1 := by
  refine ⟨rfl, by omega, by omega, rfl, rfl, fun y hy => ?_, fun y hy => ?_⟩
  · rw [List.mem_singleton.1 hy]
    refine ⟨rfl, ?_⟩
    show Bs.Fit 2 [1]
    rw [show [1] = Bs.ofP 2 (fun i => i == 0) 2 from rfl]
    exact Bs.fit_ofP 2 _ 2 (Nat.le_refl _)
  · rw [List.mem_singleton.1 hy]
    refine ⟨by show 1 ≤ 256; omega, fun a ha => ?_⟩
    rw [List.mem_singleton.1 ha]
    exact ⟨by show (0 : Int) ≤ 0 ∧ (0 : Int) < ((1 : Nat) : Int); omega, rfl, rfl, show validT 2 [0] 2 [0] [(0, 1)] = true by kernel_rfl⟩
theorem x13_lk (h2 g1 h6 h5 ga gb gc : Nat) : WLk (x13 h2 g1 h6 h5 ga gb gc) 1 := by
  refine ⟨by omega, fun y hy => ?_, by show tot [[0]] ≤ 1024; decide⟩
  rw [List.mem_singleton.1 hy]
  exact ⟨by simp, fun x hx => by rw [List.mem_singleton.1 hx]; show (0 : Int) ≤ 0 ∧ (0 : Int) < ((1 : Nat) : Int); omega⟩
theorem x13_last (h2 g1 h6 h5 ga gb gc : Nat) : (x13 h2 g1 h6 h5 ga gb gc).pw.Last 2 ∧ (x13 h2 g1 h6 h5 ga gb gc).pw.round 2 = [[3]] := by
  have e : (x13 h2 g1 h6 h5 ga gb gc).pw = ⟨2, [[1]], [[(0, ⟨[0], [0], [(0, 1)]⟩)]]⟩ := rfl
  rw [e]
  refine ⟨⟨by kernel_rfl, fun k hk => ?_⟩, by kernel_rfl⟩
  rcases (show k = 0 ∨ k = 1 by omega) with rfl | rfl
  · show ([[1]] : List (List Nat)) ≠ [[0]]; decide
  · show ([[3]] : List (List Nat)) ≠ [[1]]; decide
def s2R (j : Nat) (u u' : World) : Prop := if j = 9 then Stp1 37 u u' else Below u.heap.size u u'
theorem s2R_stp {j : Nat} {u u' : World} (h : s2R j u u') : Stp1 37 u u' := by
  unfold s2R at h
  split at h
  · exact h
  · exact Stp1.below h
theorem s2R_bel {j : Nat} {u u' : World} (h : s2R j u u') (hj : j ≠ 9) : Below u.heap.size u u' := by
  unfold s2R at h
  rwa [if_neg hj] at h
theorem s2R_of {j : Nat} {u u' : World} (h : Below u.heap.size u u') (hj : j ≠ 9) : s2R j u u' := by
  unfold s2R; rwa [if_neg hj]
theorem s2R_refl (j : Nat) (u : World) (hj : j ≠ 9) : s2R j u u := s2R_of (Below.refl _ _) hj
theorem s2R_w {u u' : World} (h : Stp1 37 u u') : s2R 9 u u' := by unfold s2R; rw [if_pos rfl]; exact h
def s2F (w : World) (b1 ga gb gc : Nat) : Nat → (Nat → Value) → World → Prop
  | 0, f, u => ∃ g0 : Nat, f 0 = .agg #[.int .i64 2, .slice (some ⟨g0, 0, none⟩) 1 1] ∧ Row u g0 [0]
  | 1, f, u => ∃ g1 : Nat, f 1 = .agg #[.int .i64 2, .slice (some ⟨g1, 0, none⟩) 1 1] ∧ Row u g1 [1]
  | 2, f, u => ∃ h2 : Nat, ∃ g1 : Nat, f 2 = .slice (some ⟨h2, 0, none⟩) 1 1 ∧ Fb u h2 #[.int .i64 2, .slice (some ⟨g1, 0, none⟩) 1 1] 24 ∧ Row u g1 [1]
  | 3, f, u => f 3 = .agg #[.int .i64 2, .slice (some ⟨ga, 0, none⟩) 1 1, .int .i64 2, .slice (some ⟨gb, 0, none⟩) 1 1, .slice (some ⟨gc, 0, none⟩) 1 1]
  | 4, f, u => f 4 = .agg #[.int .i64 0, .int .i64 2, .slice (some ⟨ga, 0, none⟩) 1 1, .int .i64 2, .slice (some ⟨gb, 0, none⟩) 1 1, .slice (some ⟨gc, 0, none⟩) 1 1]
  | 5, f, u => ∃ h5 : Nat, f 5 = .slice (some ⟨h5, 0, none⟩) 1 1 ∧ Fb u h5 #[.int .i64 0, .int .i64 2, .slice (some ⟨ga, 0, none⟩) 1 1, .int .i64 2, .slice (some ⟨gb, 0, none⟩) 1 1, .slice (some ⟨gc, 0, none⟩) 1 1] 33
  | 6, f, u => ∃ h6 : Nat, ∃ h5 : Nat, f 6 = .slice (some ⟨h6, 0, none⟩) 1 1 ∧ Fb u h6 #[.slice (some ⟨h5, 0, none⟩) 1 1] 34 ∧ Fb u h5 #[.int .i64 0, .int .i64 2, .slice (some ⟨ga, 0, none⟩) 1 1, .int .i64 2, .slice (some ⟨gb, 0, none⟩) 1 1, .slice (some ⟨gc, 0, none⟩) 1 1] 33
  | 7, f, u => ∃ h2 : Nat, ∃ g1 : Nat, ∃ h6 : Nat, ∃ h5 : Nat, f 7 = .agg #[.int .i64 2, .slice (some ⟨h2, 0, none⟩) 1 1, .slice (some ⟨h6, 0, none⟩) 1 1] ∧ Fb u h2 #[.int .i64 2, .slice (some ⟨g1, 0, none⟩) 1 1] 24 ∧ Row u g1 [1] ∧ Fb u h6 #[.slice (some ⟨h5, 0, none⟩) 1 1] 34 ∧ Fb u h5 #[.int .i64 0, .int .i64 2, .slice (some ⟨ga, 0, none⟩) 1 1, .int .i64 2, .slice (some ⟨gb, 0, none⟩) 1 1, .slice (some ⟨gc, 0, none⟩) 1 1] 33
  | 8, f, u => ∃ bO : Nat, f 8 = .pointer (some ⟨bO, 0, none⟩) ∧ Fb u bO #[.int .i64 0, .slice none 0 0, .slice none 0 0] 37 ∧ w.heap.size ≤ bO
  | 9, f, u => ∃ bO : Nat, ∃ h2 : Nat, ∃ g1 : Nat, ∃ h6 : Nat, ∃ h5 : Nat, f 8 = .pointer (some ⟨bO, 0, none⟩) ∧ Fb u bO #[.int .i64 2, .slice (some ⟨h2, 0, none⟩) 1 1, .slice (some ⟨h6, 0, none⟩) 1 1] 37 ∧ Fb u h2 #[.int .i64 2, .slice (some ⟨g1, 0, none⟩) 1 1] 24 ∧ Row u g1 [1] ∧ Fb u h6 #[.slice (some ⟨h5, 0, none⟩) 1 1] 34 ∧ Fb u h5 #[.int .i64 0, .int .i64 2, .slice (some ⟨ga, 0, none⟩) 1 1, .int .i64 2, .slice (some ⟨gb, 0, none⟩) 1 1, .slice (some ⟨gc, 0, none⟩) 1 1] 33
  | _, _, _ => True
def s2U : Nat → Option Nat
  | 8 => some 9
  | _ => none
theorem s2F_st {w : World} {b1 ga gb gc : Nat} {ops : Array Oper} (hq9 : ∀ j, (reachL ops 5 9).contains j = false → j ≠ 8)  (jx : Nat) (vx : Value) (u u' : World) (ix : Nat) (f : Nat → Value) (hR : s2R  jx u u') (hne : ix ≠ jx) (hu : s2U ix ≠ some jx) (hc : (reachL ops 5 ix).contains jx = false) (h : s2F w b1 ga gb gc ix f u) : s2F w b1 ga gb gc ix (updV f jx vx) u' := by
  match ix, hne, hu, hc, h with
  | 0, hne, hu, hc, h => 
    obtain ⟨g0, hf, i0⟩ := h
    have hs := s2R_stp hR
    exact ⟨g0, (updV_ne f vx hne).trans hf, hs.row i0 (by decide)⟩
  | 1, hne, hu, hc, h => 
    obtain ⟨g1, hf, i0⟩ := h
    have hs := s2R_stp hR
    exact ⟨g1, (updV_ne f vx hne).trans hf, hs.row i0 (by decide)⟩
  | 2, hne, hu, hc, h => 
    obtain ⟨h2, g1, hf, i0, i1⟩ := h
    have hs := s2R_stp hR
    exact ⟨h2, g1, (updV_ne f vx hne).trans hf, hs.fb i0 (by decide), hs.row i1 (by decide)⟩
  | 3, hne, hu, hc, h => exact (updV_ne f vx hne).trans h
  | 4, hne, hu, hc, h => exact (updV_ne f vx hne).trans h
  | 5, hne, hu, hc, h => 
    obtain ⟨h5, hf, i0⟩ := h
    have hs := s2R_stp hR
    exact ⟨h5, (updV_ne f vx hne).trans hf, hs.fb i0 (by decide)⟩
  | 6, hne, hu, hc, h => 
    obtain ⟨h6, h5, hf, i0, i1⟩ := h
    have hs := s2R_stp hR
    exact ⟨h6, h5, (updV_ne f vx hne).trans hf, hs.fb i0 (by decide), hs.fb i1 (by decide)⟩
  | 7, hne, hu, hc, h => 
    obtain ⟨h2, g1, h6, h5, hf, i0, i1, i2, i3⟩ := h
    have hs := s2R_stp hR
    exact ⟨h2, g1, h6, h5, (updV_ne f vx hne).trans hf, hs.fb i0 (by decide), hs.row i1 (by decide), hs.fb i2 (by decide), hs.fb i3 (by decide)⟩
  | 8, hne, hu, hc, h => obtain ⟨bO, hf, h0, h1⟩ := h; have hb := s2R_bel hR (fun e => hu (by rw [e]; rfl)); exact ⟨bO, (updV_ne f vx hne).trans hf, h0.below hb h0.lt, h1⟩
  | 9, hne, hu, hc, h => obtain ⟨bO, h2, g1, h6, h5, hf, i0, i1, i2, i3, i4⟩ := h; have hb := s2R_bel hR (fun e => hne e.symm); exact ⟨bO, h2, g1, h6, h5, (updV_ne f vx (fun e => hq9 jx hc e.symm)).trans hf, i0.below hb i0.lt, i1.below hb i1.lt, i2.below hb i2.lt, i3.below hb i3.lt, i4.below hb i4.lt⟩
  | ix + 10, _, _, _, _ => trivial
set_option maxHeartbeats 6400000 in
theorem sane13_any (w : World) : Calls Tryz.prog 13 #[] w fun e w' => e = .returned (.bool true) ∧ Below w.heap.size w w' := by
  go_enter Tryz.func13, Tryz.ntmps13
  go_wp2_with fail
  refine (refEmpty_any 2 _ (by omega)).mono ?_
  rw [emp2b]
  rintro e w1 ⟨ga, rfl, -, hra, hb1⟩
  have Hra := hid hra
  have Hb1 := hid hb1
  clear hra hb1
  go_wp2_with fail
  refine (refEmpty_any 2 _ (by omega)).mono ?_
  rw [emp2b]
  rintro e w2 ⟨gb, rfl, -, hrb, hb2⟩
  have hba := (Below.refl w2.heap.size w2).alloc (Nat.le_refl _) (.cells #[.int .i64 0, .int .i64 1] 27)
  have hbb := hba.alloc hba.size (.cells #[.int .i64 2, .slice (some ⟨ga, 0, none⟩) 1 1, .int .i64 2, .slice (some ⟨gb, 0, none⟩) 1 1, .slice (some ⟨w2.heap.size, 0, none⟩) 1 1] 30)
  have f1 := Fb.new w2 #[.int .i64 0, .int .i64 1] 27
  have f2 := Fb.new (w2.alloc (.cells #[.int .i64 0, .int .i64 1] 27)) #[.int .i64 2, .slice (some ⟨ga, 0, none⟩) 1 1, .int .i64 2, .slice (some ⟨gb, 0, none⟩) 1 1, .slice (some ⟨w2.heap.size, 0, none⟩) 1 1] 30
  rw [World.size_alloc] at f2
  have HS1 := hid (show S13 w (w2.heap.size + 1) ga gb w2.heap.size ((w2.alloc (.cells #[.int .i64 0, .int .i64 1] 27)).alloc (.cells #[.int .i64 2, .slice (some ⟨ga, 0, none⟩) 1 1, .int .i64 2, .slice (some ⟨gb, 0, none⟩) 1 1, .slice (some ⟨w2.heap.size, 0, none⟩) 1 1] 30)) from ⟨f2, (Hra.out.below hb2 Hra.out.lt).below hbb (by have := hb2.size; have := Hra.out.lt; omega), hrb.below hbb hrb.lt, f1.below ((Below.refl _ _).alloc (Nat.le_refl _) _) f1.lt, below_step (below_step Hb1.out hb2) hbb⟩)
  clear hba hbb f1 f2 hrb hb2 Hra Hb1
  go_upto_region 2 with fail
  rename_i Kx hKx
  generalize hg : (w2.alloc (.cells #[.int .i64 0, .int .i64 1] 27)).alloc (.cells #[.int .i64 2, .slice (some ⟨ga, 0, none⟩) 1 1, .int .i64 2, .slice (some ⟨gb, 0, none⟩) 1 1, .slice (some ⟨w2.heap.size, 0, none⟩) 1 1] 30) = w3 at *
  clear hg
  generalize w2.heap.size + 1 = b1 at *
  generalize w2.heap.size = gc at *
  refine wp_region_factsI (fun _ _ => True) (s2F w b1 ga gb gc) (fun u => S13 w b1 ga gb gc u) s2U (s2R ) Kx (fun _ _ h => h) 10 10 (some 10 :: some 11 :: some 12 :: some 13 :: some 14 :: some 15 :: some 16 :: some 17 :: some 2 :: none :: []) (by kernel_rfl) (by kernel_rfl) (by kernel_rfl) (by kernel_rfl) (by kernel_rfl) (by kernel_rfl) (by decide)
    (s2F_st (fun j h e => by subst e; exact Bool.false_ne_true (h.symm.trans (by kernel_rfl)))) ?bs ?gb ?gs ?ar ?en
  case bs => exact HS1.out.below (Below.refl _ _).drew
  case gb =>
    exact fun c => trivial
  case gs =>
    exact fun _ _ _ _ _ _ _ _ => trivial
  case ar =>
    intro j o f u ho hi hB hG hpre K hK
    match j, ho, hG, hpre, hK with
    | 0, ho, hG, hpre, hK =>
      obtain rfl := Option.some.inj ho
      refine wpOp_step rfl fun K' hK' => ?_
      simp only [putL, updV]
      go_simp
      go_at_call 8
      refine (refEmpty_any 2 u (by omega)).mono ?_
      rw [emp2b]
      rintro e u5 ⟨g0, rfl, -, hr0, hb⟩
      have hz := hK' _ _ (hK (.agg #[.int .i64 2, .slice (some ⟨g0, 0, none⟩) 1 1]) (u5) (hB.below hb) (s2R_of hb (by decide)) (⟨g0, rfl, hr0⟩))
      refine Eq.mp (congrArg (fun act => K' act (u5)) ?_) hz
      kernel_rfl
    | 1, ho, hG, hpre, hK =>
      obtain rfl := Option.some.inj ho
      obtain ⟨g0, e0, q00⟩ : ∃ g0 : Nat, f 0 = .agg #[.int .i64 2, .slice (some ⟨g0, 0, none⟩) 1 1] ∧ Row u g0 [0] := hpre ⟨0, .data⟩ (by simp) rfl (.inl rfl)
      obtain ⟨f, rfl⟩ := fixG f 0 _ e0
      clear e0
      refine wpOp_step rfl fun K' hK' => ?_
      simp only [putL, updV]
      go_simp
      go_at_call 28
      refine (refPut_any 2 (some ⟨g0, 0, none⟩) 1 1 [0] 0 u (q00.arg (by decide)) (by omega) rfl (by omega)).mono ?_
      rw [show Bs.put [0] 0 = [1] from rfl]
      rintro e u5 ⟨g1, rfl, -, hr1, hb⟩
      have hz := hK' _ _ (hK (.agg #[.int .i64 2, .slice (some ⟨g1, 0, none⟩) 1 1]) (u5) (hB.below hb) (s2R_of hb (by decide)) (⟨g1, rfl, hr1⟩))
      refine Eq.mp (congrArg (fun act => K' act (u5)) ?_) hz
      kernel_rfl
    | 2, ho, hG, hpre, hK =>
      obtain rfl := Option.some.inj ho
      obtain ⟨g1, e1, q10⟩ : ∃ g1 : Nat, f 1 = .agg #[.int .i64 2, .slice (some ⟨g1, 0, none⟩) 1 1] ∧ Row u g1 [1] := hpre ⟨1, .data⟩ (by simp) rfl (.inl rfl)
      have hb := (Below.refl u.heap.size u).alloc (Nat.le_refl _) (.cells #[.int .i64 2, .slice (some ⟨g1, 0, none⟩) 1 1] 24)
      obtain ⟨f, rfl⟩ := fixG f 1 _ e1
      clear e1
      refine wpOp_step rfl fun K' hK' => ?_
      simp only [putL, updV]
      go_simp
      have hz := hK' _ _ (hK (.slice (some ⟨u.heap.size, 0, none⟩) 1 1) (u.alloc (.cells #[.int .i64 2, .slice (some ⟨g1, 0, none⟩) 1 1] 24)) (hB.below hb) (s2R_of hb (by decide)) (⟨_, g1, rfl, Fb.new u _ _, q10.below hb q10.lt⟩))
      refine Eq.mp (congrArg (fun act => K' act (u.alloc (.cells #[.int .i64 2, .slice (some ⟨g1, 0, none⟩) 1 1] 24))) ?_) hz
      kernel_rfl
    | 3, ho, hG, hpre, hK =>
      obtain rfl := Option.some.inj ho
      obtain ⟨y0, y1, y2, y3, y4⟩ := hB.box.five
      have hl := hB.box.lt
      refine wpOp_step rfl fun K' hK' => ?_
      simp only [putL, updV]
      go_simp
      have hz := hK' _ _ (hK (.agg #[.int .i64 2, .slice (some ⟨ga, 0, none⟩) 1 1, .int .i64 2, .slice (some ⟨gb, 0, none⟩) 1 1, .slice (some ⟨gc, 0, none⟩) 1 1]) (u) (hB) (s2R_refl _ _ (by decide)) (rfl))
      refine Eq.mp (congrArg (fun act => K' act (u)) ?_) hz
      kernel_rfl
    | 4, ho, hG, hpre, hK =>
      obtain rfl := Option.some.inj ho
      have e3 : f 3 = .agg #[.int .i64 2, .slice (some ⟨ga, 0, none⟩) 1 1, .int .i64 2, .slice (some ⟨gb, 0, none⟩) 1 1, .slice (some ⟨gc, 0, none⟩) 1 1] := hpre ⟨3, .data⟩ (by simp) rfl (.inl rfl)
      obtain ⟨f, rfl⟩ := fixG f 3 _ e3
      clear e3
      refine wpOp_step rfl fun K' hK' => ?_
      simp only [putL, updV]
      go_simp
      have hz := hK' _ _ (hK (.agg #[.int .i64 0, .int .i64 2, .slice (some ⟨ga, 0, none⟩) 1 1, .int .i64 2, .slice (some ⟨gb, 0, none⟩) 1 1, .slice (some ⟨gc, 0, none⟩) 1 1]) (u) (hB) (s2R_refl _ _ (by decide)) (rfl))
      refine Eq.mp (congrArg (fun act => K' act (u)) ?_) hz
      kernel_rfl
    | 5, ho, hG, hpre, hK =>
      obtain rfl := Option.some.inj ho
      have e4 : f 4 = .agg #[.int .i64 0, .int .i64 2, .slice (some ⟨ga, 0, none⟩) 1 1, .int .i64 2, .slice (some ⟨gb, 0, none⟩) 1 1, .slice (some ⟨gc, 0, none⟩) 1 1] := hpre ⟨4, .data⟩ (by simp) rfl (.inl rfl)
      have hb := (Below.refl u.heap.size u).alloc (Nat.le_refl _) (.cells #[.int .i64 0, .int .i64 2, .slice (some ⟨ga, 0, none⟩) 1 1, .int .i64 2, .slice (some ⟨gb, 0, none⟩) 1 1, .slice (some ⟨gc, 0, none⟩) 1 1] 33)
      obtain ⟨f, rfl⟩ := fixG f 4 _ e4
      clear e4
      refine wpOp_step rfl fun K' hK' => ?_
      simp only [putL, updV]
      go_simp
      have hz := hK' _ _ (hK (.slice (some ⟨u.heap.size, 0, none⟩) 1 1) (u.alloc (.cells #[.int .i64 0, .int .i64 2, .slice (some ⟨ga, 0, none⟩) 1 1, .int .i64 2, .slice (some ⟨gb, 0, none⟩) 1 1, .slice (some ⟨gc, 0, none⟩) 1 1] 33)) (hB.below hb) (s2R_of hb (by decide)) (⟨_, rfl, Fb.new u _ _⟩))
      refine Eq.mp (congrArg (fun act => K' act (u.alloc (.cells #[.int .i64 0, .int .i64 2, .slice (some ⟨ga, 0, none⟩) 1 1, .int .i64 2, .slice (some ⟨gb, 0, none⟩) 1 1, .slice (some ⟨gc, 0, none⟩) 1 1] 33))) ?_) hz
      kernel_rfl
    | 6, ho, hG, hpre, hK =>
      obtain rfl := Option.some.inj ho
      obtain ⟨h5, e5, q50⟩ : ∃ h5 : Nat, f 5 = .slice (some ⟨h5, 0, none⟩) 1 1 ∧ Fb u h5 #[.int .i64 0, .int .i64 2, .slice (some ⟨ga, 0, none⟩) 1 1, .int .i64 2, .slice (some ⟨gb, 0, none⟩) 1 1, .slice (some ⟨gc, 0, none⟩) 1 1] 33 := hpre ⟨5, .data⟩ (by simp) rfl (.inl rfl)
      have hb := (Below.refl u.heap.size u).alloc (Nat.le_refl _) (.cells #[.slice (some ⟨h5, 0, none⟩) 1 1] 34)
      obtain ⟨f, rfl⟩ := fixG f 5 _ e5
      clear e5
      refine wpOp_step rfl fun K' hK' => ?_
      simp only [putL, updV]
      go_simp
      have hz := hK' _ _ (hK (.slice (some ⟨u.heap.size, 0, none⟩) 1 1) (u.alloc (.cells #[.slice (some ⟨h5, 0, none⟩) 1 1] 34)) (hB.below hb) (s2R_of hb (by decide)) (⟨_, h5, rfl, Fb.new u _ _, q50.below hb q50.lt⟩))
      refine Eq.mp (congrArg (fun act => K' act (u.alloc (.cells #[.slice (some ⟨h5, 0, none⟩) 1 1] 34))) ?_) hz
      kernel_rfl
    | 7, ho, hG, hpre, hK =>
      obtain rfl := Option.some.inj ho
      obtain ⟨h2, g1, e2, q20, q21⟩ : ∃ h2 : Nat, ∃ g1 : Nat, f 2 = .slice (some ⟨h2, 0, none⟩) 1 1 ∧ Fb u h2 #[.int .i64 2, .slice (some ⟨g1, 0, none⟩) 1 1] 24 ∧ Row u g1 [1] := hpre ⟨2, .data⟩ (by simp) rfl (.inl rfl)
      obtain ⟨h6, h5, e6, q60, q61⟩ : ∃ h6 : Nat, ∃ h5 : Nat, f 6 = .slice (some ⟨h6, 0, none⟩) 1 1 ∧ Fb u h6 #[.slice (some ⟨h5, 0, none⟩) 1 1] 34 ∧ Fb u h5 #[.int .i64 0, .int .i64 2, .slice (some ⟨ga, 0, none⟩) 1 1, .int .i64 2, .slice (some ⟨gb, 0, none⟩) 1 1, .slice (some ⟨gc, 0, none⟩) 1 1] 33 := hpre ⟨6, .data⟩ (by simp) rfl (.inl rfl)
      obtain ⟨f, rfl⟩ := fixG f 2 _ e2
      rw [updV_ne _ _ (by decide)] at e6
      obtain ⟨f, rfl⟩ := fixG f 6 _ e6
      clear e2 e6
      refine wpOp_step rfl fun K' hK' => ?_
      simp only [putL, updV]
      go_simp
      have hz := hK' _ _ (hK (.agg #[.int .i64 2, .slice (some ⟨h2, 0, none⟩) 1 1, .slice (some ⟨h6, 0, none⟩) 1 1]) (u) (hB) (s2R_refl _ _ (by decide)) (⟨h2, g1, h6, h5, rfl, q20, q21, q60, q61⟩))
      refine Eq.mp (congrArg (fun act => K' act (u)) ?_) hz
      kernel_rfl
    | 8, ho, hG, hpre, hK =>
      obtain rfl := Option.some.inj ho
      have hb := (Below.refl u.heap.size u).alloc (Nat.le_refl _) (.cells #[.int .i64 0, .slice none 0 0, .slice none 0 0] 37)
      refine wpOp_step rfl fun K' hK' => ?_
      simp only [putL, updV]
      go_simp
      have hz := hK' _ _ (hK (.pointer (some ⟨u.heap.size, 0, none⟩)) (u.alloc (.cells #[.int .i64 0, .slice none 0 0, .slice none 0 0] 37)) (hB.below hb) (s2R_of hb (by decide)) (⟨_, rfl, Fb.new u _ _, hB.bel.size⟩))
      refine Eq.mp (congrArg (fun act => K' act (u.alloc (.cells #[.int .i64 0, .slice none 0 0, .slice none 0 0] 37))) ?_) hz
      kernel_rfl
    | 9, ho, hG, hpre, hK =>
      obtain rfl := Option.some.inj ho
      obtain ⟨bO, e8, q80, q81⟩ : ∃ bO : Nat, f 8 = .pointer (some ⟨bO, 0, none⟩) ∧ Fb u bO #[.int .i64 0, .slice none 0 0, .slice none 0 0] 37 ∧ w.heap.size ≤ bO := hpre ⟨8, .data⟩ (by simp) rfl (.inr rfl)
      obtain ⟨h2, g1, h6, h5, e7, q70, q71, q72, q73⟩ : ∃ h2 : Nat, ∃ g1 : Nat, ∃ h6 : Nat, ∃ h5 : Nat, f 7 = .agg #[.int .i64 2, .slice (some ⟨h2, 0, none⟩) 1 1, .slice (some ⟨h6, 0, none⟩) 1 1] ∧ Fb u h2 #[.int .i64 2, .slice (some ⟨g1, 0, none⟩) 1 1] 24 ∧ Row u g1 [1] ∧ Fb u h6 #[.slice (some ⟨h5, 0, none⟩) 1 1] 34 ∧ Fb u h5 #[.int .i64 0, .int .i64 2, .slice (some ⟨ga, 0, none⟩) 1 1, .int .i64 2, .slice (some ⟨gb, 0, none⟩) 1 1, .slice (some ⟨gc, 0, none⟩) 1 1] 33 := hpre ⟨7, .data⟩ (by simp) rfl (.inl rfl)
      obtain ⟨y0, y1, y2⟩ := q80.three
      have f0 := q80.frozen 0
      have f1 := q80.frozen 1
      have f2 := q80.frozen 2
      have hl := q80.lt
      have hs := three_stp q80 (.int .i64 2) (.slice (some ⟨h2, 0, none⟩) 1 1) (.slice (some ⟨h6, 0, none⟩) 1 1)
      obtain ⟨f, rfl⟩ := fixG f 8 _ e8
      rw [updV_ne _ _ (by decide)] at e7
      obtain ⟨f, rfl⟩ := fixG f 7 _ e7
      clear e8 e7
      refine wpOp_step rfl fun K' hK' => ?_
      simp only [putL, updV]
      go_simp
      have hz := hK' _ _ (hK (undef) (((u.setCell ⟨bO, 0, none⟩ (.int .i64 2)).setCell ⟨bO, 1, none⟩ (.slice (some ⟨h2, 0, none⟩) 1 1)).setCell ⟨bO, 2, none⟩ (.slice (some ⟨h6, 0, none⟩) 1 1)) (hB.put hs (((hB.bel.setCell (by exact q81) _).setCell (by exact q81) _).setCell (by exact q81) _)) (s2R_w hs) (⟨bO, h2, g1, h6, h5, rfl, ((q80.set 0 _).set 1 _).set 2 _, hs.fb q70 (by decide), hs.row q71 (by decide), hs.fb q72 (by decide), hs.fb q73 (by decide)⟩))
      refine Eq.mp (congrArg (fun act => K' act (((u.setCell ⟨bO, 0, none⟩ (.int .i64 2)).setCell ⟨bO, 1, none⟩ (.slice (some ⟨h2, 0, none⟩) 1 1)).setCell ⟨bO, 2, none⟩ (.slice (some ⟨h6, 0, none⟩) 1 1))) ?_) hz
      kernel_rfl
    | j + 10, ho, hG, hpre, hK => exact absurd hi (by omega)
  case en =>
    intro Q2 hQ2 f u hB hF
    obtain ⟨bO, h2, g1, h6, h5, e8, q90, q91, q92, q93, q94⟩ : ∃ bO : Nat, ∃ h2 : Nat, ∃ g1 : Nat, ∃ h6 : Nat, ∃ h5 : Nat, f 8 = .pointer (some ⟨bO, 0, none⟩) ∧ Fb u bO #[.int .i64 2, .slice (some ⟨h2, 0, none⟩) 1 1, .slice (some ⟨h6, 0, none⟩) 1 1] 37 ∧ Fb u h2 #[.int .i64 2, .slice (some ⟨g1, 0, none⟩) 1 1] 24 ∧ Row u g1 [1] ∧ Fb u h6 #[.slice (some ⟨h5, 0, none⟩) 1 1] 34 ∧ Fb u h5 #[.int .i64 0, .int .i64 2, .slice (some ⟨ga, 0, none⟩) 1 1, .int .i64 2, .slice (some ⟨gb, 0, none⟩) 1 1, .slice (some ⟨gc, 0, none⟩) 1 1] 33 := hF 9 (by decide) rfl
    have HS2 := hid hB
    have HQ := hid (And.intro q90 (And.intro q91 (And.intro q92 (And.intro q93 q94))))
    obtain ⟨f, rfl⟩ := fixG f 8 _ e8
    clear e8
    clear hF
    show wpAny _ _ _ _ 0 (tailArr 10 10) _ _
    refine ⟨by kernel_rfl, hQ2 _ _ (hKx _ _ ?_)⟩
    simp only [putL, updV]
    clear q90 q91 q92 q93 q94 hB HS1
    obtain ⟨x0, x1, x2⟩ := HQ.out.1.three
    have HC := hid (eResolve_any 2 1 0 (some ⟨h2, 0, none⟩) (some ⟨h6, 0, none⟩) 1 1 _ _ [] u (x13_mem HQ.out.2.1 HQ.out.2.2.1 HQ.out.2.2.2.1 HQ.out.2.2.2.2 HS2.out.ra HS2.out.rb HS2.out.cp) (x13_ok h2 g1 h6 h5 ga gb gc) (x13_lk h2 g1 h6 h5 ga gb gc) (by omega) (by omega) (by omega))
    have HP := hid (((x13_ok h2 g1 h6 h5 ga gb gc).pw (x13_mem HQ.out.2.1 HQ.out.2.2.1 HQ.out.2.2.2.1 HQ.out.2.2.2.2 HS2.out.ra HS2.out.rb HS2.out.cp)))
    have HB2 := hid HS2.out.bel
    clear HQ HS2
    go_wp2_with fail
    refine HC.out.mono ?_
    clear HC x0 x1 x2
    rintro _ w4 ⟨gB, gI, B, J, rfl, how, hto, hno, hb4⟩
    obtain ⟨z, hz⟩ : ∃ z, B[0]? = some z := ⟨_, List.getElem?_eq_getElem (by rw [how.bl]; omega)⟩
    obtain ⟨r, hr⟩ : ∃ r, J[0]? = some r := ⟨_, List.getElem?_eq_getElem (by rw [how.jl]; omega)⟩
    have hra := how.rt r (List.mem_of_getElem? hr)
    have hrl : r.l = [] := by
      cases e : r.l with
      | nil => rfl
      | cons a l =>
        have h1 := hno r hr a (by rw [e]; exact List.mem_cons_self)
        have h2 := hra.ris.2 a.m (List.mem_map.2 ⟨a, by rw [e]; exact List.mem_cons_self, rfl⟩)
        omega
    have hrn : r.n = 0 := by rw [← hra.len, hrl]; rfl
    obtain ⟨o1, i1, n1⟩ := how.pok
    have hall : ∀ l ∈ (pwO 2 B J).arcs, l = [] := fun l hl => by
      obtain ⟨r2, hr2, rfl⟩ := List.mem_map.1 hl
      obtain ⟨k, hk⟩ := List.mem_iff_getElem?.1 hr2
      have hkl := (List.getElem?_eq_some_iff.1 hk).1
      rw [how.jl] at hkl
      obtain rfl : k = 0 := by omega
      rw [hr] at hk
      obtain rfl := Option.some.inj hk
      show r.l.map AH.pa = []
      rw [hrl]; rfl
    obtain ⟨J0, hJ1, hJ2⟩ := none_last o1 hall
    have hle := hto.least HP.out.inn i1 HP.out.ok o1 (x13_last h2 g1 h6 h5 ga gb gc).1 hJ1
    have hws : B.map ZH.ws = [[3]] := by
      show (pwO 2 B J).bd = [[3]]
      rw [← hJ2, hle]
      exact (x13_last h2 g1 h6 h5 ga gb gc).2
    have hz3 : z.ws = [3] := by
      have h1 := congrArg (fun l => l[0]?) hws
      simp only [List.getElem?_map, hz, Option.map_some, List.getElem?_cons_zero] at h1
      exact Option.some.inj h1
    have hzt := how.bt z (List.mem_of_getElem? hz)
    have hzw := hzt.w
    have hza := hzt.t.arg
    obtain ⟨ZW, ZA, zn, zc, zs⟩ := z
    simp only at hz3 hzw hza
    subst hz3
    subst hzw
    have hzn : zn = 1 := by rw [← hza.len]; rfl
    subst hzn
    have hm : (J.map AL.v)[0]? = some (.slice r.A 0 r.c) := by rw [List.getElem?_map, hr, ← hrn]; rfl
    have hba := (Below.refl w4.heap.size w4).alloc (Nat.le_refl _) (.cells #[.int .i64 2, .slice (some ⟨gB, 0, none⟩) 1 1, .slice (some ⟨gI, 0, none⟩) 1 1] 37)
    have how5 := how.below hba
    have h5 := Fb.new w4 #[.int .i64 2, .slice (some ⟨gB, 0, none⟩) 1 1, .slice (some ⟨gI, 0, none⟩) 1 1] 37
    have Hza := hid (hza.below hba)
    have HK := hid (fun (v : World) (hv : Below (w4.alloc (.cells #[.int .i64 2, .slice (some ⟨gB, 0, none⟩) 1 1, .slice (some ⟨gI, 0, none⟩) 1 1] 37)).heap.size (w4.alloc (.cells #[.int .i64 2, .slice (some ⟨gB, 0, none⟩) 1 1, .slice (some ⟨gI, 0, none⟩) 1 1] 37)) v) => show v.cell? ⟨w4.heap.size, 1, none⟩ = some (.slice (some ⟨gB, 0, none⟩) 1 1) ∧ v.cell? ⟨w4.heap.size, 2, none⟩ = some (.slice (some ⟨gI, 0, none⟩) 1 1) ∧ v.cell? ⟨gI, 0, none⟩ = some (.slice r.A 0 r.c) ∧ v.cell? ⟨gB, 0, none⟩ = some (.int .i64 2) ∧ v.cell? ⟨gB, 1, none⟩ = some (.slice ZA 1 zc) from by
      obtain ⟨y0, y1, y2⟩ := (h5.below hv h5.lt).three
      have how6 := how5.below hv
      obtain ⟨p0, p1⟩ := how6.cellB hz
      exact ⟨y1, y2, how6.cellM hm, p0, p1⟩)
    have Hb5 := hid (below_step (below_step HB2.out hb4) hba)
    clear how hto hno hb4 hz hr hra hrl hrn o1 i1 n1 hall hJ1 hJ2 hle hws hzt hza hm hba how5 h5 HP HB2
    go_upto_region 4 with fail
    generalize w4.alloc (.cells #[.int .i64 2, .slice (some ⟨gB, 0, none⟩) 1 1, .slice (some ⟨gI, 0, none⟩) 1 1] 37) = w5 at *
    generalize w4.heap.size = b5 at *
    have Hcur := hid ((Below.refl w5.heap.size w5).drew)
    go_region_held3 (fun u => u.cell? ⟨b5, 1, none⟩ = some (.slice (some ⟨gB, 0, none⟩) 1 1) ∧ u.cell? ⟨b5, 2, none⟩ = some (.slice (some ⟨gI, 0, none⟩) 1 1) ∧ u.cell? ⟨gI, 0, none⟩ = some (.slice r.A 0 r.c) ∧ u.cell? ⟨gB, 0, none⟩ = some (.int .i64 2) ∧ u.cell? ⟨gB, 1, none⟩ = some (.slice ZA 1 zc))
      (exact HK.out _ Hcur.out)
      (first
       | (go_at_call 9
          go_must (
          refine (refFull_any 2 _ (by omega)).mono ?_
          rw [full2b]
          rintro e wn ⟨AF, nF, cF, rfl, haF, hbk⟩
          have HaF := hid haF
          have Hcur := hid (below_step Hcur.out hbk)
          clear haF hbk))
       | (go_at_call 35
          go_must (
          refine (refSame_any 2 2 ZA AF 1 zc nF cF [3] [3] _ (Hza.out.below Hcur.out) HaF.out (by decide)).mono ?_
          rw [show sameB 2 [3] 2 [3] = true from rfl]
          rintro e wn ⟨rfl, hbk⟩
          have Hcur := hid (below_step Hcur.out hbk)
          clear hbk)))
    all_goals
      go_wp2_with fail
      go_ret
      exact ⟨rfl, below_step Hb5.out Hcur.out⟩
end Go.Proofs.YtbjaebbmajhjjaaGreat
namespace Go.Proofs.YtbjaebbmajhjjaaGreat
set_option maxRecDepth 20000
set_option linter.unusedVariables false
set_option linter.unusedSimpArgs false
open Go.ChangeShapes Go.WideShapes Go.ChangeAt Go.RowKit
theorem zsame_all {v N : Nat} {l m : List ZH} (hl : l.length = N) (hm : m.length = N) (h1 : ∀ z ∈ l, z.W = v ∧ Bs.Fit v z.ws) (h2 : ∀ z ∈ m, z.W = v ∧ Bs.Fit v z.ws) (he : l.map ZH.ws = m.map ZH.ws) : (l.zip m).all zsame = true := by
  have len : l.length = m.length := by omega
  clear hl hm
  induction l generalizing m with
  | nil => simp
  | cons a l ih => cases m with
    | nil => simp at len
    | cons b m =>
      rw [List.map_cons, List.map_cons] at he
      injection he with e1 e2
      rw [List.zip_cons_cons, List.all_cons, ih (fun z hz => h1 z (List.mem_cons_of_mem _ hz)) (fun z hz => h2 z (List.mem_cons_of_mem _ hz)) e2 (by simpa using len)]
      unfold zsame sameB
      rw [(h1 a List.mem_cons_self).1, (h2 b List.mem_cons_self).1, e1]
      simp
set_option maxHeartbeats 6400000 in
theorem lawSolves (At : Option Addr) (nt ct : Nat) (zs : List Int) (w : World) (ht : IArg w At nt zs) (hnt : nt ≤ maxLen) :
    Calls Tryz.prog 7 #[.slice At nt ct] w fun e w' => e = .returned (.bool true) ∧ Below w.heap.size w w' := by
  have HT := hid (tape_new (c := ct) ht hnt)
  have HB := hid ((Below.refl w.heap.size w).alloc (Nat.le_refl _) (.cells #[.slice At nt ct, .int .i64 0] 78))
  clear ht
  go_enter Tryz.func7, Tryz.ntmps7
  go_wp2_with fail
  refine (new_any At nt ct w).mono ?_
  rintro e w0 ⟨rfl, rfl⟩
  go_wp2_with fail
  refine (system_any w.heap.size 6 _ HT.out (by omega) (by omega)).mono ?_
  rintro e w1 ⟨s, v, N, rfl, hs, hg, hN, htp, hgr⟩
  have ho := hg.ok hs (by omega)
  have hv4 := hg.v4
  have HB1 := hid (after_app HB.out hgr (Nat.le_refl _))
  have hba := (Below.refl w1.heap.size w1).alloc (Nat.le_refl _) (.cells s.box 62)
  have HB2 := hid (below_step HB1.out hba)
  have Hs := hid (hs.below hba)
  have HC := hid (webC s v N [some w.heap.size] _ Hs.out ho)
  have HBx := hid (Fb.new w1 s.box 62)
  have Ho := hid ho
  have hv := ho.v256
  have hN2 := ho.n256
  clear hs hg htp hgr ho hba HB HT HB1
  unfold SY.a at HC ⊢
  unfold SY.box at *
  go_upto_region 2 with fail
  generalize w1.alloc (.cells #[.int .i64 s.W, .slice s.D.A s.D.n s.D.c, .slice s.T.A s.T.n s.T.c, .slice s.B.A s.B.n s.B.c] 62) = w2 at *
  generalize w1.heap.size = bx at *
  obtain ⟨c0, c1, c2, c3⟩ := HBx.out.four
  go_wp2_with fail
  refine HC.out.mono ?_
  rintro e w4 ⟨BA, bc, bl, IA, ic, il, rfl, hx, hox, hpw, hb4⟩
  have hba := (Below.refl w4.heap.size w4).alloc (Nat.le_refl _) (.cells #[.int .i64 v, .slice BA N bc, .slice IA N ic] 37)
  have hb5 := below_step hb4 hba
  have HB4 := hid (below_step HB2.out hb5)
  have HBx4 := hid (HBx.out.below hb5 HBx.out.lt)
  have Hs4 := hid (Hs.out.below hb5)
  obtain ⟨K0, hK0⟩ := PW.last _ (hox.pw hx).ok (hox.pw hx).inn
  have HE := hid (esolve_any v N K0 BA IA bc ic bl il [] _ (hx.below hba) hox (WLk.of hox Ho.out hpw) (by omega) (by omega) hK0)
  rw [hpw] at HE
  have HWb := hid (Fb.new w4 #[.int .i64 v, .slice BA N bc, .slice IA N ic] 37)
  clear hx hox hpw hb4 hb5 hba HB2 HC HBx Hs c0 c1 c2 c3 hK0
  go_upto_region 3 with fail
  generalize (w4.alloc (.cells #[.int .i64 v, .slice BA N bc, .slice IA N ic] 37)) = w5 at *
  generalize w4.heap.size = bw at *
  obtain ⟨c0, c1, c2⟩ := HWb.out.three
  go_wp2_with fail
  refine HE.out.mono ?_
  rintro e w6 ⟨K, g, l, hK, rfl, hzl, hok, hvs, hb6⟩
  have HB6 := hid (below_step HB4.out hb6)
  have HBx6 := hid (HBx4.out.below hb6 HBx4.out.lt)
  have HC := hid (solve_any s v N [some w.heap.size] _ (Hs4.out.below hb6) Ho.out)
  have HK := hid hK
  have Hzl := hid hzl
  have Hok := hid hok
  have Hvs := hid hvs
  clear hK hzl hok hvs hb6 HB4 HBx4 HE HWb c0 c1 c2 Hs4
  obtain ⟨c0, c1, c2, c3⟩ := HBx6.out.four
  unfold SY.a at HC
  go_wp2_with fail
  refine HC.out.mono ?_
  rintro e w7 ⟨K2, g2, l2, hK2, rfl, hg2, hrow2, hok2, hvs2, hb7⟩
  obtain rfl := hK2.unique HK.out
  have HB7 := hid (below_step HB6.out hb7)
  have Hzl7 := hid (Hzl.out.below hb7)
  have Hrow2 := hid hrow2
  have hsame := zsame_all Hzl7.out.len hrow2.len Hok.out hok2 (Hvs.out.trans hvs2.symm)
  have HSS := hid (fun (u : World) (hu : Below w7.heap.size w7 u) => sameSets_any ⟨some ⟨g, 0, none⟩, N, N, l⟩ ⟨some ⟨g2, 0, none⟩, N, N, l2⟩ [] [] u (Hzl7.out.below hu) ((Hrow2.out.below hu).zl (by omega)) (fun z hz => by
    have h1 := (Hzl7.out.all z hz).len
    have h2 := (Hok.out z hz).2.len
    rw [← h1, h2]
    unfold Bs.nw maxLen; omega))
  simp only [hsame] at HSS
  clear hK2 hg2 hrow2 hok2 hvs2 hb7 HB6 HC hsame c0 c1 c2 c3 HBx6 Hzl
  go_wp2_with fail
  refine (HSS.out _ (Below.refl _ _)).mono ?_
  rintro e w8 ⟨rfl, hb8⟩
  have HB8 := hid (below_step HB7.out hb8)
  clear hb8 HSS
  go_wp2_with fail
  refine (sane13_any _).mono ?_
  rintro e w9 ⟨rfl, hb9⟩
  have HB9 := hid (below_step HB8.out hb9)
  clear hb9
  go_wp2_with fail
  go_ret
  exact ⟨rfl, HB9.out⟩
end Go.Proofs.YtbjaebbmajhjjaaGreat
namespace Go.Proofs.YtbjaebbmajhjjaaGreat
set_option maxRecDepth 10000
open Go.ChangeShapes Go.WideShapes Go.ChangeAt Go.RowKit Go.Joins
theorem cells3 : Tryz.prog.cellsOf 3 = 1 := by kernel_rfl
theorem cell_in {w : World} {a : Addr} {v : Value} (h : w.cell? a = some v) : a.block < w.heap.size := by
  rcases Nat.lt_or_ge a.block w.heap.size with hlt | hge
  · exact hlt
  · unfold World.cell? at h; rw [Array.getElem?_eq_none hge] at h; cases h
theorem open_list {H : Type} {enc : TypeId × Value → H} {W : World} {b0 base : Nat} {spare : Nat → Bool} {held : Bool} {v : Value} {d : DataW H} {p : List MemPlace}
    (hv : Value.okWide Tryz.prog W .any b0 45 v) (h : DataW.Trod enc Tryz.prog W base spare held 45 v d p) :
    ∃ (A : Option Addr) (n c : Nat) (l : List Int), v = .slice A n c ∧ IArg W A n l ∧ n ≤ maxLen := by
  obtain ⟨A, n, c, rfl⟩ := okWide_slice Tryz.underlying45 hv
  obtain ⟨fuel, hf⟩ := h
  rcases open_ints Tryz.underlying45 Tryz.underlying3 cells3 hf with ⟨hcs, _⟩ | ⟨x, l, c', zs, hcs, _, hl, hm, hz, _, hcell, hwz⟩
  · simp [Value.cells] at hcs
    obtain ⟨rfl, rfl, rfl⟩ := hcs
    exact ⟨none, 0, 0, [], rfl, ⟨.inl rfl, rfl⟩, by simp [maxLen]⟩
  · simp [Value.cells] at hcs
    obtain ⟨rfl, rfl, rfl⟩ := hcs
    have hle : n ≤ zs.length := by rw [hz]; split <;> omega
    refine ⟨some x, n, c, zs.take n, rfl, ⟨?_, by rw [List.length_take]; omega⟩, Nat.le_trans hl hm⟩
    by_cases h0 : n = 0
    · subst h0; exact .inl rfl
    · refine .inr ⟨x, rfl, ?_, fun j u hu => ?_⟩
      · have := cell_in (hcell 0 (by omega)); rwa [add_block] at this
      · unfold ints at hu
        rw [List.getElem?_map] at hu
        have hj : j < n := by
          rcases Nat.lt_or_ge j n with h | h
          · exact h
          · rw [List.getElem?_eq_none (by rw [List.length_take]; omega)] at hu; simp at hu
        rw [List.getElem?_take, if_pos hj, List.getElem?_eq_getElem (by omega)] at hu
        have := hcell j (by omega)
        rw [List.getD_eq_getElem?_getD, List.getElem?_eq_getElem (by omega)] at this
        rw [this]; simpa using hu
end Go.Proofs.YtbjaebbmajhjjaaGreat
namespace Go.Proofs.YtbjaebbmajhjjaaGreat.eliminationSolves
open Go.ChangeShapes Go.WideShapes Go.ChangeAt Go.RowKit
open Go.ChangeMaps (open_string)
set_option linter.unusedVariables false
theorem own : ownKnob Tryz.prog.godebug = none := by kernel_rfl
theorem laidOut : laidOutB Tryz.prog = true := by kernel_rfl
set_option maxRecDepth 100000 in
theorem lifted (os : Os) (started : os.Started) (H : Type) (enc : TypeId × Value → H) :
    ReturnsInHanded {} Tryz.checked os 7 .any (Rows.eliminationSolvesSpec.pre6 enc Tryz.prog Tryz.f7 Rows.eliminationSolvesRow.domain false) (Rows.eliminationSolvesSpec.post enc Tryz.prog Tryz.f7 false true false false) := by
  refine returnsInHanded_of_change (C := Tryz.checked) own started (by kernel_rfl) Tryz.func7
    (ChangeSpec.witness6 (enc := enc) (C := Tryz.checked) false ⟨#[], #[.slice none 0 0], []⟩ 8 (by kernel_rfl) (by kernel_rfl) (by kernel_rfl) (by kernel_rfl)) ?_
  intro W base args ds gs before hval0 hW hcnd _
  have hval : ∀ (j : Nat) t v, Tryz.f7.params[j]? = some t → args[j]? = some v → Value.okWide Tryz.prog W .any base t v := hval0
  have hW' := hW
  obtain ⟨p, q, hA0, hV, rfl, hfz, hnd⟩ := hW
  have hA : DataW.TrodAll enc Tryz.prog W 0 (fun _ => true) true Tryz.f7.params.toList args.toList ds p := hA0
  rw [Tryz.params7] at hA hval
  obtain ⟨v0, vs0, d0, ds0, p0, q0, hargs, rfl, rfl, h0, r0⟩ := trodAll_cons hA
  obtain ⟨rfl, rfl, rfl⟩ := trodAll_nil r0
  obtain rfl : args = #[v0] := by cases args; simp_all
  obtain ⟨rfl, rfl⟩ := trodVars_none hV
  have k0 := h0
  have lt0 : ∀ x ∈ p0, x.block < W.heap.size := by obtain ⟨m, hm⟩ := k0; exact DataW.trod_lt m _ _ _ hm
  obtain ⟨a0, n0, c0, l0, rfl, g0, m0⟩ := open_list (hval 0 45 v0 rfl rfl) h0
  clear hA0 hval0
  refine (lawSolves a0 n0 c0 l0 W g0 m0).mono fun e W' ⟨he, bel⟩ => ?_
  subst he
  exact ⟨_, rfl, _, _, _, [], _, [], hW', trodAll_mk1 (shut_bool Tryz.underlying4 _), (trodAll_cons_mk (Below.trod laidOut (by kernel_rfl) (of_decide_eq_true (by kernel_rfl)) k0 bel lt0) trodAll_mk0), rfl, bel.frame _, fun h => by cases h⟩
theorem over : Rows.eliminationSolvesRow.holds Tryz.pinned (OpenSpec.ofChange Rows.eliminationSolvesSpec) :=
  OpenClaim.holds_of_wide 7 Tryz.f7 rfl rfl rfl rfl rfl rfl rfl ⟨rfl, rfl, rfl, rfl, rfl⟩ rfl rfl rfl rfl rfl (by kernel_rfl) Tryz.func7 (by kernel_rfl)
    (of_decide_eq_true (by kernel_rfl)) (by unfold Func.isWrapper; first | (rw [if_pos (by decide +kernel)]; kernel_rfl) | (rw [if_neg (by decide +kernel)]; exact ⟨rfl, rfl⟩))
    (fun os started H enc _ => lifted os started H enc)
theorem proved : Rows.EliminationSolvesSaid := over
#print axioms proved
end Go.Proofs.YtbjaebbmajhjjaaGreat.eliminationSolves
