/- For every number of a kind and whether one more is wanted: the greatest permitted numbers of functions, blocks, statements and used names are accepted, and one more is rejected at its token: SyntaxLimits returns true and leaves its arguments as they were. The row's listed table of shapes holds what the program's text lays; the card ties it to it. No other condition. -/
import Derived.Test.YtidabbbjllofmaaDoorDq2
import Derived.Test.YtidabbbjllofmaaDoorScF
import Derived.Deep.RegionLaw
import Derived.Deep.DrawnRows
import Derived.Deep.DeepCutAuto
import Derived.Test.YtidabbbjllofmaaDoorSup
import Derived.Lib.SmallJoins
import Derived.ShutString
import Derived.ChangeOld
import Derived.Test.YtidabbbjllofmaaDoorTie
import Derived.Test.YtidabbbjllofmaaDoorCards
import Derived.Test.YtidabbbjllofmaaDoorDp1
import Derived.Deep.DeepHandedRow
import Derived.Deep.DeepWitnessRowRef
import Derived.LaidMore
import Derived.Lib.LaidTab
namespace Go.Proofs.YtidabbbjllofmaaDoor
set_option maxRecDepth 20000
set_option linter.unusedVariables false
set_option linter.unusedSimpArgs false
open Go.ChangeShapes Go.WideShapes Go.ChangeAt Go.RowKit
attribute [local go_sem] fieldTok0 fieldTok1 fieldTok2 fieldTok3
attribute [local go_sem ↓] Go.wp_at_zero Go.wp_at_succ

def PP (x : PH) : World → List (Option Nat) → Prop := fun w ex => PHok w ex x
theorem PP.go {x : PH} {w w' : World} {ex ex' : List (Option Nat)} (h : PP x w ex) (hg : Go2 w ex w' ex') : PP x w' ex' := PHok.go h hg
def RetDp (w : World) (b : Nat) (r : List Fnc × Ds) (e : Ending) (w' : World) : Prop := ∃ x : PH, e = .returned (.agg #[.slice x.A x.n x.c]) ∧ x.p = r.1 ∧ Fr w.heap.size (PP x) w' ∧ DTo w b r.2 w'
theorem pp_of {w : World} {base : Nat} {B : Option Addr} {d : Nat} {l : List FH} (hown : w.ownsRow base 59 2 (.slice B l.length d) l.length (l.flatMap fhc)) (hall : ∀ x ∈ l, Fr base (FP x) w) (hl : l.length ≤ 40) : Fr base (PP ⟨B, l.length, d, l⟩) w :=
  fun ex he => ⟨EAt.own hown (fun g hg hin => by have h1 := (hown.lt g hg).1; have h2 := he g hin; omega), rfl, hl, fun y hy => hall y hy ex he⟩
set_option maxHeartbeats 3200000 in
theorem devProgram_any (b : Nat) (σ : Ds) (w : World) (h : Dst w b σ) : Calls Tryd.prog 40 #[.pointer (some ⟨b, 0, none⟩)] w (RetDp w b (progS σ)) := by
  have HR : Hid (progS σ = ((someS begF funcS 8 σ).1, if (someS begF funcS 8 σ).2.l.isEmpty then (someS begF funcS 8 σ).2 else failS 4 (someS begF funcS 8 σ).2)) := hid rfl
  have Hlt := hid h.lt
  have h0 := hid (show Dst (w.alloc (.cells #[.slice none 0 0] 34)) b σ from h.below ((Below.refl _ _).alloc (Nat.le_refl _) _) h.lt)
  have hf0 := hid (Fb.new w #[.slice none 0 0] 34)
  have hb0 := hid ((Below.refl w.heap.size w).alloc (Nat.le_refl _) (.cells #[.slice none 0 0] 34))
  have hwa := hid (show (w.alloc (.cells #[.slice none 0 0] 34)).heap.size = w.heap.size + 1 by rw [World.size_alloc])
  clear h
  go_enter Tryd.func40, Tryd.ntmps40
  go_wp2_with fail
  generalize w.alloc (.cells #[.slice none 0 0] 34) = wa at *
  refine (devSome_func b σ _ h0.out).mono ?_
  rintro e w1 ⟨B, d, l, rfl, hl, hown, hfr, h1⟩
  have H1 := hid (DTo.belowl hb0.out h1)
  have hf1 := hid (hf0.out.grown h1.2 (by have := Hlt.out; simp; omega))
  have hl2 : l.length ≤ 8 := by
    have h1 : (l.map FH.f).length = (someS begF funcS 8 σ).1.length := by rw [hl]
    have h2 : (someS begF funcS 8 σ).1.length ≤ 8 := listS_len begF funcS 8 σ
    rw [List.length_map] at h1; omega
  rw [← hl] at HR
  have Hp := hid ((pp_of hown hfr (by omega)).less (show w.heap.size + 1 ≤ wa.heap.size by have := hwa.out; omega))
  generalize (someS begF funcS 8 σ).2 = σ1 at *
  have HA := hid ((Below.refl w1.heap.size w1).alloc (Nat.le_refl _) (.cells #[.slice B l.length d] 34))
  have H2 := hid (H1.out.belowr HA.out)
  have hf2 := hid (hf1.out.below HA.out hf1.out.lt)
  have hf3 := hid (Fb.new w1 #[.slice B l.length d] 34)
  have Hp2 : Hid (Fr (w.heap.size + 1) (PP ⟨B, l.length, d, l⟩) (w1.alloc (.cells #[.slice B l.length d] 34))) := hid (Fr.grown (fun h hg => PP.go h hg) Hp.out (grown_of_below HA.out none) (fun k hk => by cases hk))
  have hg1 := hid (show w.heap.size < w1.heap.size from hf1.out.lt)
  clear hl hown hfr h1 h0 hf0 hb0 H1 hf1 Hp HA
  generalize hm : l.length = m at *
  have Hm := hid hm
  clear hm
  obtain ⟨A0, c0, hfb, -, -⟩ := H2.out.1.ex
  obtain ⟨⟨q0, -, -, -⟩, -⟩ := hfb.fourc
  have hfew := H2.out.1.few
  clear hfb
  obtain ⟨l1, ln1, cl1, er1⟩ := σ1
  simp only at q0 hfew
  go_upto_region 2 with fail
  generalize w1.alloc (.cells #[.slice B m d] 34) = w2 at *
  generalize w1.heap.size = g at *
  cases l1 with
  | nil =>
    have HR2 : Hid (progS σ = (l.map FH.f, (⟨[], ln1, cl1, er1⟩ : Ds))) := HR
    clear HR
    have k0 := hf3.out.cell 0
    have v0 := hf2.out.cell 0
    have s0 := hf2.out.frozen 0
    have hsz := hf2.out.lt
    have hb2 := hid (show DTo w b ⟨[], ln1, cl1, er1⟩ (w2.setCell ⟨w.heap.size, 0, none⟩ (.slice B m d)) from ⟨H2.out.1.far Hlt.out _, grown_set_new H2.out.2 (p := ⟨w.heap.size, 0, none⟩) (Nat.le_refl _) _⟩)
    have hpp := hid (Fr.less (M := w.heap.size) (Fr.grown (fun h hg => PP.go h hg) Hp2.out (setCell_grown w2 ⟨w.heap.size, 0, none⟩ (.slice B m d)) (fun k hk => by injection hk with hk; have : w.heap.size = k := hk; omega)) (by omega))
    go_wp2_with fail
    refine bodyPost_ret (v := .agg #[.slice B m d]) (by simp [results, Tryd.results40, go_sem, v0, s0, k0, hsz]) rfl ⟨⟨B, m, d, l⟩, rfl, ?_, hpp.out, ?_⟩
    · rw [HR2.out]; rfl
    · rw [HR2.out]; exact hb2.out
  | cons t l1 =>
    have HR2 : Hid (progS σ = (l.map FH.f, failS 4 (⟨t :: l1, ln1, cl1, er1⟩ : Ds))) := HR
    clear HR
    have hll : (t :: l1).length = l1.length + 1 := by simp
    rw [hll] at q0 hfew
    clear hll
    go_wp2_with fail
    refine (devFail_any b _ 4 _ H2.out.1).mono ?_
    rintro e w3 ⟨rfl, h3⟩
    have H3 := hid (H2.out.trans h3)
    have hf4 := hid (hf2.out.grown h3.2 (by have := Hlt.out; simp; omega))
    have hf5 := hid (hf3.out.grown h3.2 (by have := Hlt.out; have := hg1.out; simp; omega))
    have Hp3 : Hid (Fr (w.heap.size + 1) (PP ⟨B, m, d, l⟩) w3) := hid (Fr.grown (fun h hg => PP.go h hg) Hp2.out h3.2 (fun k hk => by injection hk with hk; have := Hlt.out; omega))
    clear h3 H2 hf2 hf3 Hp2 q0
    have k0 := hf5.out.cell 0
    have v0 := hf4.out.cell 0
    have s0 := hf4.out.frozen 0
    have hsz := hf4.out.lt
    have hb2 := hid (show DTo w b (failS 4 ⟨t :: l1, ln1, cl1, er1⟩) (w3.setCell ⟨w.heap.size, 0, none⟩ (.slice B m d)) from ⟨H3.out.1.far Hlt.out _, grown_set_new H3.out.2 (p := ⟨w.heap.size, 0, none⟩) (Nat.le_refl _) _⟩)
    go_wp2_with fail
    refine bodyPost_ret (v := .agg #[.slice B m d]) (by simp [results, Tryd.results40, go_sem, v0, s0, k0, hsz]) rfl ⟨⟨B, m, d, l⟩, rfl, ?_, ?_, ?_⟩
    · rw [HR2.out]; rfl
    · exact Fr.less (M := w.heap.size) (Fr.grown (fun h hg => PP.go h hg) Hp3.out (setCell_grown w3 ⟨w.heap.size, 0, none⟩ (.slice B m d)) (fun k hk => by injection hk with hk; have : w.heap.size = k := hk; omega)) (by omega)
    · rw [HR2.out]; exact hb2.out
end Go.Proofs.YtidabbbjllofmaaDoor

namespace Go.Proofs.YtidabbbjllofmaaDoor
set_option maxRecDepth 20000
set_option linter.unusedVariables false
set_option linter.unusedSimpArgs false
open Go.ChangeShapes Go.WideShapes Go.ChangeAt Go.RowKit
attribute [local go_sem ↓] Go.wp_at_zero Go.wp_at_succ

theorem own_cap {w : World} {base k n c : Nat} {e : TypeId} {A : Option Addr} {xs : List Value} (h : w.ownsRow base e k (.slice A n c) n xs) : n ≤ c := by
  rcases h.2 with ⟨_, h0⟩ | ⟨g, cap, cur, hv, _, _, hc, _⟩
  · omega
  · injection hv with _ _ e3; omega
/-- What a scan returns, with the capacity. -/
def RetScanC (r : Res) (w : World) (e : Ending) (w' : World) : Prop :=
  ∃ (A : Option Addr) (c : Nat), e = .returned (.tuple #[.slice A r.1.length c, .int .i64 (r.2.1 : Int), .int .i64 (r.2.2.1 : Int), .int .i64 r.2.2.2]) ∧ TArg w' A r.1.length r.1 ∧ r.1.length ≤ c ∧ Below w.heap.size w w'
set_option maxHeartbeats 1600000 in
theorem devScanC_any (s : ByteArray) (w : World) (hs : s.size ≤ maxLen) : Calls Tryd.prog 39 #[.string s] w (RetScanC (scanR s) w) := by
  by_cases hlt : s.size ≤ 4096
  · have hR : scanR s = scanL s 0 1 1 [] := by unfold scanR; rw [if_pos hlt]
    have HR := hid hR
    have h0 := hid (show Scn w w.heap.size s 0 1 0 (.slice none 0 0) [] (w.alloc (.cells #[.string s, .int .i64 0, .int .i64 1, .int .i64 0, .slice none 0 0] 100)) from
      ⟨Fb.new _ _ _, World.ownsRow_nil _ _ _ _, (Below.refl _ _).alloc (Nat.le_refl _) _, Nat.le_refl _⟩)
    clear hR
    unfold maxLen at hs
    go_enter Tryd.func39, Tryd.ntmps39
    go_wp2_with fail
    refine (run_any w.heap.size s w _ h0.out hlt).mono ?_
    rintro e w1 ⟨err, i, line, col, v, l, rfl, hS, hi, ⟨hc1, hc2⟩, hl, hcase⟩
    obtain ⟨⟨c0, c1, c2, c3, c4⟩, f0, f1, f2, f3, f4⟩ := Fb.five hS.1
    rcases hcase with ⟨he, hr⟩ | ⟨he, hr⟩
    · subst he
      have HS := hid hS
      have HR2 := hid (HR.out.trans hr)
      clear hr hS HR
      go_wp2_with fail
      obtain ⟨A, c, hv⟩ := own_any_slice HS.out.2.1
      subst hv
      refine bodyPost_ret (v := .tuple #[.slice A l.length c, .int .i64 0, .int .i64 0, .int .i64 0]) (by simp [results, Tryd.results39, go_sem]) rfl ?_
      rw [HR2.out]
      exact ⟨A, c, rfl, ⟨own_at HS.out.2.1, rfl⟩, own_cap HS.out.2.1, HS.out.2.2.1⟩
    · have ht : (err != 0) = true := by simpa using he
      have HS := hid hS
      have HR2 := hid (HR.out.trans hr)
      have Hcol := hid (fun q => column_any w.heap.size s i line (i + 1 - col) v (w1.drewN q) (HS.out.drewN q).1 (by omega) (by omega))
      clear hr hS HR he
      have hcc : i + 1 - (i + 1 - col) = col := by omega
      rw [hcc] at Hcol
      clear hcc
      go_wp2_with fail
      go_quiet ((go_at_call 65; first | exact Calls.quiet_of (Hcol.out _)))
      go_wp2_with fail
      refine bodyPost_ret (v := .tuple #[.slice none 0 0, .int .i64 (line : Int), .int .i64 (col : Int), .int .i64 err]) (by simp [results, Tryd.results39, go_sem]) rfl ?_
      rw [HR2.out]
      exact ⟨none, 0, rfl, TArg.nil _, Nat.le_refl _, below_drewN HS.out.2.2.1 _⟩
  · have hR : scanR s = ([], 0, 0, 7) := by unfold scanR; rw [if_neg hlt]
    have HR := hid hR
    clear hR
    unfold maxLen at hs
    go_enter Tryd.func39, Tryd.ntmps39
    go_wp2_with fail
    refine bodyPost_ret (v := .tuple #[.slice none 0 0, .int .i64 0, .int .i64 0, .int .i64 7]) (by simp [results, Tryd.results39, go_sem]) rfl ?_
    rw [HR.out]
    exact ⟨none, 0, rfl, TArg.nil _, Nat.le_refl _, Below.refl _ _⟩
def RetParse (r : Par) (w : World) (e : Ending) (w' : World) : Prop :=
  ∃ x : PH, e = .returned (.tuple #[.agg #[.slice x.A x.n x.c], .int .i64 (r.2.1 : Int), .int .i64 (r.2.2.1 : Int), .int .i64 r.2.2.2]) ∧ x.p = r.1 ∧ Fr w.heap.size (PP x) w' ∧ Below w.heap.size w w'
theorem pp_nil (w : World) (N : Nat) : Fr N (PP ⟨none, 0, 0, []⟩) w := fun ex _ => ⟨EAt.nil _ _ _, rfl, by show (0 : Nat) ≤ 40; omega, by simp⟩
theorem Shp.lt {w : World} (h : Shp w) : 0 < w.heap.size := World.block_lt_of_cell? w _ (h 0 _ rfl)
theorem Dst.start {w : World} {A : Option Addr} {c : Nat} {L : List Tok} (ha : TArg w A L.length L) (hc : L.length ≤ c) (hf : L.length ≤ 100000) (ht : AllOk L) (hs : Shp w) :
    Dst (w.alloc (.cells #[.slice A L.length c, .int .i64 0, .int .i64 0, .int .i64 0] 72)) w.heap.size ⟨L, 0, 0, 0⟩ :=
  ⟨⟨A, c, Fb.new w _ _, ha.lies.alloc (Nat.le_refl _) _, hc⟩, hf, ht, hs.keep (Below.heap_alloc w _ 0 hs.lt), hs.lt⟩
set_option maxHeartbeats 3200000 in
theorem devParse_any (s : ByteArray) (w : World) (hs : s.size ≤ maxLen) (hsh : Shp w) : Calls Tryd.prog 17 #[.string s] w (RetParse (parseS s) w) := by
  have HC := hid (fun w => devScanC_any s w hs)
  have HR : Hid (parseS s = (if (scanR s).2.2.2 == 0 then (if (progS ⟨(scanR s).1, 0, 0, 0⟩).2.e == 0 then ((progS ⟨(scanR s).1, 0, 0, 0⟩).1, 0, 0, 0) else ([], (progS ⟨(scanR s).1, 0, 0, 0⟩).2.line, (progS ⟨(scanR s).1, 0, 0, 0⟩).2.col, (progS ⟨(scanR s).1, 0, 0, 0⟩).2.e)) else ([], (scanR s).2.1, (scanR s).2.2.1, (scanR s).2.2.2))) := hid rfl
  have Htok := hid (scan_tok s)
  have Hfew := hid (scanR_few s)
  have hf0 := hid (Fb.new w #[.slice none 0 0] 34)
  have hb0 := hid ((Below.refl w.heap.size w).alloc (Nat.le_refl _) (.cells #[.slice none 0 0] 34))
  have hs0 := hid (show Shp (w.alloc (.cells #[.slice none 0 0] 34)) from hsh.keep (Below.heap_alloc w _ 0 hsh.lt))
  have hwa := hid (show (w.alloc (.cells #[.slice none 0 0] 34)).heap.size = w.heap.size + 1 by rw [World.size_alloc])
  have hw0 := hid hsh.lt
  clear hs hsh
  generalize scanR s = r at *
  obtain ⟨L, line, col, er⟩ := r
  simp only at HR Htok Hfew
  go_enter Tryd.func17, Tryd.ntmps17
  go_wp2_with fail
  generalize w.alloc (.cells #[.slice none 0 0] 34) = wa at *
  refine (HC.out _).mono ?_
  rintro e w1 ⟨A, c, rfl, ha, hc, hb1⟩
  simp only at ha hc
  have hf1 := hid (hf0.out.below hb1 hf0.out.lt)
  have hB1 := hid (hb0.out.trans (hb1.mono hb0.out.size))
  have hs1 := hid (hs0.out.keep (hb1.block 0 hs0.out.lt))
  have Hd := hid (Dst.start ha hc Hfew.out Htok.out hs1.out)
  have hsz1 := hid (show w.heap.size + 1 ≤ w1.heap.size by have := hb1.size; have := hwa.out; omega)
  clear ha hc hb1 hf0 hb0 hs0 hwa HC
  have v0 := hf1.out.cell 0
  have s0 := hf1.out.frozen 0
  have hsz := hf1.out.lt
  cases he : (er == 0) with
  | false =>
    have hne : (er != 0) = true := by simpa using he
    have HR2 : Hid (parseS s = ([], line, col, er)) := hid (by rw [HR.out, he]; rfl)
    have HB : Hid (Below w.heap.size w (w1.setCell ⟨w.heap.size, 0, none⟩ (.slice none 0 0))) := hid (hB1.out.setCell (Nat.le_refl _) _)
    clear HR he Hd
    go_wp2_with fail
    refine bodyPost_ret (v := .tuple #[.agg #[.slice none 0 0], .int .i64 (line : Int), .int .i64 (col : Int), .int .i64 er]) (by simp [results, Tryd.results17, go_sem, v0, s0, hsz]) rfl ?_
    rw [HR2.out]
    exact ⟨⟨none, 0, 0, []⟩, rfl, rfl, pp_nil _ _, HB.out⟩
  | true =>
    have hne : (er != 0) = false := by simpa using he
    have HR2 : Hid (parseS s = (if (progS ⟨L, 0, 0, 0⟩).2.e == 0 then ((progS ⟨L, 0, 0, 0⟩).1, 0, 0, 0) else ([], (progS ⟨L, 0, 0, 0⟩).2.line, (progS ⟨L, 0, 0, 0⟩).2.col, (progS ⟨L, 0, 0, 0⟩).2.e))) := hid (by rw [HR.out, he]; rfl)
    clear HR he
    have hB2 := hid (hB1.out.alloc (by have := hsz1.out; omega) (.cells #[.slice A L.length c, .int .i64 0, .int .i64 0, .int .i64 0] 72))
    have hf2 := hid (hf1.out.alloc (.cells #[.slice A L.length c, .int .i64 0, .int .i64 0, .int .i64 0] 72))
    have hszb := hid (show (w1.alloc (.cells #[.slice A L.length c, .int .i64 0, .int .i64 0, .int .i64 0] 72)).heap.size = w1.heap.size + 1 by rw [World.size_alloc])
    clear v0 s0 hsz
    go_wp2_with fail
    generalize w1.alloc (.cells #[.slice A L.length c, .int .i64 0, .int .i64 0, .int .i64 0] 72) = w2 at *
    generalize w1.heap.size = b at *
    refine (devProgram_any b ⟨L, 0, 0, 0⟩ _ Hd.out).mono ?_
    rintro e w3 ⟨x, rfl, hxp, hpp, h3⟩
    have hlt3 := hid h3.1.lt
    have hf3 := hid (hf2.out.grown h3.2 (by have := hsz1.out; simp; omega))
    have hB3 := hid (hB2.out.grown h3.2 hB2.out.size (fun k hk => by injection hk with hk; have := hsz1.out; omega))
    have Hp3 := hid (hpp.less (M := w.heap.size + 1) (by have := hsz1.out; have := hszb.out; omega))
    have Hx := hid hxp
    have Hst := hid h3.1
    clear hxp hpp h3 hf2 hB2 Hd hB1 hf1
    generalize progS ⟨L, 0, 0, 0⟩ = r at *
    obtain ⟨r1, σ⟩ := r
    obtain ⟨l1, ln1, cl1, er1⟩ := σ
    simp only at Hx Hst HR2
    obtain ⟨X, n, d, l⟩ := x

    have HA := hid ((Below.refl w3.heap.size w3).alloc (Nat.le_refl _) (.cells #[.slice X n d] 34))
    have hst4 := hid (Hst.out.below HA.out hlt3.out)
    have hf4 := hid (hf3.out.below HA.out hf3.out.lt)
    have hB4 := hid (hB3.out.trans (HA.out.mono hB3.out.size))
    have Hp4 : Hid (Fr (w.heap.size + 1) (PP ⟨X, n, d, l⟩) (w3.alloc (.cells #[.slice X n d] 34))) := hid (Fr.grown (fun h hg => PP.go h hg) Hp3.out (grown_of_below HA.out none) (fun k hk => by cases hk))
    have hn4 := hid (Fb.new w3 #[.slice X n d] 34)
    clear HA hf3 hB3 Hp3 Hst
    obtain ⟨A0, c0, hfb, -, -⟩ := hst4.out.ex
    obtain ⟨⟨q0, q1, q2, q3⟩, -⟩ := hfb.fourc
    have hltb := hst4.out.lt
    clear hfb
    go_upto_region 6 with fail
    generalize w3.alloc (.cells #[.slice X n d] 34) = w4 at *
    generalize w3.heap.size = g4 at *
    have v0 := hf4.out.cell 0
    have s0 := hf4.out.frozen 0
    have hsz := hf4.out.lt
    have k0 := hn4.out.cell 0
    have hbw := hsz1.out
    have hsetg := hid (fun u => setCell_grown w4 ⟨w.heap.size, 0, none⟩ u)
    cases he1 : (er1 == 0) with
    | true =>
      have hne1 : (er1 != 0) = false := by simpa using he1
      have HR3 : Hid (parseS s = (r1, 0, 0, 0)) := hid (by rw [HR2.out]; simp only [he1]; rfl)
      have HB : Hid (Below w.heap.size w (w4.setCell ⟨w.heap.size, 0, none⟩ (.slice X n d))) := hid (hB4.out.setCell (Nat.le_refl _) _)
      clear HR2 he1
      go_wp2_with fail
      refine bodyPost_ret (v := .tuple #[.agg #[.slice X n d], .int .i64 0, .int .i64 0, .int .i64 0]) (by simp [results, Tryd.results17, go_sem, v0, s0, hsz]) rfl ?_
      rw [HR3.out]
      exact ⟨⟨X, n, d, l⟩, rfl, Hx.out, Fr.less (M := w.heap.size) (Fr.grown (fun h hg => PP.go h hg) Hp4.out (hsetg.out _) (fun k hk => by injection hk with hk; have : w.heap.size = k := hk; omega)) (by omega), HB.out⟩
    | false =>
      have hne1 : (er1 != 0) = true := by simpa using he1
      have HR3 : Hid (parseS s = ([], ln1, cl1, er1)) := hid (by rw [HR2.out]; simp only [he1]; rfl)
      have HB : Hid (∀ q, Below w.heap.size w ((w4.drewN q).setCell ⟨w.heap.size, 0, none⟩ (.slice none 0 0))) := hid (fun q => (below_drewN hB4.out q).setCell (Nat.le_refl _) _)
      clear HR2 he1
      go_wp2_with fail
      go_region_law (fail)
      all_goals
        go_wp2_with fail
        refine bodyPost_ret (v := .tuple #[.agg #[.slice none 0 0], .int .i64 (ln1 : Int), .int .i64 (cl1 : Int), .int .i64 er1]) (by simp [results, Tryd.results17, go_sem, v0, s0, hsz]) rfl ?_
        rw [HR3.out]
        exact ⟨⟨none, 0, 0, []⟩, rfl, rfl, pp_nil _ _, HB.out 1⟩
end Go.Proofs.YtidabbbjllofmaaDoor

namespace Go.Proofs.YtidabbbjllofmaaDoor
set_option maxRecDepth 100000
set_option linter.unusedVariables false
set_option linter.unusedSimpArgs false
open Go.ChangeShapes Go.WideShapes Go.ChangeAt Go.RowKit

def sanT1 : ByteArray := ⟨#[102, 117, 110, 99, 32, 109, 59, 32, 98, 108, 111, 99, 107, 32, 98, 59, 32, 120, 32, 61, 32, 121, 32, 122, 59, 32, 114, 101, 116, 117, 114, 110, 59, 32, 101, 110, 100]⟩
def sanT2 : ByteArray := ⟨#[102, 117, 110, 99, 32, 109, 59, 32, 98, 108, 111, 99, 107, 32, 98, 59, 32, 98, 114, 97, 110, 99, 104, 32, 120, 32, 98, 59, 32, 114, 101, 116, 117, 114, 110, 59, 32, 101, 110, 100]⟩
def sanP1 : List Fnc := [⟨⟨#[109]⟩, [⟨⟨#[98]⟩, [⟨1, ⟨#[120]⟩, [⟨#[121]⟩, ⟨#[122]⟩], []⟩, ⟨9, noB, [], []⟩]⟩]⟩]
theorem san1 : parseS sanT1 = (sanP1, 0, 0, 0) := by kernel_rfl
theorem san2 : parseS sanT2 = ([], 1, 28, 4) := by kernel_rfl
theorem san3 : parseS ⟨#[]⟩ = ([], 0, 0, 4) := by kernel_rfl
theorem parse_as (T : ByteArray) (w : World) (hs : T.size ≤ maxLen) (hsh : Shp w) {p : List Fnc} {l c : Nat} {er L C : Int} (h : parseS T = (p, l, c, er)) (hl : (l : Int) = L) (hc : (c : Int) = C) :
    Calls Tryd.prog 17 #[.string T] w fun e w' => ∃ (X : Option Addr) (n d : Nat) (ls : List FH), e = .returned (.tuple #[.agg #[.slice X n d], .int .i64 L, .int .i64 C, .int .i64 er]) ∧ ls.map FH.f = p ∧ PHok w' [] ⟨X, n, d, ls⟩ ∧ Below w.heap.size w w' ∧ Shp w' := by
  refine (devParse_any T w hs hsh).mono ?_
  rw [h]
  rintro e w' ⟨⟨X, n, d, ls⟩, rfl, hx, hp, hb⟩
  subst hl
  subst hc
  exact ⟨X, n, d, ls, rfl, hx, hp [] (by simp), hb, hsh.keep (hb.block 0 hsh.lt)⟩
theorem map_one {α β : Type} {f : α → β} {l : List α} {y : β} (h : l.map f = [y]) : ∃ x, l = [x] ∧ f x = y := by
  cases l with
  | nil => cases h
  | cons x l =>
    cases l with
    | nil => exact ⟨x, rfl, by simpa using h⟩
    | cons z l => simp at h
/-- The cells of the first program, as it lies. -/
theorem san_cells {w : World} {X : Option Addr} {n d : Nat} {ls : List FH} (hl : ls.map FH.f = sanP1) (h : PHok w [] ⟨X, n, d, ls⟩) :
    ∃ (ad ad2 : Addr) (c1 c2 : Nat) (A2 : Option Addr), X = some ad ∧ n = 1 ∧ ad.block < w.heap.size ∧ w.cell? ⟨ad.block, ad.off + 1, none⟩ = some (.slice (some ad2) 1 c1) ∧ ad2.block < w.heap.size ∧ w.cell? ⟨ad2.block, ad2.off + 1, none⟩ = some (.slice A2 2 c2) := by
  obtain ⟨f, rfl, hf⟩ := map_one (show ls.map FH.f = [_] from hl)
  have h0 := h.len
  obtain ⟨ad, e1, hb1, -, hc1⟩ := FH.cells h.lies (i := 0) (x := f) rfl
  have hfok := h.all f (by simp)
  obtain ⟨fn, fA, fk, fc, fl⟩ := f
  injection hf with _ hbl
  obtain ⟨bh, rfl, hbe⟩ := map_one (show fl.map BH.b = [_] from hbl)
  obtain ⟨ad2, e2, hb2, -, hc2⟩ := BH.cells hfok.lies (i := 0) (x := bh) rfl
  have hbok := hfok.all bh (by simp)
  have hfl := hfok.len
  obtain ⟨bn, bA, bk, bc, bl⟩ := bh
  injection hbe with _ hss
  have hbl2 := hbok.len
  have hss2 : bl.length = 2 := by have := congrArg List.length hss; simpa using this
  simp only [List.length_singleton, List.length_cons, List.length_nil] at h0 hfl
  simp only at e1 e2 hbl2 hc1 hc2
  have z1 : ad.add (0 * 2) = ad := by unfold Addr.add; simp
  have z2 : ad2.add (0 * 2) = ad2 := by unfold Addr.add; simp
  rw [z1] at hc1
  rw [z2] at hc2
  refine ⟨ad, ad2, fc, bc, bA, e1, h0.symm, hb1, ?_, hb2, ?_⟩
  · rw [hc1, e2, ← hfl]
  · rw [hc2, ← hbl2, hss2]
set_option maxHeartbeats 3200000 in
theorem sane5_any (w : World) (hsh : Shp w) : Calls Tryd.prog 15 #[] w fun e w' => e = .returned (.bool true) ∧ Below w.heap.size w w' := by
  have Hs := hid hsh
  clear hsh
  go_enter Tryd.func15, Tryd.ntmps15
  go_wp2_with fail
  refine (parse_as sanT1 _ (by decide) Hs.out san1 rfl rfl).mono ?_
  rintro e w1 ⟨X, n, d, ls, rfl, hls, hok, hb1, hs1⟩
  have HA1 := hid ((Below.refl w1.heap.size w1).alloc (Nat.le_refl _) (.cells #[.slice X n d] 34))
  have Hs1 := hid (hs1.keep (HA1.out.block 0 hs1.lt))
  have Hk1 := hid (Fb.new w1 #[.slice X n d] 34)
  have Hok1 := hid (hok.below HA1.out)
  have HB1 := hid (below_step hb1 HA1.out)
  have Hls := hid hls
  clear hls hok hb1 hs1 HA1
  go_wp2_with fail
  generalize w1.alloc (.cells #[.slice X n d] 34) = w1b at *
  generalize w1.heap.size = g1 at *
  refine (parse_as sanT2 _ (by decide) Hs1.out san2 rfl rfl).mono ?_
  rintro e w2 ⟨X2, n2, d2, ls2, rfl, -, -, hb2, hs2⟩
  have HA2 := hid ((Below.refl w2.heap.size w2).alloc (Nat.le_refl _) (.cells #[.slice X2 n2 d2] 34))
  have hbx := below_step hb2 HA2.out
  have Hs2 := hid (hs2.keep (HA2.out.block 0 hs2.lt))
  have Hk2 := hid (Hk1.out.below hbx Hk1.out.lt)
  have Hok2 := hid (Hok1.out.below hbx)
  have HB2 := hid (below_step HB1.out hbx)
  clear hb2 hs2 HA2 hbx HB1 Hok1 Hk1 Hs1
  go_wp2_with fail
  generalize w2.alloc (.cells #[.slice X2 n2 d2] 34) = w2b at *
  refine (parse_as ⟨#[]⟩ _ (by decide) Hs2.out san3 rfl rfl).mono ?_
  rintro e w3 ⟨X3, n3, d3, ls3, rfl, -, -, hb3, hs3⟩
  have HA3 := hid ((Below.refl w3.heap.size w3).alloc (Nat.le_refl _) (.cells #[.slice X3 n3 d3] 34))
  have hbx := below_step hb3 HA3.out
  have Hk3 := hid (Hk2.out.below hbx Hk2.out.lt)
  have Hok3 := hid (Hok2.out.below hbx)
  have HB3 := hid (below_step HB2.out hbx)
  clear hb3 hs3 HA3 hbx HB2 Hok2 Hk2 Hs2
  go_upto_region 4 with fail
  generalize w3.alloc (.cells #[.slice X3 n3 d3] 34) = w3b at *
  obtain ⟨ad, ad2, c1, c2, A2, rfl, rfl, a1, a2, a3, a4⟩ := san_cells Hls.out Hok3.out
  have k0 := Hk3.out.cell 0
  go_wp2_with fail
  go_ret
  exact ⟨rfl, HB3.out⟩
end Go.Proofs.YtidabbbjllofmaaDoor

namespace Go.Proofs.YtidabbbjllofmaaDoor
set_option maxRecDepth 100000
set_option linter.unusedVariables false
set_option linter.unusedSimpArgs false
open Go.ChangeShapes Go.WideShapes Go.ChangeAt Go.RowKit

/-- A text to which a piece is added again and again. -/
def itB (pre p : ByteArray) : Nat → ByteArray
  | 0 => pre
  | k + 1 => itB pre p k ++ p
theorem itB_size (pre p : ByteArray) (k : Nat) : (itB pre p k).size = pre.size + k * p.size := by
  induction k with
  | zero => simp [itB]
  | succ k ih => show (itB pre p k ++ p).size = _; rw [ByteArray.size_append, ih, Nat.succ_mul]; omega
theorem parse_at (T : ByteArray) (w : World) (hs : T.size ≤ maxLen) (hsh : Shp w) {l : Nat} {er L : Int} (h : (parseS T).2.1 = l ∧ (parseS T).2.2.2 = er) (hl : (l : Int) = L) :
    Calls Tryd.prog 17 #[.string T] w fun e w' => ∃ (X : Option Addr) (n d : Nat) (C : Int), e = .returned (.tuple #[.agg #[.slice X n d], .int .i64 L, .int .i64 C, .int .i64 er]) ∧ Below w.heap.size w w' ∧ Shp w' := by
  refine (devParse_any T w hs hsh).mono ?_
  rintro e w' ⟨⟨X, n, d, ls⟩, rfl, hx, hp, hb⟩
  rw [h.1, h.2, hl]
  exact ⟨X, n, d, _, rfl, hb, hsh.keep (hb.block 0 hsh.lt)⟩
def limA0 : ByteArray := ⟨#[]⟩
def limP0 : ByteArray := ⟨#[102, 117, 110, 99, 32, 102, 10, 98, 108, 111, 99, 107, 32, 98, 10, 114, 101, 116, 117, 114, 110, 10, 101, 110, 100, 10]⟩
def limZ0 : ByteArray := ⟨#[]⟩
theorem lim0_0 : (parseS (itB limA0 limP0 8)).2.1 = 0 ∧ (parseS (itB limA0 limP0 8)).2.2.2 = 0 := ⟨by kernel_rfl, by kernel_rfl⟩
theorem lim0_1 : (parseS (itB limA0 limP0 9)).2.1 = 33 ∧ (parseS (itB limA0 limP0 9)).2.2.2 = 7 := ⟨by kernel_rfl, by kernel_rfl⟩
def limA1 : ByteArray := ⟨#[102, 117, 110, 99, 32, 102, 10]⟩
def limP1 : ByteArray := ⟨#[98, 108, 111, 99, 107, 32, 98, 10, 114, 101, 116, 117, 114, 110, 10]⟩
def limZ1 : ByteArray := ⟨#[101, 110, 100, 10]⟩
theorem lim1_0 : (parseS (itB limA1 limP1 16 ++ limZ1)).2.1 = 0 ∧ (parseS (itB limA1 limP1 16 ++ limZ1)).2.2.2 = 0 := ⟨by kernel_rfl, by kernel_rfl⟩
theorem lim1_1 : (parseS (itB limA1 limP1 17 ++ limZ1)).2.1 = 34 ∧ (parseS (itB limA1 limP1 17 ++ limZ1)).2.2.2 = 7 := ⟨by kernel_rfl, by kernel_rfl⟩
def limA2 : ByteArray := ⟨#[102, 117, 110, 99, 32, 102, 10, 98, 108, 111, 99, 107, 32, 98, 10]⟩
def limP2 : ByteArray := ⟨#[114, 101, 116, 117, 114, 110, 10]⟩
def limZ2 : ByteArray := ⟨#[101, 110, 100, 10]⟩
theorem lim2_0 : (parseS (itB limA2 limP2 32 ++ limZ2)).2.1 = 0 ∧ (parseS (itB limA2 limP2 32 ++ limZ2)).2.2.2 = 0 := ⟨by kernel_rfl, by kernel_rfl⟩
theorem lim2_1 : (parseS (itB limA2 limP2 33 ++ limZ2)).2.1 = 35 ∧ (parseS (itB limA2 limP2 33 ++ limZ2)).2.2.2 = 7 := ⟨by kernel_rfl, by kernel_rfl⟩
def limA3 : ByteArray := ⟨#[102, 117, 110, 99, 32, 102, 10, 98, 108, 111, 99, 107, 32, 98, 10, 117, 115, 101]⟩
def limP3 : ByteArray := ⟨#[32, 120]⟩
def limZ3 : ByteArray := ⟨#[10, 101, 110, 100, 10]⟩
theorem lim3_0 : (parseS (itB limA3 limP3 4 ++ limZ3)).2.1 = 0 ∧ (parseS (itB limA3 limP3 4 ++ limZ3)).2.2.2 = 0 := ⟨by kernel_rfl, by kernel_rfl⟩
theorem lim3_1 : (parseS (itB limA3 limP3 5 ++ limZ3)).2.1 = 3 ∧ (parseS (itB limA3 limP3 5 ++ limZ3)).2.2.2 = 7 := ⟨by kernel_rfl, by kernel_rfl⟩
set_option maxHeartbeats 3200000 in
theorem lawLim0_0 (kind : Int) (w : World) (hk0 : 0 ≤ kind) (hk1 : kind < 256) (hm : kind % 4 = 0) (hsh : Shp w) : Calls Tryd.prog 5 #[.int .u8 kind, .bool false] w fun e w' => e = .returned (.bool true) ∧ Below w.heap.size w w' := by
  have Hs := hid hsh
  have t0 : (kind % 4 == 0) = true := by simp; omega
  have Hm := hid hm
  clear hsh hm
  go_enter Tryd.func5, Tryd.ntmps5
  go_wp2_with fail
  go_loop [6, 8] (fun s i => ∃ k : Nat, k ≤ 8 ∧ i = .int .i64 k ∧ s = .string (itB limA0 limP0 k)) (fun _ i => 8 - (intOf i).toNat)
  case atStart => exact ⟨0, by omega, rfl, rfl⟩
  case round =>
    obtain ⟨k, hk, rfl, rfl⟩ := hrel
    have hz := itB_size limA0 limP0 k
    have hz2 : limA0.size ≤ 40 ∧ limP0.size ≤ 40 := by decide
    have hkz : k * limP0.size ≤ 8 * 40 := Nat.mul_le_mul hk hz2.2
    by_cases hlt : k < 8
    · have hsz : (itB limA0 limP0 k).size + (⟨#[102, 117, 110, 99, 32, 102, 10, 98, 108, 111, 99, 107, 32, 98, 10, 114, 101, 116, 117, 114, 110, 10, 101, 110, 100, 10]⟩ : ByteArray).size ≤ 9223372036854775807 := by
        have h2 : (⟨#[102, 117, 110, 99, 32, 102, 10, 98, 108, 111, 99, 107, 32, 98, 10, 114, 101, 116, 117, 114, 110, 10, 101, 110, 100, 10]⟩ : ByteArray).size ≤ 40 := by decide
        omega
      generalize hT : itB limA0 limP0 k = T at *
      have HT := hid hT
      clear hT hz hz2 hkz
      go_wp2_with fail
      go_round
      case rel => exact ⟨k + 1, by omega, by go_num, by show _ = Value.string (itB limA0 limP0 k ++ limP0); rw [HT.out]; rfl⟩
      case measure => simp [intOf]; omega
    · obtain rfl : k = 8 := by omega
      have hsz : (itB limA0 limP0 8).size + (⟨#[]⟩ : ByteArray).size ≤ 9223372036854775807 := by
        have h2 : (⟨#[]⟩ : ByteArray).size ≤ 40 := by decide
        omega
      have hsz2 : (itB limA0 limP0 8).size ≤ maxLen := by
        have h2 : limZ0.size ≤ 40 := by decide
        first | (rw [ByteArray.size_append]; unfold maxLen; omega) | (unfold maxLen; omega)
      have Hsz2 := hid hsz2
      have Hq := hid lim0_0
      clear hz hz2 hkz hsz2 hlt hk
      go_wp2_with fail
      refine (parse_at (itB limA0 limP0 8) _ Hsz2.out Hs.out Hq.out rfl).mono ?_
      rintro e w1 ⟨X, n, d, C, rfl, hb1, hs1⟩
      have HA1 := hid ((Below.refl w1.heap.size w1).alloc (Nat.le_refl _) (.cells #[.slice X n d] 34))
      have Hs1 := hid (hs1.keep (HA1.out.block 0 hs1.lt))
      have HB1 := hid (below_step hb1 HA1.out)
      clear hb1 hs1 HA1
      go_wp2_with fail
      refine (sane5_any _ Hs1.out).mono ?_
      rintro e w2 ⟨rfl, hb2⟩
      have HB2 := hid (below_step HB1.out hb2)
      clear hb2
      go_wp2
      go_ret
      exact ⟨rfl, HB2.out⟩
set_option maxHeartbeats 3200000 in
theorem lawLim0_1 (kind : Int) (w : World) (hk0 : 0 ≤ kind) (hk1 : kind < 256) (hm : kind % 4 = 0) (hsh : Shp w) : Calls Tryd.prog 5 #[.int .u8 kind, .bool true] w fun e w' => e = .returned (.bool true) ∧ Below w.heap.size w w' := by
  have Hs := hid hsh
  have t0 : (kind % 4 == 0) = true := by simp; omega
  have Hm := hid hm
  clear hsh hm
  go_enter Tryd.func5, Tryd.ntmps5
  go_wp2_with fail
  go_loop [6, 8] (fun s i => ∃ k : Nat, k ≤ 9 ∧ i = .int .i64 k ∧ s = .string (itB limA0 limP0 k)) (fun _ i => 9 - (intOf i).toNat)
  case atStart => exact ⟨0, by omega, rfl, rfl⟩
  case round =>
    obtain ⟨k, hk, rfl, rfl⟩ := hrel
    have hz := itB_size limA0 limP0 k
    have hz2 : limA0.size ≤ 40 ∧ limP0.size ≤ 40 := by decide
    have hkz : k * limP0.size ≤ 9 * 40 := Nat.mul_le_mul hk hz2.2
    by_cases hlt : k < 9
    · have hsz : (itB limA0 limP0 k).size + (⟨#[102, 117, 110, 99, 32, 102, 10, 98, 108, 111, 99, 107, 32, 98, 10, 114, 101, 116, 117, 114, 110, 10, 101, 110, 100, 10]⟩ : ByteArray).size ≤ 9223372036854775807 := by
        have h2 : (⟨#[102, 117, 110, 99, 32, 102, 10, 98, 108, 111, 99, 107, 32, 98, 10, 114, 101, 116, 117, 114, 110, 10, 101, 110, 100, 10]⟩ : ByteArray).size ≤ 40 := by decide
        omega
      generalize hT : itB limA0 limP0 k = T at *
      have HT := hid hT
      clear hT hz hz2 hkz
      go_wp2_with fail
      go_round
      case rel => exact ⟨k + 1, by omega, by go_num, by show _ = Value.string (itB limA0 limP0 k ++ limP0); rw [HT.out]; rfl⟩
      case measure => simp [intOf]; omega
    · obtain rfl : k = 9 := by omega
      have hsz : (itB limA0 limP0 9).size + (⟨#[]⟩ : ByteArray).size ≤ 9223372036854775807 := by
        have h2 : (⟨#[]⟩ : ByteArray).size ≤ 40 := by decide
        omega
      have hsz2 : (itB limA0 limP0 9).size ≤ maxLen := by
        have h2 : limZ0.size ≤ 40 := by decide
        first | (rw [ByteArray.size_append]; unfold maxLen; omega) | (unfold maxLen; omega)
      have Hsz2 := hid hsz2
      have Hq := hid lim0_1
      clear hz hz2 hkz hsz2 hlt hk
      go_wp2_with fail
      refine (parse_at (itB limA0 limP0 9) _ Hsz2.out Hs.out Hq.out rfl).mono ?_
      rintro e w1 ⟨X, n, d, C, rfl, hb1, hs1⟩
      have HA1 := hid ((Below.refl w1.heap.size w1).alloc (Nat.le_refl _) (.cells #[.slice X n d] 34))
      have Hs1 := hid (hs1.keep (HA1.out.block 0 hs1.lt))
      have HB1 := hid (below_step hb1 HA1.out)
      clear hb1 hs1 HA1
      go_wp2_with fail
      refine (sane5_any _ Hs1.out).mono ?_
      rintro e w2 ⟨rfl, hb2⟩
      have HB2 := hid (below_step HB1.out hb2)
      clear hb2
      go_wp2
      go_ret
      exact ⟨rfl, HB2.out⟩
set_option maxHeartbeats 3200000 in
theorem lawLim1_0 (kind : Int) (w : World) (hk0 : 0 ≤ kind) (hk1 : kind < 256) (hm : kind % 4 = 1) (hsh : Shp w) : Calls Tryd.prog 5 #[.int .u8 kind, .bool false] w fun e w' => e = .returned (.bool true) ∧ Below w.heap.size w w' := by
  have Hs := hid hsh
  have t0 : (kind % 4 == 0) = false := by simp; omega
  have t1 : (kind % 4 == 1) = true := by simp; omega
  have Hm := hid hm
  clear hsh hm
  go_enter Tryd.func5, Tryd.ntmps5
  go_wp2_with fail
  go_loop [6, 9] (fun s i => ∃ k : Nat, k ≤ 16 ∧ i = .int .i64 k ∧ s = .string (itB limA1 limP1 k)) (fun _ i => 16 - (intOf i).toNat)
  case atStart => exact ⟨0, by omega, rfl, rfl⟩
  case round =>
    obtain ⟨k, hk, rfl, rfl⟩ := hrel
    have hz := itB_size limA1 limP1 k
    have hz2 : limA1.size ≤ 40 ∧ limP1.size ≤ 40 := by decide
    have hkz : k * limP1.size ≤ 16 * 40 := Nat.mul_le_mul hk hz2.2
    by_cases hlt : k < 16
    · have hsz : (itB limA1 limP1 k).size + (⟨#[98, 108, 111, 99, 107, 32, 98, 10, 114, 101, 116, 117, 114, 110, 10]⟩ : ByteArray).size ≤ 9223372036854775807 := by
        have h2 : (⟨#[98, 108, 111, 99, 107, 32, 98, 10, 114, 101, 116, 117, 114, 110, 10]⟩ : ByteArray).size ≤ 40 := by decide
        omega
      generalize hT : itB limA1 limP1 k = T at *
      have HT := hid hT
      clear hT hz hz2 hkz
      go_wp2_with fail
      go_round
      case rel => exact ⟨k + 1, by omega, by go_num, by show _ = Value.string (itB limA1 limP1 k ++ limP1); rw [HT.out]; rfl⟩
      case measure => simp [intOf]; omega
    · obtain rfl : k = 16 := by omega
      have hsz : (itB limA1 limP1 16).size + (⟨#[101, 110, 100, 10]⟩ : ByteArray).size ≤ 9223372036854775807 := by
        have h2 : (⟨#[101, 110, 100, 10]⟩ : ByteArray).size ≤ 40 := by decide
        omega
      have hsz2 : (itB limA1 limP1 16 ++ limZ1).size ≤ maxLen := by
        have h2 : limZ1.size ≤ 40 := by decide
        first | (rw [ByteArray.size_append]; unfold maxLen; omega) | (unfold maxLen; omega)
      have Hsz2 := hid hsz2
      have Hq := hid lim1_0
      clear hz hz2 hkz hsz2 hlt hk
      go_wp2_with fail
      refine (parse_at (itB limA1 limP1 16 ++ limZ1) _ Hsz2.out Hs.out Hq.out rfl).mono ?_
      rintro e w1 ⟨X, n, d, C, rfl, hb1, hs1⟩
      have HA1 := hid ((Below.refl w1.heap.size w1).alloc (Nat.le_refl _) (.cells #[.slice X n d] 34))
      have Hs1 := hid (hs1.keep (HA1.out.block 0 hs1.lt))
      have HB1 := hid (below_step hb1 HA1.out)
      clear hb1 hs1 HA1
      go_wp2_with fail
      refine (sane5_any _ Hs1.out).mono ?_
      rintro e w2 ⟨rfl, hb2⟩
      have HB2 := hid (below_step HB1.out hb2)
      clear hb2
      go_wp2
      go_ret
      exact ⟨rfl, HB2.out⟩
set_option maxHeartbeats 3200000 in
theorem lawLim1_1 (kind : Int) (w : World) (hk0 : 0 ≤ kind) (hk1 : kind < 256) (hm : kind % 4 = 1) (hsh : Shp w) : Calls Tryd.prog 5 #[.int .u8 kind, .bool true] w fun e w' => e = .returned (.bool true) ∧ Below w.heap.size w w' := by
  have Hs := hid hsh
  have t0 : (kind % 4 == 0) = false := by simp; omega
  have t1 : (kind % 4 == 1) = true := by simp; omega
  have Hm := hid hm
  clear hsh hm
  go_enter Tryd.func5, Tryd.ntmps5
  go_wp2_with fail
  go_loop [6, 9] (fun s i => ∃ k : Nat, k ≤ 17 ∧ i = .int .i64 k ∧ s = .string (itB limA1 limP1 k)) (fun _ i => 17 - (intOf i).toNat)
  case atStart => exact ⟨0, by omega, rfl, rfl⟩
  case round =>
    obtain ⟨k, hk, rfl, rfl⟩ := hrel
    have hz := itB_size limA1 limP1 k
    have hz2 : limA1.size ≤ 40 ∧ limP1.size ≤ 40 := by decide
    have hkz : k * limP1.size ≤ 17 * 40 := Nat.mul_le_mul hk hz2.2
    by_cases hlt : k < 17
    · have hsz : (itB limA1 limP1 k).size + (⟨#[98, 108, 111, 99, 107, 32, 98, 10, 114, 101, 116, 117, 114, 110, 10]⟩ : ByteArray).size ≤ 9223372036854775807 := by
        have h2 : (⟨#[98, 108, 111, 99, 107, 32, 98, 10, 114, 101, 116, 117, 114, 110, 10]⟩ : ByteArray).size ≤ 40 := by decide
        omega
      generalize hT : itB limA1 limP1 k = T at *
      have HT := hid hT
      clear hT hz hz2 hkz
      go_wp2_with fail
      go_round
      case rel => exact ⟨k + 1, by omega, by go_num, by show _ = Value.string (itB limA1 limP1 k ++ limP1); rw [HT.out]; rfl⟩
      case measure => simp [intOf]; omega
    · obtain rfl : k = 17 := by omega
      have hsz : (itB limA1 limP1 17).size + (⟨#[101, 110, 100, 10]⟩ : ByteArray).size ≤ 9223372036854775807 := by
        have h2 : (⟨#[101, 110, 100, 10]⟩ : ByteArray).size ≤ 40 := by decide
        omega
      have hsz2 : (itB limA1 limP1 17 ++ limZ1).size ≤ maxLen := by
        have h2 : limZ1.size ≤ 40 := by decide
        first | (rw [ByteArray.size_append]; unfold maxLen; omega) | (unfold maxLen; omega)
      have Hsz2 := hid hsz2
      have Hq := hid lim1_1
      clear hz hz2 hkz hsz2 hlt hk
      go_wp2_with fail
      refine (parse_at (itB limA1 limP1 17 ++ limZ1) _ Hsz2.out Hs.out Hq.out rfl).mono ?_
      rintro e w1 ⟨X, n, d, C, rfl, hb1, hs1⟩
      have HA1 := hid ((Below.refl w1.heap.size w1).alloc (Nat.le_refl _) (.cells #[.slice X n d] 34))
      have Hs1 := hid (hs1.keep (HA1.out.block 0 hs1.lt))
      have HB1 := hid (below_step hb1 HA1.out)
      clear hb1 hs1 HA1
      go_wp2_with fail
      refine (sane5_any _ Hs1.out).mono ?_
      rintro e w2 ⟨rfl, hb2⟩
      have HB2 := hid (below_step HB1.out hb2)
      clear hb2
      go_wp2
      go_ret
      exact ⟨rfl, HB2.out⟩
set_option maxHeartbeats 3200000 in
theorem lawLim2_0 (kind : Int) (w : World) (hk0 : 0 ≤ kind) (hk1 : kind < 256) (hm : kind % 4 = 2) (hsh : Shp w) : Calls Tryd.prog 5 #[.int .u8 kind, .bool false] w fun e w' => e = .returned (.bool true) ∧ Below w.heap.size w w' := by
  have Hs := hid hsh
  have t0 : (kind % 4 == 0) = false := by simp; omega
  have t1 : (kind % 4 == 1) = false := by simp; omega
  have t2 : (kind % 4 == 2) = true := by simp; omega
  have Hm := hid hm
  clear hsh hm
  go_enter Tryd.func5, Tryd.ntmps5
  go_wp2_with fail
  go_loop [6, 10] (fun s i => ∃ k : Nat, k ≤ 32 ∧ i = .int .i64 k ∧ s = .string (itB limA2 limP2 k)) (fun _ i => 32 - (intOf i).toNat)
  case atStart => exact ⟨0, by omega, rfl, rfl⟩
  case round =>
    obtain ⟨k, hk, rfl, rfl⟩ := hrel
    have hz := itB_size limA2 limP2 k
    have hz2 : limA2.size ≤ 40 ∧ limP2.size ≤ 40 := by decide
    have hkz : k * limP2.size ≤ 32 * 40 := Nat.mul_le_mul hk hz2.2
    by_cases hlt : k < 32
    · have hsz : (itB limA2 limP2 k).size + (⟨#[114, 101, 116, 117, 114, 110, 10]⟩ : ByteArray).size ≤ 9223372036854775807 := by
        have h2 : (⟨#[114, 101, 116, 117, 114, 110, 10]⟩ : ByteArray).size ≤ 40 := by decide
        omega
      generalize hT : itB limA2 limP2 k = T at *
      have HT := hid hT
      clear hT hz hz2 hkz
      go_wp2_with fail
      go_round
      case rel => exact ⟨k + 1, by omega, by go_num, by show _ = Value.string (itB limA2 limP2 k ++ limP2); rw [HT.out]; rfl⟩
      case measure => simp [intOf]; omega
    · obtain rfl : k = 32 := by omega
      have hsz : (itB limA2 limP2 32).size + (⟨#[101, 110, 100, 10]⟩ : ByteArray).size ≤ 9223372036854775807 := by
        have h2 : (⟨#[101, 110, 100, 10]⟩ : ByteArray).size ≤ 40 := by decide
        omega
      have hsz2 : (itB limA2 limP2 32 ++ limZ2).size ≤ maxLen := by
        have h2 : limZ2.size ≤ 40 := by decide
        first | (rw [ByteArray.size_append]; unfold maxLen; omega) | (unfold maxLen; omega)
      have Hsz2 := hid hsz2
      have Hq := hid lim2_0
      clear hz hz2 hkz hsz2 hlt hk
      go_wp2_with fail
      refine (parse_at (itB limA2 limP2 32 ++ limZ2) _ Hsz2.out Hs.out Hq.out rfl).mono ?_
      rintro e w1 ⟨X, n, d, C, rfl, hb1, hs1⟩
      have HA1 := hid ((Below.refl w1.heap.size w1).alloc (Nat.le_refl _) (.cells #[.slice X n d] 34))
      have Hs1 := hid (hs1.keep (HA1.out.block 0 hs1.lt))
      have HB1 := hid (below_step hb1 HA1.out)
      clear hb1 hs1 HA1
      go_wp2_with fail
      refine (sane5_any _ Hs1.out).mono ?_
      rintro e w2 ⟨rfl, hb2⟩
      have HB2 := hid (below_step HB1.out hb2)
      clear hb2
      go_wp2
      go_ret
      exact ⟨rfl, HB2.out⟩
set_option maxHeartbeats 3200000 in
theorem lawLim2_1 (kind : Int) (w : World) (hk0 : 0 ≤ kind) (hk1 : kind < 256) (hm : kind % 4 = 2) (hsh : Shp w) : Calls Tryd.prog 5 #[.int .u8 kind, .bool true] w fun e w' => e = .returned (.bool true) ∧ Below w.heap.size w w' := by
  have Hs := hid hsh
  have t0 : (kind % 4 == 0) = false := by simp; omega
  have t1 : (kind % 4 == 1) = false := by simp; omega
  have t2 : (kind % 4 == 2) = true := by simp; omega
  have Hm := hid hm
  clear hsh hm
  go_enter Tryd.func5, Tryd.ntmps5
  go_wp2_with fail
  go_loop [6, 10] (fun s i => ∃ k : Nat, k ≤ 33 ∧ i = .int .i64 k ∧ s = .string (itB limA2 limP2 k)) (fun _ i => 33 - (intOf i).toNat)
  case atStart => exact ⟨0, by omega, rfl, rfl⟩
  case round =>
    obtain ⟨k, hk, rfl, rfl⟩ := hrel
    have hz := itB_size limA2 limP2 k
    have hz2 : limA2.size ≤ 40 ∧ limP2.size ≤ 40 := by decide
    have hkz : k * limP2.size ≤ 33 * 40 := Nat.mul_le_mul hk hz2.2
    by_cases hlt : k < 33
    · have hsz : (itB limA2 limP2 k).size + (⟨#[114, 101, 116, 117, 114, 110, 10]⟩ : ByteArray).size ≤ 9223372036854775807 := by
        have h2 : (⟨#[114, 101, 116, 117, 114, 110, 10]⟩ : ByteArray).size ≤ 40 := by decide
        omega
      generalize hT : itB limA2 limP2 k = T at *
      have HT := hid hT
      clear hT hz hz2 hkz
      go_wp2_with fail
      go_round
      case rel => exact ⟨k + 1, by omega, by go_num, by show _ = Value.string (itB limA2 limP2 k ++ limP2); rw [HT.out]; rfl⟩
      case measure => simp [intOf]; omega
    · obtain rfl : k = 33 := by omega
      have hsz : (itB limA2 limP2 33).size + (⟨#[101, 110, 100, 10]⟩ : ByteArray).size ≤ 9223372036854775807 := by
        have h2 : (⟨#[101, 110, 100, 10]⟩ : ByteArray).size ≤ 40 := by decide
        omega
      have hsz2 : (itB limA2 limP2 33 ++ limZ2).size ≤ maxLen := by
        have h2 : limZ2.size ≤ 40 := by decide
        first | (rw [ByteArray.size_append]; unfold maxLen; omega) | (unfold maxLen; omega)
      have Hsz2 := hid hsz2
      have Hq := hid lim2_1
      clear hz hz2 hkz hsz2 hlt hk
      go_wp2_with fail
      refine (parse_at (itB limA2 limP2 33 ++ limZ2) _ Hsz2.out Hs.out Hq.out rfl).mono ?_
      rintro e w1 ⟨X, n, d, C, rfl, hb1, hs1⟩
      have HA1 := hid ((Below.refl w1.heap.size w1).alloc (Nat.le_refl _) (.cells #[.slice X n d] 34))
      have Hs1 := hid (hs1.keep (HA1.out.block 0 hs1.lt))
      have HB1 := hid (below_step hb1 HA1.out)
      clear hb1 hs1 HA1
      go_wp2_with fail
      refine (sane5_any _ Hs1.out).mono ?_
      rintro e w2 ⟨rfl, hb2⟩
      have HB2 := hid (below_step HB1.out hb2)
      clear hb2
      go_wp2
      go_ret
      exact ⟨rfl, HB2.out⟩
set_option maxHeartbeats 3200000 in
theorem lawLim3_0 (kind : Int) (w : World) (hk0 : 0 ≤ kind) (hk1 : kind < 256) (hm : kind % 4 = 3) (hsh : Shp w) : Calls Tryd.prog 5 #[.int .u8 kind, .bool false] w fun e w' => e = .returned (.bool true) ∧ Below w.heap.size w w' := by
  have Hs := hid hsh
  have t0 : (kind % 4 == 0) = false := by simp; omega
  have t1 : (kind % 4 == 1) = false := by simp; omega
  have t2 : (kind % 4 == 2) = false := by simp; omega
  have Hm := hid hm
  clear hsh hm
  go_enter Tryd.func5, Tryd.ntmps5
  go_wp2_with fail
  go_loop [6, 11] (fun s i => ∃ k : Nat, k ≤ 4 ∧ i = .int .i64 k ∧ s = .string (itB limA3 limP3 k)) (fun _ i => 4 - (intOf i).toNat)
  case atStart => exact ⟨0, by omega, rfl, rfl⟩
  case round =>
    obtain ⟨k, hk, rfl, rfl⟩ := hrel
    have hz := itB_size limA3 limP3 k
    have hz2 : limA3.size ≤ 40 ∧ limP3.size ≤ 40 := by decide
    have hkz : k * limP3.size ≤ 4 * 40 := Nat.mul_le_mul hk hz2.2
    by_cases hlt : k < 4
    · have hsz : (itB limA3 limP3 k).size + (⟨#[32, 120]⟩ : ByteArray).size ≤ 9223372036854775807 := by
        have h2 : (⟨#[32, 120]⟩ : ByteArray).size ≤ 40 := by decide
        omega
      generalize hT : itB limA3 limP3 k = T at *
      have HT := hid hT
      clear hT hz hz2 hkz
      go_wp2_with fail
      go_round
      case rel => exact ⟨k + 1, by omega, by go_num, by show _ = Value.string (itB limA3 limP3 k ++ limP3); rw [HT.out]; rfl⟩
      case measure => simp [intOf]; omega
    · obtain rfl : k = 4 := by omega
      have hsz : (itB limA3 limP3 4).size + (⟨#[10, 101, 110, 100, 10]⟩ : ByteArray).size ≤ 9223372036854775807 := by
        have h2 : (⟨#[10, 101, 110, 100, 10]⟩ : ByteArray).size ≤ 40 := by decide
        omega
      have hsz2 : (itB limA3 limP3 4 ++ limZ3).size ≤ maxLen := by
        have h2 : limZ3.size ≤ 40 := by decide
        first | (rw [ByteArray.size_append]; unfold maxLen; omega) | (unfold maxLen; omega)
      have Hsz2 := hid hsz2
      have Hq := hid lim3_0
      clear hz hz2 hkz hsz2 hlt hk
      go_wp2_with fail
      refine (parse_at (itB limA3 limP3 4 ++ limZ3) _ Hsz2.out Hs.out Hq.out rfl).mono ?_
      rintro e w1 ⟨X, n, d, C, rfl, hb1, hs1⟩
      have HA1 := hid ((Below.refl w1.heap.size w1).alloc (Nat.le_refl _) (.cells #[.slice X n d] 34))
      have Hs1 := hid (hs1.keep (HA1.out.block 0 hs1.lt))
      have HB1 := hid (below_step hb1 HA1.out)
      clear hb1 hs1 HA1
      go_wp2_with fail
      refine (sane5_any _ Hs1.out).mono ?_
      rintro e w2 ⟨rfl, hb2⟩
      have HB2 := hid (below_step HB1.out hb2)
      clear hb2
      go_wp2
      go_ret
      exact ⟨rfl, HB2.out⟩
set_option maxHeartbeats 3200000 in
theorem lawLim3_1 (kind : Int) (w : World) (hk0 : 0 ≤ kind) (hk1 : kind < 256) (hm : kind % 4 = 3) (hsh : Shp w) : Calls Tryd.prog 5 #[.int .u8 kind, .bool true] w fun e w' => e = .returned (.bool true) ∧ Below w.heap.size w w' := by
  have Hs := hid hsh
  have t0 : (kind % 4 == 0) = false := by simp; omega
  have t1 : (kind % 4 == 1) = false := by simp; omega
  have t2 : (kind % 4 == 2) = false := by simp; omega
  have Hm := hid hm
  clear hsh hm
  go_enter Tryd.func5, Tryd.ntmps5
  go_wp2_with fail
  go_loop [6, 11] (fun s i => ∃ k : Nat, k ≤ 5 ∧ i = .int .i64 k ∧ s = .string (itB limA3 limP3 k)) (fun _ i => 5 - (intOf i).toNat)
  case atStart => exact ⟨0, by omega, rfl, rfl⟩
  case round =>
    obtain ⟨k, hk, rfl, rfl⟩ := hrel
    have hz := itB_size limA3 limP3 k
    have hz2 : limA3.size ≤ 40 ∧ limP3.size ≤ 40 := by decide
    have hkz : k * limP3.size ≤ 5 * 40 := Nat.mul_le_mul hk hz2.2
    by_cases hlt : k < 5
    · have hsz : (itB limA3 limP3 k).size + (⟨#[32, 120]⟩ : ByteArray).size ≤ 9223372036854775807 := by
        have h2 : (⟨#[32, 120]⟩ : ByteArray).size ≤ 40 := by decide
        omega
      generalize hT : itB limA3 limP3 k = T at *
      have HT := hid hT
      clear hT hz hz2 hkz
      go_wp2_with fail
      go_round
      case rel => exact ⟨k + 1, by omega, by go_num, by show _ = Value.string (itB limA3 limP3 k ++ limP3); rw [HT.out]; rfl⟩
      case measure => simp [intOf]; omega
    · obtain rfl : k = 5 := by omega
      have hsz : (itB limA3 limP3 5).size + (⟨#[10, 101, 110, 100, 10]⟩ : ByteArray).size ≤ 9223372036854775807 := by
        have h2 : (⟨#[10, 101, 110, 100, 10]⟩ : ByteArray).size ≤ 40 := by decide
        omega
      have hsz2 : (itB limA3 limP3 5 ++ limZ3).size ≤ maxLen := by
        have h2 : limZ3.size ≤ 40 := by decide
        first | (rw [ByteArray.size_append]; unfold maxLen; omega) | (unfold maxLen; omega)
      have Hsz2 := hid hsz2
      have Hq := hid lim3_1
      clear hz hz2 hkz hsz2 hlt hk
      go_wp2_with fail
      refine (parse_at (itB limA3 limP3 5 ++ limZ3) _ Hsz2.out Hs.out Hq.out rfl).mono ?_
      rintro e w1 ⟨X, n, d, C, rfl, hb1, hs1⟩
      have HA1 := hid ((Below.refl w1.heap.size w1).alloc (Nat.le_refl _) (.cells #[.slice X n d] 34))
      have Hs1 := hid (hs1.keep (HA1.out.block 0 hs1.lt))
      have HB1 := hid (below_step hb1 HA1.out)
      clear hb1 hs1 HA1
      go_wp2_with fail
      refine (sane5_any _ Hs1.out).mono ?_
      rintro e w2 ⟨rfl, hb2⟩
      have HB2 := hid (below_step HB1.out hb2)
      clear hb2
      go_wp2
      go_ret
      exact ⟨rfl, HB2.out⟩
theorem lawLimits (kind : Int) (more : Bool) (w : World) (hk0 : 0 ≤ kind) (hk1 : kind < 256) (hsh : Shp w) : Calls Tryd.prog 5 #[.int .u8 kind, .bool more] w fun e w' => e = .returned (.bool true) ∧ Below w.heap.size w w' := by
  rcases (by omega : kind % 4 = 0 ∨ kind % 4 = 1 ∨ kind % 4 = 2 ∨ kind % 4 = 3) with h | h | h | h <;> cases more
  · exact lawLim0_0 kind w hk0 hk1 h hsh
  · exact lawLim0_1 kind w hk0 hk1 h hsh
  · exact lawLim1_0 kind w hk0 hk1 h hsh
  · exact lawLim1_1 kind w hk0 hk1 h hsh
  · exact lawLim2_0 kind w hk0 hk1 h hsh
  · exact lawLim2_1 kind w hk0 hk1 h hsh
  · exact lawLim3_0 kind w hk0 hk1 h hsh
  · exact lawLim3_1 kind w hk0 hk1 h hsh
end Go.Proofs.YtidabbbjllofmaaDoor

namespace Go.Proofs.YtidabbbjllofmaaDoor
set_option maxRecDepth 10000
open Go.ChangeShapes Go.WideShapes Go.ChangeAt Go.RowKit Go.Joins

theorem cells3 : Tryd.prog.cellsOf 3 = 1 := by kernel_rfl
theorem cell_in {w : World} {a : Addr} {v : Value} (h : w.cell? a = some v) : a.block < w.heap.size := by
  rcases Nat.lt_or_ge a.block w.heap.size with hlt | hge
  · exact hlt
  · unfold World.cell? at h; rw [Array.getElem?_eq_none hge] at h; cases h

theorem wf_u64 {z : Int} (h : (Lit.int .u64 z).wf = true) : 0 ≤ z ∧ z ≤ 18446744073709551615 := by
  have m0 : IntKind.u64.min = 0 := by decide
  have m1 : IntKind.u64.max = 18446744073709551615 := by decide
  simp [Lit.wf] at h
  omega
theorem open_list {H : Type} {enc : TypeId × Value → H} {W : World} {b0 base : Nat} {spare : Nat → Bool} {held : Bool} {v : Value} {d : DataW H} {p : List MemPlace}
    (hv : Value.okWide Tryd.prog W .any b0 22 v) (h : DataW.Trod enc Tryd.prog W base spare held 22 v d p) :
    ∃ (A : Option Addr) (n c : Nat) (l : List Int), v = .slice A n c ∧ IArg W A n l ∧ n ≤ maxLen := by
  obtain ⟨A, n, c, rfl⟩ := okWide_slice Tryd.underlying22 hv
  obtain ⟨fuel, hf⟩ := h
  rcases open_ints Tryd.underlying22 Tryd.underlying3 cells3 hf with ⟨hcs, _⟩ | ⟨x, l, c', zs, hcs, _, hl, hm, hz, _, hcell, hwz⟩
  · simp [Value.cells] at hcs
    obtain ⟨rfl, rfl, rfl⟩ := hcs
    exact ⟨none, 0, 0, [], rfl, ⟨.inl rfl, rfl⟩, by simp [maxLen]⟩
  · simp [Value.cells] at hcs
    obtain ⟨rfl, rfl, rfl⟩ := hcs
    have hle : n ≤ zs.length := by rw [hz]; split <;> omega
    refine ⟨some x, n, c, zs.take n, rfl, ⟨?_, by rw [List.length_take]; omega⟩, Nat.le_trans hl hm⟩
    by_cases h0 : n = 0
    · subst h0; exact .inl rfl
    · refine .inr ⟨x, rfl, ?_, fun j u hu => ?_⟩
      · have := cell_in (hcell 0 (by omega)); rwa [add_block] at this
      · unfold ints at hu
        rw [List.getElem?_map] at hu
        have hj : j < n := by
          rcases Nat.lt_or_ge j n with h | h
          · exact h
          · rw [List.getElem?_eq_none (by rw [List.length_take]; omega)] at hu; simp at hu
        rw [List.getElem?_take, if_pos hj, List.getElem?_eq_getElem (by omega)] at hu
        have := hcell j (by omega)
        rw [List.getD_eq_getElem?_getD, List.getElem?_eq_getElem (by omega)] at this
        rw [this]; simpa using hu

end Go.Proofs.YtidabbbjllofmaaDoor

namespace Go.Proofs.YtidabbbjllofmaaDoor
set_option maxRecDepth 100000
set_option linter.unusedVariables false
open Go.ChangeShapes Go.WideShapes Go.ChangeAt Go.RowKit

theorem own : ownKnob Tryd.prog.godebug = none := by kernel_rfl
theorem laidOut : laidOutB Tryd.prog = true := by kernel_rfl
theorem gShp : Tryd.prog.globalNamed "flowquery/syntax.shapes" = some 0 := by kernel_rfl
theorem gShpType : (Tryd.prog.globals[0]?).map (·.type) = some 129 := by kernel_rfl
theorem undArr : Tryd.prog.underlying 129 = some (.array 10 128) := by kernel_rfl
theorem undShape : ∃ fs : Array Field, Tryd.prog.underlying 128 = some (.struct fs) ∧ (fs.toList.map fun f => (f.type, f.offset)) = [(9, 0), (4, 1), (3, 2), (3, 3), (3, 4)] := by
  have h : (match Tryd.prog.underlying 128 with | some (.struct fs) => some (fs.toList.map fun f => (f.type, f.offset)) | _ => none) = some [(9, 0), (4, 1), (3, 2), (3, 3), (3, 4)] := by kernel_rfl
  split at h
  · next fs e => exact ⟨fs, e, Option.some.inj h⟩
  · cases h
theorem cArr : Tryd.prog.cellsOf 129 = 50 := by kernel_rfl
theorem cShape : Tryd.prog.cellsOf 128 = 5 := by kernel_rfl
theorem cStr : Tryd.prog.cellsOf 9 = 1 := by kernel_rfl
theorem cBool : Tryd.prog.cellsOf 4 = 1 := by kernel_rfl
theorem cInt : Tryd.prog.cellsOf 3 = 1 := by kernel_rfl
abbrev Sh := List UInt8 × Bool × Int × Int × Int
def dataSh (t : Sh) : DataW Unit := .agg [.lit (.string t.1), .lit (.bool t.2.1), .lit (.int .i64 t.2.2.1), .lit (.int .i64 t.2.2.2.1), .lit (.int .i64 t.2.2.2.2)]
def cellsSh (t : Sh) : List Value := [.string ⟨t.1.toArray⟩, .bool t.2.1, .int .i64 t.2.2.1, .int .i64 t.2.2.2.1, .int .i64 t.2.2.2.2]
def shpT : List Sh := [([], false, 0, 0, 0), ([], true, 0, 4, 0), ([117, 115, 101], false, 1, 4, 0), ([99, 97, 108, 108], false, 0, 0, 1), ([115, 111, 117, 114, 99, 101], true, 0, 0, 0), ([115, 105, 110, 107], false, 1, 1, 0), ([115, 97, 110, 105, 116, 105, 122, 101], true, 0, 0, 0), ([103, 111, 116, 111], false, 0, 0, 1), ([98, 114, 97, 110, 99, 104], false, 1, 1, 2), ([114, 101, 116, 117, 114, 110], false, 0, 0, 0)]
theorem shp_data : (Rows.laid_flowquery_syntax_shapes : DataW Unit) = .agg (shpT.map dataSh) := by kernel_rfl
theorem shp_cells : shpCells = shpT.flatMap cellsSh := by rfl
theorem one_of_drop {cs : List Value} {i : Nat} {v : Value} (h : (cs.drop i).take 1 = [v]) : cs[i]? = some v := by
  have := congrArg (·[0]?) h
  simpa [List.getElem?_take, List.getElem?_drop] using this
theorem shape_of {enc : TypeId × Value → Unit} {w : World} {base : Nat} {sp : Nat → Bool} {held : Bool} {fuel : Nat} {cs : List Value} {t : Sh} {p : List MemPlace}
    (h : DataW.trod enc Tryd.prog w base sp held fuel 128 cs = some (dataSh t, p)) : cs = cellsSh t := by
  obtain ⟨fs, hu, hfs⟩ := undShape
  obtain ⟨xs, n, -, hx, hl, hxl, hf⟩ := DataW.trod_struct hu h
  rw [cShape] at hl
  have hxs : xs.map (·.1) = [.lit (.string t.1), .lit (.bool t.2.1), .lit (.int .i64 t.2.2.1), .lit (.int .i64 t.2.2.2.1), .lit (.int .i64 t.2.2.2.2)] := by
    have := congrArg Prod.fst hx
    unfold dataSh at this
    simpa using this.symm
  have key : ∀ (i : Nat) (ty off : Nat), [((9 : Nat), 0), (4, 1), (3, 2), (3, 3), (3, 4)][i]? = some (ty, off) → Tryd.prog.cellsOf ty = 1 → ∀ d, (xs.map (·.1))[i]? = some d →
      ∃ q, DataW.trod enc Tryd.prog w base sp held n ty ((cs.drop off).take 1) = some (d, q) := by
    intro i ty off hi hc d hd
    have h1 := congrArg (·[i]?) hfs
    try simp only at h1
    rw [hi, List.getElem?_map] at h1
    obtain ⟨f, hf1, hf2⟩ := Option.map_eq_some_iff.1 h1
    injection hf2 with e1 e2
    have h2 := hf i f (by simpa using hf1)
    rw [e1, e2, hc] at h2
    rw [List.getElem?_map] at hd
    obtain ⟨x, hx1, hx2⟩ := Option.map_eq_some_iff.1 hd
    rw [hx1] at h2
    subst hx2
    exact ⟨x.2, h2⟩
  obtain ⟨q0, k0⟩ := key 0 9 0 rfl cStr _ (by rw [hxs]; rfl)
  obtain ⟨q1, k1⟩ := key 1 4 1 rfl cBool _ (by rw [hxs]; rfl)
  obtain ⟨q2, k2⟩ := key 2 3 2 rfl cInt _ (by rw [hxs]; rfl)
  obtain ⟨q3, k3⟩ := key 3 3 3 rfl cInt _ (by rw [hxs]; rfl)
  obtain ⟨q4, k4⟩ := key 4 3 4 rfl cInt _ (by rw [hxs]; rfl)
  obtain ⟨s, c0, d0, -⟩ := DataW.trod_string Tryd.underlying9 k0
  obtain ⟨bb, c1, d1⟩ := DataW.trod_bool Tryd.underlying4 k1
  obtain ⟨z2, c2, d2, -⟩ := DataW.trod_int Tryd.underlying3 k2
  obtain ⟨z3, c3, d3, -⟩ := DataW.trod_int Tryd.underlying3 k3
  obtain ⟨z4, c4, d4, -⟩ := DataW.trod_int Tryd.underlying3 k4
  have g0 := one_of_drop c0
  have g1 := one_of_drop c1
  have g2 := one_of_drop c2
  have g3 := one_of_drop c3
  have g4 := one_of_drop c4
  simp only [Prod.mk.injEq, DataW.lit.injEq, Lit.string.injEq, Lit.bool.injEq, Lit.int.injEq, true_and] at d0 d1 d2 d3 d4
  have es : s = ⟨t.1.toArray⟩ := ext_list (by simpa using d0.1.symm)
  have hc : cellsSh t = [.string s, .bool bb, .int .i64 z2, .int .i64 z3, .int .i64 z4] := by
    unfold cellsSh
    rw [es, d1.1, d2.1, d3.1, d4.1]
  rw [hc]
  apply List.ext_getElem?
  intro i
  match i with
  | 0 => exact g0
  | 1 => exact g1
  | 2 => exact g2
  | 3 => exact g3
  | 4 => exact g4
  | i + 5 => rw [List.getElem?_eq_none (by omega), List.getElem?_eq_none (by simp)]
theorem cells_of_shp {enc : TypeId × Value → Unit} {w : World} {base : Nat} {sp : Nat → Bool} {held : Bool} {fuel : Nat} {cs : List Value} {p : List MemPlace}
    (h : DataW.trod enc Tryd.prog w base sp held fuel 129 cs = some (.agg (shpT.map dataSh), p)) : cs = shpT.flatMap cellsSh := by
  cases fuel with
  | zero => simp [DataW.trod] at h
  | succ fuel =>
    unfold DataW.trod at h
    rw [undArr] at h
    try simp only at h
    rw [cShape, cArr] at h
    split at h
    · rename_i hl
      obtain ⟨xs, hm, hx⟩ := Option.map_eq_some_iff.1 h
      have hxs : xs.map (·.1) = shpT.map dataSh := by
        have := congrArg Prod.fst hx
        simpa using this
      have hlen : (shpT.flatMap cellsSh).length = 50 := by rw [flat_len (k := 5) (fun _ => rfl)]; rfl
      apply List.ext_getElem?
      intro j
      by_cases hj : j < 50
      · have hi : j / 5 < 10 := by omega
        obtain ⟨b, hb, hf⟩ := Lib.mapM_at hm (j / 5) (j / 5) (by simp [hi])
        have h1 := congrArg (·[j / 5]?) hxs
        simp only [List.getElem?_map, hb, Option.map_some] at h1
        have hti : shpT[j / 5]? = some (shpT[j / 5]'(by show j / 5 < 10; exact hi)) := List.getElem?_eq_getElem _
        rw [hti] at h1
        simp only [Option.map_some, Option.some.injEq] at h1
        obtain ⟨b1, b2⟩ := b
        try simp only at h1
        subst h1
        have hc := shape_of hf
        have hr : j % 5 < 5 := Nat.mod_lt _ (by omega)
        have h2 : (cellsSh (shpT[j / 5]'(by show j / 5 < 10; exact hi)))[j % 5]? = cs[j]? := by
          rw [← hc, List.getElem?_take, List.getElem?_drop, if_pos hr]
          congr 1
          omega
        cases h3 : cs[j]? with
        | none =>
          rw [List.getElem?_eq_none_iff] at h3
          omega
        | some u =>
          rw [h3] at h2
          have := flat_get (f := cellsSh) (k := 5) (fun _ => rfl) shpT hti h2
          rw [show j / 5 * 5 + j % 5 = j by omega] at this
          exact this.symm
      · rw [List.getElem?_eq_none (by omega), List.getElem?_eq_none (by omega)]
    · cases h

theorem wf_u8 {z : Int} (h : (Lit.int .u8 z).wf = true) : 0 ≤ z ∧ z < 256 := by
  have m0 : IntKind.u8.min = 0 := by decide
  have m1 : IntKind.u8.max = 255 := by decide
  simp [Lit.wf] at h
  omega
/-- The rows' list. -/
def listS1 : List (String × DataW Unit) := Rows.syntaxLimitsRow.laid
theorem shp_of {W : World} {n1 : String} {d1 : DataW Unit} {rest : List (String × DataW Unit)} (h : laidMet Tryd.prog ((n1, d1) :: rest) W) (hn : n1 = "flowquery/syntax.shapes") (hd : d1 = .agg (shpT.map dataSh)) : Shp W := by
  subst hn; subst hd
  obtain ⟨ps, ⟨g0, t0, cs0, f0, p0, q0, hg0, ht0, hv0, hd0, _, _⟩, _, _⟩ := h
  obtain rfl := Option.some.inj (gShp.symm.trans hg0)
  obtain rfl := Option.some.inj (gShpType.symm.trans ht0)
  have hc := cells_of_shp hd0
  intro j u hu
  rw [shp_cells, ← hc] at hu
  have := World.var?_cell gShp hv0 j
  rw [this]
  simpa using hu
theorem shp1 {W : World} (h : laidMetH Tryd.prog listS1 W) : Shp W := shp_of h rfl shp_data

/-- The heap that the program's own start leaves. -/
noncomputable def door (os : Os) : World := World.doorLaid Tryd.prog 400 os
theorem door_met (os : Os) (args : Array Value) : laidMet Tryd.prog listS1 ((door os).forCall (fun _ _ => 0) ⟨#[], args, []⟩).memory :=
  laidMet_of_run' 8 (by kernel_rfl) (by kernel_rfl)
theorem door_vars (os : Os) (args : Array Value) : ((door os).forCall (fun _ _ => 0) ⟨#[], args, []⟩).variablesRefB Tryd.prog = true := by kernel_rfl
theorem door_rest (os : Os) (args : Array Value) : (((door os).forCall (fun _ _ => 0) ⟨#[], args, []⟩).heap.toList.drop Tryd.prog.globals.size).take ((begin Tryd.prog (fun _ _ => 0) default).world.heap.size - Tryd.prog.globals.size) =
    (begin Tryd.prog (fun _ _ => 0) default).world.heap.toList.drop Tryd.prog.globals.size := by kernel_rfl
end Go.Proofs.YtidabbbjllofmaaDoor

namespace Go.Proofs.YtidabbbjllofmaaDoor.syntaxLimits
set_option maxRecDepth 100000
open Go.ChangeShapes Go.WideShapes Go.ChangeAt Go.RowKit
open Go.ChangeMaps (open_string)
set_option linter.unusedVariables false

theorem reads (os : Os) {H : Type} (enc : TypeId × Value → H) : ∃ places, DataW.whole enc Tryd.prog ((door os).forCall (fun _ _ => 0) ⟨#[], #[.int .u8 0, .bool false], []⟩).memory Tryd.f5.params.toList Rows.syntaxLimitsSpec.vars false (#[.int .u8 0, .bool false] : Array Value).toList 8 = some ([.lit (.int .u8 0), .lit (.bool false)], [], places) :=
  ⟨[], by kernel_rfl⟩

theorem lifted (os : Os) (started : os.Started) (H : Type) (enc : TypeId × Value → H) (F : Stop.Interp) :
    ReturnsInHanded {} Tryd.checked os 5 .any ((OpenSpec.ofChange Rows.syntaxLimitsSpec).preRow enc Tryd.prog Tryd.f5 Rows.syntaxLimitsRow.domain false Rows.syntaxLimitsRow.laid) (((OpenSpec.ofChange Rows.syntaxLimitsSpec).at F).post enc Tryd.prog Tryd.f5 false true false false) := by
  obtain ⟨places, hx⟩ := reads os enc
  refine returnsInHanded_of_row (C := Tryd.checked) (s := OpenSpec.ofChange Rows.syntaxLimitsSpec) own started (by kernel_rfl) Tryd.func5
    (witness_row_atRef (enc := enc) (C := Tryd.checked) false (door os) #[.int .u8 0, .bool false] rfl (door_vars os _) (door_rest os _) (by kernel_rfl)
      (OpenSpec.preRow_of_cond 8 hx (by kernel_rfl) (fun k hk => by cases hk) (by kernel_rfl) (door_met os _))) ?_
  intro W base args ds gs before hval0 hW _ _ _ hL hsh _
  have hval : ∀ (j : Nat) t v, Tryd.f5.params[j]? = some t → args[j]? = some v → Value.okWide Tryd.prog W .any base t v := hval0
  have hW' := hW
  obtain ⟨p, q, hA0, hV, rfl, hfz, hnd⟩ := hW
  have hA : DataW.TrodAll enc Tryd.prog W 0 (fun _ => true) true Tryd.f5.params.toList args.toList ds p := hA0
  rw [Tryd.params5] at hA hval
  obtain ⟨v0, vs0, d0, ds0, p0, q0, hargs, rfl, rfl, h0, r0⟩ := trodAll_cons hA
  obtain ⟨v1, vs1, d1, ds1, p1, q1, rfl, rfl, rfl, h1, r1⟩ := trodAll_cons r0
  obtain ⟨rfl, rfl, rfl⟩ := trodAll_nil r1
  obtain rfl : args = #[v0, v1] := by cases args; simp_all
  obtain ⟨rfl, rfl⟩ := trodVars_none hV
  have k0 := h0
  have lt0 : ∀ x ∈ p0, x.block < W.heap.size := by obtain ⟨m, hm⟩ := k0; exact DataW.trod_lt m _ _ _ hm
  obtain ⟨a0, rfl, -, -, g0⟩ := open_int Tryd.underlying5 (hval 0 5 v0 rfl rfl) h0
  have k1 := h1
  have lt1 : ∀ x ∈ p1, x.block < W.heap.size := by obtain ⟨m, hm⟩ := k1; exact DataW.trod_lt m _ _ _ hm
  obtain ⟨a1, rfl, -, -⟩ := open_bool Tryd.underlying4 (hval 1 4 v1 rfl rfl) h1
  clear hA0 hval0
  refine (lawLimits a0 a1 W (wf_u8 g0).1 (wf_u8 g0).2 (shp1 hL)).mono fun e W' ⟨he, bel⟩ => ?_
  subst he
  exact ⟨_, rfl, _, _, _, [], _, [], hW', trodAll_mk1 (shut_bool Tryd.underlying4 _), (trodAll_cons_mk (Below.trod laidOut (by kernel_rfl) (of_decide_eq_true (by kernel_rfl)) k0 bel lt0) (trodAll_cons_mk (Below.trod laidOut (by kernel_rfl) (of_decide_eq_true (by kernel_rfl)) k1 bel lt1) trodAll_mk0)), rfl, bel.frame _, fun h => by cases h⟩

theorem said : Rows.SyntaxLimitsSaid :=
  OpenClaim.holds_of_cond 5 Tryd.f5 rfl rfl rfl rfl rfl rfl rfl ⟨rfl, rfl, rfl, rfl, rfl⟩ rfl rfl rfl rfl rfl (by kernel_rfl) Tryd.func5 (by kernel_rfl)
    (of_decide_eq_true (by kernel_rfl)) (by unfold Func.isWrapper; first | (rw [if_pos (by decide +kernel)]; kernel_rfl) | (rw [if_neg (by decide +kernel)]; exact ⟨rfl, rfl⟩))
    (fun os started H enc _ F => by rw [OpenClaim.pre_eq_preRow]; exact lifted os started H enc F)

theorem plain (f : FuncId) (fn : Func) (hf : Tryd.pinned.checked.prog.funcNamed "flowquery/flqlaw5.SyntaxLimits" = some f) (hfn : Tryd.pinned.checked.prog.funcs[f]? = some fn) :
    false = Tryd.pinned.checked.prog.looks [] ∧ ∀ (j : Nat) t, fn.params[j]? = some t → Tryd.pinned.checked.prog.wantsStandIn t = false := by
  obtain rfl : f = 5 := Option.some.inj ((show Tryd.prog.funcNamed "flowquery/flqlaw5.SyntaxLimits" = some 5 by kernel_rfl).symm.trans hf) |>.symm
  obtain rfl : fn = Tryd.f5 := (Option.some.inj (Tryd.func5.symm.trans hfn)).symm
  refine ⟨by kernel_rfl, fun j t ht => ?_⟩
  rw [Tryd.params5] at ht
  have hm : t ∈ [5, 4] := by simpa using Array.mem_of_getElem? ht
  have hall : ([5, 4].all fun u => !Tryd.prog.wantsStandIn u) = true := by kernel_rfl
  exact (show Tryd.prog.wantsStandIn t = false by simpa using List.all_eq_true.1 hall t hm)

theorem proved : Rows.SyntaxLimitsCardSaid :=
  Claim7.holds_tied_plain_at .later [] _ _ _ _ said (fun _ h => by cases h) (by kernel_rfl) (fun _ h => by cases h) syntaxLimits_row_tie rfl ⟨rfl, rfl⟩ (by kernel_rfl) rfl plain (by kernel_rfl)
#print axioms proved
end Go.Proofs.YtidabbbjllofmaaDoor.syntaxLimits
