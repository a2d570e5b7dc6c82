/- For every list of choices: a program's text from which one line was removed or in which one was repeated is parsed as the grammar says: SyntaxSpoils returns true and leaves its argument as it was. The row's listed table of shapes holds what the program's text lays; the card ties it to it. No other condition. -/
import Derived.Test.YtlepcgncphikhaaDoorDp6
import Derived.Deep.DeepCutAuto
import Derived.Test.YtlepcgncphikhaaDoorScF
import Derived.Deep.RegionLaw
import Derived.Deep.DrawnRows
import Derived.Test.YtlepcgncphikhaaDoorStq
import Derived.Test.YtlepcgncphikhaaDoorVlp
import Derived.RegionTactic
import Derived.Test.YtlepcgncphikhaaDoorRp7
import Derived.Test.YtlepcgncphikhaaDoorDsc
import Derived.StillTailTactics
import Derived.Deep.RegionHeld3
import Derived.Test.YtlepcgncphikhaaDoorPcs
import Derived.Deep.Slices
import Derived.Test.YtlepcgncphikhaaDoorPms
import Derived.Test.YtlepcgncphikhaaDoorSrc
import Derived.Laws.IdiomStrings
import Derived.Lib.ConvBytes
import Derived.Lib.AtoiErrMem
import Derived.Test.YtlepcgncphikhaaDoorLns
import Derived.Test.YtlepcgncphikhaaDoorGnp
import Derived.Test.YtlepcgncphikhaaDoorSup
import Derived.Lib.SmallJoins
import Derived.ShutString
import Derived.ChangeOld
import Derived.Test.YtlepcgncphikhaaDoorTie
import Derived.Test.YtlepcgncphikhaaDoorCards
import Derived.Test.YtlepcgncphikhaaDoorDp1
import Derived.Deep.DeepHandedRow
import Derived.Deep.DeepWitnessRowRef
import Derived.LaidMore
import Derived.Lib.LaidTab
namespace Go.Proofs.YtlepcgncphikhaaDoor
set_option maxRecDepth 20000
set_option linter.unusedVariables false
set_option linter.unusedSimpArgs false
open Go.ChangeShapes Go.WideShapes Go.ChangeAt Go.RowKit
attribute [local go_sem] fieldTok0 fieldTok1 fieldTok2 fieldTok3

theorem own_mono {w : World} {base base' k n : Nat} {e : TypeId} {v : Value} {xs : List Value} (h : w.ownsRow base e k v n xs) (hb : base' ≤ base) : w.ownsRow base' e k v n xs := by
  obtain ⟨h1, h2⟩ := h
  refine ⟨h1, ?_⟩
  rcases h2 with h2 | ⟨g, cap, cur, a1, a2, a3⟩
  · exact .inl h2
  · exact .inr ⟨g, cap, cur, a1, Nat.le_trans hb a2, a3⟩
structure Bd {α : Type} (K : Kind α) (w0 : World) (b g : Nat) (σ : Ds) (nm : ByteArray) (v : Value) (l : List α) (w : World) : Prop where
  st : DTo w0 b σ w
  old : b < w0.heap.size
  hi : w0.heap.size < g
  f2 : Fb w w0.heap.size #[.string ⟨#[]⟩, .slice none 0 0] K.tb
  f3 : Fb w g #[.string nm, v] K.tb
  own : w.ownsRow (g + 1) K.te K.k v l.length (l.flatMap K.f)
  all : ∀ x ∈ l, Fr (g + 1) (K.P x) w
section
variable {α : Type} {K : Kind α} {w0 w w' : World} {b g : Nat} {σ σ' : Ds} {nm : ByteArray} {v : Value} {l : List α}
theorem Bd.start (h : DTo w0 b σ w) (ho : b < w0.heap.size) (hf : Fb w w0.heap.size #[.string ⟨#[]⟩, .slice none 0 0] K.tb) (y : ByteArray) :
    Bd K w0 b w.heap.size σ y (.slice none 0 0) [] (w.alloc (.cells #[.string y, .slice none 0 0] K.tb)) :=
  ⟨h.belowr ((Below.refl _ _).alloc (Nat.le_refl _) _), ho, hf.lt, hf.alloc _, Fb.new w _ _, World.ownsRow_nil _ _ _ _, by simp⟩
theorem Bd.call (h : Bd K w0 b g σ nm v l w) (hr : DTo w b σ' w') : Bd K w0 b g σ' nm v l w' :=
  ⟨h.st.trans hr, h.old, h.hi, h.f2.grown hr.2 (by have := h.old; simp; omega), h.f3.grown hr.2 (by have := h.old; have := h.hi; simp; omega), DTo.own h.own hr (by have := h.old; have := h.hi; omega),
    fun x hx => (h.all x hx).grown (K.go x) hr.2 (fun k hk => by injection hk with hk; have := h.old; have := h.hi; omega)⟩
theorem Bd.size (h : Bd K w0 b g σ nm v l w) : g + 1 ≤ w.heap.size := h.f3.lt
theorem Bd.cells (h : Bd K w0 b g σ nm v l w) :
    (w.cell? ⟨g, 0, none⟩ = some (.string nm) ∧ w.cell? ⟨g, 1, none⟩ = some v) ∧ (w.frozen? ⟨g, 0, none⟩ = false ∧ w.frozen? ⟨g, 1, none⟩ = false) ∧
    (w.cell? ⟨w0.heap.size, 0, none⟩ = some (.string ⟨#[]⟩) ∧ w.cell? ⟨w0.heap.size, 1, none⟩ = some (.slice none 0 0)) ∧ (w.frozen? ⟨w0.heap.size, 0, none⟩ = false ∧ w.frozen? ⟨w0.heap.size, 1, none⟩ = false) ∧ g < w.heap.size ∧ w0.heap.size < w.heap.size ∧ w0.heap.size ≠ g :=
  ⟨⟨h.f3.cell 0, h.f3.cell 1⟩, ⟨h.f3.frozen 0, h.f3.frozen 1⟩, ⟨h.f2.cell 0, h.f2.cell 1⟩, ⟨h.f2.frozen 0, h.f2.frozen 1⟩, h.f3.lt, h.f2.lt, by have := h.hi; omega⟩
/-- The list is stored. -/
theorem Bd.putL {wc : World} {B : Option Addr} {d n : Nat} {l2 : List α} (h : Bd K w0 b g σ nm v l w) (hc : g + 1 ≤ wc.heap.size) (hown : w.ownsRow wc.heap.size K.te K.k (.slice B n d) n (l2.flatMap K.f)) (hn : n = l2.length) (hall : ∀ x ∈ l2, Fr wc.heap.size (K.P x) w) :
    Bd K w0 b g σ nm (.slice B n d) l2 (w.setCell ⟨g, 1, none⟩ (.slice B n d)) := by
  have ho := h.old
  have hi := h.hi
  have hg := setCell_grown w ⟨g, 1, none⟩ (.slice B n d)
  subst hn
  refine ⟨⟨h.st.1.far (by show b < g; omega) _, grown_set_new h.st.2 (by show w0.heap.size ≤ g; omega) _⟩, ho, hi, h.f2.far (by show w0.heap.size ≠ g; omega) _, ?_, ?_, fun x hx => ((hall x hx).less hc).grown (K.go x) hg (fun k hk => by injection hk with hk; have : g = k := hk; omega)⟩
  · have := h.f3.set 1 (.slice B l2.length d)
    simpa using this
  · exact (own_mono hown hc).kept hg (by
      cases e : (Value.slice B l2.length d).ownBlock with
      | none => exact .inl rfl
      | some k => exact .inr (by have h2 := (hown.lt k e).1; show some k ≠ some g; simp; omega))
end
theorem Bd.doneB {w0 w : World} {b g n d : Nat} {B : Option Addr} {σ : Ds} {nm : ByteArray} {l : List SH} (h : Bd KS w0 b g σ nm (.slice B n d) l w) (hn : l.length = n) (hl : n ≤ 40) (hnm : nm.size ≤ 16) (p q : Value) {R : Blk × Ds} (hR : R = (⟨nm, l.map SH.t⟩, σ)) :
    RetDb w0 b R (.returned (agB ⟨nm, B, n, d, l⟩)) ((w.setCell ⟨w0.heap.size, 0, none⟩ p).setCell ⟨w0.heap.size, 1, none⟩ q) := by
  subst hR
  have ho := h.old
  have hi := h.hi
  have hg : w.grownBy ((w.setCell ⟨w0.heap.size, 0, none⟩ p).setCell ⟨w0.heap.size, 1, none⟩ q) (some w0.heap.size) := grown_two (setCell_grown w ⟨w0.heap.size, 0, none⟩ p) (setCell_grown _ ⟨w0.heap.size, 1, none⟩ q)
  refine ⟨⟨nm, B, n, d, l⟩, rfl, rfl, ?_, h.st.1.grown hg (fun k hk => by injection hk with hk; omega), set2_grown h.st.2 p q⟩
  have h1 : Fr (g + 1) (BP ⟨nm, B, n, d, l⟩) w := by
    subst hn
    exact fun ex he => ⟨EAt.own h.own (fun k hg2 hin => by have h1 := (h.own.lt k hg2).1; have h2 := he k hin; omega), rfl, hl, by show nm.size ≤ 1000; omega, fun y hy => (h.all y hy) ex he⟩
  exact (h1.grown (fun h hg => BHok.go h hg) hg (fun k hk => by injection hk with hk; omega)).less (by omega)
theorem Bd.doneF {w0 w : World} {b g n d : Nat} {B : Option Addr} {σ : Ds} {nm : ByteArray} {l : List BH} (h : Bd KB w0 b g σ nm (.slice B n d) l w) (hn : l.length = n) (hl : n ≤ 40) (hnm : nm.size ≤ 16) (p q : Value) {R : Fnc × Ds} (hR : R = (⟨nm, l.map BH.b⟩, σ)) :
    RetDf w0 b R (.returned (agF ⟨nm, B, n, d, l⟩)) ((w.setCell ⟨w0.heap.size, 0, none⟩ p).setCell ⟨w0.heap.size, 1, none⟩ q) := by
  subst hR
  have ho := h.old
  have hi := h.hi
  have hg : w.grownBy ((w.setCell ⟨w0.heap.size, 0, none⟩ p).setCell ⟨w0.heap.size, 1, none⟩ q) (some w0.heap.size) := grown_two (setCell_grown w ⟨w0.heap.size, 0, none⟩ p) (setCell_grown _ ⟨w0.heap.size, 1, none⟩ q)
  refine ⟨⟨nm, B, n, d, l⟩, rfl, rfl, ?_, h.st.1.grown hg (fun k hk => by injection hk with hk; omega), set2_grown h.st.2 p q⟩
  have h1 : Fr (g + 1) (FP ⟨nm, B, n, d, l⟩) w := by
    subst hn
    exact fun ex he => ⟨EAt.own h.own (fun k hg2 hin => by have h1 := (h.own.lt k hg2).1; have h2 := he k hin; omega), rfl, hl, by show nm.size ≤ 1000; omega, fun y hy => (h.all y hy) ex he⟩
  exact (h1.grown (fun h hg => FHok.go h hg) hg (fun k hk => by injection hk with hk; omega)).less (by omega)
set_option maxHeartbeats 3200000 in
theorem devBlock_any (b : Nat) (σ : Ds) (w : World) (h : Dst w b σ) : Calls Tryd.prog 112 #[.pointer (some ⟨b, 0, none⟩)] w (RetDb w b (blockS σ)) := by
  have HR : Hid (blockS σ = (⟨(nameS (wordS kwBlock σ)).1, (someS begS stmtS 32 (endS (nameS (wordS kwBlock σ)).2)).1⟩, (someS begS stmtS 32 (endS (nameS (wordS kwBlock σ)).2)).2)) := hid rfl
  have Hlt := hid h.lt
  have h0 := hid (show Dst (w.alloc (.cells #[.string ⟨#[]⟩, .slice none 0 0] 62)) b σ from h.below ((Below.refl _ _).alloc (Nat.le_refl _) _) h.lt)
  have hf0 := hid (Fb.new w #[.string ⟨#[]⟩, .slice none 0 0] 62)
  have hb0 := hid ((Below.refl w.heap.size w).alloc (Nat.le_refl _) (.cells #[.string ⟨#[]⟩, .slice none 0 0] 62))
  clear h
  go_enter Tryd.func112, Tryd.ntmps112
  go_wp2_with fail
  generalize w.alloc (.cells #[.string ⟨#[]⟩, .slice none 0 0] 62) = wa at *
  refine (devWord_any b σ kwBlock kwbl.2.1 _ h0.out).mono ?_
  rintro e w1 ⟨rfl, h1⟩
  have H1 := hid (DTo.belowl hb0.out h1)
  have hf1 := hid (hf0.out.grown h1.2 (by have := Hlt.out; simp; omega))
  clear h1 h0 hf0 hb0
  generalize wordS kwBlock σ = σ1 at *
  go_wp2_with fail
  refine (devName_any b σ1 _ H1.out.1).mono ?_
  rintro e w2 ⟨rfl, h2⟩
  have H2 := hid (H1.out.trans h2)
  have H16 := hid H1.out.1.name16
  have hf2 := hid (hf1.out.grown h2.2 (by have := Hlt.out; simp; omega))
  clear h2 H1 hf1
  generalize (nameS σ1).1 = y at *
  generalize (nameS σ1).2 = σ2 at *
  have H3 := hid (Bd.start (K := KS) H2.out Hlt.out hf2.out y)
  have H3' : Hid (Bd KS w b w2.heap.size σ2 y (.slice none 0 0) [] (w2.alloc (.cells #[.string y, .slice none 0 0] 62))) := H3
  clear H2 hf2 H3
  go_wp2_with fail
  generalize w2.alloc (.cells #[.string y, .slice none 0 0] 62) = w3 at *
  generalize w2.heap.size = g at *
  refine (devEnd_any b σ2 _ H3'.out.st.1).mono ?_
  rintro e w4 ⟨rfl, h4⟩
  have H4 := hid (H3'.out.call h4)
  clear h4 H3'
  generalize endS σ2 = σ3 at *
  go_wp2_with fail
  refine (devSome_stmt b σ3 _ H4.out.st.1).mono ?_
  rintro e w5 ⟨B, d, l, rfl, hl, hown, hfr, h5⟩
  have H5 := hid (H4.out.call h5)
  have hl2 : l.length ≤ 32 := by
    have h1 : (l.map SH.t).length = (someS begS stmtS 32 σ3).1.length := by rw [hl]
    have h2 : (someS begS stmtS 32 σ3).1.length ≤ 32 := listS_len begS stmtS 32 σ3
    rw [List.length_map] at h1; omega
  rw [← hl] at HR
  obtain ⟨⟨q0, q1⟩, ⟨r0, r1⟩, -, -, hz, -, -⟩ := H5.out.cells
  have H6 := hid (H5.out.putL H4.out.size hown rfl hfr)
  clear hl hown hfr h5 H4 H5
  generalize (someS begS stmtS 32 σ3).2 = σ4 at *
  generalize hm : l.length = m at *
  have Hm := hid hm
  clear hm
  go_upto_region 5 with fail
  generalize w5.setCell ⟨g, 1, none⟩ (.slice B m d) = w6 at *
  clear q0 q1 r0 r1 hz
  obtain ⟨⟨p0, p1⟩, -, ⟨v0, v1⟩, ⟨s0, s1⟩, hsz, hsz2, hsz3⟩ := H6.out.cells
  go_wp2_with fail
  refine bodyPost_ret (v := agB ⟨y, B, m, d, l⟩) (by simp [results, Tryd.results112, go_sem, p0, p1, s0, s1, v0, v1, hsz, hsz2, agB]) rfl ?_
  exact H6.out.doneB Hm.out (by omega) H16.out _ _ HR.out
end Go.Proofs.YtlepcgncphikhaaDoor

namespace Go.Proofs.YtlepcgncphikhaaDoor
set_option maxRecDepth 20000
set_option linter.unusedVariables false
set_option linter.unusedSimpArgs false
open Go.ChangeShapes Go.WideShapes Go.ChangeAt Go.RowKit
attribute [local go_sem] fieldTok0 fieldTok1 fieldTok2 fieldTok3

set_option maxHeartbeats 3200000 in
theorem devList_block (b : Nat) (σ : Ds) (w : World) (h : Dst w b σ) :
    Calls Tryd.prog 131 #[.pointer (some ⟨b, 0, none⟩), .int .i64 16, .func (Fn.func 111) #[] #[], .func (Fn.func 112) #[.pointer (some ⟨b, 0, none⟩)] #[]] w (RetLs KB BH.b w b (listS begB blockS 16 σ)) := by
  have Hst := hid (Lg.start (K := KB) h)
  clear h
  obtain ⟨i0, hi, hz0, hz1, hz2⟩ := info_parts info66
  have Hi := hid hi; have Hz0 := hid hz0; have Hz1 := hid hz1; have Hz2 := hid hz2
  clear hi hz0 hz1 hz2
  go_enter Tryd.func131, Tryd.ntmps131
  go_wp2_with fail
  go_loopw [9] (fun v wr => ∃ (l : List BH) (n : Nat) (σ2 : Ds), Hid (Lg KB w b σ2 v l wr) ∧ Hid (Drel begB blockS 16 σ (l.map BH.b) n σ2)) (fun v _ => 16 + 1 - (lenOf v))
  case atStart => exact ⟨[], 16, σ, Hst.out, Drel.start⟩
  case round =>
    clear Hst
    obtain ⟨l, n, σ2, H, HL⟩ := hrel
    obtain ⟨B, d, hv⟩ := own_any_slice H.out.own
    subst hv
    have hlen : l.length + n = 16 := by have := HL.out.1; simpa using this
    have Hm := hid (show lenOf (.slice B l.length d) = l.length from rfl)
    cases hb : begB (nxt σ2.l).text with
    | false =>
      have HB := hid hb
      clear hb
      go_wp2_with fail
      refine (devNext_any b σ2 _ H.out.st.1).mono ?_
      rintro e w1 ⟨rfl, hb1⟩
      have H1 := hid (H.out.below hb1)
      clear hb1
      unfold agT
      go_wp2_with fail
      refine (devBegB_any (nxt σ2.l).text _).mono ?_
      rw [HB.out]
      rintro e w' ⟨rfl, rfl⟩
      go_wp2
      go_ret
      exact H1.out.done (HL.out.stop HB.out)
    | true =>
      have HB := hid hb
      clear hb
      cases n with
      | zero =>
        have tl : ((l.length : Int) == 16) = true := by simp; omega
        have Htl := hid tl
        clear tl
        go_wp2_with fail
        refine (devNext_any b σ2 _ H.out.st.1).mono ?_
        rintro e w1 ⟨rfl, hb1⟩
        have H1 := hid (H.out.below hb1)
        clear hb1
        unfold agT
        go_wp2_with fail
        refine (devBegB_any (nxt σ2.l).text _).mono ?_
        rw [HB.out]
        rintro e w' ⟨rfl, rfl⟩
        generalize hn0 : l.length = n0 at *
        have Hn0 := hid hn0
        clear hn0
        have tl := Htl.out
        go_wp2_with fail
        refine (devFail_any b σ2 7 _ H1.out.st.1).mono ?_
        rintro e w2 ⟨rfl, h2⟩
        have H2 := hid (H1.out.call h2)
        clear h2
        go_wp2
        go_ret
        exact Lg.done2 H2.out Hn0.out.symm (by first | exact Hn0.out.symm | (have := Hn0.out; omega)) (HL.out.full HB.out)
      | succ n =>
        have tl : ((l.length : Int) == 16) = false := by simp; omega
        have hl32 : l.length < 16 := by omega
        go_wp2_with fail
        refine (devNext_any b σ2 _ H.out.st.1).mono ?_
        rintro e w1 ⟨rfl, hb1⟩
        have H1 := hid (H.out.below hb1)
        clear hb1
        unfold agT
        go_wp2_with fail
        refine (devBegB_any (nxt σ2.l).text _).mono ?_
        rw [HB.out]
        rintro e w' ⟨rfl, rfl⟩
        go_wp2_with fail
        refine (devBlock_any b σ2 _ H1.out.st.1).mono ?_
        rintro e w2 ⟨x, he, hxt, hfx, h2⟩
        unfold agB at he
        subst he
        have H2 := hid (H1.out.call h2)
        have HxV := hid (Lg.fresh H1.out hfx)
        have Hxt := hid hxt
        clear h2 hfx hxt
        have hbase := H2.out.st.2.size
        have Hp := hid (fun (g5 cap5 : Nat) (w5 : World) hown5 hgr5 hat5 => Lg.push (x := x) (g9 := g5) (cap9 := cap5) (w9 := w5) (o := .cells (bhc x).toArray 62) H2.out HxV.out hgr5 hown5 hat5)
        go_wp2_with ((
          at_builtin
          refine wpList_append_lies _ rfl _ _ 56 rfl w.heap.size 62 i0 _ 2 40 Tryd.underlying56 Hi.out Hz0.out Hz1.out Hz2.out rfl (by decide) _ l.length (l.flatMap (Kind.f KB)) rfl (World.ownsRow.alloc H2.out.own _) ⟨w2.heap.size, 0, none⟩ 1 1 (bhc x) rfl rfl (two_new _ _ _ _) (one_two _ _ _ _) (by omega) (by unfold maxLen; omega) (by omega) (by rw [World.size_alloc]; omega) _ rfl ?_
          intro g5 cap5 w5 hown5 hgr5 hat5 hlt5
          have H5 := hid (Hp.out g5 cap5 w5 hown5 hgr5 hat5)
          clear hown5 hgr5 hat5 hlt5))
        go_roundw
        case rel => exact ⟨_, n, _, H5.out, HL.out.step_as HB.out (Hxt.out)⟩
        case measure => show 16 + 1 - (l.length + 1) < 16 + 1 - lenOf (.slice B l.length d); rw [Hm.out]; omega
set_option maxHeartbeats 1600000 in
theorem devSome_block (b : Nat) (σ : Ds) (w : World) (h : Dst w b σ) :
    Calls Tryd.prog 110 #[.pointer (some ⟨b, 0, none⟩), .int .i64 16, .func (Fn.func 111) #[] #[], .func (Fn.func 112) #[.pointer (some ⟨b, 0, none⟩)] #[]] w (RetLs KB BH.b w b (someS begB blockS 16 σ)) := by
  have H := hid h
  clear h
  go_enter Tryd.func110, Tryd.ntmps110
  go_wp2_with fail
  refine (devList_block b σ _ H.out).mono ?_
  rintro e w1 ⟨B, d, l, rfl, hl, hown, hfr, h1⟩
  have hR : someS begB blockS 16 σ = ((listS begB blockS 16 σ).1, if (listS begB blockS 16 σ).1.isEmpty then failS 4 (listS begB blockS 16 σ).2 else (listS begB blockS 16 σ).2) := rfl
  have HR := hid hR
  have Hl := hid hl; have Hown := hid hown; have Hfr := hid hfr; have H1 := hid h1
  have Hlt := hid H.out.lt
  clear hR hl hown hfr h1
  generalize listS begB blockS 16 σ = r at *
  obtain ⟨r1, σ1⟩ := r
  cases l with
  | nil =>
    have hr : r1 = [] := Hl.out.symm
    subst hr
    go_wp2_with fail
    refine (devFail_any b σ1 4 _ H1.out.1).mono ?_
    rintro e w2 ⟨rfl, h2⟩
    have H2 := hid h2
    clear h2
    go_wp2
    go_ret
    rw [HR.out]
    exact ⟨B, d, [], rfl, rfl, DTo.own Hown.out H2.out Hlt.out, by simp, H1.out.trans H2.out⟩
  | cons x l =>
    have hr : r1.isEmpty = false := by have h1 : List.map BH.b (x :: l) = r1 := Hl.out; rw [← h1]; rfl
    rw [hr] at HR
    clear hr
    generalize hn0 : (x :: l).length = n0 at *
    have Hn0 := hid hn0
    have hpos : 0 < n0 := by rw [← hn0]; simp
    clear hn0
    go_wp2
    go_ret
    rw [HR.out]
    exact ⟨B, d, x :: l, by rw [Hn0.out]; rfl, Hl.out, by rw [Hn0.out]; exact Hown.out, Hfr.out, H1.out⟩
end Go.Proofs.YtlepcgncphikhaaDoor

namespace Go.Proofs.YtlepcgncphikhaaDoor
set_option maxRecDepth 20000
set_option linter.unusedVariables false
set_option linter.unusedSimpArgs false
open Go.ChangeShapes Go.WideShapes Go.ChangeAt Go.RowKit
attribute [local go_sem] fieldTok0 fieldTok1 fieldTok2 fieldTok3

set_option maxHeartbeats 3200000 in
theorem devFunc_any (b : Nat) (σ : Ds) (w : World) (h : Dst w b σ) : Calls Tryd.prog 79 #[.pointer (some ⟨b, 0, none⟩)] w (RetDf w b (funcS σ)) := by
  have HR : Hid (funcS σ = (⟨(nameS (wordS kwFunc σ)).1, (someS begB blockS 16 (endS (nameS (wordS kwFunc σ)).2)).1⟩, endS (wordS kwEnd (someS begB blockS 16 (endS (nameS (wordS kwFunc σ)).2)).2))) := hid rfl
  have Hlt := hid h.lt
  have h0 := hid (show Dst (w.alloc (.cells #[.string ⟨#[]⟩, .slice none 0 0] 58)) b σ from h.below ((Below.refl _ _).alloc (Nat.le_refl _) _) h.lt)
  have hf0 := hid (Fb.new w #[.string ⟨#[]⟩, .slice none 0 0] 58)
  have hb0 := hid ((Below.refl w.heap.size w).alloc (Nat.le_refl _) (.cells #[.string ⟨#[]⟩, .slice none 0 0] 58))
  clear h
  go_enter Tryd.func79, Tryd.ntmps79
  go_wp2_with fail
  generalize w.alloc (.cells #[.string ⟨#[]⟩, .slice none 0 0] 58) = wa at *
  refine (devWord_any b σ kwFunc kwf.2.1 _ h0.out).mono ?_
  rintro e w1 ⟨rfl, h1⟩
  have H1 := hid (DTo.belowl hb0.out h1)
  have hf1 := hid (hf0.out.grown h1.2 (by have := Hlt.out; simp; omega))
  clear h1 h0 hf0 hb0
  generalize wordS kwFunc σ = σ1 at *
  go_wp2_with fail
  refine (devName_any b σ1 _ H1.out.1).mono ?_
  rintro e w2 ⟨rfl, h2⟩
  have H2 := hid (H1.out.trans h2)
  have H16 := hid H1.out.1.name16
  have hf2 := hid (hf1.out.grown h2.2 (by have := Hlt.out; simp; omega))
  clear h2 H1 hf1
  generalize (nameS σ1).1 = y at *
  generalize (nameS σ1).2 = σ2 at *
  have H3 := hid (Bd.start (K := KB) H2.out Hlt.out hf2.out y)
  have H3' : Hid (Bd KB w b w2.heap.size σ2 y (.slice none 0 0) [] (w2.alloc (.cells #[.string y, .slice none 0 0] 58))) := H3
  clear H2 hf2 H3
  go_wp2_with fail
  generalize w2.alloc (.cells #[.string y, .slice none 0 0] 58) = w3 at *
  generalize w2.heap.size = g at *
  refine (devEnd_any b σ2 _ H3'.out.st.1).mono ?_
  rintro e w4 ⟨rfl, h4⟩
  have H4 := hid (H3'.out.call h4)
  clear h4 H3'
  generalize endS σ2 = σ3 at *
  go_wp2_with fail
  refine (devSome_block b σ3 _ H4.out.st.1).mono ?_
  rintro e w5 ⟨B, d, l, rfl, hl, hown, hfr, h5⟩
  have H5 := hid (H4.out.call h5)
  have hl2 : l.length ≤ 16 := by
    have h1 : (l.map BH.b).length = (someS begB blockS 16 σ3).1.length := by rw [hl]
    have h2 : (someS begB blockS 16 σ3).1.length ≤ 16 := listS_len begB blockS 16 σ3
    rw [List.length_map] at h1; omega
  rw [← hl] at HR
  obtain ⟨⟨q0, q1⟩, ⟨r0, r1⟩, -, -, hz, -, -⟩ := H5.out.cells
  have H6 := hid (H5.out.putL H4.out.size hown rfl hfr)
  clear hl hown hfr h5 H4 H5
  generalize (someS begB blockS 16 σ3).2 = σ4 at *
  generalize hm : l.length = m at *
  have Hm := hid hm
  clear hm
  go_wp2_with fail
  generalize w5.setCell ⟨g, 1, none⟩ (.slice B m d) = w6 at *
  clear q0 q1 r0 r1 hz
  refine (devWord_any b σ4 kwEnd kwen.2.1 _ H6.out.st.1).mono ?_
  rintro e w7 ⟨rfl, h7⟩
  have H7 := hid (H6.out.call h7)
  clear h7 H6
  generalize wordS kwEnd σ4 = σ5 at *
  go_wp2_with fail
  refine (devEnd_any b σ5 _ H7.out.st.1).mono ?_
  rintro e w8 ⟨rfl, h8⟩
  have H8 := hid (H7.out.call h8)
  clear h8 H7
  obtain ⟨⟨p0, p1⟩, -, ⟨v0, v1⟩, ⟨s0, s1⟩, hsz, hsz2, hsz3⟩ := H8.out.cells
  go_wp2_with fail
  refine bodyPost_ret (v := agF ⟨y, B, m, d, l⟩) (by simp [results, Tryd.results79, go_sem, p0, p1, s0, s1, v0, v1, hsz, hsz2, agF]) rfl ?_
  exact H8.out.doneF Hm.out (by omega) H16.out _ _ HR.out
end Go.Proofs.YtlepcgncphikhaaDoor

namespace Go.Proofs.YtlepcgncphikhaaDoor
set_option maxRecDepth 20000
set_option linter.unusedVariables false
set_option linter.unusedSimpArgs false
open Go.ChangeShapes Go.WideShapes Go.ChangeAt Go.RowKit
attribute [local go_sem] fieldTok0 fieldTok1 fieldTok2 fieldTok3

set_option maxHeartbeats 3200000 in
theorem devList_func (b : Nat) (σ : Ds) (w : World) (h : Dst w b σ) :
    Calls Tryd.prog 106 #[.pointer (some ⟨b, 0, none⟩), .int .i64 8, .func (Fn.func 78) #[] #[], .func (Fn.func 79) #[.pointer (some ⟨b, 0, none⟩)] #[]] w (RetLs KF FH.f w b (listS begF funcS 8 σ)) := by
  have Hst := hid (Lg.start (K := KF) h)
  clear h
  obtain ⟨i0, hi, hz0, hz1, hz2⟩ := info_parts info63
  have Hi := hid hi; have Hz0 := hid hz0; have Hz1 := hid hz1; have Hz2 := hid hz2
  clear hi hz0 hz1 hz2
  go_enter Tryd.func106, Tryd.ntmps106
  go_wp2_with fail
  go_loopw [9] (fun v wr => ∃ (l : List FH) (n : Nat) (σ2 : Ds), Hid (Lg KF w b σ2 v l wr) ∧ Hid (Drel begF funcS 8 σ (l.map FH.f) n σ2)) (fun v _ => 8 + 1 - (lenOf v))
  case atStart => exact ⟨[], 8, σ, Hst.out, Drel.start⟩
  case round =>
    clear Hst
    obtain ⟨l, n, σ2, H, HL⟩ := hrel
    obtain ⟨B, d, hv⟩ := own_any_slice H.out.own
    subst hv
    have hlen : l.length + n = 8 := by have := HL.out.1; simpa using this
    have Hm := hid (show lenOf (.slice B l.length d) = l.length from rfl)
    cases hb : begF (nxt σ2.l).text with
    | false =>
      have HB := hid hb
      clear hb
      go_wp2_with fail
      refine (devNext_any b σ2 _ H.out.st.1).mono ?_
      rintro e w1 ⟨rfl, hb1⟩
      have H1 := hid (H.out.below hb1)
      clear hb1
      unfold agT
      go_wp2_with fail
      refine (devBegF_any (nxt σ2.l).text _).mono ?_
      rw [HB.out]
      rintro e w' ⟨rfl, rfl⟩
      go_wp2
      go_ret
      exact H1.out.done (HL.out.stop HB.out)
    | true =>
      have HB := hid hb
      clear hb
      cases n with
      | zero =>
        have tl : ((l.length : Int) == 8) = true := by simp; omega
        have Htl := hid tl
        clear tl
        go_wp2_with fail
        refine (devNext_any b σ2 _ H.out.st.1).mono ?_
        rintro e w1 ⟨rfl, hb1⟩
        have H1 := hid (H.out.below hb1)
        clear hb1
        unfold agT
        go_wp2_with fail
        refine (devBegF_any (nxt σ2.l).text _).mono ?_
        rw [HB.out]
        rintro e w' ⟨rfl, rfl⟩
        generalize hn0 : l.length = n0 at *
        have Hn0 := hid hn0
        clear hn0
        have tl := Htl.out
        go_wp2_with fail
        refine (devFail_any b σ2 7 _ H1.out.st.1).mono ?_
        rintro e w2 ⟨rfl, h2⟩
        have H2 := hid (H1.out.call h2)
        clear h2
        go_wp2
        go_ret
        exact Lg.done2 H2.out Hn0.out.symm (by first | exact Hn0.out.symm | (have := Hn0.out; omega)) (HL.out.full HB.out)
      | succ n =>
        have tl : ((l.length : Int) == 8) = false := by simp; omega
        have hl32 : l.length < 8 := by omega
        go_wp2_with fail
        refine (devNext_any b σ2 _ H.out.st.1).mono ?_
        rintro e w1 ⟨rfl, hb1⟩
        have H1 := hid (H.out.below hb1)
        clear hb1
        unfold agT
        go_wp2_with fail
        refine (devBegF_any (nxt σ2.l).text _).mono ?_
        rw [HB.out]
        rintro e w' ⟨rfl, rfl⟩
        go_wp2_with fail
        refine (devFunc_any b σ2 _ H1.out.st.1).mono ?_
        rintro e w2 ⟨x, he, hxt, hfx, h2⟩
        unfold agF at he
        subst he
        have H2 := hid (H1.out.call h2)
        have HxV := hid (Lg.fresh H1.out hfx)
        have Hxt := hid hxt
        clear h2 hfx hxt
        have hbase := H2.out.st.2.size
        have Hp := hid (fun (g5 cap5 : Nat) (w5 : World) hown5 hgr5 hat5 => Lg.push (x := x) (g9 := g5) (cap9 := cap5) (w9 := w5) (o := .cells (fhc x).toArray 58) H2.out HxV.out hgr5 hown5 hat5)
        go_wp2_with ((
          at_builtin
          refine wpList_append_lies _ rfl _ _ 32 rfl w.heap.size 58 i0 _ 2 40 Tryd.underlying32 Hi.out Hz0.out Hz1.out Hz2.out rfl (by decide) _ l.length (l.flatMap (Kind.f KF)) rfl (World.ownsRow.alloc H2.out.own _) ⟨w2.heap.size, 0, none⟩ 1 1 (fhc x) rfl rfl (two_new _ _ _ _) (one_two _ _ _ _) (by omega) (by unfold maxLen; omega) (by omega) (by rw [World.size_alloc]; omega) _ rfl ?_
          intro g5 cap5 w5 hown5 hgr5 hat5 hlt5
          have H5 := hid (Hp.out g5 cap5 w5 hown5 hgr5 hat5)
          clear hown5 hgr5 hat5 hlt5))
        go_roundw
        case rel => exact ⟨_, n, _, H5.out, HL.out.step_as HB.out (Hxt.out)⟩
        case measure => show 8 + 1 - (l.length + 1) < 8 + 1 - lenOf (.slice B l.length d); rw [Hm.out]; omega
set_option maxHeartbeats 1600000 in
theorem devSome_func (b : Nat) (σ : Ds) (w : World) (h : Dst w b σ) :
    Calls Tryd.prog 77 #[.pointer (some ⟨b, 0, none⟩), .int .i64 8, .func (Fn.func 78) #[] #[], .func (Fn.func 79) #[.pointer (some ⟨b, 0, none⟩)] #[]] w (RetLs KF FH.f w b (someS begF funcS 8 σ)) := by
  have H := hid h
  clear h
  go_enter Tryd.func77, Tryd.ntmps77
  go_wp2_with fail
  refine (devList_func b σ _ H.out).mono ?_
  rintro e w1 ⟨B, d, l, rfl, hl, hown, hfr, h1⟩
  have hR : someS begF funcS 8 σ = ((listS begF funcS 8 σ).1, if (listS begF funcS 8 σ).1.isEmpty then failS 4 (listS begF funcS 8 σ).2 else (listS begF funcS 8 σ).2) := rfl
  have HR := hid hR
  have Hl := hid hl; have Hown := hid hown; have Hfr := hid hfr; have H1 := hid h1
  have Hlt := hid H.out.lt
  clear hR hl hown hfr h1
  generalize listS begF funcS 8 σ = r at *
  obtain ⟨r1, σ1⟩ := r
  cases l with
  | nil =>
    have hr : r1 = [] := Hl.out.symm
    subst hr
    go_wp2_with fail
    refine (devFail_any b σ1 4 _ H1.out.1).mono ?_
    rintro e w2 ⟨rfl, h2⟩
    have H2 := hid h2
    clear h2
    go_wp2
    go_ret
    rw [HR.out]
    exact ⟨B, d, [], rfl, rfl, DTo.own Hown.out H2.out Hlt.out, by simp, H1.out.trans H2.out⟩
  | cons x l =>
    have hr : r1.isEmpty = false := by have h1 : List.map FH.f (x :: l) = r1 := Hl.out; rw [← h1]; rfl
    rw [hr] at HR
    clear hr
    generalize hn0 : (x :: l).length = n0 at *
    have Hn0 := hid hn0
    have hpos : 0 < n0 := by rw [← hn0]; simp
    clear hn0
    go_wp2
    go_ret
    rw [HR.out]
    exact ⟨B, d, x :: l, by rw [Hn0.out]; rfl, Hl.out, by rw [Hn0.out]; exact Hown.out, Hfr.out, H1.out⟩
end Go.Proofs.YtlepcgncphikhaaDoor

namespace Go.Proofs.YtlepcgncphikhaaDoor
set_option maxRecDepth 20000
set_option linter.unusedVariables false
set_option linter.unusedSimpArgs false
open Go.ChangeShapes Go.WideShapes Go.ChangeAt Go.RowKit
attribute [local go_sem] fieldTok0 fieldTok1 fieldTok2 fieldTok3
attribute [local go_sem ↓] Go.wp_at_zero Go.wp_at_succ

def PP (x : PH) : World → List (Option Nat) → Prop := fun w ex => PHok w ex x
theorem PP.go {x : PH} {w w' : World} {ex ex' : List (Option Nat)} (h : PP x w ex) (hg : Go2 w ex w' ex') : PP x w' ex' := PHok.go h hg
def RetDp (w : World) (b : Nat) (r : List Fnc × Ds) (e : Ending) (w' : World) : Prop := ∃ x : PH, e = .returned (.agg #[.slice x.A x.n x.c]) ∧ x.p = r.1 ∧ Fr w.heap.size (PP x) w' ∧ DTo w b r.2 w'
theorem pp_of {w : World} {base : Nat} {B : Option Addr} {d : Nat} {l : List FH} (hown : w.ownsRow base 58 2 (.slice B l.length d) l.length (l.flatMap fhc)) (hall : ∀ x ∈ l, Fr base (FP x) w) (hl : l.length ≤ 40) : Fr base (PP ⟨B, l.length, d, l⟩) w :=
  fun ex he => ⟨EAt.own hown (fun g hg hin => by have h1 := (hown.lt g hg).1; have h2 := he g hin; omega), rfl, hl, fun y hy => hall y hy ex he⟩
set_option maxHeartbeats 3200000 in
theorem devProgram_any (b : Nat) (σ : Ds) (w : World) (h : Dst w b σ) : Calls Tryd.prog 48 #[.pointer (some ⟨b, 0, none⟩)] w (RetDp w b (progS σ)) := by
  have HR : Hid (progS σ = ((someS begF funcS 8 σ).1, if (someS begF funcS 8 σ).2.l.isEmpty then (someS begF funcS 8 σ).2 else failS 4 (someS begF funcS 8 σ).2)) := hid rfl
  have Hlt := hid h.lt
  have h0 := hid (show Dst (w.alloc (.cells #[.slice none 0 0] 34)) b σ from h.below ((Below.refl _ _).alloc (Nat.le_refl _) _) h.lt)
  have hf0 := hid (Fb.new w #[.slice none 0 0] 34)
  have hb0 := hid ((Below.refl w.heap.size w).alloc (Nat.le_refl _) (.cells #[.slice none 0 0] 34))
  have hwa := hid (show (w.alloc (.cells #[.slice none 0 0] 34)).heap.size = w.heap.size + 1 by rw [World.size_alloc])
  clear h
  go_enter Tryd.func48, Tryd.ntmps48
  go_wp2_with fail
  generalize w.alloc (.cells #[.slice none 0 0] 34) = wa at *
  refine (devSome_func b σ _ h0.out).mono ?_
  rintro e w1 ⟨B, d, l, rfl, hl, hown, hfr, h1⟩
  have H1 := hid (DTo.belowl hb0.out h1)
  have hf1 := hid (hf0.out.grown h1.2 (by have := Hlt.out; simp; omega))
  have hl2 : l.length ≤ 8 := by
    have h1 : (l.map FH.f).length = (someS begF funcS 8 σ).1.length := by rw [hl]
    have h2 : (someS begF funcS 8 σ).1.length ≤ 8 := listS_len begF funcS 8 σ
    rw [List.length_map] at h1; omega
  rw [← hl] at HR
  have Hp := hid ((pp_of hown hfr (by omega)).less (show w.heap.size + 1 ≤ wa.heap.size by have := hwa.out; omega))
  generalize (someS begF funcS 8 σ).2 = σ1 at *
  have HA := hid ((Below.refl w1.heap.size w1).alloc (Nat.le_refl _) (.cells #[.slice B l.length d] 34))
  have H2 := hid (H1.out.belowr HA.out)
  have hf2 := hid (hf1.out.below HA.out hf1.out.lt)
  have hf3 := hid (Fb.new w1 #[.slice B l.length d] 34)
  have Hp2 : Hid (Fr (w.heap.size + 1) (PP ⟨B, l.length, d, l⟩) (w1.alloc (.cells #[.slice B l.length d] 34))) := hid (Fr.grown (fun h hg => PP.go h hg) Hp.out (grown_of_below HA.out none) (fun k hk => by cases hk))
  have hg1 := hid (show w.heap.size < w1.heap.size from hf1.out.lt)
  clear hl hown hfr h1 h0 hf0 hb0 H1 hf1 Hp HA
  generalize hm : l.length = m at *
  have Hm := hid hm
  clear hm
  obtain ⟨A0, c0, hfb, -, -⟩ := H2.out.1.ex
  obtain ⟨⟨q0, -, -, -⟩, -⟩ := hfb.fourc
  have hfew := H2.out.1.few
  clear hfb
  obtain ⟨l1, ln1, cl1, er1⟩ := σ1
  simp only at q0 hfew
  go_upto_region 2 with fail
  generalize w1.alloc (.cells #[.slice B m d] 34) = w2 at *
  generalize w1.heap.size = g at *
  cases l1 with
  | nil =>
    have HR2 : Hid (progS σ = (l.map FH.f, (⟨[], ln1, cl1, er1⟩ : Ds))) := HR
    clear HR
    have k0 := hf3.out.cell 0
    have v0 := hf2.out.cell 0
    have s0 := hf2.out.frozen 0
    have hsz := hf2.out.lt
    have hb2 := hid (show DTo w b ⟨[], ln1, cl1, er1⟩ (w2.setCell ⟨w.heap.size, 0, none⟩ (.slice B m d)) from ⟨H2.out.1.far Hlt.out _, grown_set_new H2.out.2 (p := ⟨w.heap.size, 0, none⟩) (Nat.le_refl _) _⟩)
    have hpp := hid (Fr.less (M := w.heap.size) (Fr.grown (fun h hg => PP.go h hg) Hp2.out (setCell_grown w2 ⟨w.heap.size, 0, none⟩ (.slice B m d)) (fun k hk => by injection hk with hk; have : w.heap.size = k := hk; omega)) (by omega))
    go_wp2_with fail
    refine bodyPost_ret (v := .agg #[.slice B m d]) (by simp [results, Tryd.results48, go_sem, v0, s0, k0, hsz]) rfl ⟨⟨B, m, d, l⟩, rfl, ?_, hpp.out, ?_⟩
    · rw [HR2.out]; rfl
    · rw [HR2.out]; exact hb2.out
  | cons t l1 =>
    have HR2 : Hid (progS σ = (l.map FH.f, failS 4 (⟨t :: l1, ln1, cl1, er1⟩ : Ds))) := HR
    clear HR
    have hll : (t :: l1).length = l1.length + 1 := by simp
    rw [hll] at q0 hfew
    clear hll
    go_wp2_with fail
    refine (devFail_any b _ 4 _ H2.out.1).mono ?_
    rintro e w3 ⟨rfl, h3⟩
    have H3 := hid (H2.out.trans h3)
    have hf4 := hid (hf2.out.grown h3.2 (by have := Hlt.out; simp; omega))
    have hf5 := hid (hf3.out.grown h3.2 (by have := Hlt.out; have := hg1.out; simp; omega))
    have Hp3 : Hid (Fr (w.heap.size + 1) (PP ⟨B, m, d, l⟩) w3) := hid (Fr.grown (fun h hg => PP.go h hg) Hp2.out h3.2 (fun k hk => by injection hk with hk; have := Hlt.out; omega))
    clear h3 H2 hf2 hf3 Hp2 q0
    have k0 := hf5.out.cell 0
    have v0 := hf4.out.cell 0
    have s0 := hf4.out.frozen 0
    have hsz := hf4.out.lt
    have hb2 := hid (show DTo w b (failS 4 ⟨t :: l1, ln1, cl1, er1⟩) (w3.setCell ⟨w.heap.size, 0, none⟩ (.slice B m d)) from ⟨H3.out.1.far Hlt.out _, grown_set_new H3.out.2 (p := ⟨w.heap.size, 0, none⟩) (Nat.le_refl _) _⟩)
    go_wp2_with fail
    refine bodyPost_ret (v := .agg #[.slice B m d]) (by simp [results, Tryd.results48, go_sem, v0, s0, k0, hsz]) rfl ⟨⟨B, m, d, l⟩, rfl, ?_, ?_, ?_⟩
    · rw [HR2.out]; rfl
    · exact Fr.less (M := w.heap.size) (Fr.grown (fun h hg => PP.go h hg) Hp3.out (setCell_grown w3 ⟨w.heap.size, 0, none⟩ (.slice B m d)) (fun k hk => by injection hk with hk; have : w.heap.size = k := hk; omega)) (by omega)
    · rw [HR2.out]; exact hb2.out
end Go.Proofs.YtlepcgncphikhaaDoor

namespace Go.Proofs.YtlepcgncphikhaaDoor
set_option maxRecDepth 20000
set_option linter.unusedVariables false
set_option linter.unusedSimpArgs false
open Go.ChangeShapes Go.WideShapes Go.ChangeAt Go.RowKit
attribute [local go_sem ↓] Go.wp_at_zero Go.wp_at_succ

theorem own_cap {w : World} {base k n c : Nat} {e : TypeId} {A : Option Addr} {xs : List Value} (h : w.ownsRow base e k (.slice A n c) n xs) : n ≤ c := by
  rcases h.2 with ⟨_, h0⟩ | ⟨g, cap, cur, hv, _, _, hc, _⟩
  · omega
  · injection hv with _ _ e3; omega
/-- What a scan returns, with the capacity. -/
def RetScanC (r : Res) (w : World) (e : Ending) (w' : World) : Prop :=
  ∃ (A : Option Addr) (c : Nat), e = .returned (.tuple #[.slice A r.1.length c, .int .i64 (r.2.1 : Int), .int .i64 (r.2.2.1 : Int), .int .i64 r.2.2.2]) ∧ TArg w' A r.1.length r.1 ∧ r.1.length ≤ c ∧ Below w.heap.size w w'
set_option maxHeartbeats 1600000 in
theorem devScanC_any (s : ByteArray) (w : World) (hs : s.size ≤ maxLen) : Calls Tryd.prog 47 #[.string s] w (RetScanC (scanR s) w) := by
  by_cases hlt : s.size ≤ 4096
  · have hR : scanR s = scanL s 0 1 1 [] := by unfold scanR; rw [if_pos hlt]
    have HR := hid hR
    have h0 := hid (show Scn w w.heap.size s 0 1 0 (.slice none 0 0) [] (w.alloc (.cells #[.string s, .int .i64 0, .int .i64 1, .int .i64 0, .slice none 0 0] 107)) from
      ⟨Fb.new _ _ _, World.ownsRow_nil _ _ _ _, (Below.refl _ _).alloc (Nat.le_refl _) _, Nat.le_refl _⟩)
    clear hR
    unfold maxLen at hs
    go_enter Tryd.func47, Tryd.ntmps47
    go_wp2_with fail
    refine (run_any w.heap.size s w _ h0.out hlt).mono ?_
    rintro e w1 ⟨err, i, line, col, v, l, rfl, hS, hi, ⟨hc1, hc2⟩, hl, hcase⟩
    obtain ⟨⟨c0, c1, c2, c3, c4⟩, f0, f1, f2, f3, f4⟩ := Fb.five hS.1
    rcases hcase with ⟨he, hr⟩ | ⟨he, hr⟩
    · subst he
      have HS := hid hS
      have HR2 := hid (HR.out.trans hr)
      clear hr hS HR
      go_wp2_with fail
      obtain ⟨A, c, hv⟩ := own_any_slice HS.out.2.1
      subst hv
      refine bodyPost_ret (v := .tuple #[.slice A l.length c, .int .i64 0, .int .i64 0, .int .i64 0]) (by simp [results, Tryd.results47, go_sem]) rfl ?_
      rw [HR2.out]
      exact ⟨A, c, rfl, ⟨own_at HS.out.2.1, rfl⟩, own_cap HS.out.2.1, HS.out.2.2.1⟩
    · have ht : (err != 0) = true := by simpa using he
      have HS := hid hS
      have HR2 := hid (HR.out.trans hr)
      have Hcol := hid (fun q => column_any w.heap.size s i line (i + 1 - col) v (w1.drewN q) (HS.out.drewN q).1 (by omega) (by omega))
      clear hr hS HR he
      have hcc : i + 1 - (i + 1 - col) = col := by omega
      rw [hcc] at Hcol
      clear hcc
      go_wp2_with fail
      go_quiet ((go_at_call 76; first | exact Calls.quiet_of (Hcol.out _)))
      go_wp2_with fail
      refine bodyPost_ret (v := .tuple #[.slice none 0 0, .int .i64 (line : Int), .int .i64 (col : Int), .int .i64 err]) (by simp [results, Tryd.results47, go_sem]) rfl ?_
      rw [HR2.out]
      exact ⟨none, 0, rfl, TArg.nil _, Nat.le_refl _, below_drewN HS.out.2.2.1 _⟩
  · have hR : scanR s = ([], 0, 0, 7) := by unfold scanR; rw [if_neg hlt]
    have HR := hid hR
    clear hR
    unfold maxLen at hs
    go_enter Tryd.func47, Tryd.ntmps47
    go_wp2_with fail
    refine bodyPost_ret (v := .tuple #[.slice none 0 0, .int .i64 0, .int .i64 0, .int .i64 7]) (by simp [results, Tryd.results47, go_sem]) rfl ?_
    rw [HR.out]
    exact ⟨none, 0, rfl, TArg.nil _, Nat.le_refl _, Below.refl _ _⟩
def RetParse (r : Par) (w : World) (e : Ending) (w' : World) : Prop :=
  ∃ x : PH, e = .returned (.tuple #[.agg #[.slice x.A x.n x.c], .int .i64 (r.2.1 : Int), .int .i64 (r.2.2.1 : Int), .int .i64 r.2.2.2]) ∧ x.p = r.1 ∧ Fr w.heap.size (PP x) w' ∧ Below w.heap.size w w'
theorem pp_nil (w : World) (N : Nat) : Fr N (PP ⟨none, 0, 0, []⟩) w := fun ex _ => ⟨EAt.nil _ _ _, rfl, by show (0 : Nat) ≤ 40; omega, by simp⟩
theorem Shp.lt {w : World} (h : Shp w) : 0 < w.heap.size := World.block_lt_of_cell? w _ (h 0 _ rfl)
theorem Dst.start {w : World} {A : Option Addr} {c : Nat} {L : List Tok} (ha : TArg w A L.length L) (hc : L.length ≤ c) (hf : L.length ≤ 100000) (ht : AllOk L) (hs : Shp w) :
    Dst (w.alloc (.cells #[.slice A L.length c, .int .i64 0, .int .i64 0, .int .i64 0] 78)) w.heap.size ⟨L, 0, 0, 0⟩ :=
  ⟨⟨A, c, Fb.new w _ _, ha.lies.alloc (Nat.le_refl _) _, hc⟩, hf, ht, hs.keep (Below.heap_alloc w _ 0 hs.lt), hs.lt⟩
set_option maxHeartbeats 3200000 in
theorem devParse_any (s : ByteArray) (w : World) (hs : s.size ≤ maxLen) (hsh : Shp w) : Calls Tryd.prog 18 #[.string s] w (RetParse (parseS s) w) := by
  have HC := hid (fun w => devScanC_any s w hs)
  have HR : Hid (parseS s = (if (scanR s).2.2.2 == 0 then (if (progS ⟨(scanR s).1, 0, 0, 0⟩).2.e == 0 then ((progS ⟨(scanR s).1, 0, 0, 0⟩).1, 0, 0, 0) else ([], (progS ⟨(scanR s).1, 0, 0, 0⟩).2.line, (progS ⟨(scanR s).1, 0, 0, 0⟩).2.col, (progS ⟨(scanR s).1, 0, 0, 0⟩).2.e)) else ([], (scanR s).2.1, (scanR s).2.2.1, (scanR s).2.2.2))) := hid rfl
  have Htok := hid (scan_tok s)
  have Hfew := hid (scanR_few s)
  have hf0 := hid (Fb.new w #[.slice none 0 0] 34)
  have hb0 := hid ((Below.refl w.heap.size w).alloc (Nat.le_refl _) (.cells #[.slice none 0 0] 34))
  have hs0 := hid (show Shp (w.alloc (.cells #[.slice none 0 0] 34)) from hsh.keep (Below.heap_alloc w _ 0 hsh.lt))
  have hwa := hid (show (w.alloc (.cells #[.slice none 0 0] 34)).heap.size = w.heap.size + 1 by rw [World.size_alloc])
  have hw0 := hid hsh.lt
  clear hs hsh
  generalize scanR s = r at *
  obtain ⟨L, line, col, er⟩ := r
  simp only at HR Htok Hfew
  go_enter Tryd.func18, Tryd.ntmps18
  go_wp2_with fail
  generalize w.alloc (.cells #[.slice none 0 0] 34) = wa at *
  refine (HC.out _).mono ?_
  rintro e w1 ⟨A, c, rfl, ha, hc, hb1⟩
  simp only at ha hc
  have hf1 := hid (hf0.out.below hb1 hf0.out.lt)
  have hB1 := hid (hb0.out.trans (hb1.mono hb0.out.size))
  have hs1 := hid (hs0.out.keep (hb1.block 0 hs0.out.lt))
  have Hd := hid (Dst.start ha hc Hfew.out Htok.out hs1.out)
  have hsz1 := hid (show w.heap.size + 1 ≤ w1.heap.size by have := hb1.size; have := hwa.out; omega)
  clear ha hc hb1 hf0 hb0 hs0 hwa HC
  have v0 := hf1.out.cell 0
  have s0 := hf1.out.frozen 0
  have hsz := hf1.out.lt
  cases he : (er == 0) with
  | false =>
    have hne : (er != 0) = true := by simpa using he
    have HR2 : Hid (parseS s = ([], line, col, er)) := hid (by rw [HR.out, he]; rfl)
    have HB : Hid (Below w.heap.size w (w1.setCell ⟨w.heap.size, 0, none⟩ (.slice none 0 0))) := hid (hB1.out.setCell (Nat.le_refl _) _)
    clear HR he Hd
    go_wp2_with fail
    refine bodyPost_ret (v := .tuple #[.agg #[.slice none 0 0], .int .i64 (line : Int), .int .i64 (col : Int), .int .i64 er]) (by simp [results, Tryd.results18, go_sem, v0, s0, hsz]) rfl ?_
    rw [HR2.out]
    exact ⟨⟨none, 0, 0, []⟩, rfl, rfl, pp_nil _ _, HB.out⟩
  | true =>
    have hne : (er != 0) = false := by simpa using he
    have HR2 : Hid (parseS s = (if (progS ⟨L, 0, 0, 0⟩).2.e == 0 then ((progS ⟨L, 0, 0, 0⟩).1, 0, 0, 0) else ([], (progS ⟨L, 0, 0, 0⟩).2.line, (progS ⟨L, 0, 0, 0⟩).2.col, (progS ⟨L, 0, 0, 0⟩).2.e))) := hid (by rw [HR.out, he]; rfl)
    clear HR he
    have hB2 := hid (hB1.out.alloc (by have := hsz1.out; omega) (.cells #[.slice A L.length c, .int .i64 0, .int .i64 0, .int .i64 0] 78))
    have hf2 := hid (hf1.out.alloc (.cells #[.slice A L.length c, .int .i64 0, .int .i64 0, .int .i64 0] 78))
    have hszb := hid (show (w1.alloc (.cells #[.slice A L.length c, .int .i64 0, .int .i64 0, .int .i64 0] 78)).heap.size = w1.heap.size + 1 by rw [World.size_alloc])
    clear v0 s0 hsz
    go_wp2_with fail
    generalize w1.alloc (.cells #[.slice A L.length c, .int .i64 0, .int .i64 0, .int .i64 0] 78) = w2 at *
    generalize w1.heap.size = b at *
    refine (devProgram_any b ⟨L, 0, 0, 0⟩ _ Hd.out).mono ?_
    rintro e w3 ⟨x, rfl, hxp, hpp, h3⟩
    have hlt3 := hid h3.1.lt
    have hf3 := hid (hf2.out.grown h3.2 (by have := hsz1.out; simp; omega))
    have hB3 := hid (hB2.out.grown h3.2 hB2.out.size (fun k hk => by injection hk with hk; have := hsz1.out; omega))
    have Hp3 := hid (hpp.less (M := w.heap.size + 1) (by have := hsz1.out; have := hszb.out; omega))
    have Hx := hid hxp
    have Hst := hid h3.1
    clear hxp hpp h3 hf2 hB2 Hd hB1 hf1
    generalize progS ⟨L, 0, 0, 0⟩ = r at *
    obtain ⟨r1, σ⟩ := r
    obtain ⟨l1, ln1, cl1, er1⟩ := σ
    simp only at Hx Hst HR2
    obtain ⟨X, n, d, l⟩ := x

    have HA := hid ((Below.refl w3.heap.size w3).alloc (Nat.le_refl _) (.cells #[.slice X n d] 34))
    have hst4 := hid (Hst.out.below HA.out hlt3.out)
    have hf4 := hid (hf3.out.below HA.out hf3.out.lt)
    have hB4 := hid (hB3.out.trans (HA.out.mono hB3.out.size))
    have Hp4 : Hid (Fr (w.heap.size + 1) (PP ⟨X, n, d, l⟩) (w3.alloc (.cells #[.slice X n d] 34))) := hid (Fr.grown (fun h hg => PP.go h hg) Hp3.out (grown_of_below HA.out none) (fun k hk => by cases hk))
    have hn4 := hid (Fb.new w3 #[.slice X n d] 34)
    clear HA hf3 hB3 Hp3 Hst
    obtain ⟨A0, c0, hfb, -, -⟩ := hst4.out.ex
    obtain ⟨⟨q0, q1, q2, q3⟩, -⟩ := hfb.fourc
    have hltb := hst4.out.lt
    clear hfb
    go_upto_region 6 with fail
    generalize w3.alloc (.cells #[.slice X n d] 34) = w4 at *
    generalize w3.heap.size = g4 at *
    have v0 := hf4.out.cell 0
    have s0 := hf4.out.frozen 0
    have hsz := hf4.out.lt
    have k0 := hn4.out.cell 0
    have hbw := hsz1.out
    have hsetg := hid (fun u => setCell_grown w4 ⟨w.heap.size, 0, none⟩ u)
    cases he1 : (er1 == 0) with
    | true =>
      have hne1 : (er1 != 0) = false := by simpa using he1
      have HR3 : Hid (parseS s = (r1, 0, 0, 0)) := hid (by rw [HR2.out]; simp only [he1]; rfl)
      have HB : Hid (Below w.heap.size w (w4.setCell ⟨w.heap.size, 0, none⟩ (.slice X n d))) := hid (hB4.out.setCell (Nat.le_refl _) _)
      clear HR2 he1
      go_wp2_with fail
      refine bodyPost_ret (v := .tuple #[.agg #[.slice X n d], .int .i64 0, .int .i64 0, .int .i64 0]) (by simp [results, Tryd.results18, go_sem, v0, s0, hsz]) rfl ?_
      rw [HR3.out]
      exact ⟨⟨X, n, d, l⟩, rfl, Hx.out, Fr.less (M := w.heap.size) (Fr.grown (fun h hg => PP.go h hg) Hp4.out (hsetg.out _) (fun k hk => by injection hk with hk; have : w.heap.size = k := hk; omega)) (by omega), HB.out⟩
    | false =>
      have hne1 : (er1 != 0) = true := by simpa using he1
      have HR3 : Hid (parseS s = ([], ln1, cl1, er1)) := hid (by rw [HR2.out]; simp only [he1]; rfl)
      have HB : Hid (∀ q, Below w.heap.size w ((w4.drewN q).setCell ⟨w.heap.size, 0, none⟩ (.slice none 0 0))) := hid (fun q => (below_drewN hB4.out q).setCell (Nat.le_refl _) _)
      clear HR2 he1
      go_wp2_with fail
      go_region_law (fail)
      all_goals
        go_wp2_with fail
        refine bodyPost_ret (v := .tuple #[.agg #[.slice none 0 0], .int .i64 (ln1 : Int), .int .i64 (cl1 : Int), .int .i64 er1]) (by simp [results, Tryd.results18, go_sem, v0, s0, hsz]) rfl ?_
        rw [HR3.out]
        exact ⟨⟨none, 0, 0, []⟩, rfl, rfl, pp_nil _ _, HB.out 1⟩
end Go.Proofs.YtlepcgncphikhaaDoor

namespace Go.Proofs.YtlepcgncphikhaaDoor
set_option maxRecDepth 100000
set_option linter.unusedVariables false
set_option linter.unusedSimpArgs false
open Go.ChangeShapes Go.WideShapes Go.ChangeAt Go.RowKit

def sanT1 : ByteArray := ⟨#[102, 117, 110, 99, 32, 109, 59, 32, 98, 108, 111, 99, 107, 32, 98, 59, 32, 120, 32, 61, 32, 121, 32, 122, 59, 32, 114, 101, 116, 117, 114, 110, 59, 32, 101, 110, 100]⟩
def sanT2 : ByteArray := ⟨#[102, 117, 110, 99, 32, 109, 59, 32, 98, 108, 111, 99, 107, 32, 98, 59, 32, 98, 114, 97, 110, 99, 104, 32, 120, 32, 98, 59, 32, 114, 101, 116, 117, 114, 110, 59, 32, 101, 110, 100]⟩
def sanP1 : List Fnc := [⟨⟨#[109]⟩, [⟨⟨#[98]⟩, [⟨1, ⟨#[120]⟩, [⟨#[121]⟩, ⟨#[122]⟩], []⟩, ⟨9, noB, [], []⟩]⟩]⟩]
theorem san1 : parseS sanT1 = (sanP1, 0, 0, 0) := by kernel_rfl
theorem san2 : parseS sanT2 = ([], 1, 28, 4) := by kernel_rfl
theorem san3 : parseS ⟨#[]⟩ = ([], 0, 0, 4) := by kernel_rfl
theorem parse_as (T : ByteArray) (w : World) (hs : T.size ≤ maxLen) (hsh : Shp w) {p : List Fnc} {l c : Nat} {er L C : Int} (h : parseS T = (p, l, c, er)) (hl : (l : Int) = L) (hc : (c : Int) = C) :
    Calls Tryd.prog 18 #[.string T] w fun e w' => ∃ (X : Option Addr) (n d : Nat) (ls : List FH), e = .returned (.tuple #[.agg #[.slice X n d], .int .i64 L, .int .i64 C, .int .i64 er]) ∧ ls.map FH.f = p ∧ PHok w' [] ⟨X, n, d, ls⟩ ∧ Below w.heap.size w w' ∧ Shp w' := by
  refine (devParse_any T w hs hsh).mono ?_
  rw [h]
  rintro e w' ⟨⟨X, n, d, ls⟩, rfl, hx, hp, hb⟩
  subst hl
  subst hc
  exact ⟨X, n, d, ls, rfl, hx, hp [] (by simp), hb, hsh.keep (hb.block 0 hsh.lt)⟩
theorem map_one {α β : Type} {f : α → β} {l : List α} {y : β} (h : l.map f = [y]) : ∃ x, l = [x] ∧ f x = y := by
  cases l with
  | nil => cases h
  | cons x l =>
    cases l with
    | nil => exact ⟨x, rfl, by simpa using h⟩
    | cons z l => simp at h
/-- The cells of the first program, as it lies. -/
theorem san_cells {w : World} {X : Option Addr} {n d : Nat} {ls : List FH} (hl : ls.map FH.f = sanP1) (h : PHok w [] ⟨X, n, d, ls⟩) :
    ∃ (ad ad2 : Addr) (c1 c2 : Nat) (A2 : Option Addr), X = some ad ∧ n = 1 ∧ ad.block < w.heap.size ∧ w.cell? ⟨ad.block, ad.off + 1, none⟩ = some (.slice (some ad2) 1 c1) ∧ ad2.block < w.heap.size ∧ w.cell? ⟨ad2.block, ad2.off + 1, none⟩ = some (.slice A2 2 c2) := by
  obtain ⟨f, rfl, hf⟩ := map_one (show ls.map FH.f = [_] from hl)
  have h0 := h.len
  obtain ⟨ad, e1, hb1, -, hc1⟩ := FH.cells h.lies (i := 0) (x := f) rfl
  have hfok := h.all f (by simp)
  obtain ⟨fn, fA, fk, fc, fl⟩ := f
  injection hf with _ hbl
  obtain ⟨bh, rfl, hbe⟩ := map_one (show fl.map BH.b = [_] from hbl)
  obtain ⟨ad2, e2, hb2, -, hc2⟩ := BH.cells hfok.lies (i := 0) (x := bh) rfl
  have hbok := hfok.all bh (by simp)
  have hfl := hfok.len
  obtain ⟨bn, bA, bk, bc, bl⟩ := bh
  injection hbe with _ hss
  have hbl2 := hbok.len
  have hss2 : bl.length = 2 := by have := congrArg List.length hss; simpa using this
  simp only [List.length_singleton, List.length_cons, List.length_nil] at h0 hfl
  simp only at e1 e2 hbl2 hc1 hc2
  have z1 : ad.add (0 * 2) = ad := by unfold Addr.add; simp
  have z2 : ad2.add (0 * 2) = ad2 := by unfold Addr.add; simp
  rw [z1] at hc1
  rw [z2] at hc2
  refine ⟨ad, ad2, fc, bc, bA, e1, h0.symm, hb1, ?_, hb2, ?_⟩
  · rw [hc1, e2, ← hfl]
  · rw [hc2, ← hbl2, hss2]
set_option maxHeartbeats 3200000 in
theorem sane5_any (w : World) (hsh : Shp w) : Calls Tryd.prog 16 #[] w fun e w' => e = .returned (.bool true) ∧ Below w.heap.size w w' := by
  have Hs := hid hsh
  clear hsh
  go_enter Tryd.func16, Tryd.ntmps16
  go_wp2_with fail
  refine (parse_as sanT1 _ (by decide) Hs.out san1 rfl rfl).mono ?_
  rintro e w1 ⟨X, n, d, ls, rfl, hls, hok, hb1, hs1⟩
  have HA1 := hid ((Below.refl w1.heap.size w1).alloc (Nat.le_refl _) (.cells #[.slice X n d] 34))
  have Hs1 := hid (hs1.keep (HA1.out.block 0 hs1.lt))
  have Hk1 := hid (Fb.new w1 #[.slice X n d] 34)
  have Hok1 := hid (hok.below HA1.out)
  have HB1 := hid (below_step hb1 HA1.out)
  have Hls := hid hls
  clear hls hok hb1 hs1 HA1
  go_wp2_with fail
  generalize w1.alloc (.cells #[.slice X n d] 34) = w1b at *
  generalize w1.heap.size = g1 at *
  refine (parse_as sanT2 _ (by decide) Hs1.out san2 rfl rfl).mono ?_
  rintro e w2 ⟨X2, n2, d2, ls2, rfl, -, -, hb2, hs2⟩
  have HA2 := hid ((Below.refl w2.heap.size w2).alloc (Nat.le_refl _) (.cells #[.slice X2 n2 d2] 34))
  have hbx := below_step hb2 HA2.out
  have Hs2 := hid (hs2.keep (HA2.out.block 0 hs2.lt))
  have Hk2 := hid (Hk1.out.below hbx Hk1.out.lt)
  have Hok2 := hid (Hok1.out.below hbx)
  have HB2 := hid (below_step HB1.out hbx)
  clear hb2 hs2 HA2 hbx HB1 Hok1 Hk1 Hs1
  go_wp2_with fail
  generalize w2.alloc (.cells #[.slice X2 n2 d2] 34) = w2b at *
  refine (parse_as ⟨#[]⟩ _ (by decide) Hs2.out san3 rfl rfl).mono ?_
  rintro e w3 ⟨X3, n3, d3, ls3, rfl, -, -, hb3, hs3⟩
  have HA3 := hid ((Below.refl w3.heap.size w3).alloc (Nat.le_refl _) (.cells #[.slice X3 n3 d3] 34))
  have hbx := below_step hb3 HA3.out
  have Hk3 := hid (Hk2.out.below hbx Hk2.out.lt)
  have Hok3 := hid (Hok2.out.below hbx)
  have HB3 := hid (below_step HB2.out hbx)
  clear hb3 hs3 HA3 hbx HB2 Hok2 Hk2 Hs2
  go_upto_region 4 with fail
  generalize w3.alloc (.cells #[.slice X3 n3 d3] 34) = w3b at *
  obtain ⟨ad, ad2, c1, c2, A2, rfl, rfl, a1, a2, a3, a4⟩ := san_cells Hls.out Hok3.out
  have k0 := Hk3.out.cell 0
  go_wp2_with fail
  go_ret
  exact ⟨rfl, HB3.out⟩
end Go.Proofs.YtlepcgncphikhaaDoor

namespace Go.Proofs.YtlepcgncphikhaaDoor
set_option maxRecDepth 20000
set_option linter.unusedVariables false
set_option linter.unusedSimpArgs false
open Go.ChangeShapes Go.WideShapes Go.ChangeAt Go.RowKit

theorem map_at {α β : Type} {f : α → β} {l l2 : List α} (h : l.map f = l2.map f) {k : Nat} {a : α} (ha : l[k]? = some a) : ∃ b, l2[k]? = some b ∧ b ∈ l2 ∧ f b = f a := by
  have h2 := congrArg (·[k]?) h
  simp only [List.getElem?_map, ha, Option.map_some] at h2
  obtain ⟨b, hb, e⟩ := Option.map_eq_some_iff.1 h2.symm
  exact ⟨b, hb, List.mem_of_getElem? hb, e⟩
theorem map_len {α β : Type} {f : α → β} {l l2 : List α} (h : l.map f = l2.map f) : l.length = l2.length := by
  have := congrArg List.length h
  simpa using this
/-- Two boxes made one after the other. -/
structure Two (W w : World) (g1 g2 : Nat) (a b : Array Value) (t : Nat) : Prop where
  one : Fb w g1 a t
  two : Fb w g2 b t
  bel : Below W.heap.size W w
theorem Two.mk1 (W w : World) (a b : Array Value) (t : Nat) (h : Below W.heap.size W w) : Two W ((w.alloc (.cells a t)).alloc (.cells b t)) w.heap.size (w.heap.size + 1) a b t :=
  ⟨(Fb.new w a t).alloc _, by have := Fb.new (w.alloc (.cells a t)) b t; rwa [World.size_alloc] at this, (h.alloc h.size _).alloc (by rw [World.size_alloc]; have := h.size; omega) _⟩
theorem Two.mk2 (W w : World) (a b : Array Value) (t : Nat) (h : Below W.heap.size W w) : Two W ((w.alloc (.cells b t)).alloc (.cells a t)) (w.heap.size + 1) w.heap.size a b t :=
  ⟨by have := Fb.new (w.alloc (.cells b t)) a t; rwa [World.size_alloc] at this, (Fb.new w b t).alloc _, (h.alloc h.size _).alloc (by rw [World.size_alloc]; have := h.size; omega) _⟩
theorem Two.below {W w w' : World} {g1 g2 : Nat} {a b : Array Value} {t : Nat} (h : Two W w g1 g2 a b t) (hb : Below w.heap.size w w') : Two W w' g1 g2 a b t :=
  ⟨h.one.below hb h.one.lt, h.two.below hb h.two.lt, below_step h.bel hb⟩

def Bel (w v : World) : Prop := Below w.heap.size w v
theorem Two.drew {W w : World} {g1 g2 : Nat} {a b : Array Value} {t : Nat} (h : Two W w g1 g2 a b t) : Two W w.drew g1 g2 a b t := ⟨h.one, h.two, below_drewN h.bel 1⟩
set_option maxHeartbeats 40000000 in
theorem equal_yes (x y : PH) (ex ex2 : List (Option Nat)) (w : World) (hx : PHok w ex x) (hy : PHok w ex2 y) (he : x.p = y.p) :
    Calls Tryd.prog 21 #[.agg #[.slice x.A x.n x.c], .agg #[.slice y.A y.n y.c]] w fun e w' => e = .returned (.bool true) ∧ Below w.heap.size w w' := by
  obtain ⟨A, n, c, l⟩ := x
  obtain ⟨B, m, d, r⟩ := y
  have HX := hid hx
  have HY := hid hy
  have He := hid (show l.map FH.f = r.map FH.f from he)
  have Hl := hid (show l.length = n from hx.len)
  have Hr := hid (show r.length = m from hy.len)
  obtain rfl : n = m := by have := map_len He.out; have := Hl.out; have := Hr.out; omega
  have hn40 : n ≤ 40 := hx.few
  have HT := hid (Two.mk1 w w #[.slice A n c] #[.slice B n d] 34 (Below.refl _ _))
  clear hx hy he
  obtain ⟨p0, q0⟩ := And.intro HT.out.one.onec HT.out.two.onec
  go_enter Tryd.func21, Tryd.ntmps21
  go_wp2_with fail
  generalize w.heap.size + 1 = G1 at *
  generalize w.heap.size = G0 at *
  generalize ((w.alloc (.cells #[.slice A n c] 34)).alloc (.cells #[.slice B n d] 34)) = w1 at *
  go_loopw [5, 6, 7, 8, 9, 10, 11, 12, 13] (fun iv _ _ _ _ _ _ _ _ wr => ∃ k : Nat, k ≤ n ∧ iv = .int .i64 k ∧ Hid (Two w wr G0 G1 #[.slice A n c] #[.slice B n d] 34)) (fun iv _ _ _ _ _ _ _ _ _ => n - (intOf iv).toNat)
  case atStart => exact ⟨0, by omega, rfl, HT⟩
  case round =>
    clear p0 q0 HT
    obtain ⟨k, hk, rfl, hT⟩ := hrel
    obtain ⟨p0, q0⟩ := And.intro hT.out.one.onec hT.out.two.onec
    by_cases hlt : k < n
    · obtain ⟨f, hf, hfm⟩ := get_at Hl.out hlt
      obtain ⟨g, hg, hgm, hfg⟩ := map_at He.out hf
      have HFr := hid (HX.out.below hT.out.bel)
      have HGr := hid (HY.out.below hT.out.bel)
      obtain ⟨ad, hA, had, hc1, hc2⟩ := FH.cells HFr.out.lies hf
      obtain ⟨bd, hB, hbd, hd1, hd2⟩ := FH.cells HGr.out.lies hg
      have Hf := hid (HFr.out.all f hfm)
      have Hg := hid (HGr.out.all g hgm)
      simp only at hA hB
      subst hA; subst hB
      have Hfat := hid hf; have Hgat := hid hg
      clear hf hg hfm hgm HFr HGr
      obtain ⟨nm, A1, n1, c1, l1⟩ := f
      obtain ⟨nm2, B1, m1, d1, r1⟩ := g
      obtain ⟨rfl, hl1⟩ : nm2 = nm ∧ r1.map BH.b = l1.map BH.b := by
        have := hfg
        simp only [FH.f, Fnc.mk.injEq] at this
        exact this
      have He1 := hid hl1.symm
      have Hl1 := hid (show l1.length = n1 from Hf.out.len)
      have Hr1 := hid (show r1.length = m1 from Hg.out.len)
      obtain rfl : n1 = m1 := by have := map_len He1.out; have := Hl1.out; have := Hr1.out; omega
      have hn1 : n1 ≤ 40 := Hf.out.few
      simp only at hc1 hc2 hd1 hd2
      clear hfg hl1
      have had2 : (ad.add (k * 2)).block < wr.heap.size := by rw [add_block]; exact had
      have hbd2 : (bd.add (k * 2)).block < wr.heap.size := by rw [add_block]; exact hbd
      have hlt0 := hT.out.one.lt
      have hlt1 := hT.out.two.lt
      have HK := hid (fun (v : World) (h : Bel wr v) => And.intro (hT.out.below h) (And.intro (Hf.out.go (Go2.below h)) (Hg.out.go (Go2.below h))))
      go_upto_region 6 with fail
      go_cut [6, 7] (fun a b wc => ∃ x y : Nat, a = .pointer (some ⟨x, 0, none⟩) ∧ b = .pointer (some ⟨y, 0, none⟩) ∧ Hid (Two wr wc x y #[.string nm2, .slice A1 n1 c1] #[.string nm2, .slice B1 n1 d1] 58))
      case first =>
        have HM1 := hid (Two.drew (Two.mk1 wr wr #[.string nm2, .slice A1 n1 c1] #[.string nm2, .slice B1 n1 d1] 58 (Below.refl _ _)))
        have HM2 := hid (Two.drew (Two.mk2 wr wr #[.string nm2, .slice A1 n1 c1] #[.string nm2, .slice B1 n1 d1] 58 (Below.refl _ _)))
        go_region
        · go_wp2_with fail
          go_meet
          exact ⟨_, _, rfl, rfl, HM1⟩
        · go_wp2_with fail
          go_meet
          exact ⟨_, _, rfl, rfl, HM2⟩
      case rest =>
        clear had hbd had2 hbd2 hlt0 hlt1 p0 q0 hc1 hc2 hd1 hd2
        obtain ⟨g6, g7, rfl, rfl, HM⟩ := hcut
        obtain ⟨hT2, hF2, hG2⟩ := HK.out _ (show Bel wr _ from HM.out.bel)
        have HT2 := hid hT2; have HF2 := hid hF2; have HG2 := hid hG2
        have HN := hid (And.intro HM.out.one HM.out.two)
        clear hT2 hF2 hG2 HK Hf Hg hT HM
        obtain ⟨a0, a1⟩ := HN.out.1.twoc
        obtain ⟨b0, b1⟩ := HN.out.2.twoc
        go_wp2_with fail
        clear a0 a1 b0 b1
        go_loopw [8, 9, 10, 11, 12, 13] (fun iv _ _ _ _ _ wr => ∃ k1 : Nat, k1 ≤ n1 ∧ iv = .int .i64 k1 ∧ Hid (Two w wr G0 G1 #[.slice (some ad) n c] #[.slice (some bd) n d] 34) ∧ Hid (Fb wr g6 #[.string nm2, .slice A1 n1 c1] 58 ∧ Fb wr g7 #[.string nm2, .slice B1 n1 d1] 58) ∧ Hid (FHok wr ex ⟨nm2, A1, n1, c1, l1⟩) ∧ Hid (FHok wr ex2 ⟨nm2, B1, n1, d1, r1⟩)) (fun iv _ _ _ _ _ _ => n1 - (intOf iv).toNat)
        case atStart => exact ⟨0, by omega, rfl, HT2, HN, HF2, HG2⟩
        case round =>
          clear HT2 HN HF2 HG2
          obtain ⟨k1, hk1, rfl, hT, hN, hF, hG⟩ := hrel
          obtain ⟨a0, a1⟩ := hN.out.1.twoc
          obtain ⟨b0, b1⟩ := hN.out.2.twoc
          by_cases hlt1 : k1 < n1
          · obtain ⟨f, hf, hfm⟩ := get_at Hl1.out hlt1
            obtain ⟨g, hg, hgm, hfg⟩ := map_at He1.out hf
            obtain ⟨ad1, hA, had, hc1, hc2⟩ := BH.cells hF.out.lies hf
            obtain ⟨bd1, hB, hbd, hd1, hd2⟩ := BH.cells hG.out.lies hg
            have Hf := hid (hF.out.all f hfm)
            have Hg := hid (hG.out.all g hgm)
            simp only at hA hB
            subst hA; subst hB
            clear hf hg hfm hgm
            obtain ⟨nm3, A2, n2, c2, l2⟩ := f
            obtain ⟨nm4, B2, m2, d2, r2⟩ := g
            obtain ⟨rfl, hl1⟩ : nm4 = nm3 ∧ r2.map SH.t = l2.map SH.t := by
              have := hfg
              simp only [BH.b, Blk.mk.injEq] at this
              exact this
            have He2 := hid hl1.symm
            have Hl2 := hid (show l2.length = n2 from Hf.out.len)
            have Hr2 := hid (show r2.length = m2 from Hg.out.len)
            obtain rfl : n2 = m2 := by have := map_len He2.out; have := Hl2.out; have := Hr2.out; omega
            have hn2 : n2 ≤ 40 := Hf.out.few
            simp only at hc1 hc2 hd1 hd2
            have HK := hid (fun (v : World) (h : Bel wr v) => And.intro (hT.out.below h) (And.intro (And.intro (hN.out.1.below h hN.out.1.lt) (hN.out.2.below h hN.out.2.lt)) (And.intro (And.intro (hF.out.go (Go2.below h)) (hG.out.go (Go2.below h))) (And.intro (Hf.out.go (Go2.below h)) (Hg.out.go (Go2.below h))))))
            clear hfg hl1
            have had2 : (ad1.add (k1 * 2)).block < wr.heap.size := by rw [add_block]; exact had
            have hbd2 : (bd1.add (k1 * 2)).block < wr.heap.size := by rw [add_block]; exact hbd
            have hlt3 := hN.out.1.lt
            have hlt4 := hN.out.2.lt
            go_upto_region 12 with fail
            go_cut [9, 10] (fun a b wc => ∃ x y : Nat, a = .pointer (some ⟨x, 0, none⟩) ∧ b = .pointer (some ⟨y, 0, none⟩) ∧ Hid (Two wr wc x y #[.string nm4, .slice A2 n2 c2] #[.string nm4, .slice B2 n2 d2] 62))
            case first =>
              have HM1 := hid (Two.drew (Two.mk1 wr wr #[.string nm4, .slice A2 n2 c2] #[.string nm4, .slice B2 n2 d2] 62 (Below.refl _ _)))
              have HM2 := hid (Two.drew (Two.mk2 wr wr #[.string nm4, .slice A2 n2 c2] #[.string nm4, .slice B2 n2 d2] 62 (Below.refl _ _)))
              go_region
              · go_wp2_with fail
                go_meet
                exact ⟨_, _, rfl, rfl, HM1⟩
              · go_wp2_with fail
                go_meet
                exact ⟨_, _, rfl, rfl, HM2⟩
            case rest =>
              clear had hbd had2 hbd2 hlt3 hlt4 a0 a1 b0 b1 hc1 hc2 hd1 hd2
              obtain ⟨g9, g10, rfl, rfl, HM⟩ := hcut
              obtain ⟨hT3, hN3, hFG3, hfg3⟩ := HK.out _ (show Bel wr _ from HM.out.bel)
              have HT3 := hid hT3; have HN3 := hid hN3; have HFG3 := hid hFG3; have Hfg3 := hid hfg3
              have HM3 := hid (And.intro HM.out.one HM.out.two)
              clear hT3 hN3 hFG3 hfg3 HK Hf Hg hT hN hF hG HM
              obtain ⟨a0, a1⟩ := HM3.out.1.twoc
              obtain ⟨b0, b1⟩ := HM3.out.2.twoc
              go_wp2_with fail
              clear a0 a1 b0 b1
              go_loopw [11, 12, 13] (fun iv _ _ wr => ∃ k2 : Nat, k2 ≤ n2 ∧ iv = .int .i64 k2 ∧ Hid (Two w wr G0 G1 #[.slice (some ad) n c] #[.slice (some bd) n d] 34) ∧ Hid (Fb wr g6 #[.string nm2, .slice (some ad1) n1 c1] 58 ∧ Fb wr g7 #[.string nm2, .slice (some bd1) n1 d1] 58) ∧ Hid (FHok wr ex ⟨nm2, some ad1, n1, c1, l1⟩ ∧ FHok wr ex2 ⟨nm2, some bd1, n1, d1, r1⟩) ∧ Hid (Fb wr g9 #[.string nm4, .slice A2 n2 c2] 62 ∧ Fb wr g10 #[.string nm4, .slice B2 n2 d2] 62) ∧ Hid (BHok wr ex ⟨nm4, A2, n2, c2, l2⟩ ∧ BHok wr ex2 ⟨nm4, B2, n2, d2, r2⟩)) (fun iv _ _ _ => n2 - (intOf iv).toNat)
              case atStart => exact ⟨0, by omega, rfl, HT3, HN3, HFG3, HM3, Hfg3⟩
              case round =>
                clear HT3 HN3 HFG3 HM3 Hfg3
                obtain ⟨k2, hk2, rfl, hT, hN, hFG, hM, hfg⟩ := hrel
                obtain ⟨a0, a1⟩ := hM.out.1.twoc
                obtain ⟨b0, b1⟩ := hM.out.2.twoc
                by_cases hlt2 : k2 < n2
                · obtain ⟨f, hf, hfm⟩ := get_at Hl2.out hlt2
                  obtain ⟨g, hg, hgm, hfe⟩ := map_at He2.out hf
                  obtain ⟨ad2, hA, had, hc1, hc2, hc3, hc4⟩ := SH.cells hfg.out.1.lies hf
                  obtain ⟨bd2, hB, hbd, hd1, hd2, hd3, hd4⟩ := SH.cells hfg.out.2.lies hg
                  have Hf := hid (hfg.out.1.all f hfm)
                  have Hg := hid (hfg.out.2.all g hgm)
                  simp only at hA hB
                  subst hA; subst hB
                  clear hf hg hfm hgm
                  obtain ⟨A3, n3, c3, B3, m3, e3, ⟨o3, s3, us3, ts3⟩⟩ := f
                  obtain ⟨A4, n4, c4, B4, m4, e4, t4⟩ := g
                  simp only at hfe
                  subst hfe
                  obtain rfl : n4 = n3 := by have h1 : us3.length = n3 := Hf.out.uses.len; have h2 : us3.length = n4 := Hg.out.uses.len; omega
                  obtain rfl : m4 = m3 := by have h1 : ts3.length = m3 := Hf.out.targets.len; have h2 : ts3.length = m4 := Hg.out.targets.len; omega
                  simp only at hc1 hc2 hc3 hc4 hd1 hd2 hd3 hd4
                  have HK := hid (fun (v : World) (h : Bel wr v) => And.intro (hT.out.below h) (And.intro (And.intro (hN.out.1.below h hN.out.1.lt) (hN.out.2.below h hN.out.2.lt)) (And.intro (And.intro (hFG.out.1.go (Go2.below h)) (hFG.out.2.go (Go2.below h))) (And.intro (And.intro (hM.out.1.below h hM.out.1.lt) (hM.out.2.below h hM.out.2.lt)) (And.intro (hfg.out.1.go (Go2.below h)) (hfg.out.2.go (Go2.below h)))))))
                  have HS := hid (fun (v : World) (h : Bel wr v) => And.intro (Hf.out.arg.uses.below h) (And.intro (Hg.out.arg.uses.below h) (And.intro (Hf.out.arg.targets.below h) (Hg.out.arg.targets.below h))))
                  have had2 : (ad2.add (k2 * 4)).block < wr.heap.size := by rw [add_block]; exact had
                  have hbd2 : (bd2.add (k2 * 4)).block < wr.heap.size := by rw [add_block]; exact hbd
                  have hlt3 := hM.out.1.lt
                  have hlt4 := hM.out.2.lt
                  go_upto_region 18 with fail
                  go_cut [12, 13] (fun a b wc => ∃ x y : Nat, a = .pointer (some ⟨x, 0, none⟩) ∧ b = .pointer (some ⟨y, 0, none⟩) ∧ Hid (Two wr wc x y #[.int .i64 o3, .string s3, .slice A3 n4 c3, .slice B3 m4 e3] #[.int .i64 o3, .string s3, .slice A4 n4 c4, .slice B4 m4 e4] 46))
                  case first =>
                    have HM1 := hid (Two.drew (Two.mk1 wr wr #[.int .i64 o3, .string s3, .slice A3 n4 c3, .slice B3 m4 e3] #[.int .i64 o3, .string s3, .slice A4 n4 c4, .slice B4 m4 e4] 46 (Below.refl _ _)))
                    have HM2 := hid (Two.drew (Two.mk2 wr wr #[.int .i64 o3, .string s3, .slice A3 n4 c3, .slice B3 m4 e3] #[.int .i64 o3, .string s3, .slice A4 n4 c4, .slice B4 m4 e4] 46 (Below.refl _ _)))
                    go_region
                    · go_wp2_with fail
                      go_meet
                      exact ⟨_, _, rfl, rfl, HM1⟩
                    · go_wp2_with fail
                      go_meet
                      exact ⟨_, _, rfl, rfl, HM2⟩
                  case rest =>
                    clear had hbd had2 hbd2 hlt3 hlt4 a0 a1 b0 b1 hc1 hc2 hc3 hc4 hd1 hd2 hd3 hd4
                    obtain ⟨g12, g13, rfl, rfl, HM⟩ := hcut
                    have hbW : Bel wr _ := HM.out.bel
                    obtain ⟨u1, u2, u3, u4⟩ := HS.out _ hbW
                    have HU1 := hid u1; have HU2 := hid u2; have HU3 := hid u3; have HU4 := hid u4
                    have HKW := hid (fun (v : World) (h : Below wc.heap.size wc v) => HK.out v (below_step hbW h))
                    have HM4 := hid (And.intro HM.out.one HM.out.two)
                    clear u1 u2 u3 u4 hbW HS HK HM hT hN hFG hM hfg Hf Hg
                    obtain ⟨a0, a1, a2, a3⟩ := Fb.four HM4.out.1
                    obtain ⟨b0, b1, b2, b3⟩ := Fb.four HM4.out.2
                    go_wp2_with fail
                    refine (strs_yes _ _ _ _ _ _ _ HU1.out HU2.out).mono ?_
                    rintro e w5 ⟨rfl, hb5⟩
                    have HV3 := hid (HU3.out.below hb5)
                    have HV4 := hid (HU4.out.below hb5)
                    have HB5 := hid hb5
                    have HM5 := hid (And.intro (HM4.out.1.below hb5 HM4.out.1.lt) (HM4.out.2.below hb5 HM4.out.2.lt))
                    clear HU1 HU2 HU3 HU4 hb5 a0 a1 a2 a3 b0 b1 b2 b3 HM4
                    obtain ⟨a0, a1, a2, a3⟩ := Fb.four HM5.out.1
                    obtain ⟨b0, b1, b2, b3⟩ := Fb.four HM5.out.2
                    go_wp2_with fail
                    refine (strs_yes _ _ _ _ _ _ _ HV3.out HV4.out).mono ?_
                    rintro e w6 ⟨rfl, hb6⟩
                    have HK6 := hid (HKW.out _ (below_step HB5.out hb6))
                    clear HV3 HV4 hb6 a0 a1 a2 a3 b0 b1 b2 b3 HM5 HB5 HKW
                    as_aux_lemma =>
                      go_wp2_with fail
                      go_roundw
                      case rel => exact ⟨k2 + 1, by omega, by go_num, hid HK6.out.1, hid HK6.out.2.1, hid HK6.out.2.2.1, hid HK6.out.2.2.2.1, hid HK6.out.2.2.2.2⟩
                      case measure => simp [intOf]; omega
                · as_aux_lemma =>
                    obtain rfl : k2 = n2 := by omega
                    go_wp2_with fail
                    go_roundw
                    case rel => exact ⟨k1 + 1, by omega, by go_num, hT, hN, hid hFG.out.1, hid hFG.out.2⟩
                    case measure => simp [intOf]; omega
          · as_aux_lemma =>
              obtain rfl : k1 = n1 := by omega
              go_wp2_with fail
              go_roundw
              case rel => exact ⟨k + 1, by omega, by go_num, hT⟩
              case measure => simp [intOf]; omega
    · as_aux_lemma =>
        obtain rfl : k = n := by omega
        go_wp2_with fail
        go_ret
        exact ⟨rfl, hT.out.bel⟩
end Go.Proofs.YtlepcgncphikhaaDoor

namespace Go.Proofs.YtlepcgncphikhaaDoor
set_option maxRecDepth 20000
set_option linter.unusedVariables false
set_option linter.unusedSimpArgs false
open Go.ChangeShapes Go.WideShapes Go.ChangeAt Go.RowKit
attribute [local go_sem ↓] Go.wp_at_zero Go.wp_at_succ

theorem bad_word {r : Rs} (h : r.e ≠ 0) (k : ByteArray) : wordR k r = r := by
  unfold wordR isK failR
  simp [h]
theorem full_e {r : Rs} (h : r.e = 0) : (failR 7 r).e ≠ 0 := by
  unfold failR
  simp [h]
set_option maxHeartbeats 6400000 in
theorem refBlock_any (b : Nat) (A : Option Addr) (c : Nat) (L : List Tok) (σ : Rs) (w : World) (h : Rst w b A c L σ) (hs : Short L) :
    Calls Tryd.prog 98 #[.pointer (some ⟨b, 0, none⟩)] w (RetBk w b A c L (blockR σ)) := by
  have HS := hid hs
  have h0 : Hid (Bg KS w b A c L σ ⟨#[]⟩ (.slice none 0 0) [] ((w.alloc (.cells #[.string ⟨#[]⟩, .slice none 0 0] 62)).alloc (.cells #[.string ⟨#[]⟩, .slice none 0 0] 62))) := hid (Bg.start (K := KS) h)
  have HR : Hid (blockR σ = (⟨(nameR (wordR kwBlock σ)).1, (listR begR stmtR 32 (needR begR (endR (nameR (wordR kwBlock σ)).2))).1⟩, (listR begR stmtR 32 (needR begR (endR (nameR (wordR kwBlock σ)).2))).2)) := hid rfl
  clear h hs
  obtain ⟨i1, hi, hz0, hz1, hz2⟩ := info_parts info68
  have Hi := hid hi; have Hz0 := hid hz0; have Hz1 := hid hz1; have Hz2 := hid hz2
  clear hi hz0 hz1 hz2
  go_enter Tryd.func98, Tryd.ntmps98
  go_wp2_with fail
  refine (refWord_any b A c L σ kwBlock _ h0.out.st).mono ?_
  rintro e w1 ⟨rfl, h1⟩
  have H1 := hid (h0.out.call h1)
  clear h1 h0
  generalize wordR kwBlock σ = σ1 at *
  go_wp2_with fail
  refine (refName_any b A c L σ1 _ H1.out.st HS.out).mono ?_
  rintro e w2 ⟨rfl, h2⟩
  have H2 := hid (H1.out.call h2)
  have H16 := hid (H1.out.st.name16 HS.out)
  clear h2 H1
  generalize (nameR σ1).1 = y at *
  generalize (nameR σ1).2 = σ2 at *
  obtain ⟨⟨q0, q1⟩, ⟨r0, r1⟩, -, -, hz⟩ := H2.out.cells
  have H3 := hid (H2.out.name y)
  go_wp2_with fail
  generalize w2.setCell ⟨w.heap.size + 1, 0, none⟩ (.string y) = w3 at *
  clear q0 q1 r0 r1 hz H2
  refine (refEnd_any b A c L σ2 _ H3.out.st).mono ?_
  rintro e w4 ⟨rfl, h4⟩
  have H4 := hid (H3.out.call h4)
  clear h4 H3
  generalize endR σ2 = σ3 at *
  go_wp2_with fail
  refine (refBegins_any b A c L σ3 _ H4.out.st HS.out).mono ?_
  rintro e w5 ⟨rfl, hb5⟩
  have H5 := hid (H4.out.below hb5)
  clear hb5 H4
  cases hb0 : begR σ3 with
  | true =>
    have hneed : needR begR σ3 = σ3 := by unfold needR; rw [hb0]; rfl
    rw [hneed] at HR
    clear hneed hb0
    go_wp2_with fail
    go_loopw [] (fun wr => ∃ (l : List SH) (n : Nat) (σ4 : Rs) (v : Value), Hid (Bg KS w b A c L σ4 y v l wr) ∧ Hid (Lrel begR stmtR 32 σ3 (l.map SH.t) n σ4)) (fun wr => 32 + 1 - lenAt (w.heap.size + 1) wr)
    case atStart => exact ⟨[], 32, σ3, _, H5.out, Lrel.start⟩
    case round =>
      clear H5
      obtain ⟨l, n, σ4, v, H, HL⟩ := hrel
      obtain ⟨B, d, hv⟩ := own_any_slice H.out.own
      subst hv
      have hlen : l.length + n = 32 := by have := HL.out.1; simpa using this
      obtain ⟨⟨q0, q1⟩, ⟨r0, r1⟩, ⟨p0, p1⟩, ⟨s0, s1⟩, hz⟩ := H.out.cells
      have Hm := hid (lenAt_of q1)
      clear q0 r0 r1 p0 p1 s0 s1 q1 hz
      cases hb : begR σ4 with
      | false =>
        have HB := hid hb
        clear hb
        go_wp2_with fail
        refine (refBegins_any b A c L σ4 _ H.out.st HS.out).mono ?_
        rw [HB.out]
        rintro e w7 ⟨rfl, hb7⟩
        have H7 := hid (H.out.below hb7)
        clear hb7 H
        obtain ⟨⟨q0, q1⟩, ⟨r0, r1⟩, ⟨p0, p1⟩, ⟨s0, s1⟩, hz⟩ := H7.out.cells
        have hsz2 : w.heap.size < w7.heap.size := by omega
        go_wp2_with fail
        refine bodyPost_ret (v := agB ⟨y, B, l.length, d, l⟩) (by simp [results, Tryd.results98, go_sem, q0, q1, p0, p1, s0, s1, hz, hsz2, agB]) rfl ?_
        exact H7.out.doneB rfl (by omega) H16.out _ _ (by rw [HR.out, HL.out.stop HB.out])
      | true =>
        have HB := hid hb
        clear hb
        cases n with
        | zero =>
          have hl32 : l.length = 32 := by omega
          go_wp2_with fail
          refine (refBegins_any b A c L σ4 _ H.out.st HS.out).mono ?_
          rw [HB.out]
          rintro e w7 ⟨rfl, hb7⟩
          have H7 := hid (H.out.below hb7)
          clear hb7 H
          obtain ⟨⟨q0, q1⟩, ⟨r0, r1⟩, -, -, hz⟩ := H7.out.cells
          have tl : ((l.length : Int) == 32) = true := by simp; omega
          go_wp2_with fail
          clear q0 q1 r0 r1 hz
          refine (refFail_any b A c L σ4 7 _ H7.out.st).mono ?_
          rintro e w8 ⟨rfl, h8⟩
          have H8 := hid (H7.out.call h8)
          clear h8 H7
          obtain ⟨⟨q0, q1⟩, ⟨r0, r1⟩, ⟨p0, p1⟩, ⟨s0, s1⟩, hz⟩ := H8.out.cells
          have hsz2 : w.heap.size < w8.heap.size := by omega
          go_wp2_with fail
          refine bodyPost_ret (v := agB ⟨y, B, l.length, d, l⟩) (by simp [results, Tryd.results98, go_sem, q0, q1, p0, p1, s0, s1, hz, hsz2, agB, hl32]) rfl ?_
          exact H8.out.doneB rfl (by omega) H16.out _ _ (by rw [HR.out, HL.out.full HB.out])
        | succ n =>
          have hl32 : l.length < 32 := by omega
          have tl : ((l.length : Int) == 32) = false := by simp; omega
          go_wp2_with fail
          refine (refBegins_any b A c L σ4 _ H.out.st HS.out).mono ?_
          rw [HB.out]
          rintro e w7 ⟨rfl, hb7⟩
          have H7 := hid (H.out.below hb7)
          clear hb7 H
          obtain ⟨⟨q0, q1⟩, ⟨r0, r1⟩, -, -, hz⟩ := H7.out.cells
          go_wp2_with fail
          have H7d : Hid (Bg KS w b A c L σ4 y (.slice B l.length d) l w7.drew) := hid (H7.out.drewN 1)
          have HC := hid (fun w' (h' : Rst w' b A c L σ4) => refStmt_any b A c L σ4 w' h' HS.out HB.out)
          go_region_law (first
            | (go_simp
               go_at_call 127
               go_must (
               refine (HC.out _ H7d.out.st).mono ?_
               rintro e w8 ⟨x, he, hxt, hfx, h8⟩
               unfold agS at he
               subst he
               have H8 := hid (H7d.out.call h8)
               have Hx := hid (FrV.fresh (N := w.heap.size + 2) (v := .slice B l.length d) hfx (by have := H7d.out.size; omega) (fun k hk => (H7d.out.own.lt k hk).2))
               have Hxt := hid hxt
               obtain ⟨⟨q0, q1⟩, ⟨r0, r1⟩, -, -, hz⟩ := H8.out.cells
               clear hfx h8 hxt))
            | ((refine step_append_lies _ (by rfl) _ _ 60 (by rfl) (w.heap.size + 2) 46 i1 _ 4 72 Tryd.underlying60 Hi.out Hz0.out Hz1.out Hz2.out (by rfl) (by decide) (.slice B l.length d) l.length (l.flatMap shc) (by rfl) (by exact World.ownsRow.alloc H8.out.own _)
                  ⟨_, 0, none⟩ 1 1 (shc x) (by rfl) rfl (by exact four_new _ _ _ _ _ _) (one_shc x) (by decide) (by unfold maxLen; omega) (by omega) (by have := H8.out.size; rw [World.size_alloc]; omega) _ rfl ?_)
               intro g9 cap9 w9 hown9 hgr9 hat9 hlt9
               obtain ⟨⟨y0, y1, y2⟩, hT9⟩ := Bg.push (x := x) H8.out ((Below.refl _ _).alloc (Nat.le_refl _) _) (.inr Hx.out) hgr9 hown9 hat9
               have H9 := hid hT9
               clear hown9 hgr9 hat9 hlt9 hT9))
          all_goals
            clear q0 q1 r0 r1 hz
            generalize w9.setCell ⟨w.heap.size + 1, 1, none⟩ (.slice (some ⟨g9, 0, none⟩) (l.length + 1) cap9) = w10 at *
            clear y0 y1 y2
            go_wp2_with fail
            go_roundw
            case rel => exact ⟨l ++ [x], n, (stmtR σ4).2, _, H9.out, by have := HL.out.step HB.out; rw [List.map_append]; rw [← Hxt.out] at this; exact this⟩
            case measure =>
              obtain ⟨⟨q0, q1⟩, -⟩ := H9.out.cells
              rw [Hm.out, lenAt_of q1]
              omega
  | false =>
    have hneed : needR begR σ3 = failR 4 σ3 := by unfold needR; rw [hb0]; rfl
    rw [hneed] at HR
    clear hneed hb0
    go_wp2_with fail
    refine (refFail_any b A c L σ3 4 _ H5.out.st).mono ?_
    rintro e w6 ⟨rfl, h6⟩
    have H6 := hid (H5.out.call h6)
    clear h6 H5
    generalize failR 4 σ3 = σ3 at *
    go_wp2_with fail
    go_loopw [] (fun wr => ∃ (l : List SH) (n : Nat) (σ4 : Rs) (v : Value), Hid (Bg KS w b A c L σ4 y v l wr) ∧ Hid (Lrel begR stmtR 32 σ3 (l.map SH.t) n σ4)) (fun wr => 32 + 1 - lenAt (w.heap.size + 1) wr)
    case atStart => exact ⟨[], 32, σ3, _, H6.out, Lrel.start⟩
    case round =>
      clear H6
      obtain ⟨l, n, σ4, v, H, HL⟩ := hrel
      obtain ⟨B, d, hv⟩ := own_any_slice H.out.own
      subst hv
      have hlen : l.length + n = 32 := by have := HL.out.1; simpa using this
      obtain ⟨⟨q0, q1⟩, ⟨r0, r1⟩, ⟨p0, p1⟩, ⟨s0, s1⟩, hz⟩ := H.out.cells
      have Hm := hid (lenAt_of q1)
      clear q0 r0 r1 p0 p1 s0 s1 q1 hz
      cases hb : begR σ4 with
      | false =>
        have HB := hid hb
        clear hb
        go_wp2_with fail
        refine (refBegins_any b A c L σ4 _ H.out.st HS.out).mono ?_
        rw [HB.out]
        rintro e w7 ⟨rfl, hb7⟩
        have H7 := hid (H.out.below hb7)
        clear hb7 H
        obtain ⟨⟨q0, q1⟩, ⟨r0, r1⟩, ⟨p0, p1⟩, ⟨s0, s1⟩, hz⟩ := H7.out.cells
        have hsz2 : w.heap.size < w7.heap.size := by omega
        go_wp2_with fail
        refine bodyPost_ret (v := agB ⟨y, B, l.length, d, l⟩) (by simp [results, Tryd.results98, go_sem, q0, q1, p0, p1, s0, s1, hz, hsz2, agB]) rfl ?_
        exact H7.out.doneB rfl (by omega) H16.out _ _ (by rw [HR.out, HL.out.stop HB.out])
      | true =>
        have HB := hid hb
        clear hb
        cases n with
        | zero =>
          have hl32 : l.length = 32 := by omega
          go_wp2_with fail
          refine (refBegins_any b A c L σ4 _ H.out.st HS.out).mono ?_
          rw [HB.out]
          rintro e w7 ⟨rfl, hb7⟩
          have H7 := hid (H.out.below hb7)
          clear hb7 H
          obtain ⟨⟨q0, q1⟩, ⟨r0, r1⟩, -, -, hz⟩ := H7.out.cells
          have tl : ((l.length : Int) == 32) = true := by simp; omega
          go_wp2_with fail
          clear q0 q1 r0 r1 hz
          refine (refFail_any b A c L σ4 7 _ H7.out.st).mono ?_
          rintro e w8 ⟨rfl, h8⟩
          have H8 := hid (H7.out.call h8)
          clear h8 H7
          obtain ⟨⟨q0, q1⟩, ⟨r0, r1⟩, ⟨p0, p1⟩, ⟨s0, s1⟩, hz⟩ := H8.out.cells
          have hsz2 : w.heap.size < w8.heap.size := by omega
          go_wp2_with fail
          refine bodyPost_ret (v := agB ⟨y, B, l.length, d, l⟩) (by simp [results, Tryd.results98, go_sem, q0, q1, p0, p1, s0, s1, hz, hsz2, agB, hl32]) rfl ?_
          exact H8.out.doneB rfl (by omega) H16.out _ _ (by rw [HR.out, HL.out.full HB.out])
        | succ n =>
          have hl32 : l.length < 32 := by omega
          have tl : ((l.length : Int) == 32) = false := by simp; omega
          go_wp2_with fail
          refine (refBegins_any b A c L σ4 _ H.out.st HS.out).mono ?_
          rw [HB.out]
          rintro e w7 ⟨rfl, hb7⟩
          have H7 := hid (H.out.below hb7)
          clear hb7 H
          obtain ⟨⟨q0, q1⟩, ⟨r0, r1⟩, -, -, hz⟩ := H7.out.cells
          go_wp2_with fail
          have H7d : Hid (Bg KS w b A c L σ4 y (.slice B l.length d) l w7.drew) := hid (H7.out.drewN 1)
          have HC := hid (fun w' (h' : Rst w' b A c L σ4) => refStmt_any b A c L σ4 w' h' HS.out HB.out)
          go_region_law (first
            | (go_simp
               go_at_call 127
               go_must (
               refine (HC.out _ H7d.out.st).mono ?_
               rintro e w8 ⟨x, he, hxt, hfx, h8⟩
               unfold agS at he
               subst he
               have H8 := hid (H7d.out.call h8)
               have Hx := hid (FrV.fresh (N := w.heap.size + 2) (v := .slice B l.length d) hfx (by have := H7d.out.size; omega) (fun k hk => (H7d.out.own.lt k hk).2))
               have Hxt := hid hxt
               obtain ⟨⟨q0, q1⟩, ⟨r0, r1⟩, -, -, hz⟩ := H8.out.cells
               clear hfx h8 hxt))
            | ((refine step_append_lies _ (by rfl) _ _ 60 (by rfl) (w.heap.size + 2) 46 i1 _ 4 72 Tryd.underlying60 Hi.out Hz0.out Hz1.out Hz2.out (by rfl) (by decide) (.slice B l.length d) l.length (l.flatMap shc) (by rfl) (by exact World.ownsRow.alloc H8.out.own _)
                  ⟨_, 0, none⟩ 1 1 (shc x) (by rfl) rfl (by exact four_new _ _ _ _ _ _) (one_shc x) (by decide) (by unfold maxLen; omega) (by omega) (by have := H8.out.size; rw [World.size_alloc]; omega) _ rfl ?_)
               intro g9 cap9 w9 hown9 hgr9 hat9 hlt9
               obtain ⟨⟨y0, y1, y2⟩, hT9⟩ := Bg.push (x := x) H8.out ((Below.refl _ _).alloc (Nat.le_refl _) _) (.inr Hx.out) hgr9 hown9 hat9
               have H9 := hid hT9
               clear hown9 hgr9 hat9 hlt9 hT9))
          all_goals
            clear q0 q1 r0 r1 hz
            generalize w9.setCell ⟨w.heap.size + 1, 1, none⟩ (.slice (some ⟨g9, 0, none⟩) (l.length + 1) cap9) = w10 at *
            clear y0 y1 y2
            go_wp2_with fail
            go_roundw
            case rel => exact ⟨l ++ [x], n, (stmtR σ4).2, _, H9.out, by have := HL.out.step HB.out; rw [List.map_append]; rw [← Hxt.out] at this; exact this⟩
            case measure =>
              obtain ⟨⟨q0, q1⟩, -⟩ := H9.out.cells
              rw [Hm.out, lenAt_of q1]
              omega
set_option maxHeartbeats 6400000 in
theorem refFunc_any (b : Nat) (A : Option Addr) (c : Nat) (L : List Tok) (σ : Rs) (w : World) (h : Rst w b A c L σ) (hs : Short L) :
    Calls Tryd.prog 74 #[.pointer (some ⟨b, 0, none⟩)] w (RetFn w b A c L (funcR σ)) := by
  have HS := hid hs
  have h0 : Hid (Bg KB w b A c L σ ⟨#[]⟩ (.slice none 0 0) [] ((w.alloc (.cells #[.string ⟨#[]⟩, .slice none 0 0] 58)).alloc (.cells #[.string ⟨#[]⟩, .slice none 0 0] 58))) := hid (Bg.start (K := KB) h)
  have HR : Hid (funcR σ = (⟨(nameR (wordR kwFunc σ)).1, (listR (isK kwBlock) blockR 16 (needR (isK kwBlock) (endR (nameR (wordR kwFunc σ)).2))).1⟩, endR (wordR kwEnd (listR (isK kwBlock) blockR 16 (needR (isK kwBlock) (endR (nameR (wordR kwFunc σ)).2))).2))) := hid rfl
  clear h hs
  obtain ⟨i1, hi, hz0, hz1, hz2⟩ := info_parts info66
  have Hi := hid hi; have Hz0 := hid hz0; have Hz1 := hid hz1; have Hz2 := hid hz2
  clear hi hz0 hz1 hz2
  go_enter Tryd.func74, Tryd.ntmps74
  go_wp2_with fail
  refine (refWord_any b A c L σ kwFunc _ h0.out.st).mono ?_
  rintro e w1 ⟨rfl, h1⟩
  have H1 := hid (h0.out.call h1)
  clear h1 h0
  generalize wordR kwFunc σ = σ1 at *
  go_wp2_with fail
  refine (refName_any b A c L σ1 _ H1.out.st HS.out).mono ?_
  rintro e w2 ⟨rfl, h2⟩
  have H2 := hid (H1.out.call h2)
  have H16 := hid (H1.out.st.name16 HS.out)
  clear h2 H1
  generalize (nameR σ1).1 = y at *
  generalize (nameR σ1).2 = σ2 at *
  obtain ⟨⟨q0, q1⟩, ⟨r0, r1⟩, -, -, hz⟩ := H2.out.cells
  have H3 := hid (H2.out.name y)
  go_wp2_with fail
  generalize w2.setCell ⟨w.heap.size + 1, 0, none⟩ (.string y) = w3 at *
  clear q0 q1 r0 r1 hz H2
  refine (refEnd_any b A c L σ2 _ H3.out.st).mono ?_
  rintro e w4 ⟨rfl, h4⟩
  have H4 := hid (H3.out.call h4)
  clear h4 H3
  generalize endR σ2 = σ3 at *
  go_wp2_with fail
  refine (refIs_any b A c L σ3 kwBlock _ H4.out.st).mono ?_
  rintro e w5 ⟨rfl, hb5⟩
  have H5 := hid (H4.out.below hb5)
  clear hb5 H4
  cases hb0 : isK kwBlock σ3 with
  | true =>
    have hneed : needR (isK kwBlock) σ3 = σ3 := by unfold needR; rw [hb0]; rfl
    rw [hneed] at HR
    clear hneed hb0
    go_wp2_with fail
    go_loopw [] (fun wr => ∃ (l : List BH) (n : Nat) (σ4 : Rs) (v : Value), Hid (Bg KB w b A c L σ4 y v l wr) ∧ Hid (Lrel (isK kwBlock) blockR 16 σ3 (l.map BH.b) n σ4)) (fun wr => 16 + 1 - lenAt (w.heap.size + 1) wr)
    case atStart => exact ⟨[], 16, σ3, _, H5.out, Lrel.start⟩
    case round =>
      clear H5
      obtain ⟨l, n, σ4, v, H, HL⟩ := hrel
      obtain ⟨B, d, hv⟩ := own_any_slice H.out.own
      subst hv
      have hlen : l.length + n = 16 := by have := HL.out.1; simpa using this
      obtain ⟨⟨q0, q1⟩, ⟨r0, r1⟩, ⟨p0, p1⟩, ⟨s0, s1⟩, hz⟩ := H.out.cells
      have Hm := hid (lenAt_of q1)
      clear q0 r0 r1 p0 p1 s0 s1 q1 hz
      cases hb : isK kwBlock σ4 with
      | false =>
        have HB := hid hb
        clear hb
        go_wp2_with fail
        refine (refIs_any b A c L σ4 kwBlock _ H.out.st).mono ?_
        rw [HB.out]
        rintro e w7 ⟨rfl, hb7⟩
        have H7 := hid (H.out.below hb7)
        clear hb7 H
        go_wp2_with fail
        refine (refWord_any b A c L σ4 kwEnd _ H7.out.st).mono ?_
        rintro e w8 ⟨rfl, h8⟩
        have H8 := hid (H7.out.call h8)
        clear h8 H7
        go_wp2_with fail
        refine (refEnd_any b A c L _ _ H8.out.st).mono ?_
        rintro e w9 ⟨rfl, h9⟩
        have H9 := hid (H8.out.call h9)
        clear h9 H8
        obtain ⟨⟨q0, q1⟩, ⟨r0, r1⟩, ⟨p0, p1⟩, ⟨s0, s1⟩, hz⟩ := H9.out.cells
        have hsz2 : w.heap.size < w9.heap.size := by omega
        go_wp2_with fail
        refine bodyPost_ret (v := agF ⟨y, B, l.length, d, l⟩) (by simp [results, Tryd.results74, go_sem, q0, q1, p0, p1, s0, s1, hz, hsz2, agF]) rfl ?_
        exact H9.out.doneF rfl (by omega) H16.out _ _ (by rw [HR.out, HL.out.stop HB.out])
      | true =>
        have HB := hid hb
        clear hb
        cases n with
        | zero =>
          have hl32 : l.length = 16 := by omega
          go_wp2_with fail
          refine (refIs_any b A c L σ4 kwBlock _ H.out.st).mono ?_
          rw [HB.out]
          rintro e w7 ⟨rfl, hb7⟩
          have H7 := hid (H.out.below hb7)
          clear hb7 H
          obtain ⟨⟨q0, q1⟩, ⟨r0, r1⟩, -, -, hz⟩ := H7.out.cells
          have tl : ((l.length : Int) == 16) = true := by simp; omega
          go_wp2_with fail
          clear q0 q1 r0 r1 hz
          refine (refFail_any b A c L σ4 7 _ H7.out.st).mono ?_
          rintro e w8 ⟨rfl, h8⟩
          have H8 := hid (H7.out.call h8)
          clear h8 H7
          obtain ⟨⟨q0, q1⟩, ⟨r0, r1⟩, ⟨p0, p1⟩, ⟨s0, s1⟩, hz⟩ := H8.out.cells
          have hsz2 : w.heap.size < w8.heap.size := by omega
          go_wp2_with fail
          refine bodyPost_ret (v := agF ⟨y, B, l.length, d, l⟩) (by simp [results, Tryd.results74, go_sem, q0, q1, p0, p1, s0, s1, hz, hsz2, agF, hl32]) rfl ?_
          exact H8.out.doneF rfl (by omega) H16.out _ _ (by rw [HR.out, HL.out.full HB.out, bad_word (full_e (isK_ne HB.out).1), bad_end (full_e (isK_ne HB.out).1)])
        | succ n =>
          have hl32 : l.length < 16 := by omega
          have tl : ((l.length : Int) == 16) = false := by simp; omega
          go_wp2_with fail
          refine (refIs_any b A c L σ4 kwBlock _ H.out.st).mono ?_
          rw [HB.out]
          rintro e w7 ⟨rfl, hb7⟩
          have H7 := hid (H.out.below hb7)
          clear hb7 H
          obtain ⟨⟨q0, q1⟩, ⟨r0, r1⟩, -, -, hz⟩ := H7.out.cells
          go_wp2_with fail
          have H7d : Hid (Bg KB w b A c L σ4 y (.slice B l.length d) l w7.drew) := hid (H7.out.drewN 1)
          have HC := hid (fun w' (h' : Rst w' b A c L σ4) => refBlock_any b A c L σ4 w' h' HS.out)
          go_region_law (first
            | (go_simp
               go_at_call 98
               go_must (
               refine (HC.out _ H7d.out.st).mono ?_
               rintro e w8 ⟨x, he, hxt, hfx, h8⟩
               unfold agB at he
               subst he
               have H8 := hid (H7d.out.call h8)
               have Hx := hid (FrV.fresh (N := w.heap.size + 2) (v := .slice B l.length d) hfx (by have := H7d.out.size; omega) (fun k hk => (H7d.out.own.lt k hk).2))
               have Hxt := hid hxt
               obtain ⟨⟨q0, q1⟩, ⟨r0, r1⟩, -, -, hz⟩ := H8.out.cells
               clear hfx h8 hxt))
            | ((refine step_append_lies _ (by rfl) _ _ 56 (by rfl) (w.heap.size + 2) 62 i1 _ 2 40 Tryd.underlying56 Hi.out Hz0.out Hz1.out Hz2.out (by rfl) (by decide) (.slice B l.length d) l.length (l.flatMap bhc) (by rfl) (by exact World.ownsRow.alloc H8.out.own _)
                  ⟨_, 0, none⟩ 1 1 (bhc x) (by rfl) rfl (by exact two_new _ _ _ _) (one_two _ _ _ _) (by decide) (by unfold maxLen; omega) (by omega) (by have := H8.out.size; rw [World.size_alloc]; omega) _ rfl ?_)
               intro g9 cap9 w9 hown9 hgr9 hat9 hlt9
               obtain ⟨⟨y0, y1, y2⟩, hT9⟩ := Bg.push (x := x) H8.out ((Below.refl _ _).alloc (Nat.le_refl _) _) (.inr Hx.out) hgr9 hown9 hat9
               have H9 := hid hT9
               clear hown9 hgr9 hat9 hlt9 hT9))
          all_goals
            clear q0 q1 r0 r1 hz
            generalize w9.setCell ⟨w.heap.size + 1, 1, none⟩ (.slice (some ⟨g9, 0, none⟩) (l.length + 1) cap9) = w10 at *
            clear y0 y1 y2
            go_wp2_with fail
            go_roundw
            case rel => exact ⟨l ++ [x], n, (blockR σ4).2, _, H9.out, by have := HL.out.step HB.out; rw [List.map_append]; rw [← Hxt.out] at this; exact this⟩
            case measure =>
              obtain ⟨⟨q0, q1⟩, -⟩ := H9.out.cells
              rw [Hm.out, lenAt_of q1]
              omega
  | false =>
    have hneed : needR (isK kwBlock) σ3 = failR 4 σ3 := by unfold needR; rw [hb0]; rfl
    rw [hneed] at HR
    clear hneed hb0
    go_wp2_with fail
    refine (refFail_any b A c L σ3 4 _ H5.out.st).mono ?_
    rintro e w6 ⟨rfl, h6⟩
    have H6 := hid (H5.out.call h6)
    clear h6 H5
    generalize failR 4 σ3 = σ3 at *
    go_wp2_with fail
    go_loopw [] (fun wr => ∃ (l : List BH) (n : Nat) (σ4 : Rs) (v : Value), Hid (Bg KB w b A c L σ4 y v l wr) ∧ Hid (Lrel (isK kwBlock) blockR 16 σ3 (l.map BH.b) n σ4)) (fun wr => 16 + 1 - lenAt (w.heap.size + 1) wr)
    case atStart => exact ⟨[], 16, σ3, _, H6.out, Lrel.start⟩
    case round =>
      clear H6
      obtain ⟨l, n, σ4, v, H, HL⟩ := hrel
      obtain ⟨B, d, hv⟩ := own_any_slice H.out.own
      subst hv
      have hlen : l.length + n = 16 := by have := HL.out.1; simpa using this
      obtain ⟨⟨q0, q1⟩, ⟨r0, r1⟩, ⟨p0, p1⟩, ⟨s0, s1⟩, hz⟩ := H.out.cells
      have Hm := hid (lenAt_of q1)
      clear q0 r0 r1 p0 p1 s0 s1 q1 hz
      cases hb : isK kwBlock σ4 with
      | false =>
        have HB := hid hb
        clear hb
        go_wp2_with fail
        refine (refIs_any b A c L σ4 kwBlock _ H.out.st).mono ?_
        rw [HB.out]
        rintro e w7 ⟨rfl, hb7⟩
        have H7 := hid (H.out.below hb7)
        clear hb7 H
        go_wp2_with fail
        refine (refWord_any b A c L σ4 kwEnd _ H7.out.st).mono ?_
        rintro e w8 ⟨rfl, h8⟩
        have H8 := hid (H7.out.call h8)
        clear h8 H7
        go_wp2_with fail
        refine (refEnd_any b A c L _ _ H8.out.st).mono ?_
        rintro e w9 ⟨rfl, h9⟩
        have H9 := hid (H8.out.call h9)
        clear h9 H8
        obtain ⟨⟨q0, q1⟩, ⟨r0, r1⟩, ⟨p0, p1⟩, ⟨s0, s1⟩, hz⟩ := H9.out.cells
        have hsz2 : w.heap.size < w9.heap.size := by omega
        go_wp2_with fail
        refine bodyPost_ret (v := agF ⟨y, B, l.length, d, l⟩) (by simp [results, Tryd.results74, go_sem, q0, q1, p0, p1, s0, s1, hz, hsz2, agF]) rfl ?_
        exact H9.out.doneF rfl (by omega) H16.out _ _ (by rw [HR.out, HL.out.stop HB.out])
      | true =>
        have HB := hid hb
        clear hb
        cases n with
        | zero =>
          have hl32 : l.length = 16 := by omega
          go_wp2_with fail
          refine (refIs_any b A c L σ4 kwBlock _ H.out.st).mono ?_
          rw [HB.out]
          rintro e w7 ⟨rfl, hb7⟩
          have H7 := hid (H.out.below hb7)
          clear hb7 H
          obtain ⟨⟨q0, q1⟩, ⟨r0, r1⟩, -, -, hz⟩ := H7.out.cells
          have tl : ((l.length : Int) == 16) = true := by simp; omega
          go_wp2_with fail
          clear q0 q1 r0 r1 hz
          refine (refFail_any b A c L σ4 7 _ H7.out.st).mono ?_
          rintro e w8 ⟨rfl, h8⟩
          have H8 := hid (H7.out.call h8)
          clear h8 H7
          obtain ⟨⟨q0, q1⟩, ⟨r0, r1⟩, ⟨p0, p1⟩, ⟨s0, s1⟩, hz⟩ := H8.out.cells
          have hsz2 : w.heap.size < w8.heap.size := by omega
          go_wp2_with fail
          refine bodyPost_ret (v := agF ⟨y, B, l.length, d, l⟩) (by simp [results, Tryd.results74, go_sem, q0, q1, p0, p1, s0, s1, hz, hsz2, agF, hl32]) rfl ?_
          exact H8.out.doneF rfl (by omega) H16.out _ _ (by rw [HR.out, HL.out.full HB.out, bad_word (full_e (isK_ne HB.out).1), bad_end (full_e (isK_ne HB.out).1)])
        | succ n =>
          have hl32 : l.length < 16 := by omega
          have tl : ((l.length : Int) == 16) = false := by simp; omega
          go_wp2_with fail
          refine (refIs_any b A c L σ4 kwBlock _ H.out.st).mono ?_
          rw [HB.out]
          rintro e w7 ⟨rfl, hb7⟩
          have H7 := hid (H.out.below hb7)
          clear hb7 H
          obtain ⟨⟨q0, q1⟩, ⟨r0, r1⟩, -, -, hz⟩ := H7.out.cells
          go_wp2_with fail
          have H7d : Hid (Bg KB w b A c L σ4 y (.slice B l.length d) l w7.drew) := hid (H7.out.drewN 1)
          have HC := hid (fun w' (h' : Rst w' b A c L σ4) => refBlock_any b A c L σ4 w' h' HS.out)
          go_region_law (first
            | (go_simp
               go_at_call 98
               go_must (
               refine (HC.out _ H7d.out.st).mono ?_
               rintro e w8 ⟨x, he, hxt, hfx, h8⟩
               unfold agB at he
               subst he
               have H8 := hid (H7d.out.call h8)
               have Hx := hid (FrV.fresh (N := w.heap.size + 2) (v := .slice B l.length d) hfx (by have := H7d.out.size; omega) (fun k hk => (H7d.out.own.lt k hk).2))
               have Hxt := hid hxt
               obtain ⟨⟨q0, q1⟩, ⟨r0, r1⟩, -, -, hz⟩ := H8.out.cells
               clear hfx h8 hxt))
            | ((refine step_append_lies _ (by rfl) _ _ 56 (by rfl) (w.heap.size + 2) 62 i1 _ 2 40 Tryd.underlying56 Hi.out Hz0.out Hz1.out Hz2.out (by rfl) (by decide) (.slice B l.length d) l.length (l.flatMap bhc) (by rfl) (by exact World.ownsRow.alloc H8.out.own _)
                  ⟨_, 0, none⟩ 1 1 (bhc x) (by rfl) rfl (by exact two_new _ _ _ _) (one_two _ _ _ _) (by decide) (by unfold maxLen; omega) (by omega) (by have := H8.out.size; rw [World.size_alloc]; omega) _ rfl ?_)
               intro g9 cap9 w9 hown9 hgr9 hat9 hlt9
               obtain ⟨⟨y0, y1, y2⟩, hT9⟩ := Bg.push (x := x) H8.out ((Below.refl _ _).alloc (Nat.le_refl _) _) (.inr Hx.out) hgr9 hown9 hat9
               have H9 := hid hT9
               clear hown9 hgr9 hat9 hlt9 hT9))
          all_goals
            clear q0 q1 r0 r1 hz
            generalize w9.setCell ⟨w.heap.size + 1, 1, none⟩ (.slice (some ⟨g9, 0, none⟩) (l.length + 1) cap9) = w10 at *
            clear y0 y1 y2
            go_wp2_with fail
            go_roundw
            case rel => exact ⟨l ++ [x], n, (blockR σ4).2, _, H9.out, by have := HL.out.step HB.out; rw [List.map_append]; rw [← Hxt.out] at this; exact this⟩
            case measure =>
              obtain ⟨⟨q0, q1⟩, -⟩ := H9.out.cells
              rw [Hm.out, lenAt_of q1]
              omega
end Go.Proofs.YtlepcgncphikhaaDoor

namespace Go.Proofs.YtlepcgncphikhaaDoor
set_option maxRecDepth 20000
set_option linter.unusedVariables false
open Go.ChangeShapes Go.WideShapes Go.ChangeAt Go.RowKit

/-- A row of tokens of the call's own. -/
def Own (w0 : World) (v : Value) (l : List Tok) (w : World) : Prop := w.ownsRow w0.heap.size 105 4 v l.length (tcells l) ∧ Below w0.heap.size w0 w
theorem Own.push {w0 w w' : World} {v : Value} {l : List Tok} {t : Tok} {g cap : Nat} (h : Own w0 v l w) (o : Obj) (hown : w'.ownsRow w0.heap.size 105 4 (.slice (some ⟨g, 0, none⟩) (l.length + 1) cap) (l.length + 1) (tcells l ++ tcell t)) (hg : (w.alloc o).grownBy w' v.ownBlock) :
    Own w0 (.slice (some ⟨g, 0, none⟩) (l.length + 1) cap) (l ++ [t]) w' := by
  refine ⟨by rw [tcells_snoc, List.length_append]; exact hown, ?_⟩
  exact (h.2.alloc h.2.size o).grown hg (by have := h.2.size; simp; omega) (fun k hk => by have := (h.1.lt k hk).1; omega)
/-- While it runs. -/
def Rca (w0 : World) (s : ByteArray) (i line col : Nat) (v : Value) (l : List Tok) (w : World) : Prop := Own w0 v l w ∧ Fine s i line col l ∧ scanL s 0 1 1 [] = scanL s i line col l
section
variable {w0 w w' : World} {s : ByteArray} {i line col : Nat} {v v' : Value} {l : List Tok}
theorem Rca.step {i' line' col' : Nat} {l' : List Tok} (h : Rca w0 s i line col v l w) (hlt : i < s.size) (e : stp s i line col l = .go i' line' col' l') (h' : Own w0 v' l' w') : Rca w0 s i' line' col' v' l' w' :=
  ⟨h', h.2.1.go hlt e, h.2.2.trans (scanL_go hlt e)⟩
theorem Rca.stop {er : Int} {r : Res} (h : Rca w0 s i line col v l w) (hr : r = scanL s 0 1 1 []) (hlt : i < s.size) (e : stp s i line col l = .stop line col er) : RetScan r w0 (.returned (.tuple #[.slice none 0 0, .int .i64 (line : Int), .int .i64 (col : Int), .int .i64 er])) w := by
  rw [hr, h.2.2, scanL_stop hlt e]
  exact ⟨none, 0, rfl, TArg.nil _, h.1.2⟩
theorem Rca.done {A : Option Addr} {c : Nat} {r : Res} (h : Rca w0 s i line col v l w) (hr : r = scanL s 0 1 1 []) (hlt : s.size ≤ i) (h' : Own w0 (.slice A (endT line col l).length c) (endT line col l) w') : RetScan r w0 (.returned (.tuple #[.slice A (endT line col l).length c, .int .i64 0, .int .i64 0, .int .i64 0])) w' := by
  rw [hr, h.2.2, scanL_end hlt]
  exact ⟨A, c, rfl, ⟨own_at h'.1, rfl⟩, h'.2⟩
end
theorem not_word {c : Int} (h : wrdB c = true) : ((c == 32) = false ∧ (c == 9) = false) ∧ ((c == 10) = false ∧ (c == 59) = false ∧ (c == 35) = false) ∧ (c == 61) = false := by
  unfold wrdB letB digB at h
  simp at h ⊢
  omega
theorem wrd_of (c : Int) : wrdB c = (lttB c || digB c) := by unfold wrdB lttB; cases letB c <;> cases digB c <;> simp

set_option maxHeartbeats 6400000 in
theorem refScan_any (s : ByteArray) (w : World) (hs : s.size ≤ maxLen) : Calls Tryd.prog 71 #[.string s] w (RetScan (scanR s) w) := by
  by_cases hlt0 : s.size ≤ 4096
  · have HR := hid (show scanR s = scanL s 0 1 1 [] by unfold scanR; rw [if_pos hlt0])
    have h0 := hid (show Rca w s 0 1 1 (.slice none 0 0) [] w from ⟨⟨World.ownsRow_nil _ _ _ _, Below.refl _ _⟩, Fine.start s, rfl⟩)
    obtain ⟨i0, hi, hz0, hz1, hz2⟩ := info_parts info47
    have Hi := hid hi; have Hz0 := hid hz0; have Hz1 := hid hz1; have Hz2 := hid hz2
    clear hi hz0 hz1 hz2
    unfold maxLen at hs
    go_enter Tryd.func71, Tryd.ntmps71
    go_wp2_with fail
    go_loopw [6, 7, 8, 9, 10] (fun v ln cn op ix wr => ∃ (i line col : Nat) (l : List Tok), i ≤ s.size ∧ ix = .int .i64 i ∧ ln = .int .i64 line ∧ cn = .int .i64 col ∧ op = .bool (opn l) ∧ Hid (Rca w s i line col v l wr)) (fun _ _ _ _ ix _ => s.size - (intOf ix).toNat)
    case atStart => exact ⟨0, 1, 1, [], by omega, rfl, rfl, rfl, rfl, h0.out⟩
    case round =>
      clear h0
      obtain ⟨i, line, col, l, hle, rfl, rfl, rfl, rfl, H⟩ := hrel
      have hfew := H.out.2.1.few
      have hcol1 := H.out.2.1.col1
      have hcol2 := H.out.2.1.col2
      have hline1 := H.out.2.1.line1
      have hline := H.out.2.1.line2
      have hbase := H.out.1.2.size
      have Hown := hid H.out.1.1
      by_cases hlt : i < s.size
      · have hb := byt_at s i hlt
        have hw1 := wl_le s hlt
        have hw2 := cl_le s hlt
        cases hw : wrdB (byt s i) with
        | true =>
          obtain ⟨⟨n1, n2⟩, ⟨n3, n4, n5⟩, n6⟩ := not_word hw
          have HW := hid hw
          have hor := wrd_of (byt s i)
          rw [hw] at hor
          have hfirst : lttB (byt s i) = true ∨ lttB (byt s i) = false ∧ digB (byt s i) = true := by
            cases h : lttB (byt s i) with
            | true => exact .inl rfl
            | false => rw [h] at hor; exact .inr ⟨rfl, by simpa using hor.symm⟩
          clear hw hor
          rcases hfirst with hl1 | ⟨hl1, hl2⟩
          · have HL1 := hid hl1
            clear hl1
            go_wp2_with ((go_at_call 84; refine (refLetter_any _ _).mono ?_; rw [HL1.out]; rintro e w' ⟨rfl, rfl⟩))
            go_loop [12] (fun x => ∃ k : Nat, k ≤ wl s i ∧ x = .int .i64 k) (fun x => wl s i - (intOf x).toNat)
            case atStart => exact ⟨0, by omega, rfl⟩
            case round =>
              obtain ⟨k, hk, rfl⟩ := hrel
              by_cases hkw : k < wl s i
              · have hkb := byt_at s (i + k) (by omega)
                have hm : wrdB (byt s (i + k)) = true := runL_mem wrdB s i k hkw
                rw [wrd_of] at hm
                cases hx : lttB (byt s (i + k)) with
                | true =>
                  as_aux_lemma =>
                    have HX := hid hx
                    clear hx hm
                    go_wp2_with (go_at_call 84; refine (refLetter_any _ _).mono ?_; rw [HX.out]; rintro e w' ⟨rfl, rfl⟩)
                    go_round
                    case rel => exact ⟨k + 1, by omega, by go_num⟩
                    case measure => simp [intOf]; omega
                | false =>
                  as_aux_lemma =>
                    rw [hx] at hm
                    have HX := hid hx
                    have HM := hid (show digB (byt s (i + k)) = true by simpa using hm)
                    clear hx hm
                    go_wp2_with (first | (go_at_call 84; refine (refLetter_any _ _).mono ?_; rw [HX.out]; rintro e w' ⟨rfl, rfl⟩) | (go_at_call 85; refine (refDigit_any _ _).mono ?_; rw [HM.out]; rintro e w' ⟨rfl, rfl⟩))
                    go_round
                    case rel => exact ⟨k + 1, by omega, by go_num⟩
                    case measure => simp [intOf]; omega
              · obtain rfl : k = wl s i := by omega
                clear hkw hk
                by_cases hin : i + wl s i < s.size
                · have hkb := byt_at s (i + wl s i) hin
                  have hm : wrdB (byt s (i + wl s i)) = false := runL_stop wrdB s i hin
                  rw [wrd_of, Bool.or_eq_false_iff] at hm
                  have HX := hid hm.1
                  have HM := hid hm.2
                  clear hm
                  cases hd : digB (byt s i) with
                  | true =>
                    as_aux_lemma =>
                      have HD := hid hd
                      have Hst := hid (stp_digit (l := l) (line := line) (col := col) HW.out hd)
                      clear hd
                      go_wp2_with (first | (go_at_call 84; refine (refLetter_any _ _).mono ?_; rw [HX.out]; rintro e w' ⟨rfl, rfl⟩) | (go_at_call 85; refine (refDigit_any _ _).mono ?_; first | (rw [HM.out]; rintro e w' ⟨rfl, rfl⟩) | (rw [HD.out]; rintro e w' ⟨rfl, rfl⟩)))
                      refine bodyPost_ret (v := .tuple #[.slice none 0 0, .int .i64 (line : Int), .int .i64 (col : Int), .int .i64 4]) (by simp [results, Tryd.results71, go_sem]) rfl ?_
                      exact H.out.stop HR.out hlt Hst.out
                  | false =>
                    have HD := hid hd
                    by_cases hl : 16 < wl s i
                    · as_aux_lemma =>
                        have Hst := hid (stp_long (l := l) (line := line) (col := col) HW.out hd hl)
                        clear hd
                        go_wp2_with (first | (go_at_call 84; refine (refLetter_any _ _).mono ?_; rw [HX.out]; rintro e w' ⟨rfl, rfl⟩) | (go_at_call 85; refine (refDigit_any _ _).mono ?_; first | (rw [HM.out]; rintro e w' ⟨rfl, rfl⟩) | (rw [HD.out]; rintro e w' ⟨rfl, rfl⟩)))
                        refine bodyPost_ret (v := .tuple #[.slice none 0 0, .int .i64 (line : Int), .int .i64 (col : Int), .int .i64 7]) (by simp [results, Tryd.results71, go_sem]) rfl ?_
                        exact H.out.stop HR.out hlt Hst.out
                    · as_aux_lemma =>
                        have Hst := hid (stp_word (l := l) (line := line) (col := col) HW.out hd hl)
                        have hwp := wl_pos hlt HW.out
                        clear hd
                        go_wp2_with (first | (go_at_call 84; refine (refLetter_any _ _).mono ?_; rw [HX.out]; rintro e w' ⟨rfl, rfl⟩) | (go_at_call 85; refine (refDigit_any _ _).mono ?_; first | (rw [HM.out]; rintro e w' ⟨rfl, rfl⟩) | (rw [HD.out]; rintro e w' ⟨rfl, rfl⟩)) | (
                          at_builtin
                          refine wpList_append_lies _ rfl _ _ 74 rfl w.heap.size 105 i0 _ 4 40 Tryd.underlying74 Hi.out Hz0.out Hz1.out Hz2.out rfl (by decide) u6 l.length (tcells l) rfl (World.ownsRow.alloc Hown.out _) ⟨wr.heap.size, 0, none⟩ 1 1 (tcell ⟨1, s.extract i (i + wl s i), line, col⟩) rfl rfl (four_new _ _ _ _ _ _) (one_tok ⟨1, s.extract i (i + wl s i), line, col⟩) (by omega) (by unfold maxLen; omega) (by omega) (by rw [World.size_alloc]; omega) _ rfl ?_
                          intro g5 cap5 w5 hown5 hgr5 hat5 hlt5
                          have H5 := hid (H.out.step hlt Hst.out (Own.push (t := ⟨1, s.extract i (i + wl s i), line, col⟩) H.out.1 _ hown5 hgr5))
                          clear hown5 hgr5 hat5 hlt5))
                        go_roundw
                        case rel => exact ⟨_, _, _, _, hw1, by go_num, rfl, by go_num, by rw [opn_snoc]; rfl, H5⟩
                        case measure => simp [intOf]; omega
                · cases hd : digB (byt s i) with
                  | true =>
                    as_aux_lemma =>
                      have HD := hid hd
                      have Hst := hid (stp_digit (l := l) (line := line) (col := col) HW.out hd)
                      clear hd
                      go_wp2_with (first | (go_at_call 85; refine (refDigit_any _ _).mono ?_; rw [HD.out]; rintro e w' ⟨rfl, rfl⟩))
                      refine bodyPost_ret (v := .tuple #[.slice none 0 0, .int .i64 (line : Int), .int .i64 (col : Int), .int .i64 4]) (by simp [results, Tryd.results71, go_sem]) rfl ?_
                      exact H.out.stop HR.out hlt Hst.out
                  | false =>
                    have HD := hid hd
                    by_cases hl : 16 < wl s i
                    · as_aux_lemma =>
                        have Hst := hid (stp_long (l := l) (line := line) (col := col) HW.out hd hl)
                        clear hd
                        go_wp2_with (first | (go_at_call 85; refine (refDigit_any _ _).mono ?_; rw [HD.out]; rintro e w' ⟨rfl, rfl⟩))
                        refine bodyPost_ret (v := .tuple #[.slice none 0 0, .int .i64 (line : Int), .int .i64 (col : Int), .int .i64 7]) (by simp [results, Tryd.results71, go_sem]) rfl ?_
                        exact H.out.stop HR.out hlt Hst.out
                    · as_aux_lemma =>
                        have Hst := hid (stp_word (l := l) (line := line) (col := col) HW.out hd hl)
                        have hwp := wl_pos hlt HW.out
                        clear hd
                        go_wp2_with (first | (go_at_call 85; refine (refDigit_any _ _).mono ?_; rw [HD.out]; rintro e w' ⟨rfl, rfl⟩) | (
                          at_builtin
                          refine wpList_append_lies _ rfl _ _ 74 rfl w.heap.size 105 i0 _ 4 40 Tryd.underlying74 Hi.out Hz0.out Hz1.out Hz2.out rfl (by decide) u6 l.length (tcells l) rfl (World.ownsRow.alloc Hown.out _) ⟨wr.heap.size, 0, none⟩ 1 1 (tcell ⟨1, s.extract i (i + wl s i), line, col⟩) rfl rfl (four_new _ _ _ _ _ _) (one_tok ⟨1, s.extract i (i + wl s i), line, col⟩) (by omega) (by unfold maxLen; omega) (by omega) (by rw [World.size_alloc]; omega) _ rfl ?_
                          intro g5 cap5 w5 hown5 hgr5 hat5 hlt5
                          have H5 := hid (H.out.step hlt Hst.out (Own.push (t := ⟨1, s.extract i (i + wl s i), line, col⟩) H.out.1 _ hown5 hgr5))
                          clear hown5 hgr5 hat5 hlt5))
                        go_roundw
                        case rel => exact ⟨_, _, _, _, hw1, by go_num, rfl, by go_num, by rw [opn_snoc]; rfl, H5⟩
                        case measure => simp [intOf]; omega
          · have HL1 := hid hl1
            have HL2 := hid hl2
            clear hl1 hl2
            go_wp2_with (first | (go_at_call 84; refine (refLetter_any _ _).mono ?_; rw [HL1.out]; rintro e w' ⟨rfl, rfl⟩) | (go_at_call 85; refine (refDigit_any _ _).mono ?_; rw [HL2.out]; rintro e w' ⟨rfl, rfl⟩))
            go_loop [12] (fun x => ∃ k : Nat, k ≤ wl s i ∧ x = .int .i64 k) (fun x => wl s i - (intOf x).toNat)
            case atStart => exact ⟨0, by omega, rfl⟩
            case round =>
              obtain ⟨k, hk, rfl⟩ := hrel
              by_cases hkw : k < wl s i
              · have hkb := byt_at s (i + k) (by omega)
                have hm : wrdB (byt s (i + k)) = true := runL_mem wrdB s i k hkw
                rw [wrd_of] at hm
                cases hx : lttB (byt s (i + k)) with
                | true =>
                  as_aux_lemma =>
                    have HX := hid hx
                    clear hx hm
                    go_wp2_with (go_at_call 84; refine (refLetter_any _ _).mono ?_; rw [HX.out]; rintro e w' ⟨rfl, rfl⟩)
                    go_round
                    case rel => exact ⟨k + 1, by omega, by go_num⟩
                    case measure => simp [intOf]; omega
                | false =>
                  as_aux_lemma =>
                    rw [hx] at hm
                    have HX := hid hx
                    have HM := hid (show digB (byt s (i + k)) = true by simpa using hm)
                    clear hx hm
                    go_wp2_with (first | (go_at_call 84; refine (refLetter_any _ _).mono ?_; rw [HX.out]; rintro e w' ⟨rfl, rfl⟩) | (go_at_call 85; refine (refDigit_any _ _).mono ?_; rw [HM.out]; rintro e w' ⟨rfl, rfl⟩))
                    go_round
                    case rel => exact ⟨k + 1, by omega, by go_num⟩
                    case measure => simp [intOf]; omega
              · obtain rfl : k = wl s i := by omega
                clear hkw hk
                by_cases hin : i + wl s i < s.size
                · have hkb := byt_at s (i + wl s i) hin
                  have hm : wrdB (byt s (i + wl s i)) = false := runL_stop wrdB s i hin
                  rw [wrd_of, Bool.or_eq_false_iff] at hm
                  have HX := hid hm.1
                  have HM := hid hm.2
                  clear hm
                  cases hd : digB (byt s i) with
                  | true =>
                    as_aux_lemma =>
                      have HD := hid hd
                      have Hst := hid (stp_digit (l := l) (line := line) (col := col) HW.out hd)
                      clear hd
                      go_wp2_with (first | (go_at_call 84; refine (refLetter_any _ _).mono ?_; rw [HX.out]; rintro e w' ⟨rfl, rfl⟩) | (go_at_call 85; refine (refDigit_any _ _).mono ?_; first | (rw [HM.out]; rintro e w' ⟨rfl, rfl⟩) | (rw [HD.out]; rintro e w' ⟨rfl, rfl⟩)))
                      refine bodyPost_ret (v := .tuple #[.slice none 0 0, .int .i64 (line : Int), .int .i64 (col : Int), .int .i64 4]) (by simp [results, Tryd.results71, go_sem]) rfl ?_
                      exact H.out.stop HR.out hlt Hst.out
                  | false =>
                    have HD := hid hd
                    by_cases hl : 16 < wl s i
                    · as_aux_lemma =>
                        have Hst := hid (stp_long (l := l) (line := line) (col := col) HW.out hd hl)
                        clear hd
                        go_wp2_with (first | (go_at_call 84; refine (refLetter_any _ _).mono ?_; rw [HX.out]; rintro e w' ⟨rfl, rfl⟩) | (go_at_call 85; refine (refDigit_any _ _).mono ?_; first | (rw [HM.out]; rintro e w' ⟨rfl, rfl⟩) | (rw [HD.out]; rintro e w' ⟨rfl, rfl⟩)))
                        refine bodyPost_ret (v := .tuple #[.slice none 0 0, .int .i64 (line : Int), .int .i64 (col : Int), .int .i64 7]) (by simp [results, Tryd.results71, go_sem]) rfl ?_
                        exact H.out.stop HR.out hlt Hst.out
                    · as_aux_lemma =>
                        have Hst := hid (stp_word (l := l) (line := line) (col := col) HW.out hd hl)
                        have hwp := wl_pos hlt HW.out
                        clear hd
                        go_wp2_with (first | (go_at_call 84; refine (refLetter_any _ _).mono ?_; rw [HX.out]; rintro e w' ⟨rfl, rfl⟩) | (go_at_call 85; refine (refDigit_any _ _).mono ?_; first | (rw [HM.out]; rintro e w' ⟨rfl, rfl⟩) | (rw [HD.out]; rintro e w' ⟨rfl, rfl⟩)) | (
                          at_builtin
                          refine wpList_append_lies _ rfl _ _ 74 rfl w.heap.size 105 i0 _ 4 40 Tryd.underlying74 Hi.out Hz0.out Hz1.out Hz2.out rfl (by decide) u6 l.length (tcells l) rfl (World.ownsRow.alloc Hown.out _) ⟨wr.heap.size, 0, none⟩ 1 1 (tcell ⟨1, s.extract i (i + wl s i), line, col⟩) rfl rfl (four_new _ _ _ _ _ _) (one_tok ⟨1, s.extract i (i + wl s i), line, col⟩) (by omega) (by unfold maxLen; omega) (by omega) (by rw [World.size_alloc]; omega) _ rfl ?_
                          intro g5 cap5 w5 hown5 hgr5 hat5 hlt5
                          have H5 := hid (H.out.step hlt Hst.out (Own.push (t := ⟨1, s.extract i (i + wl s i), line, col⟩) H.out.1 _ hown5 hgr5))
                          clear hown5 hgr5 hat5 hlt5))
                        go_roundw
                        case rel => exact ⟨_, _, _, _, hw1, by go_num, rfl, by go_num, by rw [opn_snoc]; rfl, H5⟩
                        case measure => simp [intOf]; omega
                · cases hd : digB (byt s i) with
                  | true =>
                    as_aux_lemma =>
                      have HD := hid hd
                      have Hst := hid (stp_digit (l := l) (line := line) (col := col) HW.out hd)
                      clear hd
                      go_wp2_with (first | (go_at_call 85; refine (refDigit_any _ _).mono ?_; rw [HD.out]; rintro e w' ⟨rfl, rfl⟩))
                      refine bodyPost_ret (v := .tuple #[.slice none 0 0, .int .i64 (line : Int), .int .i64 (col : Int), .int .i64 4]) (by simp [results, Tryd.results71, go_sem]) rfl ?_
                      exact H.out.stop HR.out hlt Hst.out
                  | false =>
                    have HD := hid hd
                    by_cases hl : 16 < wl s i
                    · as_aux_lemma =>
                        have Hst := hid (stp_long (l := l) (line := line) (col := col) HW.out hd hl)
                        clear hd
                        go_wp2_with (first | (go_at_call 85; refine (refDigit_any _ _).mono ?_; rw [HD.out]; rintro e w' ⟨rfl, rfl⟩))
                        refine bodyPost_ret (v := .tuple #[.slice none 0 0, .int .i64 (line : Int), .int .i64 (col : Int), .int .i64 7]) (by simp [results, Tryd.results71, go_sem]) rfl ?_
                        exact H.out.stop HR.out hlt Hst.out
                    · as_aux_lemma =>
                        have Hst := hid (stp_word (l := l) (line := line) (col := col) HW.out hd hl)
                        have hwp := wl_pos hlt HW.out
                        clear hd
                        go_wp2_with (first | (go_at_call 85; refine (refDigit_any _ _).mono ?_; rw [HD.out]; rintro e w' ⟨rfl, rfl⟩) | (
                          at_builtin
                          refine wpList_append_lies _ rfl _ _ 74 rfl w.heap.size 105 i0 _ 4 40 Tryd.underlying74 Hi.out Hz0.out Hz1.out Hz2.out rfl (by decide) u6 l.length (tcells l) rfl (World.ownsRow.alloc Hown.out _) ⟨wr.heap.size, 0, none⟩ 1 1 (tcell ⟨1, s.extract i (i + wl s i), line, col⟩) rfl rfl (four_new _ _ _ _ _ _) (one_tok ⟨1, s.extract i (i + wl s i), line, col⟩) (by omega) (by unfold maxLen; omega) (by omega) (by rw [World.size_alloc]; omega) _ rfl ?_
                          intro g5 cap5 w5 hown5 hgr5 hat5 hlt5
                          have H5 := hid (H.out.step hlt Hst.out (Own.push (t := ⟨1, s.extract i (i + wl s i), line, col⟩) H.out.1 _ hown5 hgr5))
                          clear hown5 hgr5 hat5 hlt5))
                        go_roundw
                        case rel => exact ⟨_, _, _, _, hw1, by go_num, rfl, by go_num, by rw [opn_snoc]; rfl, H5⟩
                        case measure => simp [intOf]; omega
        | false =>
          have HW := hid hw
          have hnl := hw
          rw [wrd_of, Bool.or_eq_false_iff] at hnl
          have HNL := hid hnl.1
          have HND := hid hnl.2
          clear hw hnl
          cases h1 : (byt s i == 61) with
          | true =>
            as_aux_lemma =>
              have e61 : byt s i = 61 := by simpa using h1
              have m1 : (byt s i == 32) = false := by rw [e61]; rfl
              have m2 : (byt s i == 9) = false := by rw [e61]; rfl
              have m3 : (byt s i == 10) = false := by rw [e61]; rfl
              have m4 : (byt s i == 59) = false := by rw [e61]; rfl
              have m5 : (byt s i == 35) = false := by rw [e61]; rfl
              have Hst := hid (stp_equal (l := l) (line := line) (col := col) HW.out h1)
              clear e61
              go_wp2_with ((
                at_builtin
                refine wpList_append_lies _ rfl _ _ 74 rfl w.heap.size 105 i0 _ 4 40 Tryd.underlying74 Hi.out Hz0.out Hz1.out Hz2.out rfl (by decide) u6 l.length (tcells l) rfl (World.ownsRow.alloc Hown.out _) ⟨wr.heap.size, 0, none⟩ 1 1 (tcell ⟨2, ⟨#[61]⟩, line, col⟩) rfl rfl (four_new _ _ _ _ _ _) (one_tok ⟨2, ⟨#[61]⟩, line, col⟩) (by omega) (by unfold maxLen; omega) (by omega) (by rw [World.size_alloc]; omega) _ rfl ?_
                intro g5 cap5 w5 hown5 hgr5 hat5 hlt5
                have H5 := hid (H.out.step hlt Hst.out (Own.push (t := ⟨2, ⟨#[61]⟩, line, col⟩) H.out.1 _ hown5 hgr5))
                clear hown5 hgr5 hat5 hlt5))
              go_roundw
              case rel => exact ⟨_, _, _, _, by omega, by go_num, rfl, by go_num, by rw [opn_snoc]; rfl, H5⟩
              case measure => simp [intOf]; omega
          | false =>
            cases h2 : (byt s i == 35) with
            | true =>
              have hx := h2
              clear h2
              have ec : byt s i = 35 := by simpa using hx
              have m0 : (byt s i == 32) = false := by rw [ec]; rfl
              have m1 : (byt s i == 9) = false := by rw [ec]; rfl
              have m2 : (byt s i == 61) = false := by rw [ec]; rfl
              have m3 : (byt s i == 10) = false := by rw [ec]; rfl
              have m4 : (byt s i == 59) = false := by rw [ec]; rfl
              have q10 : (byt s i != 10) = true := by rw [ec]; rfl
              have q59 : (byt s i != 59) = true := by rw [ec]; rfl
              have q35 : (byt s i != 35) = false := by rw [ec]; rfl
              have Hst := hid (stp_comment (l := l) (line := line) (col := col) HW.out h1 hx)
              have Hec := hid ec
              clear ec
              cases ho : opn l with
              | true =>
                have HO := hid ho
                have HE := hid (endT_yes (line := line) (col := col) ho)
                clear ho
                go_wp2_with ((
                  at_builtin
                  refine wpList_append_lies _ rfl _ _ 74 rfl w.heap.size 105 i0 _ 4 40 Tryd.underlying74 Hi.out Hz0.out Hz1.out Hz2.out rfl (by decide) u6 l.length (tcells l) rfl (World.ownsRow.alloc Hown.out _) ⟨wr.heap.size, 0, none⟩ 1 1 (tcell ⟨3, ByteArray.empty, line, col⟩) rfl rfl (four_new _ _ _ _ _ _) (one_tok ⟨3, ByteArray.empty, line, col⟩) (by omega) (by unfold maxLen; omega) (by omega) (by rw [World.size_alloc]; omega) _ rfl ?_
                  intro g5 cap5 w5 hown5 hgr5 hat5 hlt5
                  have H4 := hid (show Own w (.slice (some ⟨g5, 0, none⟩) (l.length + 1) cap5) (endT line col l) w5 from by rw [HE.out]; exact Own.push (t := ⟨3, ByteArray.empty, line, col⟩) H.out.1 _ hown5 hgr5)
                  clear hown5 hgr5 hat5 hlt5))
                have H5 := hid (H.out.step hlt Hst.out H4.out)
                have hcp := cl_pos hlt (by rw [Hec.out]; rfl)
                go_loop [8, 10] (fun cn x => ∃ k : Nat, k ≤ cl s i ∧ x = .int .i64 ((i + k : Nat) : Int) ∧ cn = .int .i64 ((col + k : Nat) : Int)) (fun _ x => i + cl s i - (intOf x).toNat)
                case atStart => exact ⟨0, by omega, rfl, rfl⟩
                case round =>
                  obtain ⟨k, hk, rfl, rfl⟩ := hrel
                  by_cases hkw : k < cl s i
                  · as_aux_lemma =>
                      have hkb := byt_at s (i + k) (by omega)
                      have hm : notFeed (byt s (i + k)) = true := runL_mem notFeed s i k hkw
                      have t10 : (byt s (i + k) != 10) = true := by unfold notFeed at hm; exact hm
                      clear hm
                      go_wp2
                      go_round
                      case rel => exact ⟨k + 1, by omega, by go_num, by go_num⟩
                      case measure => simp [intOf]; omega
                  · obtain rfl : k = cl s i := by omega
                    clear hkw hk
                    by_cases hin : i + cl s i < s.size
                    · as_aux_lemma =>
                        have hkb := byt_at s (i + cl s i) hin
                        have hm : notFeed (byt s (i + cl s i)) = false := runL_stop notFeed s i hin
                        have t10 : (byt s (i + cl s i) != 10) = false := by unfold notFeed at hm; exact hm
                        have t11 : (byt s (i + cl s i) == 10) = true := by simpa using t10
                        have e10 : byt s (i + cl s i) = 10 := by simpa using t11
                        have H6 := hid (H5.out.step hin (stp_feed (l := endT line col l) (line := line) (col := col + cl s i) (by rw [e10]; rfl) (by rw [e10]; rfl) (by rw [e10]; rfl) t11) (v' := (.slice (some ⟨g5, 0, none⟩) (l.length + 1) cap5)) (w' := w5) (by rw [endT_no (opn_endT _ _ _)]; exact H4.out))
                        have HO6 := hid (show opn (endT line (col + cl s i) (endT line col l)) = false from opn_endT _ _ _)
                        clear hm e10
                        go_wp2
                        go_roundw
                        case rel => exact ⟨_, _, _, _, by omega, by go_num, by go_num, rfl, by rw [HO6.out], H6⟩
                        case measure => simp [intOf]; omega
                    · as_aux_lemma =>
                        have HO5 := hid (show opn (endT line col l) = false from opn_endT _ _ _)
                        go_wp2
                        go_roundw
                        case rel => exact ⟨_, _, _, _, by omega, by go_num, by go_num, rfl, by rw [HO5.out], H5⟩
                        case measure => simp [intOf]; omega
              | false =>
                have HO := hid ho
                have H4 := hid (show Own w u6 (endT line col l) wr from by rw [endT_no ho]; exact H.out.1)
                clear ho
                go_wp2_with fail
                have H5 := hid (H.out.step hlt Hst.out H4.out)
                have hcp := cl_pos hlt (by rw [Hec.out]; rfl)
                go_loop [8, 10] (fun cn x => ∃ k : Nat, k ≤ cl s i ∧ x = .int .i64 ((i + k : Nat) : Int) ∧ cn = .int .i64 ((col + k : Nat) : Int)) (fun _ x => i + cl s i - (intOf x).toNat)
                case atStart => exact ⟨0, by omega, rfl, rfl⟩
                case round =>
                  obtain ⟨k, hk, rfl, rfl⟩ := hrel
                  by_cases hkw : k < cl s i
                  · as_aux_lemma =>
                      have hkb := byt_at s (i + k) (by omega)
                      have hm : notFeed (byt s (i + k)) = true := runL_mem notFeed s i k hkw
                      have t10 : (byt s (i + k) != 10) = true := by unfold notFeed at hm; exact hm
                      clear hm
                      go_wp2
                      go_round
                      case rel => exact ⟨k + 1, by omega, by go_num, by go_num⟩
                      case measure => simp [intOf]; omega
                  · obtain rfl : k = cl s i := by omega
                    clear hkw hk
                    by_cases hin : i + cl s i < s.size
                    · as_aux_lemma =>
                        have hkb := byt_at s (i + cl s i) hin
                        have hm : notFeed (byt s (i + cl s i)) = false := runL_stop notFeed s i hin
                        have t10 : (byt s (i + cl s i) != 10) = false := by unfold notFeed at hm; exact hm
                        have t11 : (byt s (i + cl s i) == 10) = true := by simpa using t10
                        have e10 : byt s (i + cl s i) = 10 := by simpa using t11
                        have H6 := hid (H5.out.step hin (stp_feed (l := endT line col l) (line := line) (col := col + cl s i) (by rw [e10]; rfl) (by rw [e10]; rfl) (by rw [e10]; rfl) t11) (v' := u6) (w' := wr) (by rw [endT_no (opn_endT _ _ _)]; exact H4.out))
                        have HO6 := hid (show opn (endT line (col + cl s i) (endT line col l)) = false from opn_endT _ _ _)
                        clear hm e10
                        go_wp2
                        go_roundw
                        case rel => exact ⟨_, _, _, _, by omega, by go_num, by go_num, rfl, by rw [HO6.out], H6⟩
                        case measure => simp [intOf]; omega
                    · as_aux_lemma =>
                        have HO5 := hid (show opn (endT line col l) = false from opn_endT _ _ _)
                        go_wp2
                        go_roundw
                        case rel => exact ⟨_, _, _, _, by omega, by go_num, by go_num, rfl, by rw [HO5.out], H5⟩
                        case measure => simp [intOf]; omega
            | false =>
              cases h3 : (byt s i == 10) with
              | true =>
                have hx := h3
                clear h3
                have ec : byt s i = 10 := by simpa using hx
                have m0 : (byt s i == 32) = false := by rw [ec]; rfl
                have m1 : (byt s i == 9) = false := by rw [ec]; rfl
                have m2 : (byt s i == 61) = false := by rw [ec]; rfl
                have m3 : (byt s i == 59) = false := by rw [ec]; rfl
                have m4 : (byt s i == 35) = false := by rw [ec]; rfl
                have q10 : (byt s i != 10) = false := by rw [ec]; rfl
                have q59 : (byt s i != 59) = true := by rw [ec]; rfl
                have q35 : (byt s i != 35) = true := by rw [ec]; rfl
                have Hst := hid (stp_feed (l := l) (line := line) (col := col) HW.out h1 h2 hx)
                have Hec := hid ec
                clear ec
                cases ho : opn l with
                | true =>
                  have HO := hid ho
                  have HE := hid (endT_yes (line := line) (col := col) ho)
                  clear ho
                  go_wp2_with ((
                    at_builtin
                    refine wpList_append_lies _ rfl _ _ 74 rfl w.heap.size 105 i0 _ 4 40 Tryd.underlying74 Hi.out Hz0.out Hz1.out Hz2.out rfl (by decide) u6 l.length (tcells l) rfl (World.ownsRow.alloc Hown.out _) ⟨wr.heap.size, 0, none⟩ 1 1 (tcell ⟨3, ByteArray.empty, line, col⟩) rfl rfl (four_new _ _ _ _ _ _) (one_tok ⟨3, ByteArray.empty, line, col⟩) (by omega) (by unfold maxLen; omega) (by omega) (by rw [World.size_alloc]; omega) _ rfl ?_
                    intro g5 cap5 w5 hown5 hgr5 hat5 hlt5
                    have H4 := hid (show Own w (.slice (some ⟨g5, 0, none⟩) (l.length + 1) cap5) (endT line col l) w5 from by rw [HE.out]; exact Own.push (t := ⟨3, ByteArray.empty, line, col⟩) H.out.1 _ hown5 hgr5)
                    clear hown5 hgr5 hat5 hlt5))
                  have H5 := hid (H.out.step hlt Hst.out H4.out)
                  have HO5 := hid (show opn (endT line col l) = false from opn_endT _ _ _)
                  go_loop [8, 10] (fun cn x => x = .int .i64 (i : Int) ∧ cn = .int .i64 (col : Int)) (fun _ _ => 0)
                  case atStart => exact ⟨rfl, rfl⟩
                  case round =>
                    as_aux_lemma =>
                      obtain ⟨rfl, rfl⟩ := hrel
                      go_wp2
                      go_roundw
                      case rel => exact ⟨_, _, _, _, by omega, by go_num, by go_num, rfl, by rw [HO5.out], H5⟩
                      case measure => simp [intOf]; omega
                | false =>
                  have HO := hid ho
                  have H4 := hid (show Own w u6 (endT line col l) wr from by rw [endT_no ho]; exact H.out.1)
                  clear ho
                  go_wp2_with fail
                  have H5 := hid (H.out.step hlt Hst.out H4.out)
                  have HO5 := hid (show opn (endT line col l) = false from opn_endT _ _ _)
                  go_loop [8, 10] (fun cn x => x = .int .i64 (i : Int) ∧ cn = .int .i64 (col : Int)) (fun _ _ => 0)
                  case atStart => exact ⟨rfl, rfl⟩
                  case round =>
                    as_aux_lemma =>
                      obtain ⟨rfl, rfl⟩ := hrel
                      go_wp2
                      go_roundw
                      case rel => exact ⟨_, _, _, _, by omega, by go_num, by go_num, rfl, by rw [HO5.out], H5⟩
                      case measure => simp [intOf]; omega
              | false =>
                cases h4 : (byt s i == 59) with
                | true =>
                  have hx := h4
                  clear h4
                  have ec : byt s i = 59 := by simpa using hx
                  have m0 : (byt s i == 32) = false := by rw [ec]; rfl
                  have m1 : (byt s i == 9) = false := by rw [ec]; rfl
                  have m2 : (byt s i == 61) = false := by rw [ec]; rfl
                  have m3 : (byt s i == 10) = false := by rw [ec]; rfl
                  have m4 : (byt s i == 35) = false := by rw [ec]; rfl
                  have q10 : (byt s i != 10) = true := by rw [ec]; rfl
                  have q59 : (byt s i != 59) = false := by rw [ec]; rfl
                  have q35 : (byt s i != 35) = true := by rw [ec]; rfl
                  have Hst := hid (stp_semi (l := l) (line := line) (col := col) HW.out h1 h2 h3 hx)
                  have Hec := hid ec
                  clear ec
                  cases ho : opn l with
                  | true =>
                    have HO := hid ho
                    have HE := hid (endT_yes (line := line) (col := col) ho)
                    clear ho
                    go_wp2_with ((
                      at_builtin
                      refine wpList_append_lies _ rfl _ _ 74 rfl w.heap.size 105 i0 _ 4 40 Tryd.underlying74 Hi.out Hz0.out Hz1.out Hz2.out rfl (by decide) u6 l.length (tcells l) rfl (World.ownsRow.alloc Hown.out _) ⟨wr.heap.size, 0, none⟩ 1 1 (tcell ⟨3, ByteArray.empty, line, col⟩) rfl rfl (four_new _ _ _ _ _ _) (one_tok ⟨3, ByteArray.empty, line, col⟩) (by omega) (by unfold maxLen; omega) (by omega) (by rw [World.size_alloc]; omega) _ rfl ?_
                      intro g5 cap5 w5 hown5 hgr5 hat5 hlt5
                      have H4 := hid (show Own w (.slice (some ⟨g5, 0, none⟩) (l.length + 1) cap5) (endT line col l) w5 from by rw [HE.out]; exact Own.push (t := ⟨3, ByteArray.empty, line, col⟩) H.out.1 _ hown5 hgr5)
                      clear hown5 hgr5 hat5 hlt5))
                    have H5 := hid (H.out.step hlt Hst.out H4.out)
                    have HO5 := hid (show opn (endT line col l) = false from opn_endT _ _ _)
                    go_loop [8, 10] (fun cn x => x = .int .i64 (i : Int) ∧ cn = .int .i64 (col : Int)) (fun _ _ => 0)
                    case atStart => exact ⟨rfl, rfl⟩
                    case round =>
                      obtain ⟨rfl, rfl⟩ := hrel
                      by_cases hin : i + 1 < s.size
                      · have hkb := byt_at s (i + 1) hin
                        cases h9 : (byt s (i + 1) == 10)
                        all_goals
                          as_aux_lemma =>
                            go_wp2
                            go_roundw
                            case rel => exact ⟨_, _, _, _, by omega, by go_num, rfl, by go_num, by rw [HO5.out], H5⟩
                            case measure => simp [intOf]; omega
                      · as_aux_lemma =>
                          go_wp2
                          go_roundw
                          case rel => exact ⟨_, _, _, _, by omega, by go_num, rfl, by go_num, by rw [HO5.out], H5⟩
                          case measure => simp [intOf]; omega
                  | false =>
                    have HO := hid ho
                    have H4 := hid (show Own w u6 (endT line col l) wr from by rw [endT_no ho]; exact H.out.1)
                    clear ho
                    go_wp2_with fail
                    have H5 := hid (H.out.step hlt Hst.out H4.out)
                    have HO5 := hid (show opn (endT line col l) = false from opn_endT _ _ _)
                    go_loop [8, 10] (fun cn x => x = .int .i64 (i : Int) ∧ cn = .int .i64 (col : Int)) (fun _ _ => 0)
                    case atStart => exact ⟨rfl, rfl⟩
                    case round =>
                      obtain ⟨rfl, rfl⟩ := hrel
                      by_cases hin : i + 1 < s.size
                      · have hkb := byt_at s (i + 1) hin
                        cases h9 : (byt s (i + 1) == 10)
                        all_goals
                          as_aux_lemma =>
                            go_wp2
                            go_roundw
                            case rel => exact ⟨_, _, _, _, by omega, by go_num, rfl, by go_num, by rw [HO5.out], H5⟩
                            case measure => simp [intOf]; omega
                      · as_aux_lemma =>
                          go_wp2
                          go_roundw
                          case rel => exact ⟨_, _, _, _, by omega, by go_num, rfl, by go_num, by rw [HO5.out], H5⟩
                          case measure => simp [intOf]; omega
                | false =>
                  cases h5 : (byt s i == 32 || byt s i == 9) with
                  | true =>
                    have Hst := hid (stp_blank (l := l) (line := line) (col := col) HW.out h1 h2 h3 h4 h5)
                    have H5 := hid (H.out.step hlt Hst.out H.out.1)
                    have hor : (byt s i == 32) = true ∨ ((byt s i == 32) = false ∧ (byt s i == 9) = true) := by
                      cases h : (byt s i == 32) with
                      | true => exact .inl rfl
                      | false => rw [h] at h5; exact .inr ⟨rfl, by simpa using h5⟩
                    clear h5
                    rcases hor with h5 | ⟨h5, h6⟩
                    all_goals
                      as_aux_lemma =>
                        go_wp2
                        go_roundw
                        case rel => exact ⟨_, _, _, _, by omega, by go_num, rfl, by go_num, rfl, H5⟩
                        case measure => simp [intOf]; omega
                  | false =>
                    as_aux_lemma =>
                      have Hst := hid (stp_bad (l := l) (line := line) (col := col) HW.out h1 h2 h3 h4 h5)
                      simp only [Bool.or_eq_false_iff] at h5
                      obtain ⟨h5, h6⟩ := h5
                      go_wp2_with (first | (go_at_call 84; refine (refLetter_any _ _).mono ?_; rw [HNL.out]; rintro e w' ⟨rfl, rfl⟩) | (go_at_call 85; refine (refDigit_any _ _).mono ?_; rw [HND.out]; rintro e w' ⟨rfl, rfl⟩))
                      refine bodyPost_ret (v := .tuple #[.slice none 0 0, .int .i64 (line : Int), .int .i64 (col : Int), .int .i64 4]) (by simp [results, Tryd.results71, go_sem]) rfl ?_
                      exact H.out.stop HR.out hlt Hst.out
      · cases ho : opn l with
        | true =>
          as_aux_lemma =>
            have HE := hid (endT_yes (line := line) (col := col) ho)
            clear ho
            go_wp2_with ((
              at_builtin
              refine wpList_append_lies _ rfl _ _ 74 rfl w.heap.size 105 i0 _ 4 40 Tryd.underlying74 Hi.out Hz0.out Hz1.out Hz2.out rfl (by decide) u6 l.length (tcells l) rfl (World.ownsRow.alloc Hown.out _) ⟨wr.heap.size, 0, none⟩ 1 1 (tcell ⟨3, ByteArray.empty, line, col⟩) rfl rfl (four_new _ _ _ _ _ _) (one_tok ⟨3, ByteArray.empty, line, col⟩) (by omega) (by unfold maxLen; omega) (by omega) (by rw [World.size_alloc]; omega) _ rfl ?_
              intro g5 cap5 w5 hown5 hgr5 hat5 hlt5
              have H4 := hid (show Own w (.slice (some ⟨g5, 0, none⟩) (l.length + 1) cap5) (endT line col l) w5 from by rw [HE.out]; exact Own.push (t := ⟨3, ByteArray.empty, line, col⟩) H.out.1 _ hown5 hgr5)
              clear hown5 hgr5 hat5 hlt5))
            have hlen := hid (show l.length + 1 = (endT line col l).length by rw [HE.out]; simp)
            refine bodyPost_ret (v := .tuple #[.slice (some ⟨g5, 0, none⟩) (l.length + 1) cap5, .int .i64 0, .int .i64 0, .int .i64 0]) (by simp [results, Tryd.results71, go_sem]) rfl ?_
            have h4 := H4.out
            rw [hlen.out] at h4 ⊢
            exact H.out.done HR.out (by omega) h4
        | false =>
          as_aux_lemma =>
            have HE := hid (endT_no (line := line) (col := col) ho)
            clear ho
            obtain ⟨A, c, hv⟩ := own_any_slice H.out.1.1
            subst hv
            go_wp2_with fail
            refine bodyPost_ret (v := .tuple #[.slice A l.length c, .int .i64 0, .int .i64 0, .int .i64 0]) (by simp [results, Tryd.results71, go_sem]) rfl ?_
            have h5 := Rca.done (A := A) (c := c) H.out HR.out (by omega) (by rw [HE.out]; exact H.out.1)
            rw [HE.out] at h5
            exact h5
  · as_aux_lemma =>
      have hR : scanR s = ([], 0, 0, 7) := by unfold scanR; rw [if_neg hlt0]
      have HR := hid hR
      clear hR
      unfold maxLen at hs
      go_enter Tryd.func71, Tryd.ntmps71
      go_wp2_with fail
      refine bodyPost_ret (v := .tuple #[.slice none 0 0, .int .i64 0, .int .i64 0, .int .i64 7]) (by simp [results, Tryd.results71, go_sem]) rfl ?_
      rw [HR.out]
      exact ⟨none, 0, rfl, TArg.nil _, Below.refl _ _⟩
end Go.Proofs.YtlepcgncphikhaaDoor

namespace Go.Proofs.YtlepcgncphikhaaDoor
set_option maxRecDepth 20000
set_option linter.unusedVariables false
set_option linter.unusedSimpArgs false
open Go.ChangeShapes Go.WideShapes Go.ChangeAt Go.RowKit
attribute [local go_sem ↓] Go.wp_at_zero Go.wp_at_succ

structure Po (w0 : World) (b : Nat) (A : Option Addr) (c : Nat) (L : List Tok) (σ : Rs) (v : Value) (l : List FH) (w : World) : Prop where
  st : RTo w0 b A c L σ w
  old : b < w0.heap.size
  f3 : Fb w w0.heap.size #[v] 34
  own : w.ownsRow (w0.heap.size + 1) 58 2 v l.length (l.flatMap fhc)
  all : ∀ x ∈ l, FrV (w0.heap.size + 1) v (FP x) w
theorem FP.go {x : FH} {w w' : World} {ex ex' : List (Option Nat)} (h : FP x w ex) (hg : Go2 w ex w' ex') : FP x w' ex' := FHok.go h hg
section
variable {w0 w w' : World} {b : Nat} {A : Option Addr} {c : Nat} {L : List Tok} {σ σ' : Rs} {v : Value} {l : List FH}
theorem Po.start (h : Rst w0 b A c L σ) : Po w0 b A c L σ (.slice none 0 0) [] (w0.alloc (.cells #[.slice none 0 0] 34)) :=
  ⟨(RTo.refl h).belowr ((Below.refl _ _).alloc (Nat.le_refl _) _), h.lt, Fb.new w0 _ _, World.ownsRow_nil _ _ _ _, by simp⟩
theorem Po.call (h : Po w0 b A c L σ v l w) (hr : RTo w b A c L σ' w') : Po w0 b A c L σ' v l w' :=
  ⟨h.st.trans hr, h.old, h.f3.grown hr.2 (by have := h.old; simp; omega), RTo.own h.own hr (by have := h.old; omega),
    fun x hx => (h.all x hx).grown FP.go hr.2 (fun k hk => by injection hk with hk; have := h.old; omega)⟩
theorem Po.below (h : Po w0 b A c L σ v l w) (hb : Below w.heap.size w w') : Po w0 b A c L σ v l w' := h.call ((RTo.refl h.st.1).belowr hb)
theorem Po.drewN (h : Po w0 b A c L σ v l w) (q : Nat) : Po w0 b A c L σ v l (w.drewN q) := h.below (below_drewN (Below.refl _ _) q)
theorem Po.size (h : Po w0 b A c L σ v l w) : w0.heap.size + 1 ≤ w.heap.size := h.f3.lt
theorem Po.push {wa w9 : World} {g9 cap9 : Nat} {x : FH} (h : Po w0 b A c L σ v l w) (ha : Below w.heap.size w wa) (hx : FrV (w0.heap.size + 1) v (FP x) w) (hg : wa.grownBy w9 v.ownBlock)
    (hown : w9.ownsRow (w0.heap.size + 1) 58 2 (.slice (some ⟨g9, 0, none⟩) (l.length + 1) cap9) (l.length + 1) (l.flatMap fhc ++ fhc x)) (hat : v.ownBlock = some g9 ∨ g9 = wa.heap.size) :
    (w9.cell? ⟨w0.heap.size, 0, none⟩ = some v ∧ w9.frozen? ⟨w0.heap.size, 0, none⟩ = false ∧ w0.heap.size < w9.heap.size) ∧
    Po w0 b A c L σ (.slice (some ⟨g9, 0, none⟩) (l.length + 1) cap9) (l ++ [x]) (w9.setCell ⟨w0.heap.size, 0, none⟩ (.slice (some ⟨g9, 0, none⟩) (l.length + 1) cap9)) := by
  have h1 := h.below ha
  have ho := h.old
  have hlt : ∀ k, v.ownBlock = some k → w0.heap.size + 1 ≤ k := fun k hk => (h1.own.lt k hk).1
  have hne : ∀ k, k < w0.heap.size + 1 → some k ≠ v.ownBlock := fun k hk e => by have := hlt k e.symm; omega
  have hf3 := h1.f3.grown hg (hne _ (by omega))
  have hxV : FrV (w0.heap.size + 1) v (FP x) wa := hx.grown FP.go (grown_of_below ha none) (fun k hk => by cases hk)
  have hset := setCell_grown w9 ⟨w0.heap.size, 0, none⟩ (.slice (some ⟨g9, 0, none⟩) (l.length + 1) cap9)
  have hg9 := (hown.lt g9 rfl).1
  refine ⟨⟨hf3.cell 0, hf3.frozen 0, hf3.lt⟩, ?_⟩
  refine ⟨⟨(h1.st.1.grown hg (fun k hk => by have := hlt k hk; omega)).far (by show b < w0.heap.size; omega) _, grown_set_new ?_ (Nat.le_refl _) _⟩, ho, ?_, ?_, ?_⟩
  · have h2 := h1.st.2
    exact ⟨hg.os.trans h2.os, hg.tape.trans h2.tape, hg.output.trans h2.output, Nat.le_trans h2.size hg.size, fun i hi hne2 => (hg.block i (Nat.lt_of_lt_of_le hi h2.size) (hne i (by omega))).trans (h2.block i hi hne2)⟩
  · have := hf3.set 0 (.slice (some ⟨g9, 0, none⟩) (l.length + 1) cap9)
    simpa using this
  · rw [List.flatMap_append, List.length_append]
    have e : [x].flatMap fhc = fhc x := by simp
    rw [e]
    exact hown.kept hset (.inr (by show some g9 ≠ some w0.heap.size; simp; omega))
  · intro y hy
    have hyV : FrV (w0.heap.size + 1) v (FP y) wa := by
      rcases List.mem_append.1 hy with hy | hy
      · exact h1.all y hy
      · simp at hy; subst hy; exact hxV
    exact (hyV.push FP.go hg (v' := .slice (some ⟨g9, 0, none⟩) (l.length + 1) cap9) (g := g9) rfl hat).grown FP.go hset (fun k hk => by injection hk with hk; have : w0.heap.size = k := hk; omega)
end
def lenAt0 (g : Nat) (w : World) : Nat := match w.cell? ⟨g, 0, none⟩ with | some (.slice _ n _) => n | _ => 0
theorem lenAt0_of {g n c : Nat} {B : Option Addr} {w : World} (h : w.cell? ⟨g, 0, none⟩ = some (.slice B n c)) : lenAt0 g w = n := by unfold lenAt0; rw [h]
theorem RTo.kept {w w' : World} {b c : Nat} {A : Option Addr} {L : List Tok} {σ : Rs} {g t : Nat} {cs : Array Value} (h : RTo w b A c L σ w') (hf : Fb w g cs t) (hne : g ≠ b) : Fb w' g cs t := hf.grown h.2 (by simpa using hne)
end Go.Proofs.YtlepcgncphikhaaDoor

namespace Go.Proofs.YtlepcgncphikhaaDoor
set_option maxRecDepth 20000
set_option linter.unusedVariables false
set_option linter.unusedSimpArgs false
open Go.ChangeShapes Go.WideShapes Go.ChangeAt Go.RowKit
attribute [local go_sem ↓] Go.wp_at_zero Go.wp_at_succ

theorem progR_of {σ0 : Rs} {done : List Fnc} {le : List Tok} {ee : Int} (h : listR (isK kwFunc) funcR 8 (needR (isK kwFunc) σ0) = (done, ⟨le, ee⟩)) :
    progR σ0 = (done, if ee == 0 && !le.isEmpty then failR 4 ⟨le, ee⟩ else ⟨le, ee⟩) := by
  unfold progR
  simp only
  rw [h]
theorem Po.pp {w0 w : World} {b c d : Nat} {A B : Option Addr} {L : List Tok} {σ : Rs} {l : List FH} (h : Po w0 b A c L σ (.slice B l.length d) l w) (hl : l.length ≤ 40) : Fr (w0.heap.size + 1) (PP ⟨B, l.length, d, l⟩) w :=
  pp_of h.own (fun x hx => (h.all x hx).fr) hl
theorem Po.grownw {w0 w : World} {b c : Nat} {A : Option Addr} {L : List Tok} {σ : Rs} {v : Value} {l : List FH} (h : Po w0 b A c L σ v l w) : w0.grownBy w (some b) := h.st.2
def parO (p : List Fnc × Rs) : Par := if p.2.e == 0 then (p.1, 0, 0, 0) else ([], (nxt p.2.l).line, (nxt p.2.l).col, p.2.e)
theorem parO_ok {P : List Fnc} {l : List Tok} {ee : Int} (h : (ee == 0) = true) : parO (P, ⟨l, ee⟩) = (P, 0, 0, 0) := by
  unfold parO
  exact if_pos h
theorem parO_bad {P : List Fnc} {l : List Tok} {ee : Int} (h : (ee == 0) = false) : parO (P, ⟨l, ee⟩) = ([], (nxt l).line, (nxt l).col, ee) := by
  unfold parO
  exact if_neg (by show ¬ ((ee == 0) = true); rw [h]; exact Bool.false_ne_true)
theorem par_more {s : ByteArray} {σ0 : Rs} {done : List Fnc} {le : List Tok} {ee : Int} (h2 : parseR s = parO (progR σ0)) (h : progR σ0 = (done, if ee == 0 && !le.isEmpty then failR 4 ⟨le, ee⟩ else ⟨le, ee⟩)) (he : (ee == 0) = true) (hn : le ≠ []) (hf : failR 4 ⟨le, ee⟩ = ⟨le, 4⟩) :
    parseR s = ([], (nxt le).line, (nxt le).col, 4) := by
  have hemp : le.isEmpty = false := by cases le with | nil => exact absurd rfl hn | cons => rfl
  rw [h2, h, hemp, he, hf]
  exact parO_bad rfl
theorem par_end {s : ByteArray} {σ0 : Rs} {done : List Fnc} {le : List Tok} {ee : Int} (h2 : parseR s = parO (progR σ0)) (h : progR σ0 = (done, if ee == 0 && !le.isEmpty then failR 4 ⟨le, ee⟩ else ⟨le, ee⟩)) (he : (ee == 0) = true) (hn : le = []) :
    parseR s = (done, 0, 0, 0) := by
  subst hn
  rw [h2, h]
  have h0 : (ee == 0 && !([] : List Tok).isEmpty) = false := by simp
  rw [h0]
  exact parO_ok he
theorem par_err {s : ByteArray} {σ0 : Rs} {done : List Fnc} {le : List Tok} {ee : Int} (h2 : parseR s = parO (progR σ0)) (h : progR σ0 = (done, if ee == 0 && !le.isEmpty then failR 4 ⟨le, ee⟩ else ⟨le, ee⟩)) (he : (ee == 0) = false) :
    parseR s = ([], (nxt le).line, (nxt le).col, ee) := by
  rw [h2, h, he]
  exact parO_bad he
set_option maxHeartbeats 20000000 in
theorem refParse_any (s : ByteArray) (w : World) (hs : s.size ≤ maxLen) : Calls Tryd.prog 41 #[.string s] w (RetParse (parseR s) w) := by
  have HC := hid (fun w => refScan_any s w hs)
  have HR : Hid (parseR s = (if (scanR s).2.2.2 == 0 then parO (progR ⟨(scanR s).1, 0⟩) else ([], (scanR s).2.1, (scanR s).2.2.1, (scanR s).2.2.2))) := hid rfl
  have HS := hid (show Short (scanR s).1 from fun t ht => tokOk_size (scan_tok s t ht))
  have Hfew := hid (scanR_few s)
  have hf0 := hid (Fb.new w #[.slice none 0 0] 34)
  have hb0 := hid ((Below.refl w.heap.size w).alloc (Nat.le_refl _) (.cells #[.slice none 0 0] 34))
  have hwa := hid (show (w.alloc (.cells #[.slice none 0 0] 34)).heap.size = w.heap.size + 1 by rw [World.size_alloc])
  clear hs
  generalize scanR s = r at *
  obtain ⟨L, line, col, er⟩ := r
  simp only at HR HS Hfew
  obtain ⟨i3, hi, hz0, hz1, hz2⟩ := info_parts info63
  have Hi := hid hi; have Hz0 := hid hz0; have Hz1 := hid hz1; have Hz2 := hid hz2
  clear hi hz0 hz1 hz2
  go_enter Tryd.func41, Tryd.ntmps41
  go_wp2_with fail
  generalize w.alloc (.cells #[.slice none 0 0] 34) = wa at *
  refine (HC.out _).mono ?_
  rintro e w1 ⟨A, c, rfl, ha, hb1⟩
  simp only at ha
  have hf1 := hid (hf0.out.below hb1 hf0.out.lt)
  have hB1 := hid (hb0.out.trans (hb1.mono hb0.out.size))
  have hsz1 := hid (show w.heap.size + 1 ≤ w1.heap.size by have := hb1.size; have := hwa.out; omega)
  cases he : (er == 0) with
  | false =>
    have hne : (er != 0) = true := by simpa using he
    have HR2 : Hid (parseR s = ([], line, col, er)) := hid (by rw [HR.out, he]; rfl)
    have HB : Hid (Below w.heap.size w (w1.setCell ⟨w.heap.size, 0, none⟩ (.slice none 0 0))) := hid (hB1.out.setCell (Nat.le_refl _) _)
    have v0 := hf1.out.cell 0
    have s0 := hf1.out.frozen 0
    have hsz := hf1.out.lt
    clear HR he ha hb1
    go_wp2_with fail
    refine bodyPost_ret (v := .tuple #[.agg #[.slice none 0 0], .int .i64 (line : Int), .int .i64 (col : Int), .int .i64 er]) (by simp [results, Tryd.results41, go_sem, v0, s0, hsz]) rfl ?_
    rw [HR2.out]
    exact ⟨⟨none, 0, 0, []⟩, rfl, rfl, pp_nil _ _, HB.out⟩
  | true =>
    have hne : (er != 0) = false := by simpa using he
    have HR2 : Hid (parseR s = parO (progR ⟨L, 0⟩)) := hid (by rw [HR.out, he]; rfl)
    have hst := hid (show Rst (w1.alloc (.cells #[.slice A L.length c, .int .i64 0, .int .i64 0] 101)) w1.heap.size A c L ⟨L, 0⟩ from ⟨⟨0, Nat.zero_le _, rfl, Fb.new w1 _ _⟩, ha.lies.alloc (Nat.le_refl _) _, Hfew.out⟩)
    have hB2 := hid (hB1.out.alloc (by have := hsz1.out; omega) (.cells #[.slice A L.length c, .int .i64 0, .int .i64 0] 101))
    have hf2 := hid ((hf1.out.alloc (.cells #[.slice A L.length c, .int .i64 0, .int .i64 0] 101)).alloc (.cells #[.slice none 0 0] 34))
    have hszp := hid (show (w1.alloc (.cells #[.slice A L.length c, .int .i64 0, .int .i64 0] 101)).heap.size = w1.heap.size + 1 by rw [World.size_alloc])
    have H0 := hid (Po.start hst.out)
    clear HR he ha hb1 hf0 hb0 hwa hf1 HC hst
    go_wp2_with fail
    generalize w1.alloc (.cells #[.slice A L.length c, .int .i64 0, .int .i64 0] 101) = wp at *
    generalize w1.heap.size = b at *
    have hszp2 := hszp.out
    have hszb := hsz1.out
    rw [show b + 1 = wp.heap.size from hszp2.symm]
    have hww : w.heap.size < wp.heap.size := by omega
    have hwb : w.heap.size < b := by omega
    have hbp : b < wp.heap.size := by omega
    clear hszp2 hszb
    generalize wp.alloc (.cells #[.slice none 0 0] 34) = w2 at *
    refine (refIs_any b A c L ⟨L, 0⟩ kwFunc _ H0.out.st.1).mono ?_
    rintro e w5 ⟨rfl, hb5⟩
    have H5 := hid (H0.out.below hb5)
    have hf5 := hid (hf2.out.below hb5 hf2.out.lt)
    clear hb5 H0 hf2
    cases hb0 : isK kwFunc ⟨L, 0⟩ with
    | true =>
      have hneed := hid (show needR (isK kwFunc) ⟨L, 0⟩ = ⟨L, 0⟩ by unfold needR; rw [hb0]; rfl)
      generalize hσ3 : (⟨L, 0⟩ : Rs) = σ3 at *
      clear hσ3 hb0
      go_wp2_with fail
      go_loopw [] (fun wr => ∃ (l : List FH) (n : Nat) (σ4 : Rs) (v : Value), Hid (Po wp b A c L σ4 v l wr) ∧ Hid (Lrel (isK kwFunc) funcR 8 σ3 (l.map FH.f) n σ4) ∧ Hid (Fb wr w.heap.size #[.slice none 0 0] 34)) (fun wr => 9 - lenAt0 wp.heap.size wr)
      case atStart => exact ⟨[], 8, σ3, _, H5.out, Lrel.start, hf5.out⟩
      case round =>
        clear H5 hf5
        obtain ⟨l, n, σ4, v, H, HL, hfR⟩ := hrel
        obtain ⟨B, d, hv⟩ := own_any_slice H.out.own
        subst hv
        have hlen : l.length + n = 8 := by have := HL.out.1; simpa using this
        have q0 := H.out.f3.cell 0
        have Hm := hid (lenAt0_of q0)
        clear q0
        cases hb : isK kwFunc σ4 with
        | false =>
          have HB0 := hid hb
          clear hb
          go_wp2_with fail
          refine (refIs_any b A c L σ4 kwFunc _ H.out.st.1).mono ?_
          rw [HB0.out]
          rintro e w7 ⟨rfl, hb7⟩
          have H7 := hid (H.out.below hb7)
          have hf7 := hid (hfR.out.below hb7 hfR.out.lt)
          clear hb7 H hfR
          obtain ⟨le, ee⟩ := σ4
          have HPg := hid (progR_of (σ0 := σ3) (done := l.map FH.f) (le := le) (ee := ee) (by rw [hneed.out]; exact HL.out.stop HB0.out))
          obtain ⟨k, hk, hl, hf⟩ := H7.out.st.1.at_
          simp only at hl hf
          cases hee : (ee == 0) with
          | true =>
            by_cases hkl : k < L.length
            · as_aux_lemma =>
              have HneL := hid (show le ≠ [] by
                  intro h0
                  rw [h0] at hl
                  have h1 := congrArg List.length hl
                  rw [List.length_drop] at h1
                  simp at h1
                  omega)
              have hfr := hid (show failR 4 ⟨le, ee⟩ = ⟨le, 4⟩ by unfold failR; simp [hee])
              have HPar : Hid (parseR s = ([], (nxt le).line, (nxt le).col, 4)) := hid (par_more HR2.out HPg.out hee HneL.out hfr.out)
              obtain ⟨⟨c0, c1, c2⟩, -⟩ := hf.three
              have hfew0 := H7.out.st.1.few
              clear hf hl HR2 HPg
              go_wp2_with fail
              refine (refFail_any b A c L ⟨le, ee⟩ 4 _ H7.out.st.1).mono ?_
              rintro e w8 ⟨rfl, h8⟩
              rw [hfr.out] at h8
              have H8 := hid (H7.out.call h8)
              have hf8 := hid (h8.kept hf7.out (by omega))
              clear h8 H7 hf7 c0 c1 c2 hfew0
              obtain ⟨k2, hk2, hl2, hfp⟩ := H8.out.st.1.at_
              simp only at hl2 hfp
              have hkl2 : k2 < L.length := by
                rcases Nat.lt_or_ge k2 L.length with h | h
                · exact h
                · exact absurd (by rw [← hl2, nxt_end h]) HneL.out
              obtain ⟨a, hAa, hab, -, a2, a3⟩ := H8.out.st.1.arg.cell hkl2
              subst hAa
              rw [← nxt_drop hkl2, hl2] at a2 a3
              obtain ⟨⟨c0, c1, c2⟩, -⟩ := hfp.three
              have hltb := H8.out.st.1.lt
              have hfew := H8.out.st.1.few
              have hna : a.block ≠ w.heap.size := by
                intro hq
                have h1 := a2
                rw [show (a.add (k2 * 4)).block = w.heap.size by rw [add_block]; exact hq] at h1
                rw [hf8.out.cell] at h1
                simp at h1
              have hna2 : w.heap.size ≠ a.block := fun h => hna h.symm
              have hab2 : (a.add (k2 * 4)).block < w8.heap.size := by rw [add_block]; exact hab
              have v0 := hf8.out.cell 0
              have s0 := hf8.out.frozen 0
              have hsz := hf8.out.lt
              have hBX := hid (hB2.out.grown H8.out.st.2 hB2.out.size (fun k hk => by injection hk with hk; omega))
              have HB : Hid (∀ q, Below w.heap.size w ((w8.drewN q).setCell ⟨w.heap.size, 0, none⟩ (.slice none 0 0))) := hid (fun q => (below_drewN hBX.out q).setCell (Nat.le_refl _) _)
              generalize (nxt le).line = ln at *
              generalize (nxt le).col = cl at *
              have hS0 : ((fun w' => Below w.heap.size w w' ∧ w'.cell? ⟨w.heap.size, 0, none⟩ = some (.slice none 0 0) ∧ w'.frozen? ⟨w.heap.size, 0, none⟩ = false ∧ w.heap.size < w'.heap.size ∧ w'.cell? ⟨b, 1, none⟩ = some (.int .i64 (k2 : Int)) ∧ w'.cell? ⟨b, 2, none⟩ = some (.int .i64 4) ∧ w'.cell? ⟨(a.add (k2 * 4)).block, (a.add (k2 * 4)).off + 2, none⟩ = some (.int .i64 (ln : Int)) ∧ w'.cell? ⟨(a.add (k2 * 4)).block, (a.add (k2 * 4)).off + 3, none⟩ = some (.int .i64 (cl : Int))) (w8.drew)) := ⟨below_drewN hBX.out 1, v0, s0, hsz, c1, c2, a2, a3⟩
              have HS0 := hid hS0
              have hSt : ∀ w', (fun w' => Below w.heap.size w w' ∧ w'.cell? ⟨w.heap.size, 0, none⟩ = some (.slice none 0 0) ∧ w'.frozen? ⟨w.heap.size, 0, none⟩ = false ∧ w.heap.size < w'.heap.size ∧ w'.cell? ⟨b, 1, none⟩ = some (.int .i64 (k2 : Int)) ∧ w'.cell? ⟨b, 2, none⟩ = some (.int .i64 4) ∧ w'.cell? ⟨(a.add (k2 * 4)).block, (a.add (k2 * 4)).off + 2, none⟩ = some (.int .i64 (ln : Int)) ∧ w'.cell? ⟨(a.add (k2 * 4)).block, (a.add (k2 * 4)).off + 3, none⟩ = some (.int .i64 (cl : Int))) w' → (fun w' => Below w.heap.size w w' ∧ w'.cell? ⟨w.heap.size, 0, none⟩ = some (.slice none 0 0) ∧ w'.frozen? ⟨w.heap.size, 0, none⟩ = false ∧ w.heap.size < w'.heap.size ∧ w'.cell? ⟨b, 1, none⟩ = some (.int .i64 (k2 : Int)) ∧ w'.cell? ⟨b, 2, none⟩ = some (.int .i64 4) ∧ w'.cell? ⟨(a.add (k2 * 4)).block, (a.add (k2 * 4)).off + 2, none⟩ = some (.int .i64 (ln : Int)) ∧ w'.cell? ⟨(a.add (k2 * 4)).block, (a.add (k2 * 4)).off + 3, none⟩ = some (.int .i64 (cl : Int))) (w'.setCell ⟨w.heap.size, 0, none⟩ (.slice none 0 0)) := by
                rintro w' ⟨h0, h1, h2, h3, h4, h5, h6, h7⟩
                refine ⟨h0.setCell (Nat.le_refl _) _, World.cell?_setCell_same (w := w') (a := ⟨w.heap.size, 0, none⟩) (v := .slice none 0 0) h1, by rw [World.frozen?_setCell]; exact h2, by rw [World.size_setCell]; exact h3, ?_, ?_, ?_, ?_⟩
                · exact (World.cell?_setCell_far _ _ _ _ (by show w.heap.size ≠ b; omega)).trans h4
                · exact (World.cell?_setCell_far _ _ _ _ (by show w.heap.size ≠ b; omega)).trans h5
                · exact (World.cell?_setCell_far _ _ _ _ (by show w.heap.size ≠ (a.add (k2 * 4)).block; rw [add_block]; exact hna2)).trans h6
                · exact (World.cell?_setCell_far _ _ _ _ (by show w.heap.size ≠ (a.add (k2 * 4)).block; rw [add_block]; exact hna2)).trans h7
              have HSt := hid hSt
              clear hl2 hfp hS0 hSt
              go_wp2_with fail
              clear c0 c1 c2 v0 s0 hsz a2 a3
              go_region_held3 (fun w' => Below w.heap.size w w' ∧ w'.cell? ⟨w.heap.size, 0, none⟩ = some (.slice none 0 0) ∧ w'.frozen? ⟨w.heap.size, 0, none⟩ = false ∧ w.heap.size < w'.heap.size ∧ w'.cell? ⟨b, 1, none⟩ = some (.int .i64 (k2 : Int)) ∧ w'.cell? ⟨b, 2, none⟩ = some (.int .i64 4) ∧ w'.cell? ⟨(a.add (k2 * 4)).block, (a.add (k2 * 4)).off + 2, none⟩ = some (.int .i64 (ln : Int)) ∧ w'.cell? ⟨(a.add (k2 * 4)).block, (a.add (k2 * 4)).off + 3, none⟩ = some (.int .i64 (cl : Int)))
                (first | exact HS0.out | exact HSt.out _ (by assumption) | assumption)
                (fail)
              go_wp2_with fail
              rename (Below _ _ _ ∧ _) => hh
              obtain ⟨hB9, v9, s9, hz9, -⟩ := hh
              refine bodyPost_ret (v := .tuple #[.agg #[.slice none 0 0], .int .i64 (ln : Int), .int .i64 (cl : Int), .int .i64 4]) (by simp [results, Tryd.results41, go_sem, v9, s9, hz9]) rfl ?_
              rw [HPar.out]
              exact ⟨⟨none, 0, 0, []⟩, rfl, rfl, pp_nil _ _, hB9⟩
            · as_aux_lemma =>
              have hle : le = [] := by rw [← hl, nxt_end (by omega)]
              have hkL : k = L.length := by omega
              have HPar : Hid (parseR s = (l.map FH.f, 0, 0, 0)) := hid (par_end HR2.out HPg.out hee hle)
              subst hkL
              clear hl HR2 HPg hkl
              obtain ⟨⟨c0, c1, c2⟩, -⟩ := hf.three
              have hltb := H7.out.st.1.lt
              have v0 := hf7.out.cell 0
              have s0 := hf7.out.frozen 0
              have hsz := hf7.out.lt
              have k0 := H7.out.f3.cell 0
              have hszX := H7.out.f3.lt
              have hBX := hid (hB2.out.grown H7.out.st.2 hB2.out.size (fun k hk => by injection hk with hk; omega))
              have HB : Hid (Below w.heap.size w (w7.setCell ⟨w.heap.size, 0, none⟩ (.slice B l.length d))) := hid (hBX.out.setCell (Nat.le_refl _) _)
              have Hpp := hid (show Fr w.heap.size (PP ⟨B, l.length, d, l⟩) (w7.setCell ⟨w.heap.size, 0, none⟩ (.slice B l.length d)) from Fr.less (M := w.heap.size) (Fr.grown (fun h hg => PP.go h hg) (H7.out.pp (by omega)) (setCell_grown w7 ⟨w.heap.size, 0, none⟩ _) (fun k hk => by injection hk with hk; have : w.heap.size = k := hk; omega)) (by omega))
              clear hf
              go_wp2_with fail
              refine bodyPost_ret (v := .tuple #[.agg #[.slice B l.length d], .int .i64 0, .int .i64 0, .int .i64 0]) (by simp [results, Tryd.results41, go_sem, v0, s0, hsz]) rfl ?_
              rw [HPar.out]
              exact ⟨⟨B, l.length, d, l⟩, rfl, rfl, Hpp.out, HB.out⟩
          | false =>
            have HPar0 : Hid (parseR s = ([], (nxt le).line, (nxt le).col, ee)) := hid (par_err HR2.out HPg.out hee)
            by_cases hkl : k < L.length
            · as_aux_lemma =>
              have HneL := hid (show le ≠ [] by
                  intro h0
                  rw [h0] at hl
                  have h1 := congrArg List.length hl
                  rw [List.length_drop] at h1
                  simp at h1
                  omega)
              have HPar := HPar0
              clear HPar0 hf hl HR2 HPg
              obtain ⟨k2, hk2, hl2, hfp⟩ := H7.out.st.1.at_
              simp only at hl2 hfp
              have hkl2 : k2 < L.length := by
                rcases Nat.lt_or_ge k2 L.length with h | h
                · exact h
                · exact absurd (by rw [← hl2, nxt_end h]) HneL.out
              obtain ⟨a, hAa, hab, -, a2, a3⟩ := H7.out.st.1.arg.cell hkl2
              subst hAa
              rw [← nxt_drop hkl2, hl2] at a2 a3
              obtain ⟨⟨c0, c1, c2⟩, -⟩ := hfp.three
              have hltb := H7.out.st.1.lt
              have hfew := H7.out.st.1.few
              have hna : a.block ≠ w.heap.size := by
                intro hq
                have h1 := a2
                rw [show (a.add (k2 * 4)).block = w.heap.size by rw [add_block]; exact hq] at h1
                rw [hf7.out.cell] at h1
                simp at h1
              have hna2 : w.heap.size ≠ a.block := fun h => hna h.symm
              have hab2 : (a.add (k2 * 4)).block < w7.heap.size := by rw [add_block]; exact hab
              have v0 := hf7.out.cell 0
              have s0 := hf7.out.frozen 0
              have hsz := hf7.out.lt
              have hBX := hid (hB2.out.grown H7.out.st.2 hB2.out.size (fun k hk => by injection hk with hk; omega))
              have HB : Hid (∀ q, Below w.heap.size w ((w7.drewN q).setCell ⟨w.heap.size, 0, none⟩ (.slice none 0 0))) := hid (fun q => (below_drewN hBX.out q).setCell (Nat.le_refl _) _)
              generalize (nxt le).line = ln at *
              generalize (nxt le).col = cl at *
              have hS0 : ((fun w' => Below w.heap.size w w' ∧ w'.cell? ⟨w.heap.size, 0, none⟩ = some (.slice none 0 0) ∧ w'.frozen? ⟨w.heap.size, 0, none⟩ = false ∧ w.heap.size < w'.heap.size ∧ w'.cell? ⟨b, 1, none⟩ = some (.int .i64 (k2 : Int)) ∧ w'.cell? ⟨b, 2, none⟩ = some (.int .i64 ee) ∧ w'.cell? ⟨(a.add (k2 * 4)).block, (a.add (k2 * 4)).off + 2, none⟩ = some (.int .i64 (ln : Int)) ∧ w'.cell? ⟨(a.add (k2 * 4)).block, (a.add (k2 * 4)).off + 3, none⟩ = some (.int .i64 (cl : Int))) (w7.drew)) := ⟨below_drewN hBX.out 1, v0, s0, hsz, c1, c2, a2, a3⟩
              have HS0 := hid hS0
              have hSt : ∀ w', (fun w' => Below w.heap.size w w' ∧ w'.cell? ⟨w.heap.size, 0, none⟩ = some (.slice none 0 0) ∧ w'.frozen? ⟨w.heap.size, 0, none⟩ = false ∧ w.heap.size < w'.heap.size ∧ w'.cell? ⟨b, 1, none⟩ = some (.int .i64 (k2 : Int)) ∧ w'.cell? ⟨b, 2, none⟩ = some (.int .i64 ee) ∧ w'.cell? ⟨(a.add (k2 * 4)).block, (a.add (k2 * 4)).off + 2, none⟩ = some (.int .i64 (ln : Int)) ∧ w'.cell? ⟨(a.add (k2 * 4)).block, (a.add (k2 * 4)).off + 3, none⟩ = some (.int .i64 (cl : Int))) w' → (fun w' => Below w.heap.size w w' ∧ w'.cell? ⟨w.heap.size, 0, none⟩ = some (.slice none 0 0) ∧ w'.frozen? ⟨w.heap.size, 0, none⟩ = false ∧ w.heap.size < w'.heap.size ∧ w'.cell? ⟨b, 1, none⟩ = some (.int .i64 (k2 : Int)) ∧ w'.cell? ⟨b, 2, none⟩ = some (.int .i64 ee) ∧ w'.cell? ⟨(a.add (k2 * 4)).block, (a.add (k2 * 4)).off + 2, none⟩ = some (.int .i64 (ln : Int)) ∧ w'.cell? ⟨(a.add (k2 * 4)).block, (a.add (k2 * 4)).off + 3, none⟩ = some (.int .i64 (cl : Int))) (w'.setCell ⟨w.heap.size, 0, none⟩ (.slice none 0 0)) := by
                rintro w' ⟨h0, h1, h2, h3, h4, h5, h6, h7⟩
                refine ⟨h0.setCell (Nat.le_refl _) _, World.cell?_setCell_same (w := w') (a := ⟨w.heap.size, 0, none⟩) (v := .slice none 0 0) h1, by rw [World.frozen?_setCell]; exact h2, by rw [World.size_setCell]; exact h3, ?_, ?_, ?_, ?_⟩
                · exact (World.cell?_setCell_far _ _ _ _ (by show w.heap.size ≠ b; omega)).trans h4
                · exact (World.cell?_setCell_far _ _ _ _ (by show w.heap.size ≠ b; omega)).trans h5
                · exact (World.cell?_setCell_far _ _ _ _ (by show w.heap.size ≠ (a.add (k2 * 4)).block; rw [add_block]; exact hna2)).trans h6
                · exact (World.cell?_setCell_far _ _ _ _ (by show w.heap.size ≠ (a.add (k2 * 4)).block; rw [add_block]; exact hna2)).trans h7
              have HSt := hid hSt
              clear hl2 hfp hS0 hSt
              go_wp2_with fail
              clear c0 c1 c2 v0 s0 hsz a2 a3
              go_region_held3 (fun w' => Below w.heap.size w w' ∧ w'.cell? ⟨w.heap.size, 0, none⟩ = some (.slice none 0 0) ∧ w'.frozen? ⟨w.heap.size, 0, none⟩ = false ∧ w.heap.size < w'.heap.size ∧ w'.cell? ⟨b, 1, none⟩ = some (.int .i64 (k2 : Int)) ∧ w'.cell? ⟨b, 2, none⟩ = some (.int .i64 ee) ∧ w'.cell? ⟨(a.add (k2 * 4)).block, (a.add (k2 * 4)).off + 2, none⟩ = some (.int .i64 (ln : Int)) ∧ w'.cell? ⟨(a.add (k2 * 4)).block, (a.add (k2 * 4)).off + 3, none⟩ = some (.int .i64 (cl : Int)))
                (first | exact HS0.out | exact HSt.out _ (by assumption) | assumption)
                (fail)
              go_wp2_with fail
              rename (Below _ _ _ ∧ _) => hh
              obtain ⟨hB9, v9, s9, hz9, -⟩ := hh
              refine bodyPost_ret (v := .tuple #[.agg #[.slice none 0 0], .int .i64 (ln : Int), .int .i64 (cl : Int), .int .i64 ee]) (by simp [results, Tryd.results41, go_sem, v9, s9, hz9]) rfl ?_
              rw [HPar.out]
              exact ⟨⟨none, 0, 0, []⟩, rfl, rfl, pp_nil _ _, hB9⟩
            · as_aux_lemma =>
              have hle : le = [] := by rw [← hl, nxt_end (by omega)]
              have hkL : k = L.length := by omega
              have HPar : Hid (parseR s = ([], 0, 0, ee)) := hid (by rw [HPar0.out, hle]; rfl)
              subst hkL
              clear HPar0 hl HR2 HPg hkl
              obtain ⟨⟨c0, c1, c2⟩, -⟩ := hf.three
              have hltb := H7.out.st.1.lt
              have v0 := hf7.out.cell 0
              have s0 := hf7.out.frozen 0
              have hsz := hf7.out.lt
              have hBX := hid (hB2.out.grown H7.out.st.2 hB2.out.size (fun k hk => by injection hk with hk; omega))
              have HB : Hid (∀ q, Below w.heap.size w ((w7.drewN q).setCell ⟨w.heap.size, 0, none⟩ (.slice none 0 0))) := hid (fun q => (below_drewN hBX.out q).setCell (Nat.le_refl _) _)
              clear hf
              go_wp2_with fail
              go_region_law (fail)
              all_goals
                go_wp2_with fail
                refine bodyPost_ret (v := .tuple #[.agg #[.slice none 0 0], .int .i64 0, .int .i64 0, .int .i64 ee]) (by simp [results, Tryd.results41, go_sem, v0, s0, hsz]) rfl ?_
                rw [HPar.out]
                exact ⟨⟨none, 0, 0, []⟩, rfl, rfl, pp_nil _ _, HB.out 1⟩
        | true =>
          have HB0 := hid hb
          clear hb
          cases n with
          | zero =>
            have hl8 : l.length = 8 := by omega
            go_wp2_with fail
            refine (refIs_any b A c L σ4 kwFunc _ H.out.st.1).mono ?_
            rw [HB0.out]
            rintro e w7 ⟨rfl, hb7⟩
            have H7 := hid (H.out.below hb7)
            have hf7 := hid (hfR.out.below hb7 hfR.out.lt)
            clear hb7 H hfR
            have q0 := H7.out.f3.cell 0
            have tl : ((l.length : Int) == 8) = true := by simp; omega
            go_wp2_with fail
            clear q0 tl
            refine (refFail_any b A c L σ4 7 _ H7.out.st.1).mono ?_
            rintro e w8 ⟨rfl, h8⟩
            obtain ⟨le, ee⟩ := σ4
            have hfr := hid (show failR 7 ⟨le, ee⟩ = ⟨le, 7⟩ by
              have h0 : ee = 0 := (isK_ne HB0.out).1
              unfold failR
              simp [h0])
            rw [hfr.out] at h8
            have HneL := hid (show le ≠ [] from isK_l HB0.out)
            have HPg := hid (progR_of (σ0 := σ3) (done := l.map FH.f) (le := le) (ee := 7) (by rw [hneed.out]; exact (HL.out.full HB0.out).trans (by rw [hfr.out])))
            have HPar : Hid (parseR s = ([], (nxt le).line, (nxt le).col, 7)) := hid (par_err HR2.out HPg.out rfl)
            have H8 := hid (H7.out.call h8)
            have hf8 := hid (h8.kept hf7.out (by omega))
            clear h8 H7 hf7 HR2 HPg
            obtain ⟨k2, hk2, hl2, hfp⟩ := H8.out.st.1.at_
            simp only at hl2 hfp
            have hkl2 : k2 < L.length := by
              rcases Nat.lt_or_ge k2 L.length with h | h
              · exact h
              · exact absurd (by rw [← hl2, nxt_end h]) HneL.out
            obtain ⟨a, hAa, hab, -, a2, a3⟩ := H8.out.st.1.arg.cell hkl2
            subst hAa
            rw [← nxt_drop hkl2, hl2] at a2 a3
            obtain ⟨⟨c0, c1, c2⟩, -⟩ := hfp.three
            have hltb := H8.out.st.1.lt
            have hfew := H8.out.st.1.few
            have hna : a.block ≠ w.heap.size := by
              intro hq
              have h1 := a2
              rw [show (a.add (k2 * 4)).block = w.heap.size by rw [add_block]; exact hq] at h1
              rw [hf8.out.cell] at h1
              simp at h1
            have hna2 : w.heap.size ≠ a.block := fun h => hna h.symm
            have hab2 : (a.add (k2 * 4)).block < w8.heap.size := by rw [add_block]; exact hab
            have v0 := hf8.out.cell 0
            have s0 := hf8.out.frozen 0
            have hsz := hf8.out.lt
            have hBX := hid (hB2.out.grown H8.out.st.2 hB2.out.size (fun k hk => by injection hk with hk; omega))
            have HB : Hid (∀ q, Below w.heap.size w ((w8.drewN q).setCell ⟨w.heap.size, 0, none⟩ (.slice none 0 0))) := hid (fun q => (below_drewN hBX.out q).setCell (Nat.le_refl _) _)
            generalize (nxt le).line = ln at *
            generalize (nxt le).col = cl at *
            have hS0 : ((fun w' => Below w.heap.size w w' ∧ w'.cell? ⟨w.heap.size, 0, none⟩ = some (.slice none 0 0) ∧ w'.frozen? ⟨w.heap.size, 0, none⟩ = false ∧ w.heap.size < w'.heap.size ∧ w'.cell? ⟨b, 1, none⟩ = some (.int .i64 (k2 : Int)) ∧ w'.cell? ⟨b, 2, none⟩ = some (.int .i64 7) ∧ w'.cell? ⟨(a.add (k2 * 4)).block, (a.add (k2 * 4)).off + 2, none⟩ = some (.int .i64 (ln : Int)) ∧ w'.cell? ⟨(a.add (k2 * 4)).block, (a.add (k2 * 4)).off + 3, none⟩ = some (.int .i64 (cl : Int))) (w8.drew)) := ⟨below_drewN hBX.out 1, v0, s0, hsz, c1, c2, a2, a3⟩
            have HS0 := hid hS0
            have hSt : ∀ w', (fun w' => Below w.heap.size w w' ∧ w'.cell? ⟨w.heap.size, 0, none⟩ = some (.slice none 0 0) ∧ w'.frozen? ⟨w.heap.size, 0, none⟩ = false ∧ w.heap.size < w'.heap.size ∧ w'.cell? ⟨b, 1, none⟩ = some (.int .i64 (k2 : Int)) ∧ w'.cell? ⟨b, 2, none⟩ = some (.int .i64 7) ∧ w'.cell? ⟨(a.add (k2 * 4)).block, (a.add (k2 * 4)).off + 2, none⟩ = some (.int .i64 (ln : Int)) ∧ w'.cell? ⟨(a.add (k2 * 4)).block, (a.add (k2 * 4)).off + 3, none⟩ = some (.int .i64 (cl : Int))) w' → (fun w' => Below w.heap.size w w' ∧ w'.cell? ⟨w.heap.size, 0, none⟩ = some (.slice none 0 0) ∧ w'.frozen? ⟨w.heap.size, 0, none⟩ = false ∧ w.heap.size < w'.heap.size ∧ w'.cell? ⟨b, 1, none⟩ = some (.int .i64 (k2 : Int)) ∧ w'.cell? ⟨b, 2, none⟩ = some (.int .i64 7) ∧ w'.cell? ⟨(a.add (k2 * 4)).block, (a.add (k2 * 4)).off + 2, none⟩ = some (.int .i64 (ln : Int)) ∧ w'.cell? ⟨(a.add (k2 * 4)).block, (a.add (k2 * 4)).off + 3, none⟩ = some (.int .i64 (cl : Int))) (w'.setCell ⟨w.heap.size, 0, none⟩ (.slice none 0 0)) := by
              rintro w' ⟨h0, h1, h2, h3, h4, h5, h6, h7⟩
              refine ⟨h0.setCell (Nat.le_refl _) _, World.cell?_setCell_same (w := w') (a := ⟨w.heap.size, 0, none⟩) (v := .slice none 0 0) h1, by rw [World.frozen?_setCell]; exact h2, by rw [World.size_setCell]; exact h3, ?_, ?_, ?_, ?_⟩
              · exact (World.cell?_setCell_far _ _ _ _ (by show w.heap.size ≠ b; omega)).trans h4
              · exact (World.cell?_setCell_far _ _ _ _ (by show w.heap.size ≠ b; omega)).trans h5
              · exact (World.cell?_setCell_far _ _ _ _ (by show w.heap.size ≠ (a.add (k2 * 4)).block; rw [add_block]; exact hna2)).trans h6
              · exact (World.cell?_setCell_far _ _ _ _ (by show w.heap.size ≠ (a.add (k2 * 4)).block; rw [add_block]; exact hna2)).trans h7
            have HSt := hid hSt
            clear hl2 hfp hS0 hSt
            go_wp2_with fail
            clear c0 c1 c2 v0 s0 hsz a2 a3
            go_region_held3 (fun w' => Below w.heap.size w w' ∧ w'.cell? ⟨w.heap.size, 0, none⟩ = some (.slice none 0 0) ∧ w'.frozen? ⟨w.heap.size, 0, none⟩ = false ∧ w.heap.size < w'.heap.size ∧ w'.cell? ⟨b, 1, none⟩ = some (.int .i64 (k2 : Int)) ∧ w'.cell? ⟨b, 2, none⟩ = some (.int .i64 7) ∧ w'.cell? ⟨(a.add (k2 * 4)).block, (a.add (k2 * 4)).off + 2, none⟩ = some (.int .i64 (ln : Int)) ∧ w'.cell? ⟨(a.add (k2 * 4)).block, (a.add (k2 * 4)).off + 3, none⟩ = some (.int .i64 (cl : Int)))
              (first | exact HS0.out | exact HSt.out _ (by assumption) | assumption)
              (fail)
            go_wp2_with fail
            rename (Below _ _ _ ∧ _) => hh
            obtain ⟨hB9, v9, s9, hz9, -⟩ := hh
            refine bodyPost_ret (v := .tuple #[.agg #[.slice none 0 0], .int .i64 (ln : Int), .int .i64 (cl : Int), .int .i64 7]) (by simp [results, Tryd.results41, go_sem, v9, s9, hz9]) rfl ?_
            rw [HPar.out]
            exact ⟨⟨none, 0, 0, []⟩, rfl, rfl, pp_nil _ _, hB9⟩
          | succ n =>
            have hl8 : l.length < 8 := by omega
            have tl : ((l.length : Int) == 8) = false := by simp; omega
            go_wp2_with fail
            refine (refIs_any b A c L σ4 kwFunc _ H.out.st.1).mono ?_
            rw [HB0.out]
            rintro e w7 ⟨rfl, hb7⟩
            have H7 := hid (H.out.below hb7)
            have hf7 := hid (hfR.out.below hb7 hfR.out.lt)
            clear hb7 H hfR
            have q0 := H7.out.f3.cell 0
            have hzq := H7.out.f3.lt
            go_wp2_with fail
            have H7d : Hid (Po wp b A c L σ4 (.slice B l.length d) l w7.drew) := hid (H7.out.drewN 1)
            have HCc := hid (fun w' (h' : Rst w' b A c L σ4) => refFunc_any b A c L σ4 w' h' HS.out)
            go_region_law (first
              | (go_simp
                 go_at_call 74
                 go_must (
                 refine (HCc.out _ H7d.out.st.1).mono ?_
                 rintro e w8 ⟨x, he, hxt, hfx, h8⟩
                 unfold agF at he
                 subst he
                 have H8 := hid (H7d.out.call h8)
                 have hf8 := hid (h8.kept (w := w7.drew) hf7.out (by omega))
                 have Hx := hid (FrV.fresh (N := wp.heap.size + 1) (v := .slice B l.length d) hfx H7d.out.size (fun k hk => (H7d.out.own.lt k hk).2))
                 have Hxt := hid hxt
                 have q0 := H8.out.f3.cell 0
                 have hzq := H8.out.f3.lt
                 clear hfx h8 hxt))
              | ((refine step_append_lies _ (by rfl) _ _ 32 (by rfl) (wp.heap.size + 1) 58 i3 _ 2 40 Tryd.underlying32 Hi.out Hz0.out Hz1.out Hz2.out (by rfl) (by decide) (.slice B l.length d) l.length (l.flatMap fhc) (by rfl) (by exact World.ownsRow.alloc H8.out.own _)
                    ⟨_, 0, none⟩ 1 1 (fhc x) (by rfl) rfl (by exact two_new _ _ _ _) (one_two _ _ _ _) (by decide) (by unfold maxLen; omega) (by omega) (by have := H8.out.size; rw [World.size_alloc]; omega) _ rfl ?_)
                 intro g9 cap9 w9 hown9 hgr9 hat9 hlt9
                 obtain ⟨⟨y0, y1, y2⟩, hT9⟩ := Po.push (x := x) H8.out ((Below.refl _ _).alloc (Nat.le_refl _) _) Hx.out hgr9 hown9 hat9
                 have H9 := hid hT9
                 have hne9 : ∀ k, (Value.slice B l.length d).ownBlock = some k → wp.heap.size + 1 ≤ k := fun k hk => (H8.out.own.lt k hk).1
                 have hf9 := hid (((hf8.out.alloc _).grown hgr9 (fun e => by have := hne9 _ e.symm; omega)).far (p := ⟨wp.heap.size, 0, none⟩) (by show w.heap.size ≠ wp.heap.size; omega) (.slice (some ⟨g9, 0, none⟩) (l.length + 1) cap9))
                 clear hown9 hgr9 hat9 hlt9 hT9 hne9))
            all_goals
              clear q0 hzq
              generalize w9.setCell ⟨wp.heap.size, 0, none⟩ (.slice (some ⟨g9, 0, none⟩) (l.length + 1) cap9) = w10 at *
              clear y0 y1 y2
              go_wp2_with fail
              go_roundw
              case rel => exact ⟨l ++ [x], n, (funcR σ4).2, _, H9.out, by have := HL.out.step HB0.out; rw [List.map_append]; rw [← Hxt.out] at this; exact this, hf9.out⟩
              case measure =>
                have q0 := H9.out.f3.cell 0
                rw [Hm.out, lenAt0_of q0]
                omega
    | false =>
      have hneed := hid (show needR (isK kwFunc) ⟨L, 0⟩ = failR 4 ⟨L, 0⟩ by unfold needR; rw [hb0]; rfl)
      clear hb0
      go_wp2_with fail
      refine (refFail_any b A c L ⟨L, 0⟩ 4 _ H5.out.st.1).mono ?_
      rintro e w6 ⟨rfl, h6⟩
      have H6 := hid (H5.out.call h6)
      have hf6 := hid (h6.kept hf5.out (by omega))
      clear h6 H5 hf5
      generalize failR 4 ⟨L, 0⟩ = σ3 at *
      generalize hσ0 : (⟨L, 0⟩ : Rs) = σ0 at *
      clear hσ0
      go_wp2_with fail
      go_loopw [] (fun wr => ∃ (l : List FH) (n : Nat) (σ4 : Rs) (v : Value), Hid (Po wp b A c L σ4 v l wr) ∧ Hid (Lrel (isK kwFunc) funcR 8 σ3 (l.map FH.f) n σ4) ∧ Hid (Fb wr w.heap.size #[.slice none 0 0] 34)) (fun wr => 9 - lenAt0 wp.heap.size wr)
      case atStart => exact ⟨[], 8, σ3, _, H6.out, Lrel.start, hf6.out⟩
      case round =>
        clear H6 hf6
        obtain ⟨l, n, σ4, v, H, HL, hfR⟩ := hrel
        obtain ⟨B, d, hv⟩ := own_any_slice H.out.own
        subst hv
        have hlen : l.length + n = 8 := by have := HL.out.1; simpa using this
        have q0 := H.out.f3.cell 0
        have Hm := hid (lenAt0_of q0)
        clear q0
        cases hb : isK kwFunc σ4 with
        | false =>
          have HB0 := hid hb
          clear hb
          go_wp2_with fail
          refine (refIs_any b A c L σ4 kwFunc _ H.out.st.1).mono ?_
          rw [HB0.out]
          rintro e w7 ⟨rfl, hb7⟩
          have H7 := hid (H.out.below hb7)
          have hf7 := hid (hfR.out.below hb7 hfR.out.lt)
          clear hb7 H hfR
          obtain ⟨le, ee⟩ := σ4
          have HPg := hid (progR_of (σ0 := σ0) (done := l.map FH.f) (le := le) (ee := ee) (by rw [hneed.out]; exact HL.out.stop HB0.out))
          obtain ⟨k, hk, hl, hf⟩ := H7.out.st.1.at_
          simp only at hl hf
          cases hee : (ee == 0) with
          | true =>
            by_cases hkl : k < L.length
            · as_aux_lemma =>
              have HneL := hid (show le ≠ [] by
                  intro h0
                  rw [h0] at hl
                  have h1 := congrArg List.length hl
                  rw [List.length_drop] at h1
                  simp at h1
                  omega)
              have hfr := hid (show failR 4 ⟨le, ee⟩ = ⟨le, 4⟩ by unfold failR; simp [hee])
              have HPar : Hid (parseR s = ([], (nxt le).line, (nxt le).col, 4)) := hid (par_more HR2.out HPg.out hee HneL.out hfr.out)
              obtain ⟨⟨c0, c1, c2⟩, -⟩ := hf.three
              have hfew0 := H7.out.st.1.few
              clear hf hl HR2 HPg
              go_wp2_with fail
              refine (refFail_any b A c L ⟨le, ee⟩ 4 _ H7.out.st.1).mono ?_
              rintro e w8 ⟨rfl, h8⟩
              rw [hfr.out] at h8
              have H8 := hid (H7.out.call h8)
              have hf8 := hid (h8.kept hf7.out (by omega))
              clear h8 H7 hf7 c0 c1 c2 hfew0
              obtain ⟨k2, hk2, hl2, hfp⟩ := H8.out.st.1.at_
              simp only at hl2 hfp
              have hkl2 : k2 < L.length := by
                rcases Nat.lt_or_ge k2 L.length with h | h
                · exact h
                · exact absurd (by rw [← hl2, nxt_end h]) HneL.out
              obtain ⟨a, hAa, hab, -, a2, a3⟩ := H8.out.st.1.arg.cell hkl2
              subst hAa
              rw [← nxt_drop hkl2, hl2] at a2 a3
              obtain ⟨⟨c0, c1, c2⟩, -⟩ := hfp.three
              have hltb := H8.out.st.1.lt
              have hfew := H8.out.st.1.few
              have hna : a.block ≠ w.heap.size := by
                intro hq
                have h1 := a2
                rw [show (a.add (k2 * 4)).block = w.heap.size by rw [add_block]; exact hq] at h1
                rw [hf8.out.cell] at h1
                simp at h1
              have hna2 : w.heap.size ≠ a.block := fun h => hna h.symm
              have hab2 : (a.add (k2 * 4)).block < w8.heap.size := by rw [add_block]; exact hab
              have v0 := hf8.out.cell 0
              have s0 := hf8.out.frozen 0
              have hsz := hf8.out.lt
              have hBX := hid (hB2.out.grown H8.out.st.2 hB2.out.size (fun k hk => by injection hk with hk; omega))
              have HB : Hid (∀ q, Below w.heap.size w ((w8.drewN q).setCell ⟨w.heap.size, 0, none⟩ (.slice none 0 0))) := hid (fun q => (below_drewN hBX.out q).setCell (Nat.le_refl _) _)
              generalize (nxt le).line = ln at *
              generalize (nxt le).col = cl at *
              have hS0 : ((fun w' => Below w.heap.size w w' ∧ w'.cell? ⟨w.heap.size, 0, none⟩ = some (.slice none 0 0) ∧ w'.frozen? ⟨w.heap.size, 0, none⟩ = false ∧ w.heap.size < w'.heap.size ∧ w'.cell? ⟨b, 1, none⟩ = some (.int .i64 (k2 : Int)) ∧ w'.cell? ⟨b, 2, none⟩ = some (.int .i64 4) ∧ w'.cell? ⟨(a.add (k2 * 4)).block, (a.add (k2 * 4)).off + 2, none⟩ = some (.int .i64 (ln : Int)) ∧ w'.cell? ⟨(a.add (k2 * 4)).block, (a.add (k2 * 4)).off + 3, none⟩ = some (.int .i64 (cl : Int))) (w8.drew)) := ⟨below_drewN hBX.out 1, v0, s0, hsz, c1, c2, a2, a3⟩
              have HS0 := hid hS0
              have hSt : ∀ w', (fun w' => Below w.heap.size w w' ∧ w'.cell? ⟨w.heap.size, 0, none⟩ = some (.slice none 0 0) ∧ w'.frozen? ⟨w.heap.size, 0, none⟩ = false ∧ w.heap.size < w'.heap.size ∧ w'.cell? ⟨b, 1, none⟩ = some (.int .i64 (k2 : Int)) ∧ w'.cell? ⟨b, 2, none⟩ = some (.int .i64 4) ∧ w'.cell? ⟨(a.add (k2 * 4)).block, (a.add (k2 * 4)).off + 2, none⟩ = some (.int .i64 (ln : Int)) ∧ w'.cell? ⟨(a.add (k2 * 4)).block, (a.add (k2 * 4)).off + 3, none⟩ = some (.int .i64 (cl : Int))) w' → (fun w' => Below w.heap.size w w' ∧ w'.cell? ⟨w.heap.size, 0, none⟩ = some (.slice none 0 0) ∧ w'.frozen? ⟨w.heap.size, 0, none⟩ = false ∧ w.heap.size < w'.heap.size ∧ w'.cell? ⟨b, 1, none⟩ = some (.int .i64 (k2 : Int)) ∧ w'.cell? ⟨b, 2, none⟩ = some (.int .i64 4) ∧ w'.cell? ⟨(a.add (k2 * 4)).block, (a.add (k2 * 4)).off + 2, none⟩ = some (.int .i64 (ln : Int)) ∧ w'.cell? ⟨(a.add (k2 * 4)).block, (a.add (k2 * 4)).off + 3, none⟩ = some (.int .i64 (cl : Int))) (w'.setCell ⟨w.heap.size, 0, none⟩ (.slice none 0 0)) := by
                rintro w' ⟨h0, h1, h2, h3, h4, h5, h6, h7⟩
                refine ⟨h0.setCell (Nat.le_refl _) _, World.cell?_setCell_same (w := w') (a := ⟨w.heap.size, 0, none⟩) (v := .slice none 0 0) h1, by rw [World.frozen?_setCell]; exact h2, by rw [World.size_setCell]; exact h3, ?_, ?_, ?_, ?_⟩
                · exact (World.cell?_setCell_far _ _ _ _ (by show w.heap.size ≠ b; omega)).trans h4
                · exact (World.cell?_setCell_far _ _ _ _ (by show w.heap.size ≠ b; omega)).trans h5
                · exact (World.cell?_setCell_far _ _ _ _ (by show w.heap.size ≠ (a.add (k2 * 4)).block; rw [add_block]; exact hna2)).trans h6
                · exact (World.cell?_setCell_far _ _ _ _ (by show w.heap.size ≠ (a.add (k2 * 4)).block; rw [add_block]; exact hna2)).trans h7
              have HSt := hid hSt
              clear hl2 hfp hS0 hSt
              go_wp2_with fail
              clear c0 c1 c2 v0 s0 hsz a2 a3
              go_region_held3 (fun w' => Below w.heap.size w w' ∧ w'.cell? ⟨w.heap.size, 0, none⟩ = some (.slice none 0 0) ∧ w'.frozen? ⟨w.heap.size, 0, none⟩ = false ∧ w.heap.size < w'.heap.size ∧ w'.cell? ⟨b, 1, none⟩ = some (.int .i64 (k2 : Int)) ∧ w'.cell? ⟨b, 2, none⟩ = some (.int .i64 4) ∧ w'.cell? ⟨(a.add (k2 * 4)).block, (a.add (k2 * 4)).off + 2, none⟩ = some (.int .i64 (ln : Int)) ∧ w'.cell? ⟨(a.add (k2 * 4)).block, (a.add (k2 * 4)).off + 3, none⟩ = some (.int .i64 (cl : Int)))
                (first | exact HS0.out | exact HSt.out _ (by assumption) | assumption)
                (fail)
              go_wp2_with fail
              rename (Below _ _ _ ∧ _) => hh
              obtain ⟨hB9, v9, s9, hz9, -⟩ := hh
              refine bodyPost_ret (v := .tuple #[.agg #[.slice none 0 0], .int .i64 (ln : Int), .int .i64 (cl : Int), .int .i64 4]) (by simp [results, Tryd.results41, go_sem, v9, s9, hz9]) rfl ?_
              rw [HPar.out]
              exact ⟨⟨none, 0, 0, []⟩, rfl, rfl, pp_nil _ _, hB9⟩
            · as_aux_lemma =>
              have hle : le = [] := by rw [← hl, nxt_end (by omega)]
              have hkL : k = L.length := by omega
              have HPar : Hid (parseR s = (l.map FH.f, 0, 0, 0)) := hid (par_end HR2.out HPg.out hee hle)
              subst hkL
              clear hl HR2 HPg hkl
              obtain ⟨⟨c0, c1, c2⟩, -⟩ := hf.three
              have hltb := H7.out.st.1.lt
              have v0 := hf7.out.cell 0
              have s0 := hf7.out.frozen 0
              have hsz := hf7.out.lt
              have k0 := H7.out.f3.cell 0
              have hszX := H7.out.f3.lt
              have hBX := hid (hB2.out.grown H7.out.st.2 hB2.out.size (fun k hk => by injection hk with hk; omega))
              have HB : Hid (Below w.heap.size w (w7.setCell ⟨w.heap.size, 0, none⟩ (.slice B l.length d))) := hid (hBX.out.setCell (Nat.le_refl _) _)
              have Hpp := hid (show Fr w.heap.size (PP ⟨B, l.length, d, l⟩) (w7.setCell ⟨w.heap.size, 0, none⟩ (.slice B l.length d)) from Fr.less (M := w.heap.size) (Fr.grown (fun h hg => PP.go h hg) (H7.out.pp (by omega)) (setCell_grown w7 ⟨w.heap.size, 0, none⟩ _) (fun k hk => by injection hk with hk; have : w.heap.size = k := hk; omega)) (by omega))
              clear hf
              go_wp2_with fail
              refine bodyPost_ret (v := .tuple #[.agg #[.slice B l.length d], .int .i64 0, .int .i64 0, .int .i64 0]) (by simp [results, Tryd.results41, go_sem, v0, s0, hsz]) rfl ?_
              rw [HPar.out]
              exact ⟨⟨B, l.length, d, l⟩, rfl, rfl, Hpp.out, HB.out⟩
          | false =>
            have HPar0 : Hid (parseR s = ([], (nxt le).line, (nxt le).col, ee)) := hid (par_err HR2.out HPg.out hee)
            by_cases hkl : k < L.length
            · as_aux_lemma =>
              have HneL := hid (show le ≠ [] by
                  intro h0
                  rw [h0] at hl
                  have h1 := congrArg List.length hl
                  rw [List.length_drop] at h1
                  simp at h1
                  omega)
              have HPar := HPar0
              clear HPar0 hf hl HR2 HPg
              obtain ⟨k2, hk2, hl2, hfp⟩ := H7.out.st.1.at_
              simp only at hl2 hfp
              have hkl2 : k2 < L.length := by
                rcases Nat.lt_or_ge k2 L.length with h | h
                · exact h
                · exact absurd (by rw [← hl2, nxt_end h]) HneL.out
              obtain ⟨a, hAa, hab, -, a2, a3⟩ := H7.out.st.1.arg.cell hkl2
              subst hAa
              rw [← nxt_drop hkl2, hl2] at a2 a3
              obtain ⟨⟨c0, c1, c2⟩, -⟩ := hfp.three
              have hltb := H7.out.st.1.lt
              have hfew := H7.out.st.1.few
              have hna : a.block ≠ w.heap.size := by
                intro hq
                have h1 := a2
                rw [show (a.add (k2 * 4)).block = w.heap.size by rw [add_block]; exact hq] at h1
                rw [hf7.out.cell] at h1
                simp at h1
              have hna2 : w.heap.size ≠ a.block := fun h => hna h.symm
              have hab2 : (a.add (k2 * 4)).block < w7.heap.size := by rw [add_block]; exact hab
              have v0 := hf7.out.cell 0
              have s0 := hf7.out.frozen 0
              have hsz := hf7.out.lt
              have hBX := hid (hB2.out.grown H7.out.st.2 hB2.out.size (fun k hk => by injection hk with hk; omega))
              have HB : Hid (∀ q, Below w.heap.size w ((w7.drewN q).setCell ⟨w.heap.size, 0, none⟩ (.slice none 0 0))) := hid (fun q => (below_drewN hBX.out q).setCell (Nat.le_refl _) _)
              generalize (nxt le).line = ln at *
              generalize (nxt le).col = cl at *
              have hS0 : ((fun w' => Below w.heap.size w w' ∧ w'.cell? ⟨w.heap.size, 0, none⟩ = some (.slice none 0 0) ∧ w'.frozen? ⟨w.heap.size, 0, none⟩ = false ∧ w.heap.size < w'.heap.size ∧ w'.cell? ⟨b, 1, none⟩ = some (.int .i64 (k2 : Int)) ∧ w'.cell? ⟨b, 2, none⟩ = some (.int .i64 ee) ∧ w'.cell? ⟨(a.add (k2 * 4)).block, (a.add (k2 * 4)).off + 2, none⟩ = some (.int .i64 (ln : Int)) ∧ w'.cell? ⟨(a.add (k2 * 4)).block, (a.add (k2 * 4)).off + 3, none⟩ = some (.int .i64 (cl : Int))) (w7.drew)) := ⟨below_drewN hBX.out 1, v0, s0, hsz, c1, c2, a2, a3⟩
              have HS0 := hid hS0
              have hSt : ∀ w', (fun w' => Below w.heap.size w w' ∧ w'.cell? ⟨w.heap.size, 0, none⟩ = some (.slice none 0 0) ∧ w'.frozen? ⟨w.heap.size, 0, none⟩ = false ∧ w.heap.size < w'.heap.size ∧ w'.cell? ⟨b, 1, none⟩ = some (.int .i64 (k2 : Int)) ∧ w'.cell? ⟨b, 2, none⟩ = some (.int .i64 ee) ∧ w'.cell? ⟨(a.add (k2 * 4)).block, (a.add (k2 * 4)).off + 2, none⟩ = some (.int .i64 (ln : Int)) ∧ w'.cell? ⟨(a.add (k2 * 4)).block, (a.add (k2 * 4)).off + 3, none⟩ = some (.int .i64 (cl : Int))) w' → (fun w' => Below w.heap.size w w' ∧ w'.cell? ⟨w.heap.size, 0, none⟩ = some (.slice none 0 0) ∧ w'.frozen? ⟨w.heap.size, 0, none⟩ = false ∧ w.heap.size < w'.heap.size ∧ w'.cell? ⟨b, 1, none⟩ = some (.int .i64 (k2 : Int)) ∧ w'.cell? ⟨b, 2, none⟩ = some (.int .i64 ee) ∧ w'.cell? ⟨(a.add (k2 * 4)).block, (a.add (k2 * 4)).off + 2, none⟩ = some (.int .i64 (ln : Int)) ∧ w'.cell? ⟨(a.add (k2 * 4)).block, (a.add (k2 * 4)).off + 3, none⟩ = some (.int .i64 (cl : Int))) (w'.setCell ⟨w.heap.size, 0, none⟩ (.slice none 0 0)) := by
                rintro w' ⟨h0, h1, h2, h3, h4, h5, h6, h7⟩
                refine ⟨h0.setCell (Nat.le_refl _) _, World.cell?_setCell_same (w := w') (a := ⟨w.heap.size, 0, none⟩) (v := .slice none 0 0) h1, by rw [World.frozen?_setCell]; exact h2, by rw [World.size_setCell]; exact h3, ?_, ?_, ?_, ?_⟩
                · exact (World.cell?_setCell_far _ _ _ _ (by show w.heap.size ≠ b; omega)).trans h4
                · exact (World.cell?_setCell_far _ _ _ _ (by show w.heap.size ≠ b; omega)).trans h5
                · exact (World.cell?_setCell_far _ _ _ _ (by show w.heap.size ≠ (a.add (k2 * 4)).block; rw [add_block]; exact hna2)).trans h6
                · exact (World.cell?_setCell_far _ _ _ _ (by show w.heap.size ≠ (a.add (k2 * 4)).block; rw [add_block]; exact hna2)).trans h7
              have HSt := hid hSt
              clear hl2 hfp hS0 hSt
              go_wp2_with fail
              clear c0 c1 c2 v0 s0 hsz a2 a3
              go_region_held3 (fun w' => Below w.heap.size w w' ∧ w'.cell? ⟨w.heap.size, 0, none⟩ = some (.slice none 0 0) ∧ w'.frozen? ⟨w.heap.size, 0, none⟩ = false ∧ w.heap.size < w'.heap.size ∧ w'.cell? ⟨b, 1, none⟩ = some (.int .i64 (k2 : Int)) ∧ w'.cell? ⟨b, 2, none⟩ = some (.int .i64 ee) ∧ w'.cell? ⟨(a.add (k2 * 4)).block, (a.add (k2 * 4)).off + 2, none⟩ = some (.int .i64 (ln : Int)) ∧ w'.cell? ⟨(a.add (k2 * 4)).block, (a.add (k2 * 4)).off + 3, none⟩ = some (.int .i64 (cl : Int)))
                (first | exact HS0.out | exact HSt.out _ (by assumption) | assumption)
                (fail)
              go_wp2_with fail
              rename (Below _ _ _ ∧ _) => hh
              obtain ⟨hB9, v9, s9, hz9, -⟩ := hh
              refine bodyPost_ret (v := .tuple #[.agg #[.slice none 0 0], .int .i64 (ln : Int), .int .i64 (cl : Int), .int .i64 ee]) (by simp [results, Tryd.results41, go_sem, v9, s9, hz9]) rfl ?_
              rw [HPar.out]
              exact ⟨⟨none, 0, 0, []⟩, rfl, rfl, pp_nil _ _, hB9⟩
            · as_aux_lemma =>
              have hle : le = [] := by rw [← hl, nxt_end (by omega)]
              have hkL : k = L.length := by omega
              have HPar : Hid (parseR s = ([], 0, 0, ee)) := hid (by rw [HPar0.out, hle]; rfl)
              subst hkL
              clear HPar0 hl HR2 HPg hkl
              obtain ⟨⟨c0, c1, c2⟩, -⟩ := hf.three
              have hltb := H7.out.st.1.lt
              have v0 := hf7.out.cell 0
              have s0 := hf7.out.frozen 0
              have hsz := hf7.out.lt
              have hBX := hid (hB2.out.grown H7.out.st.2 hB2.out.size (fun k hk => by injection hk with hk; omega))
              have HB : Hid (∀ q, Below w.heap.size w ((w7.drewN q).setCell ⟨w.heap.size, 0, none⟩ (.slice none 0 0))) := hid (fun q => (below_drewN hBX.out q).setCell (Nat.le_refl _) _)
              clear hf
              go_wp2_with fail
              go_region_law (fail)
              all_goals
                go_wp2_with fail
                refine bodyPost_ret (v := .tuple #[.agg #[.slice none 0 0], .int .i64 0, .int .i64 0, .int .i64 ee]) (by simp [results, Tryd.results41, go_sem, v0, s0, hsz]) rfl ?_
                rw [HPar.out]
                exact ⟨⟨none, 0, 0, []⟩, rfl, rfl, pp_nil _ _, HB.out 1⟩
        | true =>
          have HB0 := hid hb
          clear hb
          cases n with
          | zero =>
            have hl8 : l.length = 8 := by omega
            go_wp2_with fail
            refine (refIs_any b A c L σ4 kwFunc _ H.out.st.1).mono ?_
            rw [HB0.out]
            rintro e w7 ⟨rfl, hb7⟩
            have H7 := hid (H.out.below hb7)
            have hf7 := hid (hfR.out.below hb7 hfR.out.lt)
            clear hb7 H hfR
            have q0 := H7.out.f3.cell 0
            have tl : ((l.length : Int) == 8) = true := by simp; omega
            go_wp2_with fail
            clear q0 tl
            refine (refFail_any b A c L σ4 7 _ H7.out.st.1).mono ?_
            rintro e w8 ⟨rfl, h8⟩
            obtain ⟨le, ee⟩ := σ4
            have hfr := hid (show failR 7 ⟨le, ee⟩ = ⟨le, 7⟩ by
              have h0 : ee = 0 := (isK_ne HB0.out).1
              unfold failR
              simp [h0])
            rw [hfr.out] at h8
            have HneL := hid (show le ≠ [] from isK_l HB0.out)
            have HPg := hid (progR_of (σ0 := σ0) (done := l.map FH.f) (le := le) (ee := 7) (by rw [hneed.out]; exact (HL.out.full HB0.out).trans (by rw [hfr.out])))
            have HPar : Hid (parseR s = ([], (nxt le).line, (nxt le).col, 7)) := hid (par_err HR2.out HPg.out rfl)
            have H8 := hid (H7.out.call h8)
            have hf8 := hid (h8.kept hf7.out (by omega))
            clear h8 H7 hf7 HR2 HPg
            obtain ⟨k2, hk2, hl2, hfp⟩ := H8.out.st.1.at_
            simp only at hl2 hfp
            have hkl2 : k2 < L.length := by
              rcases Nat.lt_or_ge k2 L.length with h | h
              · exact h
              · exact absurd (by rw [← hl2, nxt_end h]) HneL.out
            obtain ⟨a, hAa, hab, -, a2, a3⟩ := H8.out.st.1.arg.cell hkl2
            subst hAa
            rw [← nxt_drop hkl2, hl2] at a2 a3
            obtain ⟨⟨c0, c1, c2⟩, -⟩ := hfp.three
            have hltb := H8.out.st.1.lt
            have hfew := H8.out.st.1.few
            have hna : a.block ≠ w.heap.size := by
              intro hq
              have h1 := a2
              rw [show (a.add (k2 * 4)).block = w.heap.size by rw [add_block]; exact hq] at h1
              rw [hf8.out.cell] at h1
              simp at h1
            have hna2 : w.heap.size ≠ a.block := fun h => hna h.symm
            have hab2 : (a.add (k2 * 4)).block < w8.heap.size := by rw [add_block]; exact hab
            have v0 := hf8.out.cell 0
            have s0 := hf8.out.frozen 0
            have hsz := hf8.out.lt
            have hBX := hid (hB2.out.grown H8.out.st.2 hB2.out.size (fun k hk => by injection hk with hk; omega))
            have HB : Hid (∀ q, Below w.heap.size w ((w8.drewN q).setCell ⟨w.heap.size, 0, none⟩ (.slice none 0 0))) := hid (fun q => (below_drewN hBX.out q).setCell (Nat.le_refl _) _)
            generalize (nxt le).line = ln at *
            generalize (nxt le).col = cl at *
            have hS0 : ((fun w' => Below w.heap.size w w' ∧ w'.cell? ⟨w.heap.size, 0, none⟩ = some (.slice none 0 0) ∧ w'.frozen? ⟨w.heap.size, 0, none⟩ = false ∧ w.heap.size < w'.heap.size ∧ w'.cell? ⟨b, 1, none⟩ = some (.int .i64 (k2 : Int)) ∧ w'.cell? ⟨b, 2, none⟩ = some (.int .i64 7) ∧ w'.cell? ⟨(a.add (k2 * 4)).block, (a.add (k2 * 4)).off + 2, none⟩ = some (.int .i64 (ln : Int)) ∧ w'.cell? ⟨(a.add (k2 * 4)).block, (a.add (k2 * 4)).off + 3, none⟩ = some (.int .i64 (cl : Int))) (w8.drew)) := ⟨below_drewN hBX.out 1, v0, s0, hsz, c1, c2, a2, a3⟩
            have HS0 := hid hS0
            have hSt : ∀ w', (fun w' => Below w.heap.size w w' ∧ w'.cell? ⟨w.heap.size, 0, none⟩ = some (.slice none 0 0) ∧ w'.frozen? ⟨w.heap.size, 0, none⟩ = false ∧ w.heap.size < w'.heap.size ∧ w'.cell? ⟨b, 1, none⟩ = some (.int .i64 (k2 : Int)) ∧ w'.cell? ⟨b, 2, none⟩ = some (.int .i64 7) ∧ w'.cell? ⟨(a.add (k2 * 4)).block, (a.add (k2 * 4)).off + 2, none⟩ = some (.int .i64 (ln : Int)) ∧ w'.cell? ⟨(a.add (k2 * 4)).block, (a.add (k2 * 4)).off + 3, none⟩ = some (.int .i64 (cl : Int))) w' → (fun w' => Below w.heap.size w w' ∧ w'.cell? ⟨w.heap.size, 0, none⟩ = some (.slice none 0 0) ∧ w'.frozen? ⟨w.heap.size, 0, none⟩ = false ∧ w.heap.size < w'.heap.size ∧ w'.cell? ⟨b, 1, none⟩ = some (.int .i64 (k2 : Int)) ∧ w'.cell? ⟨b, 2, none⟩ = some (.int .i64 7) ∧ w'.cell? ⟨(a.add (k2 * 4)).block, (a.add (k2 * 4)).off + 2, none⟩ = some (.int .i64 (ln : Int)) ∧ w'.cell? ⟨(a.add (k2 * 4)).block, (a.add (k2 * 4)).off + 3, none⟩ = some (.int .i64 (cl : Int))) (w'.setCell ⟨w.heap.size, 0, none⟩ (.slice none 0 0)) := by
              rintro w' ⟨h0, h1, h2, h3, h4, h5, h6, h7⟩
              refine ⟨h0.setCell (Nat.le_refl _) _, World.cell?_setCell_same (w := w') (a := ⟨w.heap.size, 0, none⟩) (v := .slice none 0 0) h1, by rw [World.frozen?_setCell]; exact h2, by rw [World.size_setCell]; exact h3, ?_, ?_, ?_, ?_⟩
              · exact (World.cell?_setCell_far _ _ _ _ (by show w.heap.size ≠ b; omega)).trans h4
              · exact (World.cell?_setCell_far _ _ _ _ (by show w.heap.size ≠ b; omega)).trans h5
              · exact (World.cell?_setCell_far _ _ _ _ (by show w.heap.size ≠ (a.add (k2 * 4)).block; rw [add_block]; exact hna2)).trans h6
              · exact (World.cell?_setCell_far _ _ _ _ (by show w.heap.size ≠ (a.add (k2 * 4)).block; rw [add_block]; exact hna2)).trans h7
            have HSt := hid hSt
            clear hl2 hfp hS0 hSt
            go_wp2_with fail
            clear c0 c1 c2 v0 s0 hsz a2 a3
            go_region_held3 (fun w' => Below w.heap.size w w' ∧ w'.cell? ⟨w.heap.size, 0, none⟩ = some (.slice none 0 0) ∧ w'.frozen? ⟨w.heap.size, 0, none⟩ = false ∧ w.heap.size < w'.heap.size ∧ w'.cell? ⟨b, 1, none⟩ = some (.int .i64 (k2 : Int)) ∧ w'.cell? ⟨b, 2, none⟩ = some (.int .i64 7) ∧ w'.cell? ⟨(a.add (k2 * 4)).block, (a.add (k2 * 4)).off + 2, none⟩ = some (.int .i64 (ln : Int)) ∧ w'.cell? ⟨(a.add (k2 * 4)).block, (a.add (k2 * 4)).off + 3, none⟩ = some (.int .i64 (cl : Int)))
              (first | exact HS0.out | exact HSt.out _ (by assumption) | assumption)
              (fail)
            go_wp2_with fail
            rename (Below _ _ _ ∧ _) => hh
            obtain ⟨hB9, v9, s9, hz9, -⟩ := hh
            refine bodyPost_ret (v := .tuple #[.agg #[.slice none 0 0], .int .i64 (ln : Int), .int .i64 (cl : Int), .int .i64 7]) (by simp [results, Tryd.results41, go_sem, v9, s9, hz9]) rfl ?_
            rw [HPar.out]
            exact ⟨⟨none, 0, 0, []⟩, rfl, rfl, pp_nil _ _, hB9⟩
          | succ n =>
            have hl8 : l.length < 8 := by omega
            have tl : ((l.length : Int) == 8) = false := by simp; omega
            go_wp2_with fail
            refine (refIs_any b A c L σ4 kwFunc _ H.out.st.1).mono ?_
            rw [HB0.out]
            rintro e w7 ⟨rfl, hb7⟩
            have H7 := hid (H.out.below hb7)
            have hf7 := hid (hfR.out.below hb7 hfR.out.lt)
            clear hb7 H hfR
            have q0 := H7.out.f3.cell 0
            have hzq := H7.out.f3.lt
            go_wp2_with fail
            have H7d : Hid (Po wp b A c L σ4 (.slice B l.length d) l w7.drew) := hid (H7.out.drewN 1)
            have HCc := hid (fun w' (h' : Rst w' b A c L σ4) => refFunc_any b A c L σ4 w' h' HS.out)
            go_region_law (first
              | (go_simp
                 go_at_call 74
                 go_must (
                 refine (HCc.out _ H7d.out.st.1).mono ?_
                 rintro e w8 ⟨x, he, hxt, hfx, h8⟩
                 unfold agF at he
                 subst he
                 have H8 := hid (H7d.out.call h8)
                 have hf8 := hid (h8.kept (w := w7.drew) hf7.out (by omega))
                 have Hx := hid (FrV.fresh (N := wp.heap.size + 1) (v := .slice B l.length d) hfx H7d.out.size (fun k hk => (H7d.out.own.lt k hk).2))
                 have Hxt := hid hxt
                 have q0 := H8.out.f3.cell 0
                 have hzq := H8.out.f3.lt
                 clear hfx h8 hxt))
              | ((refine step_append_lies _ (by rfl) _ _ 32 (by rfl) (wp.heap.size + 1) 58 i3 _ 2 40 Tryd.underlying32 Hi.out Hz0.out Hz1.out Hz2.out (by rfl) (by decide) (.slice B l.length d) l.length (l.flatMap fhc) (by rfl) (by exact World.ownsRow.alloc H8.out.own _)
                    ⟨_, 0, none⟩ 1 1 (fhc x) (by rfl) rfl (by exact two_new _ _ _ _) (one_two _ _ _ _) (by decide) (by unfold maxLen; omega) (by omega) (by have := H8.out.size; rw [World.size_alloc]; omega) _ rfl ?_)
                 intro g9 cap9 w9 hown9 hgr9 hat9 hlt9
                 obtain ⟨⟨y0, y1, y2⟩, hT9⟩ := Po.push (x := x) H8.out ((Below.refl _ _).alloc (Nat.le_refl _) _) Hx.out hgr9 hown9 hat9
                 have H9 := hid hT9
                 have hne9 : ∀ k, (Value.slice B l.length d).ownBlock = some k → wp.heap.size + 1 ≤ k := fun k hk => (H8.out.own.lt k hk).1
                 have hf9 := hid (((hf8.out.alloc _).grown hgr9 (fun e => by have := hne9 _ e.symm; omega)).far (p := ⟨wp.heap.size, 0, none⟩) (by show w.heap.size ≠ wp.heap.size; omega) (.slice (some ⟨g9, 0, none⟩) (l.length + 1) cap9))
                 clear hown9 hgr9 hat9 hlt9 hT9 hne9))
            all_goals
              clear q0 hzq
              generalize w9.setCell ⟨wp.heap.size, 0, none⟩ (.slice (some ⟨g9, 0, none⟩) (l.length + 1) cap9) = w10 at *
              clear y0 y1 y2
              go_wp2_with fail
              go_roundw
              case rel => exact ⟨l ++ [x], n, (funcR σ4).2, _, H9.out, by have := HL.out.step HB0.out; rw [List.map_append]; rw [← Hxt.out] at this; exact this, hf9.out⟩
              case measure =>
                have q0 := H9.out.f3.cell 0
                rw [Hm.out, lenAt0_of q0]
                omega
end Go.Proofs.YtlepcgncphikhaaDoor

namespace Go.Proofs.YtlepcgncphikhaaDoor
set_option maxRecDepth 20000
open Go.ChangeShapes Go.WideShapes Go.ChangeAt Go.RowKit

theorem some_ne {a b : Nat} (h : a ≠ b) : some a ≠ some b := fun e => h (by injection e)
theorem new_one (w : World) (v : Value) (ty : TypeId) : ∀ j u, [v][j]? = some u → (w.alloc (.cells #[v] ty)).cell? ((⟨w.heap.size, 0, none⟩ : Addr).add j) = some u := by
  intro j u h
  rw [add_of]
  match j, h with
  | 0, h => simp at h; subst h; rw [World.cell?_alloc_at _ _ _ _ rfl]; rfl
  | j + 1, h => simp at h
theorem one_int (k : IntKind) (x : Int) : ∀ u ∈ [Value.int k x], u.oneCell' = true := by intro u hu; simp at hu; subst hu; rfl
def byv (b : UInt8) : Value := .int .u8 (b.toNat : Int)
def bys (l : List UInt8) : List Value := l.map byv
theorem bys_len (l : List UInt8) : (bys l).length = l.length := by simp [bys]
theorem bys_get {l : List UInt8} {i : Nat} (h : i < l.length) : (bys l)[i]? = some (.int .u8 ((l.getD i 0).toNat : Int)) := by
  unfold bys; rw [List.getElem?_map, List.getElem?_eq_getElem h, List.getD_eq_getElem?_getD, List.getElem?_eq_getElem h]; rfl
theorem bys_one (l : List UInt8) : ∀ u ∈ bys l, u.oneCell' = true := by
  intro u hu
  obtain ⟨b, _, rfl⟩ := List.mem_map.1 hu
  rfl
theorem bys_app (a b : List UInt8) : bys a ++ bys b = bys (a ++ b) := by simp [bys]
theorem info5 : (Tryd.prog.info? 5).map (fun i => (i.zero, i.size, i.bytes)) = some (some (.int .u8 0), 1, 1) := by kernel_rfl

/-- Block g holds n bytes of the call's own. -/
def OwnB (w : World) (base g n c : Nat) (l : List UInt8) : Prop := w.ownsRow base 5 1 (.slice (some ⟨g, 0, none⟩) n c) n (bys l)
theorem OwnB.len {w : World} {base g n c : Nat} {l : List UInt8} (h : OwnB w base g n c l) : l.length = n := by
  have := h.1; rw [bys_len] at this; omega
theorem OwnB.ge {w : World} {base g n c : Nat} {l : List UInt8} (h : OwnB w base g n c l) : base ≤ g ∧ g < w.heap.size := h.lt g rfl
theorem OwnB.cap {w : World} {base g n c : Nat} {l : List UInt8} (h : OwnB w base g n c l) : n ≤ c ∧ c ≤ maxLen := by
  rcases h.2 with ⟨hv, _⟩ | ⟨g', cap, cur, hv, _, _, h1, h2, _⟩
  · cases hv
  · injection hv with _ _ hc; subst hc; exact ⟨h1, h2⟩
/-- The first k of the bytes. -/
theorem OwnB.take {w : World} {base g n c : Nat} {l : List UInt8} (h : OwnB w base g n c l) {k : Nat} (hk : k ≤ n) : OwnB w base g k c (l.take k) := by
  have hl := h.len
  rcases h.2 with ⟨hv, _⟩ | ⟨g', cap, cur, hv, h1, h2, h3, h4, h5, h6⟩
  · cases hv
  · injection hv with e1 _ e3
    injection e1 with e1
    injection e1 with e1
    subst e1; subst e3
    refine ⟨by rw [bys_len, List.length_take]; omega, .inr ⟨g, c, cur, rfl, h1, h2, by omega, h4, h5, ?_⟩⟩
    have : bys (l.take k) = (bys l).take k := by unfold bys; rw [List.map_take]
    rw [this, ← h6, List.take_take]
    congr 1; omega

/-- While the bytes are changed. -/
def Bag (w : World) (T g n c : Nat) (l : List UInt8) (wr : World) : Prop := OwnB wr w.heap.size g n c l ∧ Tape wr T ∧ w.grownBy wr (some T) ∧ T < w.heap.size
theorem Bag.tape {w wr w' : World} {T g n c : Nat} {l : List UInt8} (h : Bag w T g n c l wr) (ht : Tape w' T) (hg : wr.grownBy w' (some T)) : Bag w T g n c l w' := by
  obtain ⟨h1, h2, h3, h4⟩ := h
  have := h1.ge
  exact ⟨World.ownsRow.kept h1 hg (.inr (some_ne (show g ≠ T by omega))), ht, grown_trans h3 hg, h4⟩
theorem Bag.drew {w wr : World} {T g n c : Nat} {l : List UInt8} (h : Bag w T g n c l wr) : Bag w T g n c l wr.drew := by
  obtain ⟨h1, h2, h3, h4⟩ := h
  exact ⟨World.ownsRow.drew h1, h2.keep fun _ _ => rfl, grown_trans h3 (grown_drew _ _), h4⟩
theorem Bag.alloc {w wr : World} {T g n c : Nat} {l : List UInt8} (h : Bag w T g n c l wr) (o : Obj) : Bag w T g n c l (wr.alloc o) := by
  obtain ⟨h1, h2, h3, h4⟩ := h
  exact ⟨World.ownsRow.alloc h1 o, h2.alloc o, grown_trans h3 (grown_of_below ((Below.refl _ _).alloc (Nat.le_refl _) o) _), h4⟩
/-- New bytes, after an append onto the own row. -/
theorem Bag.moved {w wr w' : World} {T g n c g' n' c' : Nat} {l l' : List UInt8} (h : Bag w T g n c l wr) (ho : OwnB w' w.heap.size g' n' c' l') (hg : wr.grownBy w' (some g)) : Bag w T g' n' c' l' w' := by
  obtain ⟨h1, h2, h3, h4⟩ := h
  have hge := h1.ge
  have hs := h3.size
  refine ⟨ho, h2.keep fun k hk => hg.block k (by omega) (some_ne (by omega)), ⟨hg.os.trans h3.os, hg.tape.trans h3.tape, hg.output.trans h3.output, Nat.le_trans h3.size hg.size, fun i hi hne => (hg.block i (by omega) (some_ne (by omega))).trans (h3.block i hi hne)⟩, h4⟩
theorem Bag.stored {w wr : World} {T g n c : Nat} {l : List UInt8} (h : Bag w T g n c l wr) (k : Nat) (b : UInt8) : Bag w T g n c (l.set k b) (wr.setCell ⟨g, k, none⟩ (.int .u8 (b.toNat : Int))) := by
  have hs := World.ownsRow.stored h.1 k (byv b)
  rw [show (bys l).set k (byv b) = bys (l.set k b) from by unfold bys; rw [List.map_set]] at hs
  exact h.moved hs.1 hs.2

/-- Some bytes came back; nothing but the tape has changed. -/
def GenBytes (w : World) (T n : Nat) (e : Ending) (w' : World) : Prop :=
  ∃ g m c l, e = .returned (.slice (some ⟨g, 0, none⟩) m c) ∧ m ≤ n + 1 ∧ Bag w T g m c l w'
theorem byte_of (q : Nat) (h : q < 256) : (UInt8.ofNat q).toNat = q := by rw [UInt8.toNat_ofNat']; omega
theorem empty_ownB (w : World) : (w.alloc (.cells #[] 5)).ownsRow w.heap.size 5 1 (.slice (some ⟨w.heap.size, 0, none⟩) 0 0) 0 [] :=
  World.ownsRow_lit w #[] 0 (Nat.le_refl _) (by simp [maxLen]) rfl

theorem tail_cells {w : World} {base g n c : Nat} {l : List UInt8} (h : OwnB w base g n c l) {i : Nat} (hi : i ≤ n) :
    ∃ ad : Addr, (if c = i then some (⟨g, 0, none⟩ : Addr) else some ⟨g, i, none⟩) = some ad ∧ ∀ j u, (bys (l.drop i))[j]? = some u → w.cell? (ad.add j) = some u := by
  have hc := h.cap
  have hl := h.len
  by_cases e : c = i
  · refine ⟨⟨g, 0, none⟩, by rw [if_pos e], fun j u hu => ?_⟩
    have : l.drop i = [] := List.drop_eq_nil_iff.2 (by omega)
    rw [this] at hu
    simp [bys] at hu
  · refine ⟨⟨g, i, none⟩, by rw [if_neg e], fun j u hu => ?_⟩
    have hj : j < (bys (l.drop i)).length := (List.getElem?_eq_some_iff.1 hu).1
    rw [bys_len, List.length_drop] at hj
    have hadd : (⟨g, i, none⟩ : Addr).add j = ⟨g, i + j, none⟩ := by
      unfold Addr.add
      by_cases hj0 : j = 0
      · subst hj0; rfl
      · simp [hj0]
    rw [hadd, World.ownsRow.cellAt h (i + j) (by omega), ← hu]
    unfold bys
    rw [List.map_drop, List.getElem?_drop]

set_option maxHeartbeats 3200000 in
theorem bytes_any (T : Nat) (ad : Addr) (n c : Nat) (l : List UInt8) (w : World) (ht : Tape w T) (hA : At w w.heap.size (some ad) (bys l)) (hl : l.length = n) (h0 : 0 < n) (hn : n ≤ 100000) :
    Calls Tryd.prog 15 #[.pointer (some ⟨T, 0, none⟩), .slice (some ad) n c] w (GenBytes w T n) := by
  obtain ⟨i0, hi, hz0, hz1, hz2⟩ := info_parts info5
  have hTl := ht.lt
  have Hi := hid hi; have Hz0 := hid hz0; have Hz1 := hid hz1; have Hz2 := hid hz2; have Ht := hid ht; have Hl := hid hl
  have hb := (Below.refl w.heap.size w).alloc (Nat.le_refl _) (.cells #[] 5)
  have hcs : ∀ j u, (bys l)[j]? = some u → (w.alloc (.cells #[] 5)).cell? (ad.add j) = some u := fun j u hu => by
    obtain ⟨ad', e, hlt, hc⟩ := hA.cell hu
    injection e with e; subst e
    exact (hb.cell (by rw [add_block]; exact hlt)).trans hc
  have Hcs := hid hcs; have Hb := hid hb
  clear hi hz0 hz1 hz2 ht hA hl hb hcs
  go_enter Tryd.func15, Tryd.ntmps15
  go_wp2_with (first
    | (at_builtin
       refine wpList_append_own _ rfl _ _ 28 rfl w.heap.size 5 i0 (.int .u8 0) 1 1 Tryd.underlying28 Hi.out Hz0.out Hz1.out Hz2.out rfl (by decide) _ _ _ rfl (empty_ownB w) ad n c (bys l) rfl (by rw [bys_len, Nat.mul_one]; exact Hl.out) Hcs.out (bys_one l) (by unfold maxLen; omega) (by omega) (by simp) ?_
       intro v' w3 hown3 hgr3 hnil3
       obtain ⟨g, c3, rfl, hbag⟩ : ∃ g c3, v' = .slice (some ⟨g, 0, none⟩) n c3 ∧ Bag w T g n c3 l w3 := by
         rw [Nat.zero_add, List.nil_append] at hown3
         have hg : (w.alloc (.cells #[] 5)).grownBy w3 (some w.heap.size) := hgr3
         rcases id hown3.2 with ⟨_, h0'⟩ | ⟨g, cap, cur, rfl, _⟩
         · omega
         · have hbw := Hb.out.grown hg (by simp) (by intro k hk; injection hk with hk; omega)
           exact ⟨g, cap, rfl, hown3, Ht.out.below hbw hTl, grown_of_below hbw _, hTl⟩
       have Hbag := hid hbag
       clear hown3 hgr3 hnil3 hbag))
  refine (next_any T n _ Hbag.out.2.1 (by omega)).mono ?_
  rintro e w4 ⟨r, rfl, hr0, hr1, ht4, hg4, hz4⟩
  obtain ⟨k, rfl⟩ := Int.eq_ofNat_of_zero_le hr0
  have hk : k < n := by omega
  have hB4 := hid (Hbag.out.tape ht4 hg4)
  clear hr1 ht4 hg4 hz4 Hbag
  go_wp2_with fail
  refine (next_any T 4 _ hB4.out.2.1 (by omega)).mono ?_
  rintro e w5 ⟨r, rfl, h50, h51, ht5, hg5, hz5⟩
  have h52 : r < 4 := by omega
  have hB5 := hid (hB4.out.tape ht5 hg5)
  clear h51 ht5 hg5 hz5 hB4
  have hlen := hB5.out.1.len
  have hcap := hB5.out.1.cap
  have hk0 : (0 : Int) ≤ k := by omega
  have hk1 : (k : Int) < n := by omega
  have hn1 : decide (0 < (n : Int)) = true := by simp; omega
  by_cases c0 : r = 0
  · have t0 : (r == 0) = true := by simp [c0]
    clear c0
    have hc5 := (World.ownsRow.cellAt hB5.out.1 k (by omega)).trans (bys_get (by omega))
    have hf5 := World.ownsRow.frozenAt hB5.out.1 k
    have Hlen := hid hlen
    generalize hx : (l.getD k 0).toNat = x at hc5
    have Hx := hid hx
    clear hx hlen
    have hxb : x < 256 := by have := (l.getD k 0).toNat_lt; rw [Hx.out] at this; exact this
    have hwk : IntKind.i64.wrap (k : Int) = k := IntWalk.i64_in _ (by omega)
    go_wp2_with fail
    go_region_with (first
      | (go_at_call 23
         go_must (
         refine (next_any T 255 _ (by exact hB5.out.drew.2.1) (by omega)).mono ?_
         rintro e w6 ⟨r6, rfl, h60, h61, ht6, hg6, hz6⟩
         have h62 : r6 < 255 := (by omega)
         obtain ⟨q, rfl⟩ := Int.eq_ofNat_of_zero_le h60
         have hxe : bits BinOp.xor IntKind.u8 (x : Int) (IntKind.u8.wrap (IntKind.i64.wrap (1 + (q : Int)))) = ((UInt8.ofNat (x ^^^ (1 + q))).toNat : Int) := (by
           rw [IntWalk.i64_in _ (by omega), show IntKind.u8.wrap (1 + (q : Int)) = ((1 + q : Nat) : Int) from (IntWalk.u8_in _ (by omega)).trans (by simp), u8_xor_nat x (1 + q) hxb (by omega), byte_of _ (Nat.xor_lt_two_pow (n := 8) hxb (by omega))])
         have Hxe := hid hxe
         have hB6 := hid (hB5.out.drew.tape ht6 hg6)
         have hc6 := (World.ownsRow.cellAt hB6.out.1 k (by omega)).trans (bys_get (by rw [Hlen.out]; exact hk))
         rw [Hx.out] at hc6
         have hf6 := World.ownsRow.frozenAt hB6.out.1 k
         have hB7 := hid (hB6.out.stored k (UInt8.ofNat (x ^^^ (1 + q))))
         clear h61 ht6 hg6 hz6 hxe)))
    all_goals
      rw [Hxe.out]
      go_wp2_with fail
      go_ret
      exact ⟨g, n, c3, _, rfl, by omega, hB7.out⟩
  · have t0 : (r == 0) = false := by simp [c0]
    by_cases c1 : r = 1
    · have t1 : (r == 1) = true := by simp [c1]
      clear c0 c1
      go_wp2_with fail
      go_ret
      exact ⟨g, k, c3, l.take k, rfl, by omega, hB5.out.1.take (by omega), hB5.out.2⟩
    · have t1 : (r == 1) = false := by simp [c1]
      by_cases c2 : r = 2
      · have t2 : (r == 2) = true := by simp [c2]
        clear c0 c1 c2
        go_wp2_with (first
          | (go_at_call 23
             refine (next_any T 256 _ hB5.out.2.1 (by omega)).mono ?_
             rintro e w6 ⟨r6, rfl, h60, h61, ht6, hg6, hz6⟩
             have h62 : r6 < 256 := (by omega)
             obtain ⟨q, rfl⟩ := Int.eq_ofNat_of_zero_le h60
             have hqb := byte_of q (by omega)
             have hwb : IntKind.u8.wrap (q : Int) = q := IntWalk.u8_in _ (by omega)
             have hB6 := hid (hB5.out.tape ht6 hg6)
             clear h61 ht6 hg6 hz6)
          | (at_builtin
             go_must (
             refine wpList_append_own _ rfl _ _ 28 rfl w.heap.size 5 i0 (.int .u8 0) 1 1 Tryd.underlying28 Hi.out Hz0.out Hz1.out Hz2.out rfl (by decide) _ _ _ rfl (hB6.out.alloc _).1 ⟨w6.heap.size, 0, none⟩ 1 1 [.int .u8 (q : Int)] rfl rfl (new_one _ _ _) (one_int _ _) (by unfold maxLen; omega) (by omega) (by have := hB6.out.1.ge; rw [World.size_alloc]; omega) ?_
             intro v' w7 hown7 hgr7 hnil7
             obtain ⟨g7, c7, rfl, hbag7⟩ : ∃ g7 c7, v' = .slice (some ⟨g7, 0, none⟩) (n + 1) c7 ∧ Bag w T g7 (n + 1) c7 (l ++ [UInt8.ofNat q]) w7 := by
               have hg : (w6.alloc (.cells #[.int .u8 (q : Int)] 5)).grownBy w7 (some g) := hgr7
               have ho : w7.ownsRow w.heap.size 5 1 v' (n + 1) (bys (l ++ [UInt8.ofNat q])) := by
                 rw [← bys_app]
                 have e : bys [UInt8.ofNat q] = [Value.int .u8 (q : Int)] := by simp [bys, byv, hqb]
                 rw [e]; exact hown7
               rcases id ho.2 with ⟨_, h0'⟩ | ⟨g7, cap, cur, rfl, _⟩
               · omega
               · exact ⟨g7, cap, rfl, (hB6.out.alloc _).moved ho hg⟩
             have Hbag7 := hid hbag7
             clear hown7 hgr7 hnil7 hbag7)))
        go_ret
        exact ⟨g7, n + 1, c7, _, rfl, by omega, Hbag7.out⟩
      · have t2 : (r == 2) = false := by simp [c2]
        clear c0 c1 c2
        have hq0 : 0 ≤ (k : Int) + 1 := by omega
        have hq1 : (k : Int) + 1 ≤ n := by omega
        have hqw : IntKind.i64.wrap ((k : Int) + 1) = (k : Int) + 1 := IntWalk.i64_in _ (by omega)
        have hqn : ((k : Int) + 1).toNat = k + 1 := by omega
        have hkc : k ≤ c3 := by omega
        obtain ⟨ad7, had7, hcs7⟩ := tail_cells hB5.out.drew.1 (show k + 1 ≤ n by omega)
        have hdl : (l.drop (k + 1)).length = n - (k + 1) := by rw [List.length_drop, hlen]
        have hD := hid hB5.out.drew
        have Hcs7 := hid hcs7; have Hdl := hid hdl
        clear hcs7 hdl
        go_wp2_with fail
        refine wp_region_still_tail 7 (by kernel_rfl) (by kernel_rfl) ?_
        simp only [List.take_succ_cons, List.take_zero, List.drop_succ_cons, List.drop_zero]
        repeat still_step
        try refine wpStill_nil ?_
        clear hqw hqn
        change wpList _ _ _ _ _ w5.drew
        generalize w5.drew = w6 at *
        go_wp2_with (first
          | (at_builtin
             go_must (
             refine wpList_append_own _ rfl _ _ 28 rfl w.heap.size 5 i0 (.int .u8 0) 1 1 Tryd.underlying28 Hi.out Hz0.out Hz1.out Hz2.out rfl (by decide) _ _ _ rfl (hD.out.1.take (k := k) (by omega)) ad7 (n - (k + 1)) (c3 - (k + 1)) (bys (l.drop (k + 1))) rfl (by rw [bys_len, Nat.mul_one]; exact Hdl.out) Hcs7.out (bys_one _) (by unfold maxLen; omega) (by omega) (by have := hD.out.1.ge; omega) ?_
             intro v' w7 hown7 hgr7 hnil7
             obtain ⟨g7, c7, rfl, hbag7⟩ : ∃ g7 c7, v' = .slice (some ⟨g7, 0, none⟩) (k + (n - (k + 1))) c7 ∧ Bag w T g7 (k + (n - (k + 1))) c7 (l.take k ++ l.drop (k + 1)) w7 := by
               have hg : w6.grownBy w7 (some g) := hgr7
               rw [bys_app] at hown7
               rcases id hown7.2 with ⟨hv, _⟩ | ⟨g7, cap, cur, rfl, _⟩
               · have := (hnil7.1 hv).1
                 cases this
               · exact ⟨g7, cap, rfl, hD.out.moved hown7 hg⟩
             have Hbag7 := hid hbag7
             clear hown7 hgr7 hnil7 hbag7)))
        go_ret
        exact ⟨g7, _, c7, _, rfl, by omega, Hbag7.out⟩
end Go.Proofs.YtlepcgncphikhaaDoor

namespace Go.Proofs.YtlepcgncphikhaaDoor
set_option maxRecDepth 20000
set_option linter.unusedVariables false
set_option linter.unusedSimpArgs false
open Go.ChangeShapes Go.WideShapes Go.ChangeAt Go.RowKit

/-- The statement's tape and the table of shapes stand, and nothing old has changed. -/
structure GoS (w : World) (T : Nat) (wr : World) : Prop where
  go : Going w T wr
  shp : Shp wr
  pos : 0 < w.heap.size
theorem GoS.step {w wr w' : World} {T : Nat} (h : GoS w T wr) (hg : Going w T w') (hw : wr.grownBy w' (some T)) : GoS w T w' :=
  ⟨hg, h.shp.keep (hw.block 0 h.shp.lt (by have := h.go.2.2; have := h.pos; intro e; injection e with e; omega)), h.pos⟩
theorem GoS.stepT {w wr w' : World} {T : Nat} (h : GoS w T wr) (ht : Tape w' T) (hw : wr.grownBy w' (some T)) : GoS w T w' := h.step (h.go.step ht hw) hw
theorem GoS.below {w wr w' : World} {T : Nat} (h : GoS w T wr) (hb : Below wr.heap.size wr w') : GoS w T w' := h.step (h.go.below hb) (grown_of_below hb _)
theorem GoS.alloc {w wr : World} {T : Nat} (h : GoS w T wr) (o : Obj) : GoS w T (wr.alloc o) := h.below ((Below.refl _ _).alloc (Nat.le_refl _) o)

def pc5A : Array Value := #[.string ⟨#[102, 117, 110, 99, 32, 109, 59, 32, 98, 108, 111, 99, 107, 32, 98, 59, 32]⟩, .string ⟨#[102, 117, 110, 99, 32, 109, 59, 32]⟩, .string ⟨#[]⟩, .string ⟨#[102, 117, 110, 99, 32, 109, 59, 32, 98, 108, 111, 99, 107, 32, 98, 59, 32, 120, 32, 61, 32, 121, 59, 32]⟩]
theorem pc5A_all : ∀ u ∈ pc5A.toList, ∃ x : ByteArray, u = .string x ∧ x.size ≤ 25 := by
  intro u hu
  simp [pc5A] at hu
  rcases hu with rfl | rfl | rfl | rfl <;> exact ⟨_, rfl, by decide⟩

def pc5B : Array Value := #[.string ⟨#[102, 117, 110, 99, 32, 109, 59]⟩, .string ⟨#[98, 108, 111, 99, 107, 32, 98, 59]⟩, .string ⟨#[101, 110, 100, 59]⟩, .string ⟨#[117, 115, 101, 32, 120, 59]⟩, .string ⟨#[117, 115, 101, 32, 120, 32, 121, 32, 122, 32, 120, 32, 121, 59]⟩, .string ⟨#[99, 97, 108, 108, 32, 109, 59]⟩, .string ⟨#[115, 111, 117, 114, 99, 101, 32, 120, 59]⟩, .string ⟨#[115, 105, 110, 107, 32, 120, 59]⟩, .string ⟨#[115, 97, 110, 105, 116, 105, 122, 101, 59]⟩, .string ⟨#[103, 111, 116, 111, 32, 98, 59]⟩, .string ⟨#[98, 114, 97, 110, 99, 104, 32, 120, 32, 98, 32, 98, 59]⟩, .string ⟨#[114, 101, 116, 117, 114, 110, 59]⟩, .string ⟨#[120, 32, 61, 59]⟩, .string ⟨#[120, 32, 61, 32, 121, 32, 121, 32, 121, 32, 121, 59]⟩, .string ⟨#[61, 32, 120, 59]⟩, .string ⟨#[120]⟩, .string ⟨#[117, 115, 101]⟩, .string ⟨#[98, 114, 97, 110, 99, 104, 32, 120, 32, 98, 59]⟩, .string ⟨#[59]⟩, .string ⟨#[114, 101, 116, 117, 114, 110]⟩]
theorem pc5B_all : ∀ u ∈ pc5B.toList, ∃ x : ByteArray, u = .string x ∧ x.size ≤ 15 := by
  intro u hu
  simp [pc5B] at hu
  rcases hu with rfl | rfl | rfl | rfl | rfl | rfl | rfl | rfl | rfl | rfl | rfl | rfl | rfl | rfl | rfl | rfl | rfl | rfl | rfl | rfl <;> exact ⟨_, rfl, by decide⟩

set_option maxHeartbeats 1000000 in
theorem pieces5_any (w0 : World) (T : Nat) (w : World) (h : GoS w0 T w) : Calls Tryd.prog 13 #[.pointer (some ⟨T, 0, none⟩)] w fun e w' => ∃ x : ByteArray, e = .returned (.string x) ∧ x.size ≤ 1000 ∧ GoS w0 T w' := by
  have H0 := hid h
  clear h
  have Hfa := hid (Fb.new w pc5A 9)
  have Ha := hid (H0.out.alloc (.cells pc5A 9))
  have hnea := hid (show w.heap.size ≠ T by have := H0.out.go.lt; omega)
  go_enter Tryd.func13, Tryd.ntmps13
  go_wp2_with fail
  refine (next_any T 4 _ Ha.out.go.1 (by omega)).mono ?_
  rintro e w1 ⟨r, rfl, hr0, hr1, ht1, hg1, -⟩
  obtain ⟨y, hy, hyb⟩ := pickS Hfa.out hg1 hnea.out pc5A_all (by rfl) hr0 hr1 (by omega)
  have hr4 : r < 4 := by omega
  have H1 := hid (Ha.out.stepT ht1 hg1)
  clear ht1 hg1 Hfa Ha hnea H0
  go_wp2_with fail
  refine (next_any T 10 _ H1.out.go.1 (by omega)).mono ?_
  rintro e w2 ⟨m, rfl, hm0, hm1, ht2, hg2, -⟩
  have H2 := hid (H1.out.stepT ht2 hg2)
  obtain ⟨m, rfl⟩ := Int.eq_ofNat_of_zero_le hm0
  have hm4 : m ≤ 10 := by omega
  clear ht2 hg2 hm0 hm1 H1 hy hr0 hr1 hr4
  go_wp2_with fail
  go_loopw [3, 4] (fun v n wr => ∃ (m : Nat) (x : ByteArray), m ≤ 10 ∧ n = .int .i64 (m : Int) ∧ v = .string x ∧ x.size + 17 * m ≤ 238 ∧ Hid (GoS w0 T wr)) (fun _ n _ => (intOf n).toNat)
  case atStart => exact ⟨m, _, hm4, rfl, rfl, by omega, H2.out⟩
  case round =>
    clear H2
    obtain ⟨m, x, hm, rfl, rfl, hx, hG⟩ := hrel
    by_cases hpos : 0 < m
    · have Hfb := hid (Fb.new wr pc5B 9)
      have H3 := hid (hG.out.alloc (.cells pc5B 9))
      have hne := hid (show wr.heap.size ≠ T by have := hG.out.go.lt; omega)
      go_wp2_with fail
      refine (next_any T 20 _ H3.out.go.1 (by omega)).mono ?_
      rintro e w3 ⟨r, rfl, hr0, hr1, ht3, hg3, -⟩
      obtain ⟨y, hy, hyb⟩ := pickS Hfb.out hg3 hne.out pc5B_all (by rfl) hr0 hr1 (by omega)
      have hr12 : r < 20 := by omega
      have H4 := hid (H3.out.stepT ht3 hg3)
      have hs1 : (⟨#[32]⟩ : ByteArray).size = 1 := by decide
      have hsz : (x ++ (y ++ (⟨#[32]⟩ : ByteArray))).size = x.size + (y.size + 1) := by rw [ByteArray.size_append, ByteArray.size_append]; rfl
      have Hsz := hid hsz
      have hsum1 : y.size + (⟨#[32]⟩ : ByteArray).size ≤ 9223372036854775807 := by omega
      have hsum : x.size + (y ++ (⟨#[32]⟩ : ByteArray)).size ≤ 9223372036854775807 := by rw [ByteArray.size_append]; omega
      clear ht3 hg3 Hfb H3 hne hG hsz hs1
      go_wp2
      go_roundw
      case rel => exact ⟨m - 1, x ++ (y ++ (⟨#[32]⟩ : ByteArray)), by omega, by first | go_num | (congr 1; omega), rfl, by rw [Hsz.out]; omega, H4⟩
      case measure => simp [intOf]; omega
    · obtain rfl : m = 0 := by omega
      clear hpos
      go_wp2
      go_ret
      exact ⟨x, rfl, by omega, hG.out⟩

set_option maxHeartbeats 1600000 in
theorem parses5_any (s : ByteArray) (w : World) (hs : s.size ≤ maxLen) (hsh : Shp w) : Calls Tryd.prog 12 #[.string s] w fun e w' => e = .returned (.bool true) ∧ Below w.heap.size w w' := by
  have HD := hid (devParse_any s w hs hsh)
  have HR := hid (fun w => refParse_any s w hs)
  rw [parse_same] at HD
  have hpos := hsh.lt
  clear hs hsh
  generalize parseR s = r at *
  obtain ⟨P, ln, cl, er⟩ := r
  have t1 : ((ln : Int) == (ln : Int)) = true := by simp
  have t2 : ((cl : Int) == (cl : Int)) = true := by simp
  have t3 : (er == er) = true := by simp
  go_enter Tryd.func12, Tryd.ntmps12
  go_wp2_with fail
  refine HD.out.mono ?_
  rintro e w1 ⟨x, rfl, hxp, hfx, hb1⟩
  have Hxp := hid hxp
  have HX1 := hid (hfx [] (by simp))
  have HA1 := hid ((Below.refl w1.heap.size w1).alloc (Nat.le_refl _) (.cells #[.slice x.A x.n x.c] 34))
  have HF1 := hid (Fb.new w1 #[.slice x.A x.n x.c] 34)
  have HB1 := hid (below_step hb1 HA1.out)
  have HX2 := hid (PHok.below HX1.out HA1.out)
  clear hxp hfx hb1 HA1 HX1 HD
  simp only
  go_wp2_with fail
  generalize w1.heap.size = g1 at *
  generalize w1.alloc (.cells #[.slice x.A x.n x.c] 34) = w2 at *
  refine (HR.out _).mono ?_
  rintro e w3 ⟨y, rfl, hyp, hfy, hb3⟩
  have Hyp := hid hyp
  have HY3 := hid (hfy [] (by simp))
  have HA3 := hid ((Below.refl w3.heap.size w3).alloc (Nat.le_refl _) (.cells #[.slice y.A y.n y.c] 34))
  have HF3 := hid ((HF1.out.below hb3 HF1.out.lt).alloc (.cells #[.slice y.A y.n y.c] 34))
  have HG3 := hid (Fb.new w3 #[.slice y.A y.n y.c] 34)
  have HB3 := hid (below_step (below_step HB1.out hb3) HA3.out)
  have HX3 := hid (PHok.below (HX2.out.below hb3) HA3.out)
  have HY4 := hid (PHok.below HY3.out HA3.out)
  have He := hid (Hxp.out.trans Hyp.out.symm)
  clear hyp hfy hb3 HA3 HY3 HX2 HB1 HF1 Hxp Hyp HR
  have f0 := HF3.out.onec
  have f1 := HG3.out.onec
  simp only
  go_wp2_with fail
  generalize w3.heap.size = g3 at *
  generalize w3.alloc (.cells #[.slice y.A y.n y.c] 34) = w4 at *
  refine (equal_yes x y [] [] w4 HX3.out HY4.out He.out).mono ?_
  rintro e w5 ⟨rfl, hb5⟩
  have HB5 := hid (below_step HB3.out hb5)
  clear hb5 f0 f1
  go_wp2
  go_ret
  exact ⟨rfl, HB5.out⟩

theorem size_ofL (l : List UInt8) : (⟨l.toArray⟩ : ByteArray).size = l.length := by simp [ByteArray.size]
theorem bytes_atL (w : World) (tx : List UInt8) : At (Lib.bytesWorld w 5 ⟨tx.toArray⟩) (Lib.bytesWorld w 5 ⟨tx.toArray⟩).heap.size (some ⟨w.heap.size, 0, none⟩) (bys tx) := by
  refine .inr ⟨_, rfl, by rw [Lib.bytesWorld_size]; show w.heap.size < _; omega, fun j u hu => ?_⟩
  have hj : j < (bys tx).length := (List.getElem?_eq_some_iff.1 hu).1
  rw [bys_len] at hj
  rw [add_of, Lib.bytesWorld_cell w 5 ⟨tx.toArray⟩ j (by rw [size_ofL]; exact hj), ← hu, bys_get hj]
theorem back_anyL (w : World) (base g n c : Nat) (l : List UInt8) (h : OwnB w base g n c l) : (convert 28 9 (.slice (some ⟨g, 0, none⟩) n c)).run Tryd.prog w = .ok (.string ⟨l.toArray⟩) w := by
  have hl := h.len
  subst hl
  refine run_convert_bytes_back w 28 9 5 ⟨g, 0, none⟩ c l Tryd.underlying28 Tryd.underlying5 Tryd.underlying9 fun j hj => ?_
  rw [add_of, World.ownsRow.cellAt h j (by omega), bys_get hj, List.getD_eq_getElem?_getD, List.getElem?_eq_getElem hj]
  rfl

set_option maxHeartbeats 1600000 in
theorem lawParses (At : Option Addr) (nt ct : Nat) (zs : List Int) (s : ByteArray) (w : World) (ht : IArg w At nt zs) (hnt : nt ≤ maxLen) (hs : s.size ≤ maxLen) (hsh : Shp w) :
    Calls Tryd.prog 3 #[.slice At nt ct, .string s] w fun e w' => e = .returned (.bool true) ∧ Below w.heap.size w w' := by
  have Hinv := hid (show GoS w w.heap.size (w.alloc (.cells #[.slice At nt ct, .int .i64 0] 72)) from ⟨⟨tape_new ht hnt, (Below.refl _ _).alloc (Nat.le_refl _) _, Nat.le_refl _⟩, hsh.keep (Below.heap_alloc w _ 0 hsh.lt), hsh.lt⟩)
  clear ht hsh
  go_enter Tryd.func3, Tryd.ntmps3
  go_wp2_with (go_at_call 11; refine (new_any At nt ct _).mono ?_; rintro e w1 ⟨rfl, rfl⟩)
  generalize w.alloc (.cells #[.slice At nt ct, .int .i64 0] 72) = w1 at *
  generalize hT : w.heap.size = T at *
  have HT := hid hT
  clear hT
  go_loopw [6] (fun i wr => ∃ k : Nat, k ≤ 6 ∧ i = .int .i64 k ∧ Hid (GoS w T wr)) (fun i _ => 6 - (intOf i).toNat)
  case atStart => exact ⟨0, by omega, rfl, Hinv.out⟩
  case round =>
    clear Hinv
    obtain ⟨k, hk, rfl, hG⟩ := hrel
    by_cases hlt : k < 6
    · go_wp2_with fail
      refine (pieces5_any w T _ hG.out).mono ?_
      rintro e w2 ⟨x, rfl, hx, hG2⟩
      have H2 := hid hG2
      clear hG2 hG
      go_wp2_with fail
      refine (parses5_any x _ (by unfold maxLen; omega) H2.out.shp).mono ?_
      rintro e w3 ⟨rfl, hb3⟩
      have H3 := hid (H2.out.below hb3)
      clear hb3 H2
      go_wp2
      go_roundw
      case rel => exact ⟨k + 1, by omega, by go_num, H3⟩
      case measure => simp [intOf]; omega
    · clear hk
      go_wp2_with fail
      refine (source_any w T _ hG.out.go).mono ?_
      rintro e w2 ⟨p, rfl, hp, hG2, hgr2⟩
      have hps := src_small hp
      have H2 := hid (hG.out.step hG2 hgr2)
      clear hG2 hG hp hgr2
      obtain ⟨tx, rfl⟩ : ∃ tx : List UInt8, p = ⟨tx.toArray⟩ := ⟨p.data.toList, by cases p; simp⟩
      rw [size_ofL] at hps
      have Hsz := hid (size_ofL tx)
      go_wp2_with fail
      refine (parses5_any ⟨tx.toArray⟩ _ (by rw [Hsz.out]; unfold maxLen; omega) H2.out.shp).mono ?_
      rintro e w5 ⟨rfl, hb5⟩
      have hG5 := hid (H2.out.below hb5)
      have hG6 := hid (hG5.out.below (Lib.bytesWorld_below w5 5 ⟨tx.toArray⟩))
      have hcv : (convert 9 28 (.string ⟨tx.toArray⟩)).run Tryd.prog w5 = .ok (.slice (some ⟨w5.heap.size, 0, none⟩) tx.length (grownCap w5 tx.length 0 5)) (Lib.bytesWorld w5 5 ⟨tx.toArray⟩) := by
        have h := Lib.run_convert_string_bytes (P := Tryd.prog) w5 9 28 5 ⟨tx.toArray⟩ Tryd.underlying9 Tryd.underlying28 Tryd.underlying5
        rw [size_ofL] at h
        exact h
      have Hby := hid (bytes_atL w5 tx)
      clear hb5 H2
      generalize Lib.bytesWorld w5 5 ⟨tx.toArray⟩ = w6 at *
      generalize grownCap w5 tx.length 0 5 = c6 at *
      go_wp2_with fail
      refine (bytes_any T ⟨w5.heap.size, 0, none⟩ tx.length c6 tx w6 hG6.out.go.1 Hby.out rfl hps.1 hps.2).mono ?_
      rintro e w7 ⟨g, m, c7, l7, rfl, hm, hbag⟩
      have hcv7 := back_anyL w7 w6.heap.size g m c7 l7 hbag.1
      have hG7 := hid (hG6.out.stepT hbag.2.1 hbag.2.2.1)
      have hl7 := hbag.1.len
      clear hcv Hby hbag hG6 hG5
      go_wp2_with fail
      refine (parses5_any ⟨l7.toArray⟩ _ (by rw [size_ofL]; unfold maxLen; omega) hG7.out.shp).mono ?_
      rintro e w8 ⟨rfl, hb8⟩
      have hG8 := hid (hG7.out.below hb8)
      clear hb8 hcv7 hG7
      go_wp2_with fail
      refine (parses5_any s _ hs hG8.out.shp).mono ?_
      rintro e w9 ⟨rfl, hb9⟩
      have hG9 := hid (hG8.out.below hb9)
      clear hb9 hG8
      go_wp2_with fail
      refine (sane5_any _ hG9.out.shp).mono ?_
      rintro e wa ⟨rfl, hba⟩
      have hGa := hid (hG9.out.below hba)
      clear hba hG9
      go_wp2
      go_ret
      exact ⟨rfl, hGa.out.go.2.1⟩
end Go.Proofs.YtlepcgncphikhaaDoor

namespace Go.Proofs.YtlepcgncphikhaaDoor
set_option maxRecDepth 20000
set_option linter.unusedVariables false
set_option linter.unusedSimpArgs false
open Go.ChangeShapes Go.WideShapes Go.ChangeAt Go.RowKit

/-- A list of strings that does not lie in the tape's block. -/
structure SL (T : Nat) (w : World) (A : Option Addr) (n : Nat) (L : List ByteArray) : Prop where
  arg : SArg w A n L
  off : ∀ ad, A = some ad → ad.block ≠ T
theorem SL.grown {T : Nat} {w w' : World} {A : Option Addr} {n : Nat} {L : List ByteArray} (h : SL T w A n L) (hg : w.grownBy w' (some T)) : SL T w' A n L := by
  refine ⟨⟨?_, h.arg.len, h.arg.few, h.arg.small⟩, h.off⟩
  rcases h.arg.lies with e | ⟨ad, e, hlt, hc⟩
  · exact .inl e
  · exact .inr ⟨ad, e, Nat.lt_of_lt_of_le hlt hg.size, fun j u hu => (World.cell?_of_block (by rw [add_block]; exact hg.block _ hlt (by have := h.off ad e; intro e2; injection e2 with e2; exact this e2))).trans (hc j u hu)⟩
theorem SL.below {T : Nat} {w w' : World} {A : Option Addr} {n : Nat} {L : List ByteArray} (h : SL T w A n L) (hb : Below w.heap.size w w') : SL T w' A n L := ⟨h.arg.below hb, h.off⟩
theorem SL.of {T : Nat} {w w' : World} {A : Option Addr} {n c : Nat} {L : List ByteArray} (h : SArg w' A n L) (hb : ∀ b, (Value.slice A n c).ownBlock = some b → w.heap.size ≤ b) (hT : T < w.heap.size) : SL T w' A n L :=
  ⟨h, fun ad e => by subst e; have := hb ad.block rfl; omega⟩

set_option maxHeartbeats 3200000 in
theorem lawSpoils (At : Option Addr) (nt ct : Nat) (zs : List Int) (w : World) (ht : IArg w At nt zs) (hnt : nt ≤ maxLen) (hsh : Shp w) :
    Calls Tryd.prog 5 #[.slice At nt ct] w fun e w' => e = .returned (.bool true) ∧ Below w.heap.size w w' := by
  have Hinv := hid (show GoS w w.heap.size (w.alloc (.cells #[.slice At nt ct, .int .i64 0] 72)) from ⟨⟨tape_new ht hnt, (Below.refl _ _).alloc (Nat.le_refl _) _, Nat.le_refl _⟩, hsh.keep (Below.heap_alloc w _ 0 hsh.lt), hsh.lt⟩)
  clear ht hsh
  go_enter Tryd.func5, Tryd.ntmps5
  go_wp2_with (go_at_call 11; refine (new_any At nt ct _).mono ?_; rintro e w1 ⟨rfl, rfl⟩)
  generalize w.alloc (.cells #[.slice At nt ct, .int .i64 0] 72) = w1 at *
  generalize hT : w.heap.size = T at *
  have HT := hid hT
  clear hT
  refine (program_any [some T] w T _ Hinv.out.go (by intro k hk; simp at hk; subst hk; exact Hinv.out.go.lt)).mono ?_
  rintro e w2 ⟨x, rfl, hgp, hx, hG2, hgr2⟩
  have H2 := hid (Hinv.out.step hG2 hgr2)
  have Hx := hid hx
  have hL51 := (genP_20 hgp).1
  have hTl := hid (show T < w2.heap.size from hG2.lt)
  clear hgp hx hG2 hgr2 Hinv
  go_wp2_with fail
  refine (lines2_any x [some T] _ Hx.out).mono ?_
  rintro e w3 ⟨A, c, rfl, hs3, hb3, ho3⟩
  have H3 := hid (H2.out.below hb3)
  have hL : (linesP x.p).length ≤ 51 := hL51
  have HS := hid (SL.of hs3 ho3 hTl.out)
  clear hs3 hb3 ho3 H2 Hx hL51 hTl
  generalize linesP x.p = L at *
  go_wp2_with fail
  go_loopw [5, 6, 7, 8, 9] (fun i _ _ _ _ wr => ∃ k : Nat, k ≤ 4 ∧ i = .int .i64 k ∧ Hid (GoS w T wr) ∧ Hid (SL T wr A L.length L)) (fun i _ _ _ _ _ => 4 - (intOf i).toNat)
  case atStart => exact ⟨0, by omega, rfl, H3.out, HS.out⟩
  case round =>
    clear H3 HS
    obtain ⟨k, hk, rfl, hG, hS⟩ := hrel
    by_cases hlt : k < 4
    · go_wp2_with fail
      refine (next_any T (L.length : Int) _ hG.out.go.1 (by omega)).mono ?_
      rintro e w4 ⟨a, rfl, ha0, ha1, ht4, hg4, -⟩
      have H4 := hid (hG.out.stepT ht4 hg4)
      have S4 := hid (hS.out.grown hg4)
      obtain ⟨a, rfl⟩ := Int.eq_ofNat_of_zero_le ha0
      clear ht4 hg4 hG hS ha0 ha1
      go_wp2_with fail
      refine (next_any T 2 _ H4.out.go.1 (by omega)).mono ?_
      rintro e w5 ⟨b, rfl, hb0, hb1, ht5, hg5, -⟩
      have H5 := hid (H4.out.stepT ht5 hg5)
      have S5 := hid (S4.out.grown hg5)
      obtain ⟨tw, htw⟩ : ∃ tw, (b == 1) = tw := ⟨_, rfl⟩
      clear ht5 hg5 H4 S4 hb0 hb1
      go_wp2_with fail
      clear htw
      go_loopw [8, 9] (fun s i wr => ∃ (j : Nat) (x : ByteArray), j ≤ L.length ∧ i = .int .i64 j ∧ s = .string x ∧ x.size ≤ j * 200002 ∧ Hid (GoS w T wr) ∧ Hid (SL T wr A L.length L)) (fun _ i _ => L.length - (intOf i).toNat)
      case atStart => exact ⟨0, _, by omega, rfl, rfl, by decide, H5.out, S5.out⟩
      case round =>
        clear H5 S5
        obtain ⟨j, x, hj, rfl, rfl, hxs, hG, hS⟩ := hrel
        have hj51 : j * 200002 ≤ 51 * 200002 := Nat.mul_le_mul_right _ (by omega)
        by_cases hjl : j < L.length
        · obtain ⟨ad, rfl, had, hcl, hsm⟩ := hS.out.arg.cell hjl
          generalize L.getD j ByteArray.empty = y at *
          have q1 : y.size + (⟨#[59]⟩ : ByteArray).size ≤ 9223372036854775807 := by have : (⟨#[59]⟩ : ByteArray).size = 1 := rfl; omega
          have q2 : x.size + (y ++ (⟨#[59]⟩ : ByteArray)).size ≤ 9223372036854775807 := by rw [ByteArray.size_append]; have : (⟨#[59]⟩ : ByteArray).size = 1 := rfl; omega
          have Q3 := hid (show (x ++ (y ++ (⟨#[59]⟩ : ByteArray))).size ≤ j * 200002 + 100001 by rw [ByteArray.size_append, ByteArray.size_append]; have : (⟨#[59]⟩ : ByteArray).size = 1 := rfl; omega)
          by_cases hja : j = a
          · subst hja
            have e1 : ((j : Int) != (j : Int)) = false := by simp
            have e2 : ((j : Int) == (j : Int)) = true := by simp
            cases tw with
            | false =>
              as_aux_lemma =>
                go_wp2_with fail
                go_roundw
                case rel => exact ⟨j + 1, x, by omega, by go_num, rfl, Nat.le_trans hxs (Nat.mul_le_mul_right _ (Nat.le_succ j)), hG, hS⟩
                case measure => simp [intOf]; omega
            | true =>
              as_aux_lemma =>
                clear hj51 hsm
                go_wp2_with fail
                generalize x ++ (y ++ (⟨#[59]⟩ : ByteArray)) = x2 at *
                clear q1 q2 hcl had
                refine (next_any T (L.length : Int) _ hG.out.go.1 (by omega)).mono ?_
                rintro e w6 ⟨r, rfl, hr0, hr1, ht6, hg6, -⟩
                have H6 := hid (hG.out.stepT ht6 hg6)
                have S6 := hid (hS.out.grown hg6)
                obtain ⟨r, rfl⟩ := Int.eq_ofNat_of_zero_le hr0
                have hrl : r < L.length := by omega
                obtain ⟨bd, hbd, had2, hcl2, hsm2⟩ := S6.out.arg.cell hrl
                injection hbd with hbd
                subst hbd
                generalize L.getD r ByteArray.empty = z at *
                have p1 : z.size + (⟨#[10]⟩ : ByteArray).size ≤ 9223372036854775807 := by have : (⟨#[10]⟩ : ByteArray).size = 1 := rfl; omega
                have p2 : x2.size + (z ++ (⟨#[10]⟩ : ByteArray)).size ≤ 9223372036854775807 := by rw [ByteArray.size_append]; have : (⟨#[10]⟩ : ByteArray).size = 1 := rfl; have := Q3.out; have h51 : j * 200002 ≤ 51 * 200002 := Nat.mul_le_mul_right _ (by omega); omega
                have P3 := hid (show (x2 ++ (z ++ (⟨#[10]⟩ : ByteArray))).size ≤ (j + 1) * 200002 by rw [ByteArray.size_append, ByteArray.size_append]; have : (⟨#[10]⟩ : ByteArray).size = 1 := rfl; have := Q3.out; omega)
                clear ht6 hg6 hG hS hr0 hr1 hsm2 Q3
                go_wp2_with fail
                go_roundw
                case rel => exact ⟨j + 1, x2 ++ (z ++ (⟨#[10]⟩ : ByteArray)), by omega, by go_num, rfl, P3.out, H6, S6⟩
                case measure => simp [intOf]; omega
          · have e1 : ((j : Int) != (a : Int)) = true := by simp; omega
            have e2 : ((j : Int) == (a : Int)) = false := by simp; omega
            as_aux_lemma =>
              clear hj51 hsm
              go_wp2_with fail
              go_roundw
              case rel => exact ⟨j + 1, x ++ (y ++ (⟨#[59]⟩ : ByteArray)), by omega, by go_num, rfl, by have := Q3.out; omega, hG, hS⟩
              case measure => simp [intOf]; omega
        · obtain rfl : j = L.length := by omega
          have hx2 := hid (show x.size ≤ maxLen by unfold maxLen; omega)
          clear hj51 hxs hj hjl
          as_aux_lemma =>
            go_wp2_with fail
            refine (parses5_any x _ hx2.out hG.out.shp).mono ?_
            rintro e w7 ⟨rfl, hb7⟩
            have H7 := hid (hG.out.below hb7)
            have S7 := hid (hS.out.below hb7)
            clear hb7 hG hS
            go_wp2
            go_roundw
            case rel => exact ⟨k + 1, by omega, by go_num, H7, S7⟩
            case measure => simp [intOf]; omega
    · obtain rfl : k = 4 := by omega
      go_wp2_with fail
      refine (sane5_any _ hG.out.shp).mono ?_
      rintro e wa ⟨rfl, hba⟩
      have hGa := hid (hG.out.below hba)
      clear hba hG
      go_wp2
      go_ret
      exact ⟨rfl, hGa.out.go.2.1⟩
end Go.Proofs.YtlepcgncphikhaaDoor

namespace Go.Proofs.YtlepcgncphikhaaDoor
set_option maxRecDepth 10000
open Go.ChangeShapes Go.WideShapes Go.ChangeAt Go.RowKit Go.Joins

theorem cells3 : Tryd.prog.cellsOf 3 = 1 := by kernel_rfl
theorem cell_in {w : World} {a : Addr} {v : Value} (h : w.cell? a = some v) : a.block < w.heap.size := by
  rcases Nat.lt_or_ge a.block w.heap.size with hlt | hge
  · exact hlt
  · unfold World.cell? at h; rw [Array.getElem?_eq_none hge] at h; cases h

theorem wf_u64 {z : Int} (h : (Lit.int .u64 z).wf = true) : 0 ≤ z ∧ z ≤ 18446744073709551615 := by
  have m0 : IntKind.u64.min = 0 := by decide
  have m1 : IntKind.u64.max = 18446744073709551615 := by decide
  simp [Lit.wf] at h
  omega
theorem open_list {H : Type} {enc : TypeId × Value → H} {W : World} {b0 base : Nat} {spare : Nat → Bool} {held : Bool} {v : Value} {d : DataW H} {p : List MemPlace}
    (hv : Value.okWide Tryd.prog W .any b0 22 v) (h : DataW.Trod enc Tryd.prog W base spare held 22 v d p) :
    ∃ (A : Option Addr) (n c : Nat) (l : List Int), v = .slice A n c ∧ IArg W A n l ∧ n ≤ maxLen := by
  obtain ⟨A, n, c, rfl⟩ := okWide_slice Tryd.underlying22 hv
  obtain ⟨fuel, hf⟩ := h
  rcases open_ints Tryd.underlying22 Tryd.underlying3 cells3 hf with ⟨hcs, _⟩ | ⟨x, l, c', zs, hcs, _, hl, hm, hz, _, hcell, hwz⟩
  · simp [Value.cells] at hcs
    obtain ⟨rfl, rfl, rfl⟩ := hcs
    exact ⟨none, 0, 0, [], rfl, ⟨.inl rfl, rfl⟩, by simp [maxLen]⟩
  · simp [Value.cells] at hcs
    obtain ⟨rfl, rfl, rfl⟩ := hcs
    have hle : n ≤ zs.length := by rw [hz]; split <;> omega
    refine ⟨some x, n, c, zs.take n, rfl, ⟨?_, by rw [List.length_take]; omega⟩, Nat.le_trans hl hm⟩
    by_cases h0 : n = 0
    · subst h0; exact .inl rfl
    · refine .inr ⟨x, rfl, ?_, fun j u hu => ?_⟩
      · have := cell_in (hcell 0 (by omega)); rwa [add_block] at this
      · unfold ints at hu
        rw [List.getElem?_map] at hu
        have hj : j < n := by
          rcases Nat.lt_or_ge j n with h | h
          · exact h
          · rw [List.getElem?_eq_none (by rw [List.length_take]; omega)] at hu; simp at hu
        rw [List.getElem?_take, if_pos hj, List.getElem?_eq_getElem (by omega)] at hu
        have := hcell j (by omega)
        rw [List.getD_eq_getElem?_getD, List.getElem?_eq_getElem (by omega)] at this
        rw [this]; simpa using hu

end Go.Proofs.YtlepcgncphikhaaDoor

namespace Go.Proofs.YtlepcgncphikhaaDoor
set_option maxRecDepth 100000
set_option linter.unusedVariables false
open Go.ChangeShapes Go.WideShapes Go.ChangeAt Go.RowKit

theorem own : ownKnob Tryd.prog.godebug = none := by kernel_rfl
theorem laidOut : laidOutB Tryd.prog = true := by kernel_rfl
theorem gShp : Tryd.prog.globalNamed "flowquery/syntax.shapes" = some 0 := by kernel_rfl
theorem gShpType : (Tryd.prog.globals[0]?).map (·.type) = some 135 := by kernel_rfl
theorem undArr : Tryd.prog.underlying 135 = some (.array 10 134) := by kernel_rfl
theorem undShape : ∃ fs : Array Field, Tryd.prog.underlying 134 = some (.struct fs) ∧ (fs.toList.map fun f => (f.type, f.offset)) = [(9, 0), (4, 1), (3, 2), (3, 3), (3, 4)] := by
  have h : (match Tryd.prog.underlying 134 with | some (.struct fs) => some (fs.toList.map fun f => (f.type, f.offset)) | _ => none) = some [(9, 0), (4, 1), (3, 2), (3, 3), (3, 4)] := by kernel_rfl
  split at h
  · next fs e => exact ⟨fs, e, Option.some.inj h⟩
  · cases h
theorem cArr : Tryd.prog.cellsOf 135 = 50 := by kernel_rfl
theorem cShape : Tryd.prog.cellsOf 134 = 5 := by kernel_rfl
theorem cStr : Tryd.prog.cellsOf 9 = 1 := by kernel_rfl
theorem cBool : Tryd.prog.cellsOf 4 = 1 := by kernel_rfl
theorem cInt : Tryd.prog.cellsOf 3 = 1 := by kernel_rfl
abbrev Sh := List UInt8 × Bool × Int × Int × Int
def dataSh (t : Sh) : DataW Unit := .agg [.lit (.string t.1), .lit (.bool t.2.1), .lit (.int .i64 t.2.2.1), .lit (.int .i64 t.2.2.2.1), .lit (.int .i64 t.2.2.2.2)]
def cellsSh (t : Sh) : List Value := [.string ⟨t.1.toArray⟩, .bool t.2.1, .int .i64 t.2.2.1, .int .i64 t.2.2.2.1, .int .i64 t.2.2.2.2]
def shpT : List Sh := [([], false, 0, 0, 0), ([], true, 0, 4, 0), ([117, 115, 101], false, 1, 4, 0), ([99, 97, 108, 108], false, 0, 0, 1), ([115, 111, 117, 114, 99, 101], true, 0, 0, 0), ([115, 105, 110, 107], false, 1, 1, 0), ([115, 97, 110, 105, 116, 105, 122, 101], true, 0, 0, 0), ([103, 111, 116, 111], false, 0, 0, 1), ([98, 114, 97, 110, 99, 104], false, 1, 1, 2), ([114, 101, 116, 117, 114, 110], false, 0, 0, 0)]
theorem shp_data : (Rows.laid_flowquery_syntax_shapes : DataW Unit) = .agg (shpT.map dataSh) := by kernel_rfl
theorem shp_cells : shpCells = shpT.flatMap cellsSh := by rfl
theorem one_of_drop {cs : List Value} {i : Nat} {v : Value} (h : (cs.drop i).take 1 = [v]) : cs[i]? = some v := by
  have := congrArg (·[0]?) h
  simpa [List.getElem?_take, List.getElem?_drop] using this
theorem shape_of {enc : TypeId × Value → Unit} {w : World} {base : Nat} {sp : Nat → Bool} {held : Bool} {fuel : Nat} {cs : List Value} {t : Sh} {p : List MemPlace}
    (h : DataW.trod enc Tryd.prog w base sp held fuel 134 cs = some (dataSh t, p)) : cs = cellsSh t := by
  obtain ⟨fs, hu, hfs⟩ := undShape
  obtain ⟨xs, n, -, hx, hl, hxl, hf⟩ := DataW.trod_struct hu h
  rw [cShape] at hl
  have hxs : xs.map (·.1) = [.lit (.string t.1), .lit (.bool t.2.1), .lit (.int .i64 t.2.2.1), .lit (.int .i64 t.2.2.2.1), .lit (.int .i64 t.2.2.2.2)] := by
    have := congrArg Prod.fst hx
    unfold dataSh at this
    simpa using this.symm
  have key : ∀ (i : Nat) (ty off : Nat), [((9 : Nat), 0), (4, 1), (3, 2), (3, 3), (3, 4)][i]? = some (ty, off) → Tryd.prog.cellsOf ty = 1 → ∀ d, (xs.map (·.1))[i]? = some d →
      ∃ q, DataW.trod enc Tryd.prog w base sp held n ty ((cs.drop off).take 1) = some (d, q) := by
    intro i ty off hi hc d hd
    have h1 := congrArg (·[i]?) hfs
    try simp only at h1
    rw [hi, List.getElem?_map] at h1
    obtain ⟨f, hf1, hf2⟩ := Option.map_eq_some_iff.1 h1
    injection hf2 with e1 e2
    have h2 := hf i f (by simpa using hf1)
    rw [e1, e2, hc] at h2
    rw [List.getElem?_map] at hd
    obtain ⟨x, hx1, hx2⟩ := Option.map_eq_some_iff.1 hd
    rw [hx1] at h2
    subst hx2
    exact ⟨x.2, h2⟩
  obtain ⟨q0, k0⟩ := key 0 9 0 rfl cStr _ (by rw [hxs]; rfl)
  obtain ⟨q1, k1⟩ := key 1 4 1 rfl cBool _ (by rw [hxs]; rfl)
  obtain ⟨q2, k2⟩ := key 2 3 2 rfl cInt _ (by rw [hxs]; rfl)
  obtain ⟨q3, k3⟩ := key 3 3 3 rfl cInt _ (by rw [hxs]; rfl)
  obtain ⟨q4, k4⟩ := key 4 3 4 rfl cInt _ (by rw [hxs]; rfl)
  obtain ⟨s, c0, d0, -⟩ := DataW.trod_string Tryd.underlying9 k0
  obtain ⟨bb, c1, d1⟩ := DataW.trod_bool Tryd.underlying4 k1
  obtain ⟨z2, c2, d2, -⟩ := DataW.trod_int Tryd.underlying3 k2
  obtain ⟨z3, c3, d3, -⟩ := DataW.trod_int Tryd.underlying3 k3
  obtain ⟨z4, c4, d4, -⟩ := DataW.trod_int Tryd.underlying3 k4
  have g0 := one_of_drop c0
  have g1 := one_of_drop c1
  have g2 := one_of_drop c2
  have g3 := one_of_drop c3
  have g4 := one_of_drop c4
  simp only [Prod.mk.injEq, DataW.lit.injEq, Lit.string.injEq, Lit.bool.injEq, Lit.int.injEq, true_and] at d0 d1 d2 d3 d4
  have es : s = ⟨t.1.toArray⟩ := ext_list (by simpa using d0.1.symm)
  have hc : cellsSh t = [.string s, .bool bb, .int .i64 z2, .int .i64 z3, .int .i64 z4] := by
    unfold cellsSh
    rw [es, d1.1, d2.1, d3.1, d4.1]
  rw [hc]
  apply List.ext_getElem?
  intro i
  match i with
  | 0 => exact g0
  | 1 => exact g1
  | 2 => exact g2
  | 3 => exact g3
  | 4 => exact g4
  | i + 5 => rw [List.getElem?_eq_none (by omega), List.getElem?_eq_none (by simp)]
theorem cells_of_shp {enc : TypeId × Value → Unit} {w : World} {base : Nat} {sp : Nat → Bool} {held : Bool} {fuel : Nat} {cs : List Value} {p : List MemPlace}
    (h : DataW.trod enc Tryd.prog w base sp held fuel 135 cs = some (.agg (shpT.map dataSh), p)) : cs = shpT.flatMap cellsSh := by
  cases fuel with
  | zero => simp [DataW.trod] at h
  | succ fuel =>
    unfold DataW.trod at h
    rw [undArr] at h
    try simp only at h
    rw [cShape, cArr] at h
    split at h
    · rename_i hl
      obtain ⟨xs, hm, hx⟩ := Option.map_eq_some_iff.1 h
      have hxs : xs.map (·.1) = shpT.map dataSh := by
        have := congrArg Prod.fst hx
        simpa using this
      have hlen : (shpT.flatMap cellsSh).length = 50 := by rw [flat_len (k := 5) (fun _ => rfl)]; rfl
      apply List.ext_getElem?
      intro j
      by_cases hj : j < 50
      · have hi : j / 5 < 10 := by omega
        obtain ⟨b, hb, hf⟩ := Lib.mapM_at hm (j / 5) (j / 5) (by simp [hi])
        have h1 := congrArg (·[j / 5]?) hxs
        simp only [List.getElem?_map, hb, Option.map_some] at h1
        have hti : shpT[j / 5]? = some (shpT[j / 5]'(by show j / 5 < 10; exact hi)) := List.getElem?_eq_getElem _
        rw [hti] at h1
        simp only [Option.map_some, Option.some.injEq] at h1
        obtain ⟨b1, b2⟩ := b
        try simp only at h1
        subst h1
        have hc := shape_of hf
        have hr : j % 5 < 5 := Nat.mod_lt _ (by omega)
        have h2 : (cellsSh (shpT[j / 5]'(by show j / 5 < 10; exact hi)))[j % 5]? = cs[j]? := by
          rw [← hc, List.getElem?_take, List.getElem?_drop, if_pos hr]
          congr 1
          omega
        cases h3 : cs[j]? with
        | none =>
          rw [List.getElem?_eq_none_iff] at h3
          omega
        | some u =>
          rw [h3] at h2
          have := flat_get (f := cellsSh) (k := 5) (fun _ => rfl) shpT hti h2
          rw [show j / 5 * 5 + j % 5 = j by omega] at this
          exact this.symm
      · rw [List.getElem?_eq_none (by omega), List.getElem?_eq_none (by omega)]
    · cases h

theorem wf_u8 {z : Int} (h : (Lit.int .u8 z).wf = true) : 0 ≤ z ∧ z < 256 := by
  have m0 : IntKind.u8.min = 0 := by decide
  have m1 : IntKind.u8.max = 255 := by decide
  simp [Lit.wf] at h
  omega
/-- The rows' list. -/
def listS1 : List (String × DataW Unit) := Rows.syntaxParsesRow.laid
theorem shp_of {W : World} {n1 : String} {d1 : DataW Unit} {rest : List (String × DataW Unit)} (h : laidMet Tryd.prog ((n1, d1) :: rest) W) (hn : n1 = "flowquery/syntax.shapes") (hd : d1 = .agg (shpT.map dataSh)) : Shp W := by
  subst hn; subst hd
  obtain ⟨ps, ⟨g0, t0, cs0, f0, p0, q0, hg0, ht0, hv0, hd0, _, _⟩, _, _⟩ := h
  obtain rfl := Option.some.inj (gShp.symm.trans hg0)
  obtain rfl := Option.some.inj (gShpType.symm.trans ht0)
  have hc := cells_of_shp hd0
  intro j u hu
  rw [shp_cells, ← hc] at hu
  have := World.var?_cell gShp hv0 j
  rw [this]
  simpa using hu
theorem shp1 {W : World} (h : laidMetH Tryd.prog listS1 W) : Shp W := shp_of h rfl shp_data

/-- The heap that the program's own start leaves. -/
noncomputable def door (os : Os) : World := World.doorLaid Tryd.prog 400 os
theorem door_met (os : Os) (args : Array Value) : laidMet Tryd.prog listS1 ((door os).forCall (fun _ _ => 0) ⟨#[], args, []⟩).memory :=
  laidMet_of_run' 8 (by kernel_rfl) (by kernel_rfl)
theorem door_vars (os : Os) (args : Array Value) : ((door os).forCall (fun _ _ => 0) ⟨#[], args, []⟩).variablesRefB Tryd.prog = true := by kernel_rfl
theorem door_rest (os : Os) (args : Array Value) : (((door os).forCall (fun _ _ => 0) ⟨#[], args, []⟩).heap.toList.drop Tryd.prog.globals.size).take ((begin Tryd.prog (fun _ _ => 0) default).world.heap.size - Tryd.prog.globals.size) =
    (begin Tryd.prog (fun _ _ => 0) default).world.heap.toList.drop Tryd.prog.globals.size := by kernel_rfl
end Go.Proofs.YtlepcgncphikhaaDoor

namespace Go.Proofs.YtlepcgncphikhaaDoor.syntaxSpoils
set_option maxRecDepth 100000
open Go.ChangeShapes Go.WideShapes Go.ChangeAt Go.RowKit
open Go.ChangeMaps (open_string)
set_option linter.unusedVariables false

theorem reads (os : Os) {H : Type} (enc : TypeId × Value → H) : ∃ places, DataW.whole enc Tryd.prog ((door os).forCall (fun _ _ => 0) ⟨#[], #[.slice none 0 0], []⟩).memory Tryd.f5.params.toList Rows.syntaxSpoilsSpec.vars false (#[.slice none 0 0] : Array Value).toList 8 = some ([.nil], [], places) :=
  ⟨[], by kernel_rfl⟩

theorem lifted (os : Os) (started : os.Started) (H : Type) (enc : TypeId × Value → H) (F : Stop.Interp) :
    ReturnsInHanded {} Tryd.checked os 5 .any ((OpenSpec.ofChange Rows.syntaxSpoilsSpec).preRow enc Tryd.prog Tryd.f5 Rows.syntaxSpoilsRow.domain false Rows.syntaxSpoilsRow.laid) (((OpenSpec.ofChange Rows.syntaxSpoilsSpec).at F).post enc Tryd.prog Tryd.f5 false true false false) := by
  obtain ⟨places, hx⟩ := reads os enc
  refine returnsInHanded_of_row (C := Tryd.checked) (s := OpenSpec.ofChange Rows.syntaxSpoilsSpec) own started (by kernel_rfl) Tryd.func5
    (witness_row_atRef (enc := enc) (C := Tryd.checked) false (door os) #[.slice none 0 0] rfl (door_vars os _) (door_rest os _) (by kernel_rfl)
      (OpenSpec.preRow_of_cond 8 hx (by kernel_rfl) (fun k hk => by cases hk) (by kernel_rfl) (door_met os _))) ?_
  intro W base args ds gs before hval0 hW _ _ _ hL hsh _
  have hval : ∀ (j : Nat) t v, Tryd.f5.params[j]? = some t → args[j]? = some v → Value.okWide Tryd.prog W .any base t v := hval0
  have hW' := hW
  obtain ⟨p, q, hA0, hV, rfl, hfz, hnd⟩ := hW
  have hA : DataW.TrodAll enc Tryd.prog W 0 (fun _ => true) true Tryd.f5.params.toList args.toList ds p := hA0
  rw [Tryd.params5] at hA hval
  obtain ⟨v0, vs0, d0, ds0, p0, q0, hargs, rfl, rfl, h0, r0⟩ := trodAll_cons hA
  obtain ⟨rfl, rfl, rfl⟩ := trodAll_nil r0
  obtain rfl : args = #[v0] := by cases args; simp_all
  obtain ⟨rfl, rfl⟩ := trodVars_none hV
  have k0 := h0
  have lt0 : ∀ x ∈ p0, x.block < W.heap.size := by obtain ⟨m, hm⟩ := k0; exact DataW.trod_lt m _ _ _ hm
  obtain ⟨a0, n0, c0, l0, rfl, g0, m0⟩ := open_list (hval 0 22 v0 rfl rfl) h0
  clear hA0 hval0
  refine (lawSpoils a0 n0 c0 l0 W g0 m0 (shp1 hL)).mono fun e W' ⟨he, bel⟩ => ?_
  subst he
  exact ⟨_, rfl, _, _, _, [], _, [], hW', trodAll_mk1 (shut_bool Tryd.underlying4 _), (trodAll_cons_mk (Below.trod laidOut (by kernel_rfl) (of_decide_eq_true (by kernel_rfl)) k0 bel lt0) trodAll_mk0), rfl, bel.frame _, fun h => by cases h⟩

theorem said : Rows.SyntaxSpoilsSaid :=
  OpenClaim.holds_of_cond 5 Tryd.f5 rfl rfl rfl rfl rfl rfl rfl ⟨rfl, rfl, rfl, rfl, rfl⟩ rfl rfl rfl rfl rfl (by kernel_rfl) Tryd.func5 (by kernel_rfl)
    (of_decide_eq_true (by kernel_rfl)) (by unfold Func.isWrapper; first | (rw [if_pos (by decide +kernel)]; kernel_rfl) | (rw [if_neg (by decide +kernel)]; exact ⟨rfl, rfl⟩))
    (fun os started H enc _ F => by rw [OpenClaim.pre_eq_preRow]; exact lifted os started H enc F)

theorem plain (f : FuncId) (fn : Func) (hf : Tryd.pinned.checked.prog.funcNamed "flowquery/flqlaw5.SyntaxSpoils" = some f) (hfn : Tryd.pinned.checked.prog.funcs[f]? = some fn) :
    false = Tryd.pinned.checked.prog.looks [] ∧ ∀ (j : Nat) t, fn.params[j]? = some t → Tryd.pinned.checked.prog.wantsStandIn t = false := by
  obtain rfl : f = 5 := Option.some.inj ((show Tryd.prog.funcNamed "flowquery/flqlaw5.SyntaxSpoils" = some 5 by kernel_rfl).symm.trans hf) |>.symm
  obtain rfl : fn = Tryd.f5 := (Option.some.inj (Tryd.func5.symm.trans hfn)).symm
  refine ⟨by kernel_rfl, fun j t ht => ?_⟩
  rw [Tryd.params5] at ht
  have hm : t ∈ [22] := by simpa using Array.mem_of_getElem? ht
  have hall : ([22].all fun u => !Tryd.prog.wantsStandIn u) = true := by kernel_rfl
  exact (show Tryd.prog.wantsStandIn t = false by simpa using List.all_eq_true.1 hall t hm)

theorem proved : Rows.SyntaxSpoilsCardSaid :=
  Claim7.holds_tied_plain_at .later [] _ _ _ _ said (fun _ h => by cases h) (by kernel_rfl) (fun _ h => by cases h) syntaxSpoils_row_tie rfl ⟨rfl, rfl⟩ (by kernel_rfl) rfl plain (by kernel_rfl)
#print axioms proved
end Go.Proofs.YtlepcgncphikhaaDoor.syntaxSpoils
