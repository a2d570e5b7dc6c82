/- Part 1 of the texts that YtopkmeceakjocaaConeAll leans on. -/
import Derived.Test.YtopkmeceakjocaaGen2
import Derived.Test.YtopkmeceakjocaaSym
import Derived.Test.YtopkmeceakjocaaProg
import Derived.Orders
import Derived.RegionTactic
import Derived.Test.YtopkmeceakjocaaEq4
import Derived.Deep.RegionHeld3
import Derived.Test.YtopkmeceakjocaaWbm
import Derived.Test.YtopkmeceakjocaaEq2
import Derived.Test.YtopkmeceakjocaaCnp
import Derived.Test.YtopkmeceakjocaaBlr
import Derived.Deep.DeepCutAuto
import Derived.Deep.DeepMust
import Derived.Deep.AppendLies
import Derived.Lib.LazyBuf
import Derived.Deep.QuietTactic
import Derived.BigQuiet
import Derived.Test.YtopkmeceakjocaaPut
namespace Go.Proofs.Ytopkmeceakjocaa
set_option maxRecDepth 20000
open Go.ChangeShapes Go.WideShapes Go.ChangeAt Go.RowKit

/-- A valid function of width W came back, its words and copies in rows of the call's own; nothing but the tape has changed. -/
def GenT3 (w : World) (T W : Nat) (e : Ending) (w' : World) : Prop :=
  ∃ (g1 g2 b0 : Nat) (C : Option Addr) (k q : Nat) (gs ks : List Nat) (cs : List (Int × Int)),
    e = .returned (.agg #[.int .i64 W, .slice (some ⟨g1, 0, none⟩) (Bs.nw W) (Bs.nw W), .int .i64 W, .slice (some ⟨g2, 0, none⟩) (Bs.nw W) (Bs.nw W), .slice C k q]) ∧ (Row w' g1 gs ∧ Bs.Fit W gs ∧ w.heap.size ≤ g1) ∧ (Row w' g2 ks ∧ Bs.Fit W ks ∧ w.heap.size ≤ g2) ∧ (w'.ownsRow b0 89 2 (.slice C k q) k (pairs cs) ∧ w.heap.size ≤ b0 ∧ cs.length = k) ∧ validT W gs W ks cs = true ∧ cs.length ≤ 12 ∧ Tape w' T ∧ w.grownBy w' (some T)

/-- The whole variable is stored into the result's cell. -/
theorem Gening.done3 {w wr : World} {T b W : Nat} {cs : List (Int × Int)} (h : Gening w T b W cs wr) (hW : W ≤ 256) (hu : Upto W cs W 0) (h12 : cs.length ≤ 12) :
    ∃ (g1 g2 : Nat) (C : Option Addr) (q : Nat), (wr.cell? ⟨b, 0, none⟩ = some (.int .i64 W) ∧ wr.cell? ⟨b, 1, none⟩ = some (.slice (some ⟨g1, 0, none⟩) (Bs.nw W) (Bs.nw W)) ∧ wr.cell? ⟨b, 2, none⟩ = some (.int .i64 W) ∧ wr.cell? ⟨b, 3, none⟩ = some (.slice (some ⟨g2, 0, none⟩) (Bs.nw W) (Bs.nw W)) ∧ wr.cell? ⟨b, 4, none⟩ = some (.slice C cs.length q)) ∧
    ((wr.cell? ⟨w.heap.size, 0, none⟩ = some (.int .i64 0) ∧ wr.cell? ⟨w.heap.size, 1, none⟩ = some (.slice none 0 0) ∧ wr.cell? ⟨w.heap.size, 2, none⟩ = some (.int .i64 0) ∧ wr.cell? ⟨w.heap.size, 3, none⟩ = some (.slice none 0 0) ∧ wr.cell? ⟨w.heap.size, 4, none⟩ = some (.slice none 0 0)) ∧
     (wr.frozen? ⟨w.heap.size, 0, none⟩ = false ∧ wr.frozen? ⟨w.heap.size, 1, none⟩ = false ∧ wr.frozen? ⟨w.heap.size, 2, none⟩ = false ∧ wr.frozen? ⟨w.heap.size, 3, none⟩ = false ∧ wr.frozen? ⟨w.heap.size, 4, none⟩ = false)) ∧ w.heap.size < wr.heap.size ∧
    GenT3 w T W (.returned (.agg #[.int .i64 W, .slice (some ⟨g1, 0, none⟩) (Bs.nw W) (Bs.nw W), .int .i64 W, .slice (some ⟨g2, 0, none⟩) (Bs.nw W) (Bs.nw W), .slice C cs.length q]))
      (((((wr.setCell ⟨w.heap.size, 0, none⟩ (.int .i64 W)).setCell ⟨w.heap.size, 1, none⟩ (.slice (some ⟨g1, 0, none⟩) (Bs.nw W) (Bs.nw W))).setCell ⟨w.heap.size, 2, none⟩ (.int .i64 W)).setCell ⟨w.heap.size, 3, none⟩ (.slice (some ⟨g2, 0, none⟩) (Bs.nw W) (Bs.nw W))).setCell ⟨w.heap.size, 4, none⟩ (.slice C cs.length q)) := by
  obtain ⟨g1, g2, gs, ks, C, q, h1, ⟨h2, h3, h4⟩, ⟨h5, h6, h7⟩, h8, h9, h10, h11, h12', h13⟩ := h
  refine ⟨g1, g2, C, q, h1.five, ⟨h9.five, h9.frozen 0, h9.frozen 1, h9.frozen 2, h9.frozen 3, h9.frozen 4⟩, h9.lt, ?_⟩
  have n1 := h9.row_ne (by decide) h2
  have n2 := h9.row_ne (by decide) h5
  have r1 : ∀ {wx : World} (j : Nat) (u : Value), Row wx g1 gs → Row (wx.setCell ⟨w.heap.size, j, none⟩ u) g1 gs := fun j u h => h.far n1 u
  have r2 : ∀ {wx : World} (j : Nat) (u : Value), Row wx g2 ks → Row (wx.setCell ⟨w.heap.size, j, none⟩ u) g2 ks := fun j u h => h.far n2 u
  have kc : ∀ {wx : World} (j : Nat) (u : Value), Cops wx (b + 1) (.slice C cs.length q) cs → Cops (wx.setCell ⟨w.heap.size, j, none⟩ u) (b + 1) (.slice C cs.length q) cs := fun {wx} j u hx =>
    World.ownsRow.kept hx (setCell_grown wx _ u) (by
      cases hv : (Value.slice C cs.length q).ownBlock with
      | none => exact .inl rfl
      | some k => exact .inr (by have := own_base hx k hv; simp only [ne_eq, Option.some.injEq]; omega))
  have kt : ∀ {wx : World} (j : Nat) (u : Value), Tape wx T → Tape (wx.setCell ⟨w.heap.size, j, none⟩ u) T := fun j u h => h.far (by simp; omega) u
  have kg : ∀ {wx : World} (j : Nat) (u : Value), w.grownBy wx (some T) → w.grownBy (wx.setCell ⟨w.heap.size, j, none⟩ u) (some T) := fun j u h => grown_set_new h (by simp) u
  have e1 := r1 4 (.slice C cs.length q) (r1 3 (.slice (some ⟨g2, 0, none⟩) (Bs.nw W) (Bs.nw W)) (r1 2 (.int .i64 W) (r1 1 (.slice (some ⟨g1, 0, none⟩) (Bs.nw W) (Bs.nw W)) (r1 0 (.int .i64 W) h2))))
  have e2 := r2 4 (.slice C cs.length q) (r2 3 (.slice (some ⟨g2, 0, none⟩) (Bs.nw W) (Bs.nw W)) (r2 2 (.int .i64 W) (r2 1 (.slice (some ⟨g1, 0, none⟩) (Bs.nw W) (Bs.nw W)) (r2 0 (.int .i64 W) h5))))
  have e3 := kc 4 (.slice C cs.length q) (kc 3 (.slice (some ⟨g2, 0, none⟩) (Bs.nw W) (Bs.nw W)) (kc 2 (.int .i64 W) (kc 1 (.slice (some ⟨g1, 0, none⟩) (Bs.nw W) (Bs.nw W)) (kc 0 (.int .i64 W) h8))))
  refine ⟨g1, g2, b + 1, C, cs.length, q, gs, ks, cs, rfl, ⟨e1, h3, h4⟩, ⟨e2, h6, h7⟩, ⟨e3, by omega, rfl⟩, ?_, h12, kt _ _ (kt _ _ (kt _ _ (kt _ _ (kt _ _ h11)))), kg _ _ (kg _ _ (kg _ _ (kg _ _ (kg _ _ h13))))⟩
  unfold validT
  rw [Bs.valid_of_fit h3 hW, Bs.valid_of_fit h6 hW]
  simp only [decide_true, Bool.true_and, Bool.and_eq_true, decide_eq_true_eq, List.all_eq_true, List.mem_range]
  exact ⟨by omega, hu.1⟩

set_option maxHeartbeats 1600000 in
theorem transfer3_any (T W : Nat) (w : World) (ht : Tape w T) (hW : W ≤ 16) : Calls Try.prog 29 #[.pointer (some ⟨T, 0, none⟩), .int .i64 W] w (GenT3 w T W) := by
  obtain ⟨i0, hi, hz0, hz1, hz2⟩ := info_parts info35
  have Hi := hid hi; have Hz0 := hid hz0; have Hz1 := hid hz1; have Hz2 := hid hz2
  have Ht := hid ht
  have hTl := ht.lt
  have HR := hid (Fb.new w #[.int .i64 0, .slice none 0 0, .int .i64 0, .slice none 0 0, .slice none 0 0] 61)
  have HB := hid ((Below.refl w.heap.size w).alloc (Nat.le_refl _) (.cells #[.int .i64 0, .slice none 0 0, .int .i64 0, .slice none 0 0, .slice none 0 0] 61))
  clear ht hi hz0 hz1 hz2
  go_enter Try.func29, Try.ntmps29
  go_wp2_with fail
  refine (refEmpty_any W _ (by omega)).mono ?_
  rintro e w2 ⟨g1, rfl, hg1, hrow1, hb2⟩
  rw [len_emp]
  rw [World.size_alloc] at hg1
  have HR2 := hid (HR.out.below hb2 (by simp))
  have HB2 := hid (HB.out.trans (hb2.mono (by simp)))
  have Hr1 := hid hrow1
  clear hrow1 hb2 HR HB
  go_wp2_with fail
  refine (refEmpty_any W _ (by omega)).mono ?_
  rintro e w3 ⟨g2, rfl, hg2, hrow2, hb3⟩
  rw [len_emp]
  have hlt2 := HR2.out.lt
  have HR3 := hid (HR2.out.below hb3 HR2.out.lt)
  have HB3 := hid (HB2.out.trans (hb3.mono HB2.out.size))
  have Hr3 := hid (Hr1.out.below hb3 Hr1.out.lt)
  have Hr2 := hid hrow2
  have hlt3 := HR3.out.lt
  clear hrow2 hb3 HR2 HB2 Hr1
  have Hst := hid (show Gening w T w3.heap.size W [] (w3.alloc (.cells #[.int .i64 W, .slice (some ⟨g1, 0, none⟩) (Bs.nw W) (Bs.nw W), .int .i64 W, .slice (some ⟨g2, 0, none⟩) (Bs.nw W) (Bs.nw W), .slice none 0 0] 61)) from
    ⟨g1, g2, Bs.emp W, Bs.emp W, none, 0, Fb.new _ _ _, ⟨Hr3.out.alloc _, Bs.fit_emp W, by omega⟩, ⟨Hr2.out.alloc _, Bs.fit_emp W, by omega⟩, World.ownsRow_nil _ _ _ _, HR3.out.alloc _, hlt3, (Ht.out.below HB3.out hTl).alloc _, hTl, grown_of_below (HB3.out.alloc HB3.out.size _) _⟩)
  go_wp2_with fail
  generalize w3.alloc (.cells #[.int .i64 W, .slice (some ⟨g1, 0, none⟩) (Bs.nw W) (Bs.nw W), .int .i64 W, .slice (some ⟨g2, 0, none⟩) (Bs.nw W) (Bs.nw W), .slice none 0 0] 61) = wv at *
  generalize w3.heap.size = b at *
  clear HR3 HB3 Hr3 Hr2
  go_loopw [6] (fun i wr => ∃ k : Nat, k ≤ W ∧ i = .int .i64 k ∧ Hid (Gening w T b W [] wr)) (fun i _ => W - (intOf i).toNat)
  case atStart => exact ⟨0, by omega, rfl, Hst⟩
  case round =>
    obtain ⟨k, hk, rfl, hG⟩ := hrel
    clear Hst
    by_cases hlt : k < W
    · have Htt := hid (show Tape wr T from by obtain ⟨_, _, _, _, _, _, _, _, _, _, _, _, h, _⟩ := hG.out; exact h)
      go_wp2_with fail
      refine (next_any T 6 _ Htt.out (by omega)).mono ?_
      rintro e w4 ⟨r4, rfl, h40, h41, ht4, hg4, hs4⟩
      have HG4 := hid (hG.out.tape ht4 hg4)
      clear h41 ht4 hg4 hs4 Htt hG
      by_cases h1 : r4 = 1
      · have t : (r4 == 1) = true := by simp [h1]
        obtain ⟨x1, x2, gs, ks, C, q, p1, ⟨p2, p3, p4⟩, ⟨p5, p6, p7⟩, p8⟩ := HG4.out
        obtain ⟨c0, c1, c2, c3, c4⟩ := p1.five
        have Ha := hid (show Arg w4 (some ⟨x1, 0, none⟩) (Bs.nw W) gs from ⟨(p2.arg p3.ok).lies, p3.len, p3.ok⟩)
        have Hf := hid p3
        clear h1 p1 p2 p3 p5 p6 p8 p4 p7
        go_wp2_with fail
        refine (refPut_any W _ _ _ gs k _ Ha.out (by omega) Hf.out.len hlt).mono ?_
        rintro e w5 ⟨g5, rfl, hg5, hr5, hb5⟩
        rw [show (Bs.put gs k).length = Bs.nw W from by rw [Bs.length_put]; exact Hf.out.len]
        obtain ⟨⟨v0, v1, m0, m1, f0, f1⟩, hfin⟩ := HG4.out.gen (Bs.fit_put Hf.out hlt) hg5 hr5 hb5
        have Hfin := hid hfin
        clear hfin hr5 hb5 c0 c1 c2 c3 c4
        go_wp2_with fail
        go_roundw
        case rel => exact ⟨k + 1, by omega, by go_num, Hfin⟩
        case measure => simp [intOf]; omega
      · have t : (r4 == 1) = false := by simp [h1]
        clear h1
        have hthree : (r4 = 2) ∨ (r4 ≠ 2 ∧ r4 = 3) ∨ (r4 ≠ 2 ∧ r4 ≠ 3) := by omega
        rcases hthree with h2 | ⟨h2, h3⟩ | ⟨h2, h3⟩
        · have t2 : (r4 == 2) = true := by simp [h2]
          obtain ⟨x1, x2, gs, ks, C, q, p1, ⟨p2, p3, p4⟩, ⟨p5, p6, p7⟩, p8⟩ := HG4.out
          obtain ⟨c0, c1, c2, c3, c4⟩ := p1.five
          have Ha := hid (show Arg w4 (some ⟨x2, 0, none⟩) (Bs.nw W) ks from ⟨(p5.arg p6.ok).lies, p6.len, p6.ok⟩)
          have Hf := hid p6
          clear h2 p1 p2 p3 p5 p6 p8 p4 p7
          go_wp2_with fail
          refine (refPut_any W _ _ _ ks k _ Ha.out (by omega) Hf.out.len hlt).mono ?_
          rintro e w5 ⟨g5, rfl, hg5, hr5, hb5⟩
          rw [show (Bs.put ks k).length = Bs.nw W from by rw [Bs.length_put]; exact Hf.out.len]
          obtain ⟨⟨v0, v1, m0, m1, f0, f1⟩, hfin⟩ := HG4.out.kill (Bs.fit_put Hf.out hlt) hg5 hr5 hb5
          have Hfin := hid hfin
          clear hfin hr5 hb5 c0 c1 c2 c3 c4
          go_wp2_with fail
          go_roundw
          case rel => exact ⟨k + 1, by omega, by go_num, Hfin⟩
          case measure => simp [intOf]; omega
        · have t2 : (r4 == 2) = false := by simp [h2]
          have t3 : (r4 == 3) = true := by simp [h3]
          obtain ⟨x1, x2, gs, ks, C, q, p1, ⟨p2, p3, p4⟩, ⟨p5, p6, p7⟩, p8⟩ := HG4.out
          obtain ⟨c0, c1, c2, c3, c4⟩ := p1.five
          have Ha := hid (show Arg w4 (some ⟨x2, 0, none⟩) (Bs.nw W) ks from ⟨(p5.arg p6.ok).lies, p6.len, p6.ok⟩)
          have Hf := hid p6
          clear h2 h3 p1 p2 p3 p5 p6 p8 p4 p7
          go_wp2_with fail
          refine (refPut_any W _ _ _ ks k _ Ha.out (by omega) Hf.out.len hlt).mono ?_
          rintro e w5 ⟨g5, rfl, hg5, hr5, hb5⟩
          rw [show (Bs.put ks k).length = Bs.nw W from by rw [Bs.length_put]; exact Hf.out.len]
          obtain ⟨⟨v0, v1, m0, m1, f0, f1⟩, hfin⟩ := HG4.out.kill (Bs.fit_put Hf.out hlt) hg5 hr5 hb5
          have Hfin := hid hfin
          clear hfin hr5 hb5 c0 c1 c2 c3 c4
          go_wp2_with fail
          go_roundw
          case rel => exact ⟨k + 1, by omega, by go_num, Hfin⟩
          case measure => simp [intOf]; omega
        · have t2 : (r4 == 2) = false := by simp [h2]
          have t3 : (r4 == 3) = false := by simp [h3]
          clear h2 h3
          go_wp2_with fail
          go_roundw
          case rel => exact ⟨k + 1, by omega, by go_num, HG4⟩
          case measure => simp [intOf]; omega
    · have hkW : W = k := by omega
      subst hkW
      clear hk
      go_wp2_with fail
      go_loopw [7, 8] (fun i _ wr => ∃ a : Nat, a ≤ W ∧ i = .int .i64 a ∧ Hid (∃ cs : List (Int × Int), Gening w T b W cs wr ∧ Upto W cs a 0 ∧ cs.length ≤ 12)) (fun i _ _ => W - (intOf i).toNat)
      case atStart => exact ⟨0, by omega, rfl, [], hG.out, ⟨fun i hi => by simp at hi, fun p hp => by simp at hp⟩, by simp⟩
      case round =>
        clear hG
        obtain ⟨a, ha, rfl, hG⟩ := hrel
        by_cases hla : a < W
        · go_wp2_with fail
          go_loopw [8] (fun i wr => ∃ c : Nat, c ≤ W ∧ i = .int .i64 c ∧ Hid (∃ cs : List (Int × Int), Gening w T b W cs wr ∧ Upto W cs a c ∧ cs.length ≤ 12)) (fun i _ => W - (intOf i).toNat)
          case atStart => exact ⟨0, by omega, rfl, hG⟩
          case round =>
            clear hG
            obtain ⟨c, hc, rfl, hG⟩ := hrel
            by_cases hlc : c < W
            · obtain ⟨cs, hG1, hU, h12⟩ := hG.out
              obtain ⟨C, q, c4, f4, hC, hbl, hpush⟩ := hG1.slice
              have Htt := hid (show Tape wr T from by obtain ⟨_, _, _, _, _, _, _, _, _, _, _, _, h, _⟩ := hG1; exact h)
              have HG1 := hid hG1; have HU := hid hU
              clear hG1 hU hG hC hpush f4
              by_cases hl : cs.length < 12
              · go_wp2_with fail
                refine (next_any T (2 * (W : Int)) _ Htt.out (by omega)).mono ?_
                rintro e w4 ⟨r4, rfl, h40, h41, ht4, hg4, hs4⟩
                have HG4 := hid (HG1.out.tape ht4 hg4)
                clear h41 ht4 hg4 hs4 Htt HG1 c4
                by_cases h1 : r4 = 1
                · have t : (r4 == 1) = true := by simp [h1]
                  clear h1
                  obtain ⟨C, q, c4, f4, hC, hbl4, hpush⟩ := HG4.out.slice
                  have HC := hid hC; have Hpush := hid hpush
                  clear hC hpush
                  go_wp2_with (first
                    | (at_builtin
                       refine wpList_append_own _ rfl _ _ 59 rfl (b + 1) 89 i0 _ 2 16 Try.underlying59 Hi.out Hz0.out Hz1.out Hz2.out rfl (by decide) (.slice C cs.length q) cs.length (pairs cs) rfl (HC.out.alloc _) ⟨w4.heap.size, 0, none⟩ 1 1 [.int .i64 (a : Int), .int .i64 (c : Int)] rfl rfl (two_new _ _ _ _) (by intro u hu; simp at hu; rcases hu with rfl | rfl <;> rfl) (by unfold maxLen; omega) (by omega) (by rw [World.size_alloc]; omega) ?_
                       intro v' w3 hown3 hgr3 hnil3
                       obtain ⟨C3, q3, rfl, ⟨y0, y1⟩, hK3⟩ := Hpush.out _ _ _ _ _ hown3 hgr3
                       have HK3 := hid hK3
                       clear hown3 hgr3 hnil3 hK3))
                  go_roundw
                  case rel => exact ⟨c + 1, by omega, by go_num, _, HK3.out, HU.out.push hla hlc, by rw [List.length_append, List.length_singleton]; omega⟩
                  case measure => simp [intOf]; omega
                · have t : (r4 == 1) = false := by simp [h1]
                  clear h1
                  go_wp2_with fail
                  go_roundw
                  case rel => exact ⟨c + 1, by omega, by go_num, cs, HG4.out, HU.out.step, h12⟩
                  case measure => simp [intOf]; omega
              · go_wp2_with fail
                go_roundw
                case rel => exact ⟨a + 1, by omega, by go_num, cs, HG1.out, (show Upto W cs ((a + 1 : Nat) : Int) 0 from by have := HU.out.row; exact this), h12⟩
                case measure => simp [intOf]; omega
            · obtain ⟨cs, hG1, hU, h12⟩ := hG.out
              have HG1 := hid hG1; have HU := hid hU
              clear hG1 hU hG
              go_wp2_with fail
              go_roundw
              case rel => exact ⟨a + 1, by omega, by go_num, cs, HG1.out, (show Upto W cs ((a + 1 : Nat) : Int) 0 from by have := HU.out.row; exact this), h12⟩
              case measure => simp [intOf]; omega
        · have haW : W = a := by omega
          subst haW
          obtain ⟨cs, hG1, hU, h12⟩ := hG.out
          obtain ⟨g1', g2', C, q, ⟨c0, c1, c2, c3, c4⟩, ⟨⟨r0, r1, r2, r3, r4⟩, f0, f1, f2, f3, f4⟩, hlR, hfin⟩ := hG1.done3 (by omega) hU h12
          have Hfin := hid hfin
          clear hfin hG1 hU h12 hG
          go_wp2_with fail
          refine bodyPost_ret (v := .agg #[.int .i64 W, .slice (some ⟨g1', 0, none⟩) (Bs.nw W) (Bs.nw W), .int .i64 W, .slice (some ⟨g2', 0, none⟩) (Bs.nw W) (Bs.nw W), .slice C cs.length q]) (by simp [results, Try.results29, go_sem, r0, r1, r2, r3, r4]) rfl ?_
          exact Hfin.out
/-- A valid set of width W came back, its words in a row of the call's own. -/
def GenS3 (w : World) (T W : Nat) (e : Ending) (w' : World) : Prop :=
  ∃ (g : Nat) (ws : List Nat), e = .returned (.agg #[.int .i64 W, .slice (some ⟨g, 0, none⟩) (Bs.nw W) (Bs.nw W)]) ∧ Bs.Fit W ws ∧ Row w' g ws ∧ w.heap.size ≤ g ∧ Tape w' T ∧ w.grownBy w' (some T)
set_option maxHeartbeats 1600000 in
theorem set3_any (T W : Nat) (w : World) (ht : Tape w T) (hW : W ≤ 256) : Calls Try.prog 24 #[.pointer (some ⟨T, 0, none⟩), .int .i64 W] w (GenS3 w T W) := by
  have Ht := hid ht
  have hTl := ht.lt
  clear ht
  go_enter Try.func24, Try.ntmps24
  go_wp2_with fail
  refine (refEmpty_any W _ (by omega)).mono ?_
  rintro e w2 ⟨g, rfl, hg, hrow, hb2⟩
  rw [len_emp]
  have hz2 := hb2.size
  rw [World.size_alloc] at hz2 hg
  have hinv : Growing w T w2.heap.size w.heap.size W (w2.alloc (.cells #[.int .i64 W, .slice (some ⟨g, 0, none⟩) (Bs.nw W) (Bs.nw W)] 50)) :=
    ⟨g, Bs.emp W, Bs.fit_emp W, Box.new _ _ _ _ _, hrow.alloc _, by omega, ((Box.new w 0 none 0 0).below hb2 (by simp)).alloc _, ((Ht.out.alloc _).below hb2 (by rw [World.size_alloc]; omega)).alloc _,
      grown_trans (grown_trans (grown_of_below ((Below.refl _ _).alloc (Nat.le_refl _) _) _) (grown_of_below hb2 _)) (grown_of_below ((Below.refl _ _).alloc (Nat.le_refl _) _) _)⟩
  have Hinv := hid hinv
  clear hinv hrow hb2 hg
  go_wp2_with fail
  go_loopw [6] (fun i wr => ∃ k : Nat, k ≤ W ∧ i = .int .i64 k ∧ Hid (Growing w T w2.heap.size w.heap.size W wr)) (fun i _ => W - (intOf i).toNat)
  case atStart => exact ⟨0, by omega, rfl, Hinv⟩
  case round =>
    obtain ⟨k, hk, rfl, hG⟩ := hrel
    by_cases hlt : k < W
    · have htt : Tape wr T := by obtain ⟨g, ws, h1, h2, h3, h4, h5, h6, h7⟩ := hG.out; exact h6
      have Htt := hid htt
      clear htt
      go_wp2_with fail
      refine (next_any T 3 _ Htt.out (by omega)).mono ?_
      rintro e w4 ⟨r4, rfl, h40, h41, ht4, hg4, hs4⟩
      have hG4 := hid (hG.out.tape ht4 hg4 hTl (by omega) (by omega))
      clear h41 ht4 hg4 hs4
      by_cases h1 : r4 = 1
      · have t : (r4 == 1) = true := by simp [h1]
        clear h1
        obtain ⟨g2, ws, hfit, hbox, hrow, hgg, hbr, htt4, hgr⟩ := hG4.out
        have hc0 := hbox.c0
        have hc1 := hbox.c1
        have Hfit := hid hfit; have Hrow := hid hrow; have Hbox := hid hbox
        clear hfit hbox hrow hgg hbr htt4 hgr
        go_wp2_with fail
        refine (refPut_any W _ _ _ ws k _ ⟨(Row.arg Hrow.out Hfit.out.ok).lies, Hfit.out.len, Hfit.out.ok⟩ (by omega) Hfit.out.len hlt).mono ?_
        rintro e w5 ⟨g5, rfl, hg5, hrow5, hb5⟩
        obtain ⟨⟨hc50, hc51⟩, hf50, hf51⟩ := box_stores Hbox.out hb5
        have hfin := hG4.out.put hTl (by omega) (by omega) (Bs.fit_put Hfit.out hlt) hg5 hrow5 hb5
        rw [show (Bs.put ws k).length = Bs.nw W from by rw [Bs.length_put]; exact Hfit.out.len]
        have Hfin := hid hfin
        clear hfin hrow5 hb5
        go_wp2_with fail
        go_roundw
        case rel => exact ⟨k + 1, by omega, by go_num, Hfin⟩
        case measure => simp [intOf]; omega
      · have t : (r4 == 1) = false := by simp [h1]
        clear h1
        go_wp2_with fail
        go_roundw
        case rel => exact ⟨k + 1, by omega, by go_num, hG4⟩
        case measure => simp [intOf]; omega
    · have hkW : k = W := by omega
      subst hkW
      obtain ⟨g2, ws, hfit, hbox, hrow, hgg, hbr, htt, hgr⟩ := hG.out
      have hb0 := hbox.c0
      have hb1 := hbox.c1
      have hc0 := hbr.c0
      have hc1 := hbr.c1
      have hf0 := hbr.f 0
      have hf1 := hbr.f 1
      have hgl := hrow.lt
      have hne := hbr.row_ne hrow
      have Hrow := hid hrow; have Hfit := hid hfit; have Htt := hid htt; have Hgr := hid hgr; have Hbr := hid hbr; have Hgg := hid hgg
      clear hrow hfit htt hgr hbr hbox hgg
      go_wp2
      refine bodyPost_ret (v := .agg #[.int .i64 k, .slice (some ⟨g2, 0, none⟩) (Bs.nw k) (Bs.nw k)]) (by simp [results, Try.results24, go_sem, hc0, hc1]) rfl ⟨_, ws, rfl, Hfit.out, ?_, Hgg.out, ?_, ?_⟩
      · exact (Hrow.out.far (p := ⟨w.heap.size, 0, none⟩) hne (.int .i64 k)).far (p := ⟨w.heap.size, 1, none⟩) hne (.slice (some ⟨g2, 0, none⟩) (Bs.nw k) (Bs.nw k))
      · exact (Htt.out.far (by simp; omega) _).far (by simp; omega) _
      · exact grown_set_new (grown_set_new Hgr.out (by simp) _) (by simp) _
end Go.Proofs.Ytopkmeceakjocaa

namespace Go.Proofs.Ytopkmeceakjocaa
set_option maxRecDepth 20000
set_option linter.unusedVariables false
set_option linter.unusedSimpArgs false
open Go.ChangeShapes Go.WideShapes Go.ChangeAt Go.RowKit

def Typ (w : World) (g t : Nat) : Prop := ∃ cs m, w.heap[g]? = some (.cells cs t m)
theorem Typ.ne {w : World} {g g' t t' : Nat} (h : Typ w g t) (h' : Typ w g' t') (ht : t ≠ t') : g ≠ g' := by
  rintro rfl
  obtain ⟨cs, m, h⟩ := h
  obtain ⟨cs', m', h'⟩ := h'
  rw [h] at h'
  injection h' with h'
  injection h' with _ h2
  exact ht h2
theorem Fb.typ {w : World} {g t : Nat} {cs : Array Value} (h : Fb w g cs t) : Typ w g t := ⟨cs, _, h⟩
theorem Row.typ {w : World} {g : Nat} {ws : List Nat} (h : Row w g ws) : Typ w g 93 := ⟨_, _, h⟩
theorem Tape.typ {w : World} {T : Nat} (h : Tape w T) : Typ w T 57 := by
  obtain ⟨A, n, c, k, zs, h, _⟩ := h
  exact ⟨_, _, h⟩
theorem own_typ {w : World} {base ty k n : Nat} {v : Value} {xs : List Value} (h : w.ownsRow base ty k v n xs) {g : Nat} (hg : v.ownBlock = some g) : Typ w g ty := by
  rcases h.2 with ⟨rfl, _⟩ | ⟨g', cap, cur, rfl, _, h', _⟩
  · cases hg
  · obtain rfl := Option.some.inj hg
    exact ⟨_, _, h'⟩
theorem own_noteq {w : World} {base ty k n : Nat} {v : Value} {xs : List Value} (h : w.ownsRow base ty k v n xs) {g t : Nat} (hg : Typ w g t) (ht : t ≠ ty) : v.ownBlock = none ∨ v.ownBlock ≠ some g := by
  cases hv : v.ownBlock with
  | none => exact .inl rfl
  | some k => exact .inr fun e => hg.ne (own_typ h (hv.trans e)) ht rfl
theorem own_slice3 {w : World} {base ty k n : Nat} {v : Value} {xs : List Value} (h : w.ownsRow base ty k v n xs) : ∃ (A : Option Addr) (c : Nat), v = .slice A n c := by
  rcases h.2 with ⟨rfl, rfl⟩ | ⟨g', cap, cur, rfl, _, h', _⟩
  · exact ⟨_, _, rfl⟩
  · exact ⟨_, _, rfl⟩
/-- A step that writes a block of type t alone. -/
def Stp1 (t : Nat) (w w' : World) : Prop := ∃ row, w.grownBy w' row ∧ ∀ g, row = some g → Typ w g t
theorem Stp1.below {t : Nat} {w w' : World} (h : Below w.heap.size w w') : Stp1 t w w' := ⟨none, grown_of_below h _, fun g h => by cases h⟩
theorem Stp1.refl (t : Nat) (w : World) : Stp1 t w w := Stp1.below (Below.refl _ _)
theorem Stp1.block {t t' : Nat} {w w' : World} (h : Stp1 t w w') {g : Nat} (hg : Typ w g t') (ht : t' ≠ t) (hlt : g < w.heap.size) : w'.heap[g]? = w.heap[g]? := by
  obtain ⟨row, h1, h2⟩ := h
  exact h1.block g hlt fun e => hg.ne (h2 g e.symm) ht rfl
theorem Typ.lt {w : World} {g t : Nat} (h : Typ w g t) : g < w.heap.size := by
  obtain ⟨cs, m, h⟩ := h
  rcases Nat.lt_or_ge g w.heap.size with hlt | hge
  · exact hlt
  · rw [Array.getElem?_eq_none hge] at h; cases h
theorem Stp1.fb {t t' : Nat} {w w' : World} (h : Stp1 t w w') {g : Nat} {cs : Array Value} (hf : Fb w g cs t') (ht : t' ≠ t) : Fb w' g cs t' := (h.block hf.typ ht hf.lt).trans hf
theorem Stp1.row {t : Nat} {w w' : World} (h : Stp1 t w w') {g : Nat} {ws : List Nat} (hf : Row w g ws) (ht : 93 ≠ t) : Row w' g ws := (h.block hf.typ ht hf.lt).trans hf
theorem Stp1.own {t base ty k n : Nat} {w w' : World} {v : Value} {xs : List Value} (h : Stp1 t w w') (ho : w.ownsRow base ty k v n xs) (ht : ty ≠ t) : w'.ownsRow base ty k v n xs := by
  obtain ⟨row, h1, h2⟩ := h
  refine ho.kept h1 ?_
  cases hv : v.ownBlock with
  | none => exact .inl rfl
  | some g => exact .inr fun e => (own_typ ho hv).ne (h2 g e.symm) ht rfl
theorem Stp1.typ {t t' : Nat} {w w' : World} (h : Stp1 t w w') {g : Nat} (hg : Typ w g t') (ht : t' ≠ t) : Typ w' g t' := by
  obtain ⟨cs, m, hc⟩ := hg
  exact ⟨cs, m, (h.block ⟨cs, m, hc⟩ ht (Typ.lt ⟨cs, m, hc⟩)).trans hc⟩
/-- All but these blocks is as it was. -/
structure GrX (w : World) (ex : List (Option Nat)) (u : World) : Prop where
  os : u.os = w.os
  tape : u.tape = w.tape
  output : u.output = w.output
  size : w.heap.size ≤ u.heap.size
  block : ∀ k, k < w.heap.size → some k ∉ ex → u.heap[k]? = w.heap[k]?
theorem GrX.refl (w : World) (ex : List (Option Nat)) : GrX w ex w := ⟨rfl, rfl, rfl, Nat.le_refl _, fun _ _ _ => rfl⟩
theorem GrX.step {w u u' : World} {ex : List (Option Nat)} {row : Option Nat} (h : GrX w ex u) (hg : u.grownBy u' row) (hr : ∀ g, row = some g → row ∈ ex ∨ w.heap.size ≤ g) : GrX w ex u' :=
  ⟨hg.os.trans h.os, hg.tape.trans h.tape, hg.output.trans h.output, Nat.le_trans h.size hg.size, fun k hk hne => (hg.block k (by have := h.size; omega) fun e => by
    rcases hr k e.symm with h1 | h1
    · exact hne (e ▸ h1)
    · omega).trans (h.block k hk hne)⟩
theorem GrX.below {w u u' : World} {ex : List (Option Nat)} (h : GrX w ex u) (hb : Below u.heap.size u u') : GrX w ex u' := h.step (grown_of_below hb none) (fun g e => by cases e)
theorem GrX.go {w u : World} {ex ex' : List (Option Nat)} (h : GrX w ex u) (he : ∀ k, k < w.heap.size → some k ∈ ex' → some k ∈ ex) : Go2 w ex u ex' := fun k hk =>
  ⟨h.block k hk.1 hk.2, by have := h.size; have := hk.1; omega, fun h' => hk.2 (he k hk.1 h')⟩
theorem GrX.grown {w0 w u : World} {ex : List (Option Nat)} {T : Nat} (h : GrX w ex u) (h0 : w0.grownBy w (some T)) (hex : ∀ k, some k ∈ ex → k = T ∨ w0.heap.size ≤ k) : w0.grownBy u (some T) :=
  ⟨h.os.trans h0.os, h.tape.trans h0.tape, h.output.trans h0.output, Nat.le_trans h0.size h.size, fun k hk hne => by
    have := h0.size
    refine (h.block k (by omega) fun hm => ?_).trans (h0.block k hk hne)
    rcases hex k hm with h1 | h1
    · exact hne (by rw [h1])
    · omega⟩
/-- A function of the generator's, by its rows. -/
structure Ft (u : World) (W : Nat) (F : FH) : Prop where
  gen : ∃ g, F.G.A = some ⟨g, 0, none⟩ ∧ Row u g F.G.ws
  kill : ∃ g, F.K.A = some ⟨g, 0, none⟩ ∧ Row u g F.K.ws
  cops : ∃ b, u.ownsRow b 89 2 (.slice F.C F.k F.q) F.k (pairs F.cs)
  g1 : F.G.W = W ∧ Bs.Fit W F.G.ws ∧ F.G.n = Bs.nw W
  k1 : F.K.W = W ∧ Bs.Fit W F.K.ws ∧ F.K.n = Bs.nw W
  c1 : F.cs.length = F.k ∧ F.k ≤ 12
  ok : validT W F.G.ws W F.K.ws F.cs = true
theorem Stp1.ft {t : Nat} {u u' : World} {W : Nat} {F : FH} (h : Stp1 t u u') (hf : Ft u W F) (h1 : 93 ≠ t) (h2 : 89 ≠ t) : Ft u' W F := by
  obtain ⟨⟨g, a1, a2⟩, ⟨g', b1, b2⟩, ⟨b, c⟩, r1, r2, r3, r4⟩ := hf
  exact ⟨⟨g, a1, h.row a2 h1⟩, ⟨g', b1, h.row b2 h1⟩, ⟨b, h.own c h2⟩, r1, r2, r3, r4⟩
theorem Ft.fh {u : World} {W : Nat} {F : FH} {ex : List (Option Nat)} (h : Ft u W F) (hex : ∀ k, some k ∈ ex → ¬ Typ u k 93 ∧ ¬ Typ u k 89) : FHok u ex F := by
  obtain ⟨⟨g, a1, a2⟩, ⟨g', b1, b2⟩, ⟨b, c⟩, ⟨_, f1, n1⟩, ⟨_, f2, n2⟩, ⟨l1, _⟩, _⟩ := h
  refine ⟨⟨?_, by rw [f1.len, n1], f1.ok⟩, ⟨?_, by rw [f2.len, n2], f2.ok⟩, EAt.own c fun k hk hm => (hex k hm).2 (own_typ c hk), l1⟩
  · rw [a1]; exact EAt.fb a2 (fun hm => (hex g hm).1 a2.typ) (fun j x hx => by simpa using hx)
  · rw [b1]; exact EAt.fb b2 (fun hm => (hex g' hm).1 b2.typ) (fun j x hx => by simpa using hx)
end Go.Proofs.Ytopkmeceakjocaa

namespace Go.Proofs.Ytopkmeceakjocaa
set_option linter.unusedVariables false
set_option linter.unusedSimpArgs false

/-- The slots ds of a frame hold these values. -/
def putL : List (Option Tmp) → (Nat → Value) → Nat → Act → Act
  | [], _, _, a => a
  | d :: ds, f, k, a => putL ds f (k + 1) (a.put d (f k))
def updV (f : Nat → Value) (i : Nat) (v : Value) : Nat → Value := fun j => if j = i then v else f j
theorem updV_self (f : Nat → Value) (i : Nat) (v : Value) : updV f i v i = v := by simp [updV]
theorem updV_ne (f : Nat → Value) {i j : Nat} (v : Value) (h : j ≠ i) : updV f i v j = f j := by simp [updV, h]
theorem putL_congr : ∀ (ds : List (Option Tmp)) (f g : Nat → Value) (k : Nat) (a : Act), (∀ j, k ≤ j → f j = g j) → putL ds f k a = putL ds g k a := by
  intro ds
  induction ds with
  | nil => intro f g k a _; rfl
  | cons d ds ih => intro f g k a h; rw [putL, putL, h k (Nat.le_refl _)]; exact ih f g (k + 1) _ fun j hj => h j (by omega)
theorem put_put (a : Act) (d : Option Tmp) (u v : Value) : (a.put d u).put d v = a.put d v := by
  cases d with
  | none => rfl
  | some d => simp [Act.put]
theorem putL_put : ∀ (ds : List (Option Tmp)) (f : Nat → Value) (k : Nat) (a : Act) (d : Option Tmp) (v : Value), (∀ x ∈ ds, ∀ y, x = some y → d ≠ some y) → (putL ds f k a).put d v = putL ds f k (a.put d v) := by
  intro ds
  induction ds with
  | nil => intro f k a d v _; rfl
  | cons x ds ih =>
    intro f k a d v h
    rw [putL, putL, ih f (k + 1) _ d v fun y hy => h y (by simp [hy])]
    congr 1
    exact Act.put_comm a _ _ fun y hy => h x (by simp) y hy
theorem putL_upd : ∀ (l1 : List (Option Tmp)) (d : Option Tmp) (l2 : List (Option Tmp)) (f : Nat → Value) (k : Nat) (a : Act) (v : Value), (∀ x ∈ l2, ∀ y, x = some y → d ≠ some y) →
    (putL (l1 ++ d :: l2) f k a).put d v = putL (l1 ++ d :: l2) (updV f (k + l1.length) v) k a := by
  intro l1
  induction l1 with
  | nil =>
    intro d l2 f k a v h
    simp only [List.nil_append, putL, List.length_nil, Nat.add_zero]
    rw [putL_put l2 f (k + 1) _ d v h, put_put, updV_self]
    exact putL_congr l2 _ _ (k + 1) _ fun j hj => (updV_ne f v (by omega)).symm
  | cons x l1 ih =>
    intro d l2 f k a v h
    rw [List.cons_append, putL, putL, ih d l2 f (k + 1) _ v h, updV_ne f v (by rw [List.length_cons]; omega), List.length_cons, show k + 1 + l1.length = k + (l1.length + 1) by omega]
def slotV (a : Act) : Option Tmp → Value
  | some d => a.eval (.tmp d)
  | none => undef
theorem put_self (a : Act) (d : Option Tmp) : a.put d (slotV a d) = a := by
  cases d with
  | none => rfl
  | some d =>
    unfold Act.put slotV Act.eval
    obtain ⟨t, ds⟩ := a
    simp only
    congr 1
    apply Array.ext
    · simp
    · intro i h1 h2
      rw [Array.getElem_setIfInBounds]
      split
      · next e => subst e; simp [Array.getD, h2]
      · rfl
theorem putL_self : ∀ (ds : List (Option Tmp)) (k : Nat) (a : Act), putL ds (fun j => slotV a ((ds[j - k]?).getD none)) k a = a := by
  intro ds
  induction ds with
  | nil => intro k a; rfl
  | cons d ds ih =>
    intro k a
    rw [putL]
    simp only [Nat.sub_self, List.getElem?_cons_zero, Option.getD_some]
    rw [put_self]
    refine Eq.trans (putL_congr ds _ _ (k + 1) a fun j hj => ?_) (ih (k + 1) a)
    rw [show j - k = (j - (k + 1)) + 1 by omega, List.getElem?_cons_succ]
/-- No two operations have one slot. -/
def distB : List (Option Tmp) → Bool
  | [] => true
  | d :: ds => (ds.all fun x => x.isNone || x != d) && distB ds
theorem dist_split : ∀ (l1 : List (Option Tmp)) (d : Option Tmp) (l2 : List (Option Tmp)), distB (l1 ++ d :: l2) = true → ∀ x ∈ l2, ∀ y, x = some y → d ≠ some y := by
  intro l1
  induction l1 with
  | nil =>
    intro d l2 h x hx y hy
    simp only [List.nil_append, distB, Bool.and_eq_true, List.all_eq_true] at h
    have := h.1 x hx
    subst hy
    simp at this
    exact fun e => this e.symm
  | cons z l1 ih =>
    intro d l2 h
    simp only [List.cons_append, distB, Bool.and_eq_true] at h
    exact ih d l2 h.2
theorem putL_at {ds : List (Option Tmp)} (hd : distB ds = true) {i : Nat} {d : Option Tmp} (hi : ds[i]? = some d) (f : Nat → Value) (a : Act) (v : Value) : (putL ds f 0 a).put d v = putL ds (updV f i v) 0 a := by
  obtain ⟨h1, rfl⟩ := List.getElem?_eq_some_iff.1 hi
  have e : ds = ds.take i ++ ds[i] :: ds.drop (i + 1) := by rw [← List.drop_eq_getElem_cons h1, List.take_append_drop]
  have := putL_upd (ds.take i) ds[i] (ds.drop (i + 1)) f 0 a v (dist_split _ _ _ (by rw [← e]; exact hd))
  rw [← e, List.length_take, Nat.min_eq_left (by omega), Nat.zero_add] at this
  exact this
/-- Each operation waits for earlier ones only. -/
def backB (ops : Array Oper) : Bool := (List.range ops.size).all fun i => match ops[i]? with | some o => o.after.all fun e => !Region.binds .any e || decide (e.on < i) | none => true
/-- The operations from m on wait for all before. -/
def tailB (ops : Array Oper) (m : Nat) : Bool := (List.range ops.size).all fun i => decide (i < m) || match ops[i]? with | some o => (List.range m).all fun j => o.after.any fun e => Region.binds .any e && decide (e.on = j) | none => true
theorem backB_spec {ops : Array Oper} (h : backB ops = true) {i : Nat} {o : Oper} (ho : ops[i]? = some o) : ∀ e ∈ o.after, Region.binds .any e = true → e.on < i := by
  intro e he hb
  have := List.all_eq_true.1 h i (List.mem_range.2 (Array.getElem?_eq_some_iff.1 ho).1)
  rw [ho] at this
  simp only [Array.all_eq_true_iff_forall_mem] at this
  have := this e he
  rw [hb] at this
  simpa using this
theorem tailB_spec {ops : Array Oper} {m : Nat} (h : tailB ops m = true) {i : Nat} {o : Oper} (ho : ops[i]? = some o) (hm : m ≤ i) : ∀ j, j < m → ∃ e ∈ o.after, Region.binds .any e = true ∧ e.on = j := by
  intro j hj
  have := List.all_eq_true.1 h i (List.mem_range.2 (Array.getElem?_eq_some_iff.1 ho).1)
  rw [ho] at this
  have hn : decide (i < m) = false := by simp; omega
  rw [hn, Bool.false_or] at this
  simp only [List.all_eq_true, List.mem_range] at this
  have := this j hj
  rw [Array.any_eq_true] at this
  obtain ⟨k, hk, h2⟩ := this
  simp only [Bool.and_eq_true, decide_eq_true_eq] at h2
  exact ⟨o.after[k], Array.getElem_mem _, h2.1, h2.2⟩
theorem getD_lt {a : Array Bool} {i : Nat} (d : Bool) (h : i < a.size) : a.getD i d = a[i] := by simp [Array.getD, h]
theorem count_set : ∀ (l : List Bool) (i : Nat), l[i]? = some false → (l.set i true).count false + 1 = l.count false := by
  intro l
  induction l with
  | nil => intro i h; simp at h
  | cons b l ih =>
    intro i h
    cases i with
    | zero => simp at h; subst h; simp
    | succ i =>
      have := ih i (by simpa using h)
      rw [List.set_cons_succ, List.count_cons, List.count_cons]
      omega
section
variable {P : Program} {ops : Array Oper} {Q : Exit → Act → World → Prop}
def tailArr (n m : Nat) : Array Bool := (List.replicate m true ++ List.replicate (n - m) false).toArray
theorem tail_count (n m : Nat) : (tailArr n m).toList.count false = n - m := by simp [tailArr, List.count_append, List.count_replicate]
theorem wpAny_facts (F : Nat → Value → World → Prop) (B : World → Prop) (use : Nat → Option Nat) (R : Nat → World → World → Prop) (m : Nat) (ds : List (Option Tmp)) (a0 : Act) (hds : ops.toList.map (·.dst) = ds) (hd : distB ds = true) (hb : backB ops = true) (ht : tailB ops m = true) (hm : m ≤ ops.size)
    (hst : ∀ j w w' i v, R j w w' → i ≠ j → use i ≠ some j → F i v w → F i v w')
    (hstep : ∀ (i : Nat) (o : Oper) (f : Nat → Value) (w : World), ops[i]? = some o → i < m → B w → (∀ e ∈ o.after, Region.binds .any e = true → use e.on = none ∨ use e.on = some i → F e.on (f e.on) w) → ∀ K : Act → World → Prop, (∀ v w', B w' → R i w w' → F i v w' → K ((putL ds f 0 a0).put o.dst v) w') → wpOp P ops Q i K (putL ds f 0 a0) w)
    (hend : ∀ (f : Nat → Value) (w : World), B w → (∀ i, i < m → use i = none → F i (f i) w) → wpAny P .any ops Q (ops.size - m) (tailArr ops.size m) (putL ds f 0 a0) w) :
    ∀ (fuel : Nat) (listed : Array Bool) (f : Nat → Value) (w : World), listed.size = ops.size → (∀ i, m ≤ i → i < ops.size → listed.getD i true = false) → B w → (∀ i, listed.getD i false = true → (∀ c, use i = some c → listed.getD c false = false) → F i (f i) w) → listed.toList.count false = fuel →
      wpAny P .any ops Q fuel listed (putL ds f 0 a0) w := by
  intro fuel
  induction fuel with
  | zero =>
    intro listed f w hs htl hB hF hc
    have hall : ∀ i, i < m → listed.getD i false = true := by
      intro i hi
      have h1 : i < listed.size := by omega
      rw [getD_lt _ h1]
      cases hv : listed[i] with
      | true => rfl
      | false => exact absurd (List.count_pos_iff.2 (Array.mem_toList_iff.2 (hv ▸ Array.getElem_mem h1))) (by omega)
    have e : listed = tailArr ops.size m := by
      apply Array.ext
      · simp [tailArr]; omega
      · intro i h1 h2
        by_cases him : i < m
        · have := hall i him
          rw [getD_lt _ h1] at this
          rw [this]
          simp [tailArr, List.getElem_append, him]
        · have := htl i (by omega) (by omega)
          rw [getD_lt _ h1] at this
          rw [this]
          simp [tailArr, List.getElem_append, him]
    have hn : ops.size - m = 0 := by
      rw [e, tail_count] at hc
      exact hc
    have := hend f w hB fun i hi hu => hF i (hall i hi) (fun c hc => by rw [hu] at hc; cases hc)
    rw [hn] at this
    rw [e]; exact this
  | succ fuel ih =>
    intro listed f w hs htl hB hF hc
    by_cases hall : ∀ i, i < m → listed.getD i false = true
    · have e : listed = tailArr ops.size m := by
        apply Array.ext
        · simp [tailArr]; omega
        · intro i h1 h2
          by_cases him : i < m
          · have := hall i him
            rw [getD_lt _ h1] at this
            rw [this]
            simp [tailArr, List.getElem_append, him]
          · have := htl i (by omega) (by omega)
            rw [getD_lt _ h1] at this
            rw [this]
            simp [tailArr, List.getElem_append, him]
      have hn : ops.size - m = fuel + 1 := by
        rw [e, tail_count] at hc
        exact hc
      have := hend f w hB fun i hi hu => hF i (hall i hi) (fun c hc => by rw [hu] at hc; cases hc)
      rw [hn] at this
      rw [e]; exact this
    · have hun : ∃ i, i < m ∧ listed.getD i false = false := by
        refine Classical.byContradiction fun hno => hall fun i hi => ?_
        cases hv : listed.getD i false with
        | true => rfl
        | false => exact absurd ⟨i, hi, hv⟩ hno
      -- the first that has not come up may come up
      have hmin : ∀ n i, i ≤ n → i < m → listed.getD i false = false → ∃ j, j < m ∧ listed.getD j false = false ∧ ∀ k, k < j → listed.getD k false = true := by
        intro n
        induction n with
        | zero => intro i hi him hv; exact ⟨i, him, hv, fun k hk => by omega⟩
        | succ n ihn =>
          intro i hi him hv
          by_cases hex : ∃ k, k < i ∧ listed.getD k false = false
          · obtain ⟨k, hk, hkv⟩ := hex
            exact ihn k (by omega) (by omega) hkv
          · refine ⟨i, him, hv, fun k hk => ?_⟩
            cases hkv : listed.getD k false with
            | true => rfl
            | false => exact absurd ⟨k, hk, hkv⟩ hex
      obtain ⟨i0, hi0, hv0⟩ := hun
      obtain ⟨j0, hj0, hj1, hj2⟩ := hmin i0 i0 (Nat.le_refl _) hi0 hv0
      have hgd : ∀ i, i < ops.size → listed.getD i true = listed.getD i false := by
        intro i hi
        rw [getD_lt true (show i < listed.size by omega), getD_lt false (show i < listed.size by omega)]
      obtain ⟨oj, hoj⟩ : ∃ o, ops[j0]? = some o := ⟨_, Array.getElem?_eq_getElem (by omega)⟩
      have hrj : j0 ∈ Region.ready .any ops listed := mem_ready.2 ⟨by rw [hgd j0 (by omega)]; exact hj1, oj, hoj, fun e he hbe => hj2 _ (backB_spec hb hoj e he hbe)⟩
      refine ⟨fun h => (by rw [h] at hrj; cases hrj), fun i hi => ?_⟩
      obtain ⟨hiu, o, ho, hafter⟩ := mem_ready.1 hi
      have hin : i < ops.size := (Array.getElem?_eq_some_iff.1 ho).1
      have him : i < m := by
        rcases Nat.lt_or_ge i m with h | h
        · exact h
        · exfalso
          obtain ⟨e, he, hbe, heo⟩ := tailB_spec ht ho h j0 hj0
          have := hafter e he hbe
          rw [heo, hj1] at this
          cases this
      refine hstep i o f w ho him hB (fun e he hbe hu => hF e.on (hafter e he hbe) (fun c hc => by
        rcases hu with hu | hu
        · rw [hu] at hc; cases hc
        · rw [hu] at hc; obtain rfl := Option.some.inj hc; rw [← hgd i hin]; exact hiu)) _ fun v w' hB' hR hFi => ?_
      have hdi : ds[i]? = some o.dst := by
        rw [← hds, List.getElem?_map, Array.getElem?_toList, ho]; rfl
      rw [putL_at hd hdi]
      have hlf : listed.toList[i]? = some false := by
        rw [Array.getElem?_toList, Array.getElem?_eq_getElem (by omega)]
        rw [getD_lt _ (by omega)] at hiu
        exact congrArg some hiu
      refine ih _ _ _ (by simp [hs]) (fun k hk hk2 => ?_) hB' (fun k hk hku => ?_) ?_
      · have hk3 : k < (listed.setIfInBounds i true).size := by rw [Array.size_setIfInBounds]; omega
        rw [getD_lt _ hk3, Array.getElem_setIfInBounds, if_neg (by omega)]
        have := htl k hk hk2
        rw [getD_lt _ (by omega)] at this
        exact this
      · by_cases e : k = i
        · subst e; rw [updV_self]; exact hFi
        · rw [updV_ne f v e]
          have hki : use k ≠ some i := fun h => by
            have := hku i h
            rw [getD_lt _ (by rw [Array.size_setIfInBounds]; omega), Array.getElem_setIfInBounds_self] at this
            cases this
          refine hst i w w' k _ hR e hki (hF k ?_ fun c hc => ?_)
          · rw [getD_set_ne false (by omega)] at hk
            exact hk
          · have := hku c hc
            rw [getD_set_ne false (by intro h; exact hki (h ▸ hc))] at this
            exact this
      · have := count_set listed.toList i hlf
        rw [Array.toList_setIfInBounds]
        omega
/-- The rule. -/
theorem wp_region_facts {id : Nat} {a0 : Act} {w : World} (F : Nat → Value → World → Prop) (B : World → Prop) (use : Nat → Option Nat) (R : Nat → World → World → Prop) (K0 : Act → World → Prop) (hK0 : ∀ a w, K0 a w → Q .normal a w) (n m : Nat) (ds : List (Option Tmp)) (hn : ops.size = n) (hmix : P.follows .mixedOrders = true) (hds : ops.toList.map (·.dst) = ds) (hd : distB ds = true) (hb : backB ops = true) (ht : tailB ops m = true) (hm : m ≤ n)
    (hst : ∀ j w w' i v, R j w w' → i ≠ j → use i ≠ some j → F i v w → F i v w') (hB : B w.drew)
    (hstep : ∀ (i : Nat) (o : Oper) (f : Nat → Value) (w : World), ops[i]? = some o → i < m → B w → (∀ e ∈ o.after, Region.binds .any e = true → use e.on = none ∨ use e.on = some i → F e.on (f e.on) w) → ∀ K : Act → World → Prop, (∀ v w', B w' → R i w w' → F i v w' → K ((putL ds f 0 a0).put o.dst v) w') → wpOp P ops Q i K (putL ds f 0 a0) w)
    (hend : ∀ (Q2 : Exit → Act → World → Prop), (∀ a w, K0 a w → Q2 .normal a w) → ∀ (f : Nat → Value) (w : World), B w → (∀ i, i < m → use i = none → F i (f i) w) → wpAny P .any ops Q2 (n - m) (tailArr n m) (putL ds f 0 a0) w) :
    (Code.region id ops true).wp P Q a0 w := by
  subst hn
  refine wp_region_any hmix ?_
  have := wpAny_facts F B use R m ds a0 hds hd hb ht hm hst hstep (hend Q hK0) ops.size (Array.replicate ops.size false) (fun j => slotV a0 ((ds[j - 0]?).getD none)) w.drew (by simp)
    (fun i _ hi => by simp [Array.getD, hi]) hB (fun i hi _ => by simp [Array.getD] at hi) (by simp)
  rw [putL_self] at this
  exact this
/-- The last operation. -/
theorem tail_one {n m i : Nat} {o : Oper} {a : Act} {w : World} (hr : Region.ready .any ops (tailArr n m) = [i]) (hr2 : Region.ready .any ops ((tailArr n m).setIfInBounds i true) = []) (ho : ops[i]? = some o) {K0 : Act → World → Prop} (hq : ∀ a w, K0 a w → Q .normal a w)
    (h : ∀ K' : Act → World → Prop, (∀ a w, K0 a w → K' a w) → if Region.wanted o (yielded ops a.tmps) = true then Oper.wp P o a w K' Q else K' (a.put o.dst undef) w) : wpAny P .any ops Q 1 (tailArr n m) a w := by
  refine ⟨fun h0 => (by rw [hr] at h0; cases h0), fun j hj => ?_⟩
  rw [hr] at hj
  obtain rfl : j = i := by simpa using hj
  exact wpOp_step ho fun K' hK => h K' fun a w hk => hK a w ⟨hr2, hq a w hk⟩
theorem wpOp_of {i : Nat} {o : Oper} {K : Act → World → Prop} {a : Act} {w : World} (ho : ops[i]? = some o) (h : if Region.wanted o (yielded ops a.tmps) = true then Oper.wp P o a w K Q else K (a.put o.dst undef) w) : wpOp P ops Q i K a w := by
  unfold wpOp
  rw [ho]
  show if Region.wanted o (yielded ops a.tmps) = true then _ else _
  split
  · rename_i hw; rw [if_pos hw] at h; exact .inl h
  · rename_i hw; rw [if_neg hw] at h; exact h
/-- The last two. -/
theorem tail_two {n m i j : Nat} {o1 o2 : Oper} {a : Act} {w : World} (hr : Region.ready .any ops (tailArr n m) = [i]) (hr2 : Region.ready .any ops ((tailArr n m).setIfInBounds i true) = [j]) (hr3 : Region.ready .any ops (((tailArr n m).setIfInBounds i true).setIfInBounds j true) = [])
    (ho : ops[i]? = some o1) (ho2 : ops[j]? = some o2) {K0 : Act → World → Prop} (hq : ∀ a w, K0 a w → Q .normal a w)
    (h : if Region.wanted o1 (yielded ops a.tmps) = true then Oper.wp P o1 a w (fun a w => if Region.wanted o2 (yielded ops a.tmps) = true then Oper.wp P o2 a w K0 Q else K0 (a.put o2.dst undef) w) Q
      else (if Region.wanted o2 (yielded ops (a.put o1.dst undef).tmps) = true then Oper.wp P o2 (a.put o1.dst undef) w K0 Q else K0 ((a.put o1.dst undef).put o2.dst undef) w)) : wpAny P .any ops Q 2 (tailArr n m) a w := by
  refine ⟨fun h0 => (by rw [hr] at h0; cases h0), fun k hk => ?_⟩
  rw [hr] at hk
  obtain rfl : k = i := by simpa using hk
  refine wpOp_mono (fun a w h2 => ?_) (wpOp_of (K := fun a w => if Region.wanted o2 (yielded ops a.tmps) = true then Oper.wp P o2 a w K0 Q else K0 (a.put o2.dst undef) w) ho h)
  refine ⟨fun h0 => (by rw [hr2] at h0; cases h0), fun k hk => ?_⟩
  rw [hr2] at hk
  obtain rfl : k = j := by simpa using hk
  exact wpOp_mono (fun a w hk => ⟨hr3, hq a w hk⟩) (wpOp_of ho2 h2)
end
end Go.Proofs.Ytopkmeceakjocaa

namespace Go.Proofs.Ytopkmeceakjocaa
set_option linter.unusedVariables false
set_option linter.unusedSimpArgs false
theorem fixG (f : Nat → Value) (i : Nat) (c : Value) (h : f i = c) : ∃ g, f = updV g i c := ⟨f, funext fun j => by unfold updV; split <;> simp_all⟩
section
variable {P : Program} {ops : Array Oper} {Q : Exit → Act → World → Prop}
def depsOf (ops : Array Oper) (i : Nat) : List Nat := match ops[i]? with | some o => (o.after.toList.filter fun e => Region.binds .any e).map (·.on) | none => []
def reachL (ops : Array Oper) : Nat → Nat → List Nat
  | 0, i => depsOf ops i
  | n + 1, i => depsOf ops i ++ (depsOf ops i).flatMap (reachL ops n)
/-- The operations from m on wait for all before, if not at once then by way of others. -/
def tailB2 (ops : Array Oper) (m : Nat) : Bool := (List.range ops.size).all fun i => decide (i < m) || (List.range m).all fun j => (reachL ops 5 i).contains j
def ClosedL (ops : Array Oper) (listed : Array Bool) : Prop := ∀ k ok, ops[k]? = some ok → listed.getD k false = true → ∀ e ∈ ok.after, Region.binds .any e = true → listed.getD e.on false = true
theorem reach_listed {listed : Array Bool} (hc : ClosedL ops listed) : ∀ (n i : Nat), (∀ j ∈ depsOf ops i, listed.getD j false = true) → ∀ j ∈ reachL ops n i, listed.getD j false = true := by
  intro n
  induction n with
  | zero => intro i h j hj; exact h j hj
  | succ n ih =>
    intro i h j hj
    unfold reachL at hj
    rcases List.mem_append.1 hj with hj | hj
    · exact h j hj
    · obtain ⟨k, hk, hj⟩ := List.mem_flatMap.1 hj
      refine ih k (fun x hx => ?_) j hj
      unfold depsOf at hx
      split at hx
      · rename_i ok hok
        obtain ⟨e, he, rfl⟩ := List.mem_map.1 hx
        obtain ⟨he1, he2⟩ := List.mem_filter.1 he
        exact hc k ok hok (h k hk) e (Array.mem_toList_iff.1 he1) he2
      · cases hx
theorem tailB2_spec {m : Nat} (h : tailB2 ops m = true) {i : Nat} {o : Oper} (ho : ops[i]? = some o) (hm : m ≤ i) {listed : Array Bool} (hc : ClosedL ops listed) (ha : ∀ e ∈ o.after, Region.binds .any e = true → listed.getD e.on false = true) : ∀ j, j < m → listed.getD j false = true := by
  intro j hj
  have := List.all_eq_true.1 h i (List.mem_range.2 (Array.getElem?_eq_some_iff.1 ho).1)
  have hn : decide (i < m) = false := by simp; omega
  rw [hn, Bool.false_or, List.all_eq_true] at this
  have := this j (List.mem_range.2 hj)
  rw [List.contains_iff_mem] at this
  refine reach_listed hc 5 i (fun x hx => ?_) j this
  unfold depsOf at hx
  rw [ho] at hx
  obtain ⟨e, he, rfl⟩ := List.mem_map.1 hx
  obtain ⟨he1, he2⟩ := List.mem_filter.1 he
  exact ha e (Array.mem_toList_iff.1 he1) he2
theorem wpAny_factsG (G : Nat → World → Prop) (F : Nat → Value → World → Prop) (B : World → Prop) (use : Nat → Option Nat) (R : Nat → World → World → Prop) (m : Nat) (ds : List (Option Tmp)) (a0 : Act) (hds : ops.toList.map (·.dst) = ds) (hd : distB ds = true) (hb : backB ops = true) (ht : tailB2 ops m = true) (hm : m ≤ ops.size)
    (hst : ∀ j w w' i v, R j w w' → i ≠ j → use i ≠ some j → F i v w → F i v w')
    (hstG : ∀ j w w' c, R j w w' → c ≠ j → G c w → G c w')
    (hstep : ∀ (i : Nat) (o : Oper) (f : Nat → Value) (w : World), ops[i]? = some o → i < m → B w → G i w → (∀ e ∈ o.after, Region.binds .any e = true → use e.on = none ∨ use e.on = some i → F e.on (f e.on) w) → ∀ K : Act → World → Prop, (∀ v w', B w' → R i w w' → F i v w' → K ((putL ds f 0 a0).put o.dst v) w') → wpOp P ops Q i K (putL ds f 0 a0) w)
    (hend : ∀ (f : Nat → Value) (w : World), B w → (∀ i, i < m → use i = none → F i (f i) w) → wpAny P .any ops Q (ops.size - m) (tailArr ops.size m) (putL ds f 0 a0) w) :
    ∀ (fuel : Nat) (listed : Array Bool) (f : Nat → Value) (w : World), listed.size = ops.size → (∀ i, m ≤ i → i < ops.size → listed.getD i true = false) → ClosedL ops listed → B w → (∀ c, listed.getD c false = false → G c w) → (∀ i, listed.getD i false = true → (∀ c, use i = some c → listed.getD c false = false) → F i (f i) w) → listed.toList.count false = fuel →
      wpAny P .any ops Q fuel listed (putL ds f 0 a0) w := by
  intro fuel
  induction fuel with
  | zero =>
    intro listed f w hs htl hcl hB hGc hF hc
    have hall : ∀ i, i < m → listed.getD i false = true := by
      intro i hi
      have h1 : i < listed.size := by omega
      rw [getD_lt _ h1]
      cases hv : listed[i] with
      | true => rfl
      | false => exact absurd (List.count_pos_iff.2 (Array.mem_toList_iff.2 (hv ▸ Array.getElem_mem h1))) (by omega)
    have e : listed = tailArr ops.size m := by
      apply Array.ext
      · simp [tailArr]; omega
      · intro i h1 h2
        by_cases him : i < m
        · have := hall i him
          rw [getD_lt _ h1] at this
          rw [this]
          simp [tailArr, List.getElem_append, him]
        · have := htl i (by omega) (by omega)
          rw [getD_lt _ h1] at this
          rw [this]
          simp [tailArr, List.getElem_append, him]
    have hn : ops.size - m = 0 := by
      rw [e, tail_count] at hc
      exact hc
    have := hend f w hB fun i hi hu => hF i (hall i hi) (fun c hc => by rw [hu] at hc; cases hc)
    rw [hn] at this
    rw [e]; exact this
  | succ fuel ih =>
    intro listed f w hs htl hcl hB hGc hF hc
    by_cases hall : ∀ i, i < m → listed.getD i false = true
    · have e : listed = tailArr ops.size m := by
        apply Array.ext
        · simp [tailArr]; omega
        · intro i h1 h2
          by_cases him : i < m
          · have := hall i him
            rw [getD_lt _ h1] at this
            rw [this]
            simp [tailArr, List.getElem_append, him]
          · have := htl i (by omega) (by omega)
            rw [getD_lt _ h1] at this
            rw [this]
            simp [tailArr, List.getElem_append, him]
      have hn : ops.size - m = fuel + 1 := by
        rw [e, tail_count] at hc
        exact hc
      have := hend f w hB fun i hi hu => hF i (hall i hi) (fun c hc => by rw [hu] at hc; cases hc)
      rw [hn] at this
      rw [e]; exact this
    · have hun : ∃ i, i < m ∧ listed.getD i false = false := by
        refine Classical.byContradiction fun hno => hall fun i hi => ?_
        cases hv : listed.getD i false with
        | true => rfl
        | false => exact absurd ⟨i, hi, hv⟩ hno
      -- the first that has not come up may come up
      have hmin : ∀ n i, i ≤ n → i < m → listed.getD i false = false → ∃ j, j < m ∧ listed.getD j false = false ∧ ∀ k, k < j → listed.getD k false = true := by
        intro n
        induction n with
        | zero => intro i hi him hv; exact ⟨i, him, hv, fun k hk => by omega⟩
        | succ n ihn =>
          intro i hi him hv
          by_cases hex : ∃ k, k < i ∧ listed.getD k false = false
          · obtain ⟨k, hk, hkv⟩ := hex
            exact ihn k (by omega) (by omega) hkv
          · refine ⟨i, him, hv, fun k hk => ?_⟩
            cases hkv : listed.getD k false with
            | true => rfl
            | false => exact absurd ⟨k, hk, hkv⟩ hex
      obtain ⟨i0, hi0, hv0⟩ := hun
      obtain ⟨j0, hj0, hj1, hj2⟩ := hmin i0 i0 (Nat.le_refl _) hi0 hv0
      have hgd : ∀ i, i < ops.size → listed.getD i true = listed.getD i false := by
        intro i hi
        rw [getD_lt true (show i < listed.size by omega), getD_lt false (show i < listed.size by omega)]
      obtain ⟨oj, hoj⟩ : ∃ o, ops[j0]? = some o := ⟨_, Array.getElem?_eq_getElem (by omega)⟩
      have hrj : j0 ∈ Region.ready .any ops listed := mem_ready.2 ⟨by rw [hgd j0 (by omega)]; exact hj1, oj, hoj, fun e he hbe => hj2 _ (backB_spec hb hoj e he hbe)⟩
      refine ⟨fun h => (by rw [h] at hrj; cases hrj), fun i hi => ?_⟩
      obtain ⟨hiu, o, ho, hafter⟩ := mem_ready.1 hi
      have hin : i < ops.size := (Array.getElem?_eq_some_iff.1 ho).1
      have him : i < m := by
        rcases Nat.lt_or_ge i m with h | h
        · exact h
        · exfalso
          have := tailB2_spec ht ho h hcl hafter j0 hj0
          rw [hj1] at this
          cases this
      have hil : listed.getD i false = false := by rw [← hgd i hin]; exact hiu
      refine hstep i o f w ho him hB (hGc i hil) (fun e he hbe hu => hF e.on (hafter e he hbe) (fun c hc => by
        rcases hu with hu | hu
        · rw [hu] at hc; cases hc
        · rw [hu] at hc; obtain rfl := Option.some.inj hc; rw [← hgd i hin]; exact hiu)) _ fun v w' hB' hR hFi => ?_
      have hdi : ds[i]? = some o.dst := by
        rw [← hds, List.getElem?_map, Array.getElem?_toList, ho]; rfl
      rw [putL_at hd hdi]
      have hlf : listed.toList[i]? = some false := by
        rw [Array.getElem?_toList, Array.getElem?_eq_getElem (by omega)]
        rw [getD_lt _ (by omega)] at hiu
        exact congrArg some hiu
      refine ih _ _ _ (by simp [hs]) (fun k hk hk2 => ?_) (fun k ok hok hk e he hbe => ?_) hB' (fun k hk => ?_) (fun k hk hku => ?_) ?_
      · have hk3 : k < (listed.setIfInBounds i true).size := by rw [Array.size_setIfInBounds]; omega
        rw [getD_lt _ hk3, Array.getElem_setIfInBounds, if_neg (by omega)]
        have := htl k hk hk2
        rw [getD_lt _ (by omega)] at this
        exact this
      · have hdep : listed.getD e.on false = true := by
          by_cases hki : k = i
          · subst hki
            rw [ho] at hok
            obtain rfl := Option.some.inj hok
            exact hafter e he hbe
          · rw [getD_set_ne false (fun h => hki h.symm)] at hk
            exact hcl k ok hok hk e he hbe
        by_cases hei : e.on = i
        · rw [hei, getD_lt _ (by rw [Array.size_setIfInBounds]; omega), Array.getElem_setIfInBounds_self]
        · rw [getD_set_ne false (fun h => hei h.symm)]; exact hdep
      · by_cases e : k = i
        · subst e
          rw [getD_lt _ (by rw [Array.size_setIfInBounds]; omega), Array.getElem_setIfInBounds_self] at hk
          cases hk
        · exact hstG i w w' k hR e (hGc k (by rw [getD_set_ne false (by omega)] at hk; exact hk))
      · by_cases e : k = i
        · subst e; rw [updV_self]; exact hFi
        · rw [updV_ne f v e]
          have hki : use k ≠ some i := fun h => by
            have := hku i h
            rw [getD_lt _ (by rw [Array.size_setIfInBounds]; omega), Array.getElem_setIfInBounds_self] at this
            cases this
          refine hst i w w' k _ hR e hki (hF k ?_ fun c hc => ?_)
          · rw [getD_set_ne false (by omega)] at hk
            exact hk
          · have := hku c hc
            rw [getD_set_ne false (by intro h; exact hki (h ▸ hc))] at this
            exact this
      · have := count_set listed.toList i hlf
        rw [Array.toList_setIfInBounds]
        omega
/-- The rule. -/
theorem wp_region_factsG {id : Nat} {a0 : Act} {w : World} (G : Nat → World → Prop) (F : Nat → Value → World → Prop) (B : World → Prop) (use : Nat → Option Nat) (R : Nat → World → World → Prop) (K0 : Act → World → Prop) (hK0 : ∀ a w, K0 a w → Q .normal a w) (n m : Nat) (ds : List (Option Tmp)) (hn : ops.size = n) (hmix : P.follows .mixedOrders = true) (hds : ops.toList.map (·.dst) = ds) (hd : distB ds = true) (hb : backB ops = true) (ht : tailB2 ops m = true) (hm : m ≤ n)
    (hst : ∀ j w w' i v, R j w w' → i ≠ j → use i ≠ some j → F i v w → F i v w') (hB : B w.drew) (hG : ∀ c, G c w.drew) (hstG : ∀ j w w' c, R j w w' → c ≠ j → G c w → G c w')
    (hstep : ∀ (i : Nat) (o : Oper) (f : Nat → Value) (w : World), ops[i]? = some o → i < m → B w → G i w → (∀ e ∈ o.after, Region.binds .any e = true → use e.on = none ∨ use e.on = some i → F e.on (f e.on) w) → ∀ K : Act → World → Prop, (∀ v w', B w' → R i w w' → F i v w' → K ((putL ds f 0 a0).put o.dst v) w') → wpOp P ops Q i K (putL ds f 0 a0) w)
    (hend : ∀ (Q2 : Exit → Act → World → Prop), (∀ a w, K0 a w → Q2 .normal a w) → ∀ (f : Nat → Value) (w : World), B w → (∀ i, i < m → use i = none → F i (f i) w) → wpAny P .any ops Q2 (n - m) (tailArr n m) (putL ds f 0 a0) w) :
    (Code.region id ops true).wp P Q a0 w := by
  subst hn
  refine wp_region_any hmix ?_
  have := wpAny_factsG G F B use R m ds a0 hds hd hb ht hm hst hstG hstep (hend Q hK0) ops.size (Array.replicate ops.size false) (fun j => slotV a0 ((ds[j - 0]?).getD none)) w.drew (by simp)
    (fun i _ hi => by simp [Array.getD, hi]) (fun k _ _ hk => by simp [Array.getD] at hk) hB (fun c _ => hG c) (fun i hi _ => by simp [Array.getD] at hi) (by simp)
  rw [putL_self] at this
  exact this
end
end Go.Proofs.Ytopkmeceakjocaa

namespace Go.Proofs.Ytopkmeceakjocaa
set_option maxRecDepth 20000
set_option linter.unusedVariables false
set_option linter.unusedSimpArgs false
open Go.ChangeShapes Go.WideShapes Go.ChangeAt Go.RowKit

theorem pairs_oneE (cs : List (Int × Int)) : ∀ u ∈ pairs cs, u.oneCell' = true := by
  intro u hu
  unfold pairs at hu
  obtain ⟨p, _, hp⟩ := List.mem_flatMap.1 hu
  simp at hp
  rcases hp with rfl | rfl <;> rfl
theorem ArgC.cellsE {w w' : World} {ad : Addr} {n : Nat} {cs : List (Int × Int)} (h : ArgC w (some ad) n cs) (hb : Below w.heap.size w w') : ∀ j u, (pairs cs)[j]? = some u → w'.cell? (ad.add j) = some u := by
  intro j u hu
  rcases h.lies with h0 | ⟨ad', e, hl, hc⟩
  · rw [h0] at hu; simp at hu
  · cases e
    exact (hb.cell (by rw [add_block]; exact hl)).trans (hc j u hu)
theorem info35E : (Try.prog.info? 89).map (fun i => (i.zero, i.size, i.bytes)) = some (some (.agg #[.int .i64 0, .int .i64 0]), 2, 16) := by kernel_rfl
theorem empty_ownE (w : World) : (w.alloc (.cells #[] 89)).ownsRow w.heap.size 89 2 (.slice (some ⟨w.heap.size, 0, none⟩) 0 0) 0 [] := World.ownsRow_lit w #[] 0 (Nat.le_refl _) (by simp [maxLen]) rfl
def RetP (w : World) (n : Nat) (cs : List (Int × Int)) (e : Ending) (w' : World) : Prop := ∃ (A' : Option Addr) (c' : Nat), e = .returned (.slice A' n c') ∧ NewAt w w' A' (pairs cs) ∧ Below w.heap.size w w'
theorem cloneP_any (A : Option Addr) (n c : Nat) (cs : List (Int × Int)) (w : World) (hA : ArgC w A n cs) (hn : n ≤ 100) :
    Calls Try.prog 109 #[.slice A n c] w (RetP w n cs) := by
  obtain ⟨i0, hi, hz0, hz1, hz2⟩ := info_parts info35E
  have Hi := hid hi; have Hz0 := hid hz0; have Hz1 := hid hz1; have Hz2 := hid hz2
  have HA := hid hA
  clear hi hz0 hz1 hz2 hA
  have hb := (Below.refl w.heap.size w).alloc (Nat.le_refl _) (.cells #[] 89)
  have Hb := hid hb
  clear hb
  cases A with
  | none =>
    have hcs : cs = [] := by
      rcases HA.out.lies with h | ⟨ad, e, _⟩
      · cases cs with
        | nil => rfl
        | cons p l => simp [pairs] at h
      · cases e
    subst hcs
    have hn0 : n = 0 := HA.out.len.symm
    subst hn0
    have hnil : ∀ w : World, (binOp .eql 59 (.slice none 0 c) (.slice none 0 0)).run Try.prog w = .ok (.bool true) w := fun w => Lib.run_eql_slice_nil w 59 89 none 0 c 0 0 Try.underlying59
    go_enter Try.func109, Try.ntmps109
    go_wp2_with fail
    go_ret
    exact ⟨_, _, rfl, NewAt.nil _ _ _, Below.refl _ _⟩
  | some ad =>
    have hnil : ∀ w : World, (binOp .eql 59 (.slice (some ad) n c) (.slice none 0 0)).run Try.prog w = .ok (.bool false) w := fun w => Lib.run_eql_slice_nil w 59 89 (some ad) n c 0 0 Try.underlying59
    go_enter Try.func109, Try.ntmps109
    go_wp2_with (at_builtin
                 refine wpList_append_own _ rfl _ _ 59 rfl w.heap.size 89 i0 _ 2 16 Try.underlying59 Hi.out Hz0.out Hz1.out Hz2.out rfl (by decide) _ _ _ rfl (empty_ownE w) ad n c (pairs cs) rfl (by rw [pairs_length, HA.out.len]; omega) (HA.out.cellsE Hb.out) (pairs_oneE cs) (by unfold maxLen; omega) (by omega) (by simp) ?_
                 intro v' w3 hown3 hgr3 hnil3
                 have Hown := hid hown3; have Hgr := hid hgr3; have Hnil := hid hnil3
                 clear hown3 hgr3 hnil3)
    go_ret
    have ho := Hown.out
    rw [Nat.zero_add, List.nil_append] at ho
    have hg : (w.alloc (.cells #[] 89)).grownBy w3 (some w.heap.size) := Hgr.out
    have hbl := Hb.out.grown hg (by simp) (by intro k hk; injection hk with hk; omega)
    rcases id ho.2 with ⟨rfl, h0'⟩ | ⟨g, cap, cur, rfl, hb⟩
    · subst h0'
      exact ⟨_, _, rfl, NewAt.own ho, hbl⟩
    · exact ⟨_, _, rfl, NewAt.own ho, hbl⟩
end Go.Proofs.Ytopkmeceakjocaa

namespace Go.Proofs.Ytopkmeceakjocaa
set_option maxRecDepth 20000
set_option linter.unusedVariables false
set_option linter.unusedSimpArgs false
open Go.ChangeShapes Go.WideShapes Go.ChangeAt Go.RowKit

theorem Fb.frz {w : World} {g t : Nat} {cs : Array Value} (h : Fb w g cs t) : w.frozen? ⟨g, 0, none⟩ = false ∧ w.frozen? ⟨g, 1, none⟩ = false ∧ w.frozen? ⟨g, 2, none⟩ = false ∧ w.frozen? ⟨g, 3, none⟩ = false ∧ w.frozen? ⟨g, 4, none⟩ = false :=
  ⟨h.frozen 0, h.frozen 1, h.frozen 2, h.frozen 3, h.frozen 4⟩
/-- Cells in a block from N on. -/
def NewN (N : Nat) (w' : World) (A : Option Addr) (xs : List Value) : Prop := ∀ ex : List (Option Nat), (∀ k, some k ∈ ex → k < N) → EAt w' ex A xs
theorem NewN.below {N : Nat} {w' w'' : World} {A : Option Addr} {xs : List Value} (h : NewN N w' A xs) (hb : Below w'.heap.size w' w'') : NewN N w'' A xs := fun ex hex => (h ex hex).go (Go2.below hb)
theorem NewAt.num {N : Nat} {w w' : World} {A : Option Addr} {xs : List Value} (h : NewAt w w' A xs) (hz : N ≤ w.heap.size) : NewN N w' A xs := fun ex hex => h ex fun k hk => by have := hex k hk; omega
def put5 (w : World) (R : Nat) (a b c d e : Value) : World := ((((w.setCell ⟨R, 0, none⟩ a).setCell ⟨R, 1, none⟩ b).setCell ⟨R, 2, none⟩ c).setCell ⟨R, 3, none⟩ d).setCell ⟨R, 4, none⟩ e
theorem NewN.put5 {N : Nat} {w0 w' : World} {A : Option Addr} {xs : List Value} (h : NewN N w' A xs) {R : Nat} (hb : R < N) (hz : w0.heap.size ≤ N) (a b c d e : Value) : NewAt w0 (put5 w' R a b c d e) A xs := fun ex hex => by
  have h1 := h (some R :: ex) (fun k hk => by
    rcases List.mem_cons.1 hk with e | hk
    · have := Option.some.inj e; omega
    · have := hex k hk; omega)
  have s : ∀ (v : World) (j : Nat) (u : Value), EAt v (some R :: ex) A xs → EAt (v.setCell ⟨R, j, none⟩ u) (some R :: ex) A xs := fun v j u hv =>
    hv.go (Go2.same (setCell_grown v ⟨R, j, none⟩ u) (.inr (List.mem_cons_self)))
  exact (s _ _ _ (s _ _ _ (s _ _ _ (s _ _ _ (s _ _ _ h1))))).go (Go2.less _ fun k hk => List.mem_cons_of_mem _ hk)
/-- While a function is copied: its box, the result's box, the function itself. -/
structure Ctw (w0 : World) (x : FH) (v : World) : Prop where
  bx : Fb v w0.heap.size #[.int .i64 x.G.W, .slice x.G.A x.G.n x.G.c, .int .i64 x.K.W, .slice x.K.A x.K.n x.K.c, .slice x.C x.k x.q] 61
  rs : Fb v (w0.heap.size + 1) #[.int .i64 0, .slice none 0 0, .int .i64 0, .slice none 0 0, .slice none 0 0] 61
  arg : FArg v x.G.A x.G.n x.K.A x.K.n x.C x.k x.G.ws x.K.ws x.cs
  bel : Below w0.heap.size w0 v
  sz : w0.heap.size + 2 ≤ v.heap.size
theorem Ctw.below {w0 v u : World} {x : FH} (h : Ctw w0 x v) (hb : Below v.heap.size v u) : Ctw w0 x u :=
  ⟨h.bx.below hb h.bx.lt, h.rs.below hb h.rs.lt, h.arg.below hb, below_step h.bel hb, by have := hb.size; have := h.sz; omega⟩
theorem Ctw.start {w0 : World} {x : FH} {ex : List (Option Nat)} (h : FHok w0 ex x) :
    Ctw w0 x ((w0.alloc (.cells #[.int .i64 x.G.W, .slice x.G.A x.G.n x.G.c, .int .i64 x.K.W, .slice x.K.A x.K.n x.K.c, .slice x.C x.k x.q] 61)).alloc (.cells #[.int .i64 0, .slice none 0 0, .int .i64 0, .slice none 0 0, .slice none 0 0] 61)) := by
  have hb := (Below.refl w0.heap.size w0).alloc (Nat.le_refl _) (.cells #[.int .i64 x.G.W, .slice x.G.A x.G.n x.G.c, .int .i64 x.K.W, .slice x.K.A x.K.n x.K.c, .slice x.C x.k x.q] 61)
  have hb2 := hb.alloc hb.size (.cells #[.int .i64 0, .slice none 0 0, .int .i64 0, .slice none 0 0, .slice none 0 0] 61)
  refine ⟨(Fb.new w0 _ _).alloc _, ?_, h.arg.below hb2, hb2, by simp only [World.size_alloc]; omega⟩
  have := Fb.new (w0.alloc (.cells #[.int .i64 x.G.W, .slice x.G.A x.G.n x.G.c, .int .i64 x.K.W, .slice x.K.A x.K.n x.K.c, .slice x.C x.k x.q] 61)) #[.int .i64 0, .slice none 0 0, .int .i64 0, .slice none 0 0, .slice none 0 0] 61
  rwa [World.size_alloc] at this
/-- A function came back whose parts lie in blocks of the call's own. -/
def RetF (w : World) (x : FH) (e : Ending) (w' : World) : Prop :=
  ∃ (A' : Option Addr) (c' : Nat) (B' : Option Addr) (d' : Nat) (C' : Option Addr) (q' : Nat), e = .returned (.agg #[.int .i64 x.G.W, .slice A' x.G.n c', .int .i64 x.K.W, .slice B' x.K.n d', .slice C' x.k q']) ∧
    (NewAt w w' A' (words x.G.ws) ∧ NewAt w w' B' (words x.K.ws) ∧ NewAt w w' C' (pairs x.cs)) ∧ Below w.heap.size w w'
set_option maxHeartbeats 3200000 in
theorem copiedTransfer_any (x : FH) (ex : List (Option Nat)) (w : World) (h : FHok w ex x) (hn : x.G.n ≤ 100) (hm : x.K.n ≤ 100) (hk : x.k ≤ 100) :
    Calls Try.prog 89 #[x.a] w (RetF w x) := by
  have HW := hid (Ctw.start h)
  have HQ := hid (fun (v : World) (hv : Ctw w x v) => And.intro (copiedSet_any x.G.W x.G.A x.G.n x.G.c x.G.ws v hv.arg.gen hn) (And.intro (copiedSet_any x.K.W x.K.A x.K.n x.K.c x.K.ws v hv.arg.kill hm) (cloneP_any x.C x.k x.q x.cs v hv.arg.cops hk)))
  have HF := hid (fun (A' : Option Addr) (c' : Nat) (B' : Option Addr) (d' : Nat) (C' : Option Addr) (q' : Nat) (v : World) (hv : Ctw w x v) (ha : NewN (w.heap.size + 2) v A' (words x.G.ws)) (hb : NewN (w.heap.size + 2) v B' (words x.K.ws)) (hc : NewN (w.heap.size + 2) v C' (pairs x.cs)) =>
    show RetF w x (.returned (.agg #[.int .i64 x.G.W, .slice A' x.G.n c', .int .i64 x.K.W, .slice B' x.K.n d', .slice C' x.k q'])) (put5 v (w.heap.size + 1) (.int .i64 x.G.W) (.slice A' x.G.n c') (.int .i64 x.K.W) (.slice B' x.K.n d') (.slice C' x.k q')) from
      ⟨A', c', B', d', C', q', rfl, ⟨ha.put5 (by omega) (by omega) _ _ _ _ _, hb.put5 (by omega) (by omega) _ _ _ _ _, hc.put5 (by omega) (by omega) _ _ _ _ _⟩,
        ((((hv.bel.setCell (by simp) _).setCell (by simp) _).setCell (by simp) _).setCell (by simp) _).setCell (by simp) _⟩)
  clear h
  have HS := hid (fun (v : World) (hv : Ctw w x v) => hv.bx.five)
  have HS2 := hid (fun (v : World) (hv : Ctw w x v) (a b c d e : Value) => (((((hv.bx.far (p := ⟨w.heap.size + 1, 0, none⟩) (by simp) a).far (p := ⟨w.heap.size + 1, 1, none⟩) (by simp) b).far (p := ⟨w.heap.size + 1, 2, none⟩) (by simp) c).far (p := ⟨w.heap.size + 1, 3, none⟩) (by simp) d).far (p := ⟨w.heap.size + 1, 4, none⟩) (by simp) e).five)
  obtain ⟨⟨V0, A, n, c, gs⟩, ⟨V, B, m, d, ks⟩, C, k, q, cs⟩ := x
  simp only at HW HQ HF HS HS2
  clear hn hm hk
  unfold FH.a
  simp only
  go_enter Try.func89, Try.ntmps89
  go_wp2_with fail
  generalize (w.alloc (.cells #[.int .i64 V0, .slice A n c, .int .i64 V, .slice B m d, .slice C k q] 61)).alloc (.cells #[.int .i64 0, .slice none 0 0, .int .i64 0, .slice none 0 0, .slice none 0 0] 61) = w1 at *
  have K1 : Hid True := hid trivial
  have K2 : Hid True := hid trivial
  have HZ := hid HW.out.sz
  have HW := hid (HW.out.below (Below.refl _ _).drew)
  go_region_held3 (fun v => v.cell? ⟨w.heap.size, 0, none⟩ = some (.int .i64 V0) ∧ v.cell? ⟨w.heap.size, 1, none⟩ = some (.slice A n c) ∧ v.cell? ⟨w.heap.size, 2, none⟩ = some (.int .i64 V) ∧ v.cell? ⟨w.heap.size, 3, none⟩ = some (.slice B m d) ∧ v.cell? ⟨w.heap.size, 4, none⟩ = some (.slice C k q))
    (first | exact HS.out _ HW.out | exact HS2.out _ HW.out _ _ _ _ _)
    (first
     | (go_at_call 88
        clear K1
        refine (HQ.out _ HW.out).1.mono ?_
        rintro e v1 ⟨A1, c1, rfl, ha1, hb1⟩
        have HA1 := hid (ha1.num HW.out.sz)
        have HW := hid (HW.out.below hb1)
        clear ha1 hb1)
     | (go_at_call 88
        clear K2
        refine (HQ.out _ HW.out).2.1.mono ?_
        rintro e v2 ⟨A2, c2, rfl, ha2, hb2⟩
        have HA2 := hid (ha2.num HW.out.sz)
        have HA1 := hid (HA1.out.below hb2)
        have HW := hid (HW.out.below hb2)
        clear ha2 hb2)
     | (go_at_call 109
        refine (HQ.out _ HW.out).2.2.mono ?_
        rintro e v3 ⟨A3, c3, rfl, ha3, hb3⟩
        have HA3 := hid (ha3.num HW.out.sz)
        have HA1 := hid (HA1.out.below hb3)
        have HA2 := hid (HA2.out.below hb3)
        have HW := hid (HW.out.below hb3)
        obtain ⟨r0, r1, r2, r3, r4⟩ := HW.out.rs.five
        obtain ⟨f0, f1, f2, f3, f4⟩ := HW.out.rs.frz
        have hrl := HW.out.rs.lt
        clear ha3 hb3))
  all_goals
    go_wp2_with fail
    refine bodyPost_ret (v := .agg #[.int .i64 V0, .slice A1 n c1, .int .i64 V, .slice A2 m c2, .slice A3 k c3]) (by simp [results, Try.results89, go_sem, r0, r1, r2, r3, r4]) rfl ?_
    exact HF.out A1 c1 A2 c2 A3 c3 v3 HW.out HA1.out HA2.out HA3.out
end Go.Proofs.Ytopkmeceakjocaa

namespace Go.Proofs.Ytopkmeceakjocaa
set_option maxRecDepth 20000
set_option linter.unusedVariables false
set_option linter.unusedSimpArgs false
open Go.ChangeShapes Go.WideShapes Go.ChangeAt Go.RowKit

/-- A valid system of width v with N unknowns. -/
structure SOk (s : SY) (v N : Nat) : Prop where
  w : s.W = v
  v256 : v ≤ 256
  n1 : 1 ≤ N
  n256 : N ≤ 256
  dn : s.D.n = N
  tn : s.T.n = N
  bn : s.B.n = N
  d : ∀ y ∈ s.D.l, RisP N y.l
  tt : tot s.D.v ≤ 1024
  t : ∀ y ∈ s.T.l, FOk v y
  b : ∀ y ∈ s.B.l, y.W = v ∧ Bs.Fit v y.ws
def SY.arc (s : SY) (m : Int) : Nat × Pf := (m.toNat, ((s.T.l[m.toNat]?).map FH.pf).getD ⟨[], [], []⟩)
/-- The web of values. -/
def SY.pw (s : SY) : PW := ⟨s.W.toNat, s.B.l.map ZH.ws, s.D.l.map fun r => r.l.map s.arc⟩
theorem SY.arc_at {s : SY} {m : Nat} {f : FH} (h : s.T.l[m]? = some f) : s.arc (m : Int) = (m, f.pf) := by unfold SY.arc; rw [Int.toNat_natCast, h]; rfl
def exW (X : List (Option Nat)) (R bW gI : Nat) (Bv Iv : Value) : List (Option Nat) := some bW :: some gI :: some R :: Bv.ownBlock :: Iv.ownBlock :: X
structure Wg (X : List (Option Nat)) (w0 : World) (s : SY) (v N bW gI b0 : Nat) (Bv Iv : Value) (lB : List ZH) (done : List AL) (cur : List AH) (ivs : List Value) (u : World) : Prop where
  sx : Fb u w0.heap.size s.box 27
  rx : Fb u (w0.heap.size + 1) #[.int .i64 0, .slice none 0 0, .slice none 0 0] 76
  wx : Fb u bW #[.int .i64 v, Bv, .slice (some ⟨gI, 0, none⟩) N N] 76
  ix : Fb u gI ivs.toArray 100
  hX : ∀ k, some k ∈ X → k < w0.heap.size
  h1 : w0.heap.size + 1 < bW
  h2 : w0.heap.size + 1 < gI
  h4 : bW < b0 ∧ gI < b0
  bel : Below w0.heap.size w0 u
  oB : u.ownsRow b0 50 2 Bv lB.length (lB.flatMap ZH.cs)
  oI : u.ownsRow b0 102 6 Iv cur.length (cur.flatMap AH.cells)
  eB : ∀ y ∈ lB, ZHok u (exW X (w0.heap.size + 1) bW gI Bv Iv) y
  eD : ∀ y ∈ done, ALok u (exW X (w0.heap.size + 1) bW gI Bv Iv) y
  eC : ∀ a ∈ cur, FHok u (exW X (w0.heap.size + 1) bW gI Bv Iv) a.f
  i1 : ivs.length = N
  i2 : ∀ (j : Nat) (y : AL), done[j]? = some y → ivs[j]? = some y.v
  i3 : done.length < N → ivs[done.length]? = some Iv
  i4 : ∀ j, done.length < j → j < N → ivs[j]? = some (.slice none 0 0)
/-- What stands below while one of the statements runs. -/
structure WgK (X : List (Option Nat)) (w0 w1 : World) (s : SY) (v N bW gI : Nat) (Bv Iv : Value) (ivs : List Value) (u : World) : Prop where
  gx : GrX w1 (exW X (w0.heap.size + 1) bW gI Bv Iv) u
  sx : Fb u w0.heap.size s.box 27
  rx : Fb u (w0.heap.size + 1) #[.int .i64 0, .slice none 0 0, .slice none 0 0] 76
  wx : Fb u bW #[.int .i64 v, Bv, .slice (some ⟨gI, 0, none⟩) N N] 76
  ix : Fb u gI ivs.toArray 100
  bel : Below w0.heap.size w0 u
section
variable {X : List (Option Nat)} {w0 w1 u u' : World} {s : SY} {v N bW gI b0 : Nat} {Bv Iv : Value} {lB : List ZH} {done : List AL} {cur : List AH} {ivs : List Value}
theorem wfar {w : World} {v : Value} {ty k n b : Nat} {xs : List Value} (h : w.ownsRow b ty k v n xs) {j : Nat} (hj : j < b) : v.ownBlock = none ∨ v.ownBlock ≠ some j := by
  cases hv : v.ownBlock with
  | none => exact .inl rfl
  | some g => exact .inr fun e => by have := (h.lt g hv).1; have := Option.some.inj e; omega
theorem wne {w : World} {b b' ty ty' k k' n n' : Nat} {v v' : Value} {xs xs' : List Value} (h : w.ownsRow b ty k v n xs) (h' : w.ownsRow b' ty' k' v' n' xs') (ht : ty ≠ ty') : v.ownBlock = none ∨ v.ownBlock ≠ v'.ownBlock := by
  cases hv : v.ownBlock with
  | none => exact .inl rfl
  | some g => exact .inr fun e => (own_typ h hv).ne (own_typ h' e.symm) ht rfl
theorem Wg.below (h : Wg X w0 s v N bW gI b0 Bv Iv lB done cur ivs u) (hb : Below u.heap.size u u') : Wg X w0 s v N bW gI b0 Bv Iv lB done cur ivs u' :=
  ⟨h.sx.below hb h.sx.lt, h.rx.below hb h.rx.lt, h.wx.below hb h.wx.lt, h.ix.below hb h.ix.lt, h.hX, h.h1, h.h2, h.h4, below_step h.bel hb, h.oB.kept (grown_of_below hb none) (by cases Bv.ownBlock <;> simp), h.oI.kept (grown_of_below hb none) (by cases Iv.ownBlock <;> simp),
    fun y hy => (h.eB y hy).below hb, fun y hy => (h.eD y hy).below hb, fun y hy => (h.eC y hy).below hb, h.i1, h.i2, h.i3, h.i4⟩
theorem Wg.exlt (h : Wg X w0 s v N bW gI b0 Bv Iv lB done cur ivs u) : ∀ k, some k ∈ exW X (w0.heap.size + 1) bW gI Bv Iv → k < u.heap.size := by
  intro k hk
  simp only [exW, List.mem_cons, Option.some.injEq] at hk
  rcases hk with rfl | rfl | rfl | hk | hk | hk
  · exact h.wx.lt
  · exact h.ix.lt
  · exact h.rx.lt
  · exact (h.oB.lt k hk.symm).2
  · exact (h.oI.lt k hk.symm).2
  · have := h.hX k hk; have := h.bel.size; omega
theorem Wg.k (h : Wg X w0 s v N bW gI b0 Bv Iv lB done cur ivs w1) : WgK X w0 w1 s v N bW gI Bv Iv ivs w1 := ⟨GrX.refl _ _, h.sx, h.rx, h.wx, h.ix, h.bel⟩
theorem WgK.below (h : WgK X w0 w1 s v N bW gI Bv Iv ivs u) (hb : Below u.heap.size u u') : WgK X w0 w1 s v N bW gI Bv Iv ivs u' :=
  ⟨h.gx.below hb, h.sx.below hb h.sx.lt, h.rx.below hb h.rx.lt, h.wx.below hb h.wx.lt, h.ix.below hb h.ix.lt, below_step h.bel hb⟩
theorem WgK.app {x : Value} {ty k n : Nat} {xs : List Value} (h : WgK X w0 w1 s v N bW gI Bv Iv ivs u) (hs : Wg X w0 s v N bW gI b0 Bv Iv lB done cur ivs w1) (hx : x = Bv ∨ x = Iv) (ho : u.ownsRow b0 ty k x n xs) (hg : u.grownBy u' x.ownBlock) : WgK X w0 w1 s v N bW gI Bv Iv ivs u' := by
  have h1 := hs.h1; have h2 := hs.h2; have h4 := hs.h4
  have far : ∀ j, j < b0 → some j ≠ x.ownBlock := fun j hj e => by have := (ho.lt j e.symm).1; omega
  refine ⟨h.gx.step hg fun g e => .inl ?_, h.sx.grown hg (far _ (by omega)), h.rx.grown hg (far _ (by omega)), h.wx.grown hg (far _ (by omega)), h.ix.grown hg (far _ (by omega)), h.bel.grown hg h.bel.size (fun k hk => by have := (ho.lt k hk).1; omega)⟩
  rcases hx with rfl | rfl <;> simp [exW]
/-- The lists of blocks before and after an append. -/
theorem exW_go {A B A' B' : Value} (h : GrX w1 (exW X (w0.heap.size + 1) bW gI A B) u) (hA : ∀ k, A'.ownBlock = some k → A.ownBlock = some k ∨ w1.heap.size ≤ k) (hB : ∀ k, B'.ownBlock = some k → B.ownBlock = some k ∨ w1.heap.size ≤ k) : Go2 w1 (exW X (w0.heap.size + 1) bW gI A B) u (exW X (w0.heap.size + 1) bW gI A' B') := h.go fun k hk hm => by
  simp only [exW, List.mem_cons, Option.some.injEq] at hm ⊢
  rcases hm with e | e | e | e | e | e
  · exact .inl e
  · exact .inr (.inl e)
  · exact .inr (.inr (.inl e))
  · rcases hA k e.symm with h | h
    · exact .inr (.inr (.inr (.inl h.symm)))
    · omega
  · rcases hB k e.symm with h | h
    · exact .inr (.inr (.inr (.inr (.inl h.symm))))
    · omega
  · exact .inr (.inr (.inr (.inr (.inr e))))
theorem flat_one {α : Type} (l : List α) (x : α) (f : α → List Value) : (l ++ [x]).flatMap f = l.flatMap f ++ f x := by rw [List.flatMap_append]; simp
/-- A Boundary set more. -/
theorem WgK.pushB (h : WgK X w0 w1 s v N bW gI Bv Iv ivs u) (hs : Wg X w0 s v N bW gI b0 Bv Iv lB done cur ivs w1) {g q : Nat} {y : ZH}
    (o : u.ownsRow b0 50 2 (.slice (some ⟨g, 0, none⟩) (lB.length + 1) q) (lB.length + 1) (lB.flatMap ZH.cs ++ y.cs)) (hn : Bv.ownBlock = some g ∨ w1.heap.size ≤ g) (hoI : u.ownsRow b0 102 6 Iv cur.length (cur.flatMap AH.cells))
    (hz : ZHok u (exW X (w0.heap.size + 1) bW gI (.slice (some ⟨g, 0, none⟩) (lB.length + 1) q) Iv) y) :
    Wg X w0 s v N bW gI b0 (.slice (some ⟨g, 0, none⟩) (lB.length + 1) q) Iv (lB ++ [y]) done cur ivs (u.setCell ⟨bW, 1, none⟩ (.slice (some ⟨g, 0, none⟩) (lB.length + 1) q)) := by
  have h1 := hs.h1; have h2 := hs.h2; have h4 := hs.h4
  have hne : bW ≠ gI := h.wx.typ.ne h.ix.typ (by decide)
  generalize hv : Value.slice (some ⟨g, 0, none⟩) (lB.length + 1) q = Bv' at *
  have kB : Bv'.ownBlock = some g := by rw [← hv]; rfl
  have hG1 := exW_go (A' := Bv') (B' := Iv) h.gx (fun k hk => by rw [kB] at hk; rw [← Option.some.inj hk]; exact hn) (fun k hk => .inl hk)
  have hS := setCell_grown u ⟨bW, 1, none⟩ Bv'
  have hG2 : Go2 u (exW X (w0.heap.size + 1) bW gI Bv' Iv) _ (exW X (w0.heap.size + 1) bW gI Bv' Iv) := Go2.same hS (.inr (by simp [exW]))
  have hG := hG1.trans hG2
  refine ⟨h.sx.far (by show w0.heap.size ≠ bW; omega) _, h.rx.far (by show w0.heap.size + 1 ≠ bW; omega) _, h.wx.set 1 _, h.ix.far (by show gI ≠ bW; omega) _, hs.hX, h1, h2, h4, h.bel.setCell (by show w0.heap.size ≤ bW; omega) _, ?_, hoI.kept hS (wfar hoI (by show bW < b0; omega)),
    ?_, fun y hy => (hs.eD y hy).go hG, fun y hy => (hs.eC y hy).go hG, hs.i1, hs.i2, hs.i3, hs.i4⟩
  · rw [List.length_append, flat_one]; exact o.kept hS (wfar o (by show bW < b0; omega))
  · intro z hz'
    rcases List.mem_append.1 hz' with hz' | hz'
    · exact (hs.eB z hz').go hG
    · rw [List.mem_singleton.1 hz']; exact hz.go hG2
/-- An arc more. -/
theorem WgK.pushA (h : WgK X w0 w1 s v N bW gI Bv Iv ivs u) (hs : Wg X w0 s v N bW gI b0 Bv Iv lB done cur ivs w1) (hk : done.length < N) {g q : Nat} {y : AH}
    (o : u.ownsRow b0 102 6 (.slice (some ⟨g, 0, none⟩) (cur.length + 1) q) (cur.length + 1) (cur.flatMap AH.cells ++ y.cells)) (hn : Iv.ownBlock = some g ∨ w1.heap.size ≤ g) (hoB : u.ownsRow b0 50 2 Bv lB.length (lB.flatMap ZH.cs))
    (hz : FHok u (exW X (w0.heap.size + 1) bW gI Bv (.slice (some ⟨g, 0, none⟩) (cur.length + 1) q)) y.f) :
    Wg X w0 s v N bW gI b0 Bv (.slice (some ⟨g, 0, none⟩) (cur.length + 1) q) lB done (cur ++ [y]) (ivs.set done.length (.slice (some ⟨g, 0, none⟩) (cur.length + 1) q)) (u.setCell ⟨gI, done.length, none⟩ (.slice (some ⟨g, 0, none⟩) (cur.length + 1) q)) := by
  have h1 := hs.h1; have h2 := hs.h2; have h4 := hs.h4
  have hne : bW ≠ gI := h.wx.typ.ne h.ix.typ (by decide)
  generalize hv : Value.slice (some ⟨g, 0, none⟩) (cur.length + 1) q = Iv' at *
  have kB : Iv'.ownBlock = some g := by rw [← hv]; rfl
  have hG1 := exW_go (A' := Bv) (B' := Iv') h.gx (fun k hk => .inl hk) (fun k hk => by rw [kB] at hk; rw [← Option.some.inj hk]; exact hn)
  have hS := setCell_grown u ⟨gI, done.length, none⟩ Iv'
  have hG2 : Go2 u (exW X (w0.heap.size + 1) bW gI Bv Iv') _ (exW X (w0.heap.size + 1) bW gI Bv Iv') := Go2.same hS (.inr (by simp [exW]))
  have hG := hG1.trans hG2
  have hix := h.ix.set done.length Iv'
  rw [List.setIfInBounds_toArray] at hix
  refine ⟨h.sx.far (by show w0.heap.size ≠ gI; omega) _, h.rx.far (by show w0.heap.size + 1 ≠ gI; omega) _, h.wx.far (by show bW ≠ gI; omega) _, hix, hs.hX, h1, h2, h4, h.bel.setCell (by show w0.heap.size ≤ gI; omega) _, hoB.kept hS (wfar hoB (by show gI < b0; omega)), ?_,
    fun y hy => (hs.eB y hy).go hG, fun y hy => (hs.eD y hy).go hG, ?_, by rw [List.length_set]; exact hs.i1, fun j x hj => ?_, fun _ => ?_, fun j hj hjN => ?_⟩
  · rw [List.length_append, flat_one]; exact o.kept hS (wfar o (by show gI < b0; omega))
  · intro z hz'
    rcases List.mem_append.1 hz' with hz' | hz'
    · exact (hs.eC z hz').go hG
    · rw [List.mem_singleton.1 hz']; exact hz.go hG2
  · have := (List.getElem?_eq_some_iff.1 hj).1
    rw [List.getElem?_set_ne (by omega)]; exact hs.i2 j x hj
  · rw [List.getElem?_set_self (by rw [hs.i1]; exact hk)]
  · rw [List.getElem?_set_ne (by omega)]; exact hs.i4 j hj hjN
/-- A row has ended. -/
theorem Wg.next {A : Option Addr} {c : Nat} (h : Wg X w0 s v N bW gI b0 Bv (.slice A cur.length c) lB done cur ivs u) (hN : N ≤ 100000) (hl : cur.length ≤ 100000) (hk : done.length < N) :
    Wg X w0 s v N bW gI b0 Bv (.slice none 0 0) lB (done ++ [⟨A, cur.length, c, cur⟩]) [] ivs u := by
  have h1 := h.h1; have h2 := h.h2; have h4 := h.h4; have hb := h.bel.size
  have hG : Go2 u (exW X (w0.heap.size + 1) bW gI Bv (.slice A cur.length c)) u (exW X (w0.heap.size + 1) bW gI Bv (.slice none 0 0)) := Go2.less _ fun k hk => by
    simp only [exW, List.mem_cons, Value.ownBlock, reduceCtorEq, false_or] at hk ⊢
    rcases hk with e | e | e | e | e
    · exact .inl e
    · exact .inr (.inl e)
    · exact .inr (.inr (.inl e))
    · exact .inr (.inr (.inr (.inl e)))
    · exact .inr (.inr (.inr (.inr (.inr e))))
  refine ⟨h.sx, h.rx, h.wx, h.ix, h.hX, h1, h2, h4, h.bel, h.oB, World.ownsRow_nil _ _ _ _, fun y hy => (h.eB y hy).go hG, ?_, by simp, h.i1, fun j y hj => ?_, fun hj => ?_, fun j hj hjN => ?_⟩
  · intro y hy
    rcases List.mem_append.1 hy with hy | hy
    · exact (h.eD y hy).go hG
    · rw [List.mem_singleton.1 hy]
      refine ⟨EAt.own h.oI fun g hg hm => ?_, rfl, by show cur.length ≤ _; omega, fun a ha => (h.eC a ha).go hG⟩
      have hgb := (h.oI.lt g hg).1
      simp only [exW, List.mem_cons, Option.some.injEq, Value.ownBlock, reduceCtorEq, false_or] at hm
      rcases hm with e | e | e | e | e
      · omega
      · omega
      · omega
      · exact (own_typ h.oI hg).ne (own_typ h.oB e.symm) (by decide) rfl
      · have := h.hX g e; omega
  · rcases Nat.lt_or_ge j done.length with hlt | hge
    · rw [List.getElem?_append_left hlt] at hj; exact h.i2 j y hj
    · rw [List.getElem?_append_right hge] at hj
      have e : j = done.length := by
        have := (List.getElem?_eq_some_iff.1 hj).1
        simp at this; omega
      subst e
      simp at hj
      subst hj
      exact h.i3 hk
  · rw [List.length_append] at hj ⊢
    exact h.i4 _ (by simp) hj
  · rw [List.length_append] at hj
    exact h.i4 j (by simp at hj; omega) hjN
end
/-- What the operations of the statement that appends a Boundary set leave. -/
def wbF (ex : Value → List (Option Nat)) (w1 : World) (sx bW b0 : Nat) (s : SY) (Bv : Value) (lB : List ZH) (k : Nat) (ad : Addr) (z : ZH) : Nat → Value → World → Prop
  | 0, v, _ => v = .pointer (some ⟨bW, 1, none⟩)
  | 1, v, _ => v = Bv
  | 2, v, _ => v = .pointer (some ⟨sx, 3, none⟩)
  | 3, v, _ => v = .slice s.B.A s.B.n s.B.c
  | 4, v, _ => v = .int .i64 k
  | 5, v, _ => v = .pointer (some (ad.add (k * 2)))
  | 6, v, _ => v = .agg #[.int .i64 z.W, .slice z.A z.n z.c]
  | 7, v, u => ∃ (A : Option Addr) (c : Nat), v = .agg #[.int .i64 z.W, .slice A z.n c] ∧ EAt u (ex Bv) A (words z.ws)
  | 8, v, u => ∃ (A : Option Addr) (c g : Nat), v = .slice (some ⟨g, 0, none⟩) 1 1 ∧ Fb u g #[.int .i64 z.W, .slice A z.n c] 50 ∧ EAt u (ex Bv) A (words z.ws)
  | 9, v, u => ∃ (A : Option Addr) (c g q : Nat), v = .slice (some ⟨g, 0, none⟩) (lB.length + 1) q ∧ u.ownsRow b0 50 2 (.slice (some ⟨g, 0, none⟩) (lB.length + 1) q) (lB.length + 1) (lB.flatMap ZH.cs ++ [.int .i64 z.W, .slice A z.n c]) ∧ (Bv.ownBlock = some g ∨ w1.heap.size ≤ g) ∧ EAt u (ex (.slice (some ⟨g, 0, none⟩) (lB.length + 1) q)) A (words z.ws)
  | _, _, _ => True
def wbU : Nat → Option Nat
  | 7 => some 8
  | 8 => some 9
  | _ => none
def wbR (Bv : Value) (j : Nat) (u u' : World) : Prop := ∃ row, u.grownBy u' row ∧ (row = none ∨ (j = 9 ∧ row = Bv.ownBlock))
theorem wbR.below {Bv : Value} {j : Nat} {u u' : World} (h : Below u.heap.size u u') : wbR Bv j u u' := ⟨none, grown_of_below h _, .inl rfl⟩
theorem wbR.refl (Bv : Value) (j : Nat) (u : World) : wbR Bv j u u := wbR.below (Below.refl _ _)
theorem wbF_st {ex : Value → List (Option Nat)} {w1 : World} {sx bW b0 : Nat} {s : SY} {Bv : Value} {lB : List ZH} {k : Nat} {ad : Addr} {z : ZH} (hex : ∀ x, x.ownBlock ∈ ex x) (j : Nat) (u u' : World) (i : Nat) (v : Value) (hR : wbR Bv j u u') (hne : i ≠ j) (hu : wbU i ≠ some j) (h : wbF ex w1 sx bW b0 s Bv lB k ad z i v u) : wbF ex w1 sx bW b0 s Bv lB k ad z i v u' := by
  obtain ⟨row, hg, hr⟩ := hR
  have hE : ∀ {A : Option Addr} {xs : List Value}, EAt u (ex Bv) A xs → EAt u' (ex Bv) A xs := fun he => he.go (Go2.same hg (by
    rcases hr with rfl | ⟨_, rfl⟩
    · exact .inl rfl
    · exact .inr (hex Bv)))
  have hN : j ≠ 9 → row = none := fun h9 => by rcases hr with e | ⟨e, _⟩; exact e; exact absurd e h9
  match i, hne, hu, h with
  | 0, _, _, h => exact h
  | 1, _, _, h => exact h
  | 2, _, _, h => exact h
  | 3, _, _, h => exact h
  | 4, _, _, h => exact h
  | 5, _, _, h => exact h
  | 6, _, _, h => exact h
  | 7, _, _, h => obtain ⟨A, c, h1, h2⟩ := h; exact ⟨A, c, h1, hE h2⟩
  | 8, _, hu, h =>
    obtain ⟨A, c, g, h1, h2, h3⟩ := h
    have := hN fun e => hu (by rw [e]; rfl)
    subst this
    exact ⟨A, c, g, h1, h2.grown hg (by simp), hE h3⟩
  | 9, hne, _, h =>
    obtain ⟨A, c, g, q, h1, h2, h3, h4⟩ := h
    have := hN hne.symm
    subst this
    exact ⟨A, c, g, q, h1, h2.kept hg (.inr (by simp [Value.ownBlock])), h3, h4.go (Go2.same hg (.inl rfl))⟩
  | i + 10, _, _, h => trivial
def wbG (b0 : Nat) (Bv Iv : Value) (lB : List ZH) (cur : List AH) : Nat → World → Prop
  | 9, u => u.ownsRow b0 50 2 Bv lB.length (lB.flatMap ZH.cs)
  | _, _ => True
theorem wbG_st {b0 : Nat} {Bv Iv : Value} {lB : List ZH} {cur : List AH} (j : Nat) (u u' : World) (c : Nat) (hR : wbR Bv j u u') (hne : c ≠ j) (h : wbG b0 Bv Iv lB cur c u) : wbG b0 Bv Iv lB cur c u' := by
  by_cases h9 : c = 9
  · subst h9
    obtain ⟨row, hg, hr⟩ := hR
    have : row = none := by rcases hr with e | ⟨e, _⟩; exact e; exact absurd e.symm hne
    subst this
    exact (show u.ownsRow _ _ _ _ _ _ from h).kept hg (by cases Bv.ownBlock <;> simp)
  · unfold wbG; split <;> first | omega | trivial
/-- What the operations of the statement that appends an arc leave. -/
def waF (ex : Value → List (Option Nat)) (w1 : World) (sx bW gI b0 N : Nat) (s : SY) (Iv : Value) (cur : List AH) (k m : Nat) (ad : Addr) (f : FH) : Nat → Value → World → Prop
  | 0, v, _ => v = .pointer (some ⟨bW, 2, none⟩)
  | 1, v, _ => v = .slice (some ⟨gI, 0, none⟩) N N
  | 2, v, _ => v = .int .i64 k
  | 3, v, _ => v = .pointer (some ⟨bW, 2, none⟩)
  | 4, v, _ => v = .slice (some ⟨gI, 0, none⟩) N N
  | 5, v, _ => v = .int .i64 k
  | 6, v, _ => v = .pointer (some ⟨gI, k, none⟩)
  | 7, v, _ => v = Iv
  | 8, v, _ => v = .int .i64 m
  | 9, v, _ => v = .pointer (some ⟨sx, 2, none⟩)
  | 10, v, _ => v = .slice s.T.A s.T.n s.T.c
  | 11, v, _ => v = .int .i64 m
  | 12, v, _ => v = .pointer (some (ad.add (m * 5)))
  | 13, v, _ => v = .agg #[.int .i64 f.G.W, .slice f.G.A f.G.n f.G.c, .int .i64 f.K.W, .slice f.K.A f.K.n f.K.c, .slice f.C f.k f.q]
  | 14, v, u => ∃ (A : Option Addr) (c : Nat) (B : Option Addr) (d : Nat) (C : Option Addr) (q : Nat), v = .agg #[.int .i64 f.G.W, .slice A f.G.n c, .int .i64 f.K.W, .slice B f.K.n d, .slice C f.k q] ∧ FHok u (ex Iv) ⟨⟨f.G.W, A, f.G.n, c, f.G.ws⟩, ⟨f.K.W, B, f.K.n, d, f.K.ws⟩, C, f.k, q, f.cs⟩
  | 15, v, u => ∃ (A : Option Addr) (c : Nat) (B : Option Addr) (d : Nat) (C : Option Addr) (q : Nat), v = .agg #[.int .i64 m, .int .i64 f.G.W, .slice A f.G.n c, .int .i64 f.K.W, .slice B f.K.n d, .slice C f.k q] ∧ FHok u (ex Iv) ⟨⟨f.G.W, A, f.G.n, c, f.G.ws⟩, ⟨f.K.W, B, f.K.n, d, f.K.ws⟩, C, f.k, q, f.cs⟩
  | 16, v, u => ∃ (A : Option Addr) (c : Nat) (B : Option Addr) (d : Nat) (C : Option Addr) (q g : Nat), v = .slice (some ⟨g, 0, none⟩) 1 1 ∧ Fb u g #[.int .i64 m, .int .i64 f.G.W, .slice A f.G.n c, .int .i64 f.K.W, .slice B f.K.n d, .slice C f.k q] 102 ∧ FHok u (ex Iv) ⟨⟨f.G.W, A, f.G.n, c, f.G.ws⟩, ⟨f.K.W, B, f.K.n, d, f.K.ws⟩, C, f.k, q, f.cs⟩
  | 17, v, u => ∃ (A : Option Addr) (c : Nat) (B : Option Addr) (d : Nat) (C : Option Addr) (q g p : Nat), v = .slice (some ⟨g, 0, none⟩) (cur.length + 1) p ∧ u.ownsRow b0 102 6 (.slice (some ⟨g, 0, none⟩) (cur.length + 1) p) (cur.length + 1) (cur.flatMap AH.cells ++ [.int .i64 m, .int .i64 f.G.W, .slice A f.G.n c, .int .i64 f.K.W, .slice B f.K.n d, .slice C f.k q]) ∧ (Iv.ownBlock = some g ∨ w1.heap.size ≤ g) ∧ FHok u (ex (.slice (some ⟨g, 0, none⟩) (cur.length + 1) p)) ⟨⟨f.G.W, A, f.G.n, c, f.G.ws⟩, ⟨f.K.W, B, f.K.n, d, f.K.ws⟩, C, f.k, q, f.cs⟩
  | _, _, _ => True
def waU : Nat → Option Nat
  | 14 => some 15
  | 15 => some 16
  | 16 => some 17
  | _ => none
def waR (Iv : Value) (j : Nat) (u u' : World) : Prop := ∃ row, u.grownBy u' row ∧ (row = none ∨ (j = 17 ∧ row = Iv.ownBlock))
theorem waR.below {Iv : Value} {j : Nat} {u u' : World} (h : Below u.heap.size u u') : waR Iv j u u' := ⟨none, grown_of_below h _, .inl rfl⟩
theorem waR.refl (Iv : Value) (j : Nat) (u : World) : waR Iv j u u := waR.below (Below.refl _ _)
theorem waF_st {ex : Value → List (Option Nat)} {w1 : World} {sx bW gI b0 N : Nat} {s : SY} {Iv : Value} {cur : List AH} {k m : Nat} {ad : Addr} {f : FH} (hex : ∀ x, x.ownBlock ∈ ex x) (j : Nat) (u u' : World) (i : Nat) (v : Value) (hR : waR Iv j u u') (hne : i ≠ j) (hu : waU i ≠ some j) (h : waF ex w1 sx bW gI b0 N s Iv cur k m ad f i v u) : waF ex w1 sx bW gI b0 N s Iv cur k m ad f i v u' := by
  obtain ⟨row, hg, hr⟩ := hR
  have hE : ∀ {x : FH}, FHok u (ex Iv) x → FHok u' (ex Iv) x := fun he => he.go (Go2.same hg (by
    rcases hr with rfl | ⟨_, rfl⟩
    · exact .inl rfl
    · exact .inr (hex Iv)))
  have hN : j ≠ 17 → row = none := fun h9 => by rcases hr with e | ⟨e, _⟩; exact e; exact absurd e h9
  match i, hne, hu, h with
  | 0, _, _, h => exact h
  | 1, _, _, h => exact h
  | 2, _, _, h => exact h
  | 3, _, _, h => exact h
  | 4, _, _, h => exact h
  | 5, _, _, h => exact h
  | 6, _, _, h => exact h
  | 7, _, _, h => exact h
  | 8, _, _, h => exact h
  | 9, _, _, h => exact h
  | 10, _, _, h => exact h
  | 11, _, _, h => exact h
  | 12, _, _, h => exact h
  | 13, _, _, h => exact h
  | 14, _, _, h => obtain ⟨A, c, B, d, C, q, h1, h2⟩ := h; exact ⟨A, c, B, d, C, q, h1, hE h2⟩
  | 15, _, _, h => obtain ⟨A, c, B, d, C, q, h1, h2⟩ := h; exact ⟨A, c, B, d, C, q, h1, hE h2⟩
  | 16, _, hu, h =>
    obtain ⟨A, c, B, d, C, q, g, h1, h2, h3⟩ := h
    have := hN fun e => hu (by rw [e]; rfl)
    subst this
    exact ⟨A, c, B, d, C, q, g, h1, h2.grown hg (by simp), hE h3⟩
  | 17, hne, _, h =>
    obtain ⟨A, c, B, d, C, q, g, p, h1, h2, h3, h4⟩ := h
    have := hN hne.symm
    subst this
    exact ⟨A, c, B, d, C, q, g, p, h1, h2.kept hg (.inr (by simp [Value.ownBlock])), h3, h4.go (Go2.same hg (.inl rfl))⟩
  | i + 18, _, _, h => trivial
def waG (b0 : Nat) (Iv : Value) (cur : List AH) : Nat → World → Prop
  | 17, u => u.ownsRow b0 102 6 Iv cur.length (cur.flatMap AH.cells)
  | _, _ => True
theorem waG_st {b0 : Nat} {Iv : Value} {cur : List AH} (j : Nat) (u u' : World) (c : Nat) (hR : waR Iv j u u') (hne : c ≠ j) (h : waG b0 Iv cur c u) : waG b0 Iv cur c u' := by
  by_cases h9 : c = 17
  · subst h9
    obtain ⟨row, hg, hr⟩ := hR
    have : row = none := by rcases hr with e | ⟨e, _⟩; exact e; exact absurd e.symm hne
    subst this
    exact (show u.ownsRow _ _ _ _ _ _ from h).kept hg (by cases Iv.ownBlock <;> simp)
  · unfold waG; split <;> first | omega | trivial
theorem info89 : (Try.prog.info? 102).map (fun i => (i.zero, i.size, i.bytes)) = some (some (.agg #[.int .i64 0, .int .i64 0, .slice none 0 0, .int .i64 0, .slice none 0 0, .slice none 0 0]), 6, 96) := by kernel_rfl
theorem info87 : (Try.prog.info? 100).map (fun i => (i.zero, i.size, i.bytes)) = some (some (.slice none 0 0), 1, 24) := by kernel_rfl
theorem run_mkarcs (n : Nat) (hn : n ≤ 100000) (w : World) :
    (Instr.makeSlice 74 (.int .i64 (n : Int)) (.int .i64 (n : Int))).run Try.prog w = .ok (.slice (some ⟨w.heap.size, 0, none⟩) n n) (w.alloc (.cells (List.replicate n (Value.slice none 0 0)).toArray 100)) := by
  obtain ⟨i, hi, hz0, hz1, hz2⟩ := info_parts info87
  have h := run_make (P := Try.prog) w 74 100 i (.slice none 0 0) Try.underlying74 hi hz0 .i64 .i64 n n (by omega) (by omega) (by rw [hz2]; omega) (by omega)
  rw [h, hz1]
  simp only [Int.toNat_natCast, Nat.mul_one]
  have e2 : madeCells (Value.slice none 0 0).cells n = (List.replicate n (Value.slice none 0 0)).toArray := by
    rw [show (Value.slice none 0 0).cells = #[Value.slice none 0 0] from rfl]
    unfold madeCells
    apply Array.ext
    · simp
    · intro j h1 h2
      simp [Nat.mod_one]
  rw [e2]
end Go.Proofs.Ytopkmeceakjocaa

namespace Go.Proofs.Ytopkmeceakjocaa
set_option maxRecDepth 20000
set_option linter.unusedVariables false
set_option linter.unusedSimpArgs false
open Go.ChangeShapes Go.WideShapes Go.ChangeAt Go.RowKit

theorem isUnkC_any (s : SY) (N : Nat) (m : Int) (w : World) (hN : s.D.n = N) :
    Calls Try.prog 40 #[s.a, .int .i64 m] w fun e w' => e = .returned (.bool (decide (0 ≤ m ∧ m < (N : Int)))) ∧ Below w.heap.size w w' := by
  obtain ⟨W, ⟨DA, dn, dc, dl⟩, ⟨TA, tn, tc, tl⟩, ⟨BA, bn, bc, bl⟩⟩ := s
  unfold SY.a
  simp only at *
  subst hN
  have hb1 := (Below.refl w.heap.size w).alloc (Nat.le_refl _) (.cells #[.int .i64 W, .slice DA dn dc, .slice TA tn tc, .slice BA bn bc] 27)
  have HW1 := hid (Fb.new w #[.int .i64 W, .slice DA dn dc, .slice TA tn tc, .slice BA bn bc] 27)
  have HB := hid hb1
  clear hb1
  go_enter Try.func40, Try.ntmps40
  go_upto_region 1 with fail
  generalize w.alloc (.cells #[.int .i64 W, .slice DA dn dc, .slice TA tn tc, .slice BA bn bc] 27) = w1 at *
  obtain ⟨x0, x1, x2, x3⟩ := HW1.out.four
  by_cases h0 : 0 ≤ m
  · by_cases h1 : m < (dn : Int)
    · have Hr := hid (show decide (0 ≤ m ∧ m < (dn : Int)) = true by simp [h0, h1])
      go_wp2_with fail
      go_ret
      exact ⟨ret_b Hr.out, HB.out⟩
    · have Hr := hid (show decide (0 ≤ m ∧ m < (dn : Int)) = false by simp [h1])
      have h2 : (dn : Int) ≤ m := by omega
      have t1 : decide (m < (dn : Int)) = false := by simp [h1]
      clear h1
      go_wp2_with fail
      go_ret
      exact ⟨ret_b Hr.out, HB.out⟩
  · have Hr := hid (show decide (0 ≤ m ∧ m < (dn : Int)) = false by simp [h0])
    have t1 : decide (0 ≤ m) = false := by simp [h0]
    clear h0
    go_wp2_with fail
    go_ret
    exact ⟨ret_b Hr.out, HB.out⟩
/-- Which unknowns are in a list came back. -/
def RetMk (w : World) (N : Nat) (l : List Int) (e : Ending) (w' : World) : Prop :=
  (inR N l = true → ∃ g, e = .returned (.tuple #[.slice (some ⟨g, 0, none⟩) N N, .bool true]) ∧ w.heap.size ≤ g ∧ BRow w' g N (mks N l)) ∧ (inR N l = false → e = .returned (.tuple #[.slice none 0 0, .bool false])) ∧ Below w.heap.size w w'
/-- While marks are made. -/
structure MkS (w : World) (S : Array Value) (g N : Nat) (l : List Int) (u : World) : Prop where
  bx : Fb u w.heap.size S 27
  ms : BRow u g N (mks N l)
  lt : w.heap.size < g
  bel : Below w.heap.size w u
  inn : inR N l = true
theorem MkS.below {w u u' : World} {S : Array Value} {g N : Nat} {l : List Int} (h : MkS w S g N l u) (hb : Below u.heap.size u u') : MkS w S g N l u' :=
  ⟨h.bx.below hb h.bx.lt, h.ms.below hb, h.lt, below_step h.bel hb, h.inn⟩
theorem inR_snoc {N : Nat} {l : List Int} {m : Nat} (h : inR N l = true) (hm : m < N) : inR N (l ++ [(m : Int)]) = true := by
  rw [inR_iff] at *
  intro x hx
  rcases List.mem_append.1 hx with hx | hx
  · exact h x hx
  · rw [List.mem_singleton.1 hx]; omega
theorem MkS.put {w u : World} {S : Array Value} {g N m : Nat} {l : List Int} (h : MkS w S g N l u) (hm : m < N) : MkS w S g N (l ++ [(m : Int)]) (u.setCell ⟨g, m, none⟩ (.bool true)) :=
  ⟨h.bx.far (by have := h.lt; show w.heap.size ≠ g; omega) _, by have := h.ms.put m true; rwa [mks_put hm] at this, h.lt, h.bel.setCell (by have := h.lt; exact Nat.le_of_lt this) _, inR_snoc h.inn hm⟩
set_option maxHeartbeats 6400000 in
theorem markedC_any (s : SY) (N : Nat) (rk : RH) (ex' : List (Option Nat)) (w : World) (hN : s.D.n = N) (hN2 : N ≤ 100000) (hr : RHok w ex' rk) :
    Calls Try.prog 39 #[s.a, .slice rk.A rk.n rk.c] w (RetMk w N rk.l) := by
  have HU := hid (fun (m : Int) (u : World) => isUnkC_any s N m u hN)
  have HR := hid (fun (u : World) (hu : Below w.heap.size w u) => hr.below hu)
  have HRl := hid hr.len
  have hfew := hr.few
  have hmk := run_mkbools N hN2
  have HBn := hid (fun (u : World) => show BRow (u.alloc (.cells ((List.replicate N false).map Value.bool).toArray 4)) u.heap.size N (mks N []) by rw [mks_nil]; exact BRow.new u N)
  generalize List.replicate N false = ds0 at *
  have Hmk := hid hmk
  clear hr hmk
  obtain ⟨W, ⟨DA, dn, dc, dl⟩, ⟨TA, tn, tc, tl⟩, ⟨BA, bn, bc, bl⟩⟩ := s
  unfold SY.a at *
  simp only at *
  subst hN
  have hb1 := (Below.refl w.heap.size w).alloc (Nat.le_refl _) (.cells #[.int .i64 W, .slice DA dn dc, .slice TA tn tc, .slice BA bn bc] 27)
  have HW1 := hid (Fb.new w #[.int .i64 W, .slice DA dn dc, .slice TA tn tc, .slice BA bn bc] 27)
  have HB := hid hb1
  clear hb1
  go_enter Try.func39, Try.ntmps39
  go_upto_region 1 with fail
  generalize w.alloc (.cells #[.int .i64 W, .slice DA dn dc, .slice TA tn tc, .slice BA bn bc] 27) = w1 at *
  obtain ⟨x0, x1, x2, x3⟩ := HW1.out.four
  have hmk := Hmk.out w1
  have hb2 := (Below.refl w1.heap.size w1).alloc (Nat.le_refl _) (.cells (ds0.map Value.bool).toArray 4)
  have HS0 := hid (show MkS w #[.int .i64 W, .slice DA dn dc, .slice TA tn tc, .slice BA bn bc] w1.heap.size dn [] (w1.alloc (.cells (ds0.map Value.bool).toArray 4)) from
    ⟨HW1.out.below hb2 HW1.out.lt, HBn.out w1, HW1.out.lt, below_step HB.out hb2, rfl⟩)
  clear hb2
  go_upto_region 2 with fail
  generalize w1.alloc (.cells (ds0.map Value.bool).toArray 4) = w2 at *
  generalize w1.heap.size = g at *
  clear x0 x1 x2 x3 hmk HB HW1
  go_wp2_with fail
  go_loopw [15] (fun iv wr => ∃ i : Nat, i ≤ rk.n ∧ iv = .int .i64 i ∧ Hid (MkS w #[.int .i64 W, .slice DA dn dc, .slice TA tn tc, .slice BA bn bc] g dn (rk.l.take i) wr)) (fun iv _ => rk.n - (intOf iv).toNat)
  case atStart => exact ⟨0, by omega, rfl, HS0⟩
  case round =>
    clear HS0
    obtain ⟨i, hi, rfl, HS⟩ := hrel
    by_cases hlt : i < rk.n
    · obtain ⟨m, hm, hmm⟩ := get_at HRl.out hlt
      obtain ⟨ad, hA, hal, y0⟩ := (HR.out wr HS.out.bel).cell hm
      obtain ⟨x0, x1, x2, x3⟩ := HS.out.bx.four
      have Hm := hid hm
      have Hmm := hid hmm
      clear hm hmm
      rw [hA]
      go_wp2_with fail
      refine (HU.out m wr).mono ?_
      by_cases hu : 0 ≤ m ∧ m < (dn : Int)
      · rw [show decide (0 ≤ m ∧ m < (dn : Int)) = true by simp [hu]]
        rintro _ w5 ⟨rfl, hb5⟩
        have HS5 := hid (HS.out.below hb5)
        clear x0 x1 x2 x3 y0 hb5 HS
        obtain ⟨m, rfl⟩ : ∃ k : Nat, m = k := ⟨m.toNat, by omega⟩
        have hmN : m < dn := by omega
        have m2 : (m : Int).toNat = m := by omega
        clear hu
        have y0 := HS5.out.ms.cell (mks_at hmN)
        have f0 := HS5.out.ms.fb.frozen m
        have hl := HS5.out.ms.fb.lt
        have HI1 := hid (show MkS w #[.int .i64 W, .slice DA dn dc, .slice TA tn tc, .slice BA bn bc] g dn (rk.l.take (i + 1)) (w5.setCell ⟨g, m, none⟩ (.bool true)) from by
          have := HS5.out.put hmN
          rw [List.take_add_one, Hm.out]
          exact this)
        clear HS5
        go_wp2_with fail
        go_roundw
        case rel => exact ⟨i + 1, by omega, by go_num, HI1⟩
        case measure => simp [intOf]; omega
      · rw [show decide (0 ≤ m ∧ m < (dn : Int)) = false by simp [hu]]
        rintro _ w5 ⟨rfl, hb5⟩
        have HS5 := hid (HS.out.below hb5)
        have Hno := hid (show inR dn rk.l = false by
          rw [Bool.eq_false_iff]
          intro h
          exact hu (inR_iff.1 h m Hmm.out))
        clear x0 x1 x2 x3 y0 hb5 HS hu
        go_wp2_with fail
        exact bodyPost_ret (v := .tuple #[.slice none 0 0, .bool false]) (by simp [results, Try.results39, go_sem]) rfl ⟨fun h => absurd (Hno.out.symm.trans h) (by decide), fun _ => rfl, HS5.out.bel⟩
    · have e : i = rk.n := by omega
      have HS5 := hid (show MkS w #[.int .i64 W, .slice DA dn dc, .slice TA tn tc, .slice BA bn bc] g dn rk.l wr from by
        have := HS.out
        rw [e, ← HRl.out, List.take_length] at this
        exact this)
      clear e HS
      go_wp2_with fail
      exact bodyPost_ret (v := .tuple #[.slice (some ⟨g, 0, none⟩) dn dn, .bool true]) (by simp [results, Try.results39, go_sem]) rfl ⟨fun _ => ⟨g, rfl, Nat.le_of_lt HS5.out.lt, HS5.out.ms⟩, fun h => absurd (HS5.out.inn.symm.trans h) (by decide), HS5.out.bel⟩
/-- The function that asks whether a number is not in a set of marks. -/
theorem notIn_any (g p N m : Nat) (l : List Int) (w : World) (hp : w.cell? ⟨p, 0, none⟩ = some (.slice (some ⟨g, 0, none⟩) N N)) (hpl : p < w.heap.size) (hg : BRow w g N (mks N l)) (hm : m < N) :
    Calls Try.prog 42 #[.int .i64 m, .pointer (some ⟨p, 0, none⟩)] w fun e w' => e = .returned (.bool (!decide ((m : Int) ∈ l))) ∧ w' = w := by
  have y0 := hg.cell (mks_at hm)
  have hl := hg.fb.lt
  have m0 : (0 : Int) ≤ m := by omega
  have m1 : (m : Int) < N := by omega
  have m2 : (m : Int).toNat = m := by omega
  clear hg
  generalize decide ((m : Int) ∈ l) = b at *
  go_enter Try.func42, Try.ntmps42
  go_wp2_with fail
  go_ret
  exact ⟨rfl, rfl⟩
theorem any_hit {l : List Int} {k : Nat} {m : Int} {f : Int → Bool} (h : l[k]? = some m) (hf : f m = true) : l.any f = true := List.any_eq_true.2 ⟨m, List.mem_of_getElem? h, hf⟩
set_option maxHeartbeats 3200000 in
theorem idxC_any (x : RH) (g p N : Nat) (l : List Int) (ex : List (Option Nat)) (w : World) (h : RHok w ex x) (hx : RisP N x.l) (hp : w.cell? ⟨p, 0, none⟩ = some (.slice (some ⟨g, 0, none⟩) N N)) (hpl : p < w.heap.size) (hg : BRow w g N (mks N l)) :
    Calls Try.prog 68 #[.slice x.A x.n x.c, .func (Fn.func 42) #[] #[.pointer (some ⟨p, 0, none⟩)]] w fun e w' => ∃ r : Int, e = .returned (.int .i64 r) ∧ decide (0 ≤ r) = x.l.any (fun m => !decide (m ∈ l)) ∧ w' = w := by
  have HX := hid h
  have HL := hid h.len
  have hfew := h.few
  have HR := hid hx.2
  have HC := hid (fun (m : Nat) (hm : m < N) => notIn_any g p N m l w hp hpl hg hm)
  clear h hx hp hpl hg
  obtain ⟨A, n, c, xl⟩ := x
  simp only at *
  go_enter Try.func68, Try.ntmps68
  go_wp2_with fail
  go_loop [5, 8] (fun _ iv => ∃ k : Nat, k ≤ n ∧ iv = .int .i64 k ∧ Hid (∀ m ∈ xl.take k, (!decide (m ∈ l)) = false)) (fun _ iv => n - (intOf iv).toNat)
  case atStart => exact ⟨0, by omega, rfl, hid (by simp)⟩
  case round =>
    obtain ⟨k, hk, rfl, hE⟩ := hrel
    by_cases hlt : k < n
    · obtain ⟨m, hm, hmm⟩ := get_at HL.out hlt
      obtain ⟨m0, m1⟩ := HR.out m hmm
      obtain ⟨m, rfl⟩ : ∃ j : Nat, m = j := ⟨m.toNat, by omega⟩
      obtain ⟨ad, hA, had, hc⟩ := HX.out.cell hm
      simp only at hA
      subst hA
      have HC2 := hid (HC.out m (by omega))
      cases hd : (!decide ((m : Int) ∈ l)) with
      | true =>
        rw [hd] at HC2
        have Hr := hid (show decide (0 ≤ (k : Int)) = xl.any (fun m => !decide (m ∈ l)) by rw [any_hit (f := fun m => !decide (m ∈ l)) hm hd]; simp)
        clear hd hm hmm m0 m1
        go_wp2_with fail
        refine HC2.out.mono ?_
        rintro _ w1 ⟨rfl, rfl⟩
        go_wp2_with fail
        go_ret
        exact ⟨k, rfl, Hr.out, rfl⟩
      | false =>
        rw [hd] at HC2
        have Hr := hid (show ∀ x ∈ xl.take (k + 1), (!decide (x ∈ l)) = false from fun x hx => by
          rw [List.take_add_one, hm] at hx
          rcases List.mem_append.1 hx with hx | hx
          · exact hE.out x hx
          · simp at hx; subst hx; exact hd)
        clear hd hm hmm m0 m1 hE
        go_wp2_with fail
        refine HC2.out.mono ?_
        rintro _ w1 ⟨rfl, rfl⟩
        go_wp2_with fail
        go_round
        case rel => exact ⟨k + 1, by omega, by go_num, Hr⟩
        case measure => simp [intOf]; omega
    · obtain rfl : k = n := by omega
      have Hr := hid (show decide ((0 : Int) ≤ -1) = xl.any (fun m => !decide (m ∈ l)) by
        have : xl.any (fun m => !decide (m ∈ l)) = false := List.any_eq_false.2 fun b hb => by
          have := hE.out b (by rw [List.take_of_length_le (by rw [HL.out]; exact Nat.le_refl _)]; exact hb)
          rw [this]; decide
        rw [this]; rfl)
      go_wp2_with fail
      go_ret
      exact ⟨-1, rfl, Hr.out, rfl⟩
theorem contC_any (x : RH) (g p N : Nat) (l : List Int) (ex : List (Option Nat)) (w : World) (h : RHok w ex x) (hx : RisP N x.l) (hp : w.cell? ⟨p, 0, none⟩ = some (.slice (some ⟨g, 0, none⟩) N N)) (hpl : p < w.heap.size) (hg : BRow w g N (mks N l)) :
    Calls Try.prog 41 #[.slice x.A x.n x.c, .func (Fn.func 42) #[] #[.pointer (some ⟨p, 0, none⟩)]] w fun e w' => e = .returned (.bool (x.l.any (fun m => !decide (m ∈ l)))) ∧ w' = w := by
  have HI := hid (idxC_any x g p N l ex w h hx hp hpl hg)
  clear h hx hp hpl hg
  generalize x.l.any (fun m => !decide (m ∈ l)) = b at *
  go_enter Try.func41, Try.ntmps41
  go_wp2_with fail
  refine HI.out.mono ?_
  rintro e w1 ⟨r, rfl, hr, rfl⟩
  have Hr := hid hr
  clear hr
  go_wp2_with fail
  go_ret
  exact ⟨ret_b Hr.out.symm, rfl⟩
/-- While a set is tested for being closed. -/
structure ClS (w : World) (S : Array Value) (g p gL N : Nat) (set lf : List Int) (u : World) : Prop where
  bx : Fb u w.heap.size S 27
  ms : BRow u g N (mks N set)
  pt : Fb u p #[.slice (some ⟨g, 0, none⟩) N N] 68
  lm : BRow u gL N (mks N lf)
  bel : Below w.heap.size w u
theorem ClS.below {w u u' : World} {S : Array Value} {g p gL N : Nat} {set lf : List Int} (h : ClS w S g p gL N set lf u) (hb : Below u.heap.size u u') : ClS w S g p gL N set lf u' :=
  ⟨h.bx.below hb h.bx.lt, h.ms.below hb, h.pt.below hb h.pt.lt, h.lm.below hb, below_step h.bel hb⟩
/-- Go's answer for closed sets: for unknowns in their order. -/
theorem closed_end {D : List (List Int)} {lf set : List Int} {N : Nat} (hD : D.length = N) (hs : inR N set = true) (h : ∀ n : Nat, n < N → (n : Int) ∈ set → (n : Int) ∉ lf → ∀ m ∈ rw0 D n, m ∈ set) : closedP D lf set := fun x hx hl => by
  obtain ⟨x0, x1⟩ := inR_iff.1 hs x hx
  have := h x.toNat (by omega)
  rw [Int.toNat_of_nonneg x0] at this
  exact this hx hl
theorem closed_no {D : List (List Int)} {lf set : List Int} {n : Nat} (h1 : (n : Int) ∈ set) (h2 : (n : Int) ∉ lf) (h3 : (rw0 D n).any (fun m => !decide (m ∈ set)) = true) : ¬ closedP D lf set := fun h => by
  obtain ⟨m, hm, h4⟩ := List.any_eq_true.1 h3
  have := h n h1 h2 m (by rw [Int.toNat_natCast]; exact hm)
  simp [this] at h4
set_option maxHeartbeats 12800000 in
theorem closedC_any (s : SY) (v N : Nat) (rs rl : RH) (ex ex1 ex2 : List (Option Nat)) (w : World) (h : SYok w ex s) (ho : SOk s v N) (hs : RHok w ex1 rs) (hl : RHok w ex2 rl) (hsi : inR N rs.l = true) (hli : inR N rl.l = true) (hv : sysB s = true) :
    Calls Try.prog 17 #[s.a, .slice rs.A rs.n rs.c, .slice rl.A rl.n rl.c] w fun e w' => e = .returned (.bool (decide (closedP s.D.v rl.l rs.l))) ∧ Below w.heap.size w w' := by
  have hN2 := ho.n256
  have hdn := ho.dn
  have HV := hid (fun (u : World) (hu : Below w.heap.size w u) => by
    have := validS_any s ex u (h.below hu)
    rw [hv] at this
    exact this)
  have HM1 := hid (fun (u : World) (hu : Below w.heap.size w u) => markedC_any s N rs ex1 u hdn (by omega) (hs.below hu))
  have HM2 := hid (fun (u : World) (hu : Below w.heap.size w u) => markedC_any s N rl ex2 u hdn (by omega) (hl.below hu))
  have HS := hid (fun (u : World) (hu : Below w.heap.size w u) => (h.below hu).d)
  have HD := hid ho.d
  have Hsi := hid hsi
  have Hli := hid hli
  have HDl := hid (show s.D.l.length = N by rw [h.d.len, hdn])
  have HDv := hid (show s.D.v.length = N by rw [LH.vlen, h.d.len, hdn])
  have Hat := hid (fun (k : Nat) (y : RH) (hy : s.D.l[k]? = some y) => LH.rw hy)
  clear h ho hs hl hsi hli hv
  obtain ⟨W, ⟨DA, dn, dc, dl⟩, ⟨TA, tn, tc, tl⟩, ⟨BA, bn, bc, bl⟩⟩ := s
  unfold SY.a at *
  simp only at *
  subst hdn
  generalize hDv : LH.v ⟨DA, dn, dc, dl⟩ = D at *
  clear hDv
  generalize rs.l = set at *
  generalize rl.l = lf at *
  have hb1 := (Below.refl w.heap.size w).alloc (Nat.le_refl _) (.cells #[.int .i64 W, .slice DA dn dc, .slice TA tn tc, .slice BA bn bc] 27)
  have HW1 := hid (Fb.new w #[.int .i64 W, .slice DA dn dc, .slice TA tn tc, .slice BA bn bc] 27)
  have HB := hid hb1
  clear hb1
  go_enter Try.func17, Try.ntmps17
  go_upto_region 1 with fail
  generalize w.alloc (.cells #[.int .i64 W, .slice DA dn dc, .slice TA tn tc, .slice BA bn bc] 27) = w1 at *
  obtain ⟨x0, x1, x2, x3⟩ := HW1.out.four
  go_wp2_with fail
  refine (HV.out w1 HB.out).mono ?_
  rintro _ w2 ⟨rfl, hb2⟩
  have HW2 := hid (HW1.out.below hb2 HW1.out.lt)
  have HB2 := hid (below_step HB.out hb2)
  clear x0 x1 x2 x3 hb2 HW1 HB HV
  obtain ⟨x0, x1, x2, x3⟩ := HW2.out.four
  go_wp2_with fail
  refine (HM1.out w2 HB2.out).mono ?_
  rintro e w3 ⟨h1, -, hb3⟩
  obtain ⟨g, rfl, hg, hmk⟩ := h1 Hsi.out
  have hb4 := (Below.refl w3.heap.size w3).alloc (Nat.le_refl _) (.cells #[.slice (some ⟨g, 0, none⟩) dn dn] 68)
  have HW4 := hid (HW2.out.below (below_step hb3 hb4) HW2.out.lt)
  have HB4 := hid (below_step HB2.out (below_step hb3 hb4))
  have HK4 := hid (hmk.below hb4)
  have HP4 := hid (Fb.new w3 #[.slice (some ⟨g, 0, none⟩) dn dn] 68)
  clear x0 x1 x2 x3 hb3 hb4 hmk h1 hg HW2 HB2 HM1
  go_upto_region 4 with fail
  generalize w3.alloc (.cells #[.slice (some ⟨g, 0, none⟩) dn dn] 68) = w4 at *
  generalize w3.heap.size = p at *
  obtain ⟨x0, x1, x2, x3⟩ := HW4.out.four
  go_wp2_with fail
  refine (HM2.out w4 HB4.out).mono ?_
  rintro e w5 ⟨h1, -, hb5⟩
  obtain ⟨gL, rfl, hg, hmk⟩ := h1 Hli.out
  have HS5 := hid (show ClS w #[.int .i64 W, .slice DA dn dc, .slice TA tn tc, .slice BA bn bc] g p gL dn set lf w5 from ⟨HW4.out.below hb5 HW4.out.lt, HK4.out.below hb5, HP4.out.below hb5 HP4.out.lt, hmk, below_step HB4.out hb5⟩)
  clear x0 x1 x2 x3 hb5 hmk h1 hg HW4 HB4 HM2 HK4 HP4
  obtain ⟨x0, x1, x2, x3⟩ := HS5.out.bx.four
  go_wp2_with fail
  clear x0 x1 x2 x3
  go_loopw [37] (fun iv wr => ∃ i : Nat, i ≤ dn ∧ iv = .int .i64 i ∧ Hid (∀ n : Nat, n < i → (n : Int) ∈ set → (n : Int) ∉ lf → ∀ m ∈ rw0 D n, m ∈ set) ∧ Hid (ClS w #[.int .i64 W, .slice DA dn dc, .slice TA tn tc, .slice BA bn bc] g p gL dn set lf wr)) (fun iv _ => dn - (intOf iv).toNat)
  case atStart => exact ⟨0, by omega, rfl, hid (fun n h => by omega), HS5⟩
  case round =>
    clear HS5
    obtain ⟨i, hi, rfl, hE, HS6⟩ := hrel
    by_cases hlt : i < dn
    · obtain ⟨y, hy, hym⟩ := get_at HDl.out hlt
      obtain ⟨ad, hA, had, hc⟩ := (HS.out wr HS6.out.bel).cell hy
      simp only at hA
      subst hA
      have n0 : (0 : Int) ≤ i := by omega
      have n1 : (i : Int) < dn := by omega
      have n2 : (i : Int).toNat = i := by omega
      have Hrw := hid (Hat.out i y hy)
      have HC := hid (contC_any y g p dn set ex wr ((HS.out wr HS6.out.bel).all y hym) (HD.out y hym) (HS6.out.pt.cell 0) HS6.out.pt.lt HS6.out.ms)
      have z0 := HS6.out.ms.cell (mks_at hlt)
      have z1 := HS6.out.lm.cell (mks_at hlt)
      have z2 := HS6.out.pt.cell 0
      simp only [List.getElem?_toArray, List.getElem?_cons_zero] at z2
      have l0 := HS6.out.ms.fb.lt
      have l1 := HS6.out.lm.fb.lt
      have l2 := HS6.out.pt.lt
      clear hy hym
      obtain ⟨yA, yn, yc, yl⟩ := y
      simp only at *
      by_cases h1 : (i : Int) ∈ set
      · rw [show decide ((i : Int) ∈ set) = true by simp [h1]] at z0
        by_cases h2 : (i : Int) ∈ lf
        · rw [show decide ((i : Int) ∈ lf) = true by simp [h2]] at z1
          have Hr := hid (show ∀ n : Nat, n < i + 1 → (n : Int) ∈ set → (n : Int) ∉ lf → ∀ m ∈ rw0 D n, m ∈ set from fun n hn a b => by
            by_cases e : n = i
            · subst e; exact absurd h2 b
            · exact hE.out n (by omega) a b)
          clear h1 h2 hE HC
          as_aux_lemma =>
            go_wp2_with fail
            go_roundw
            case rel => exact ⟨i + 1, by omega, by go_num, Hr, HS6⟩
            case measure => simp [intOf]; omega
        · rw [show decide ((i : Int) ∈ lf) = false by simp [h2]] at z1
          cases hb : yl.any (fun m => !decide (m ∈ set)) with
          | true =>
            rw [hb] at HC
            have Hr := hid (show decide (closedP D lf set) = false by
              rw [decide_eq_false_iff_not]
              exact closed_no h1 h2 (by rw [Hrw.out]; exact hb))
            clear h1 h2 hE hb
            as_aux_lemma =>
              go_wp2_with fail
              refine HC.out.mono ?_
              rintro _ w6 ⟨rfl, rfl⟩
              go_wp2_with fail
              go_ret
              exact ⟨ret_b Hr.out, HS6.out.bel⟩
          | false =>
            rw [hb] at HC
            have Hr := hid (show ∀ n : Nat, n < i + 1 → (n : Int) ∈ set → (n : Int) ∉ lf → ∀ m ∈ rw0 D n, m ∈ set from fun n hn a b => by
              by_cases e : n = i
              · subst e
                intro m hm
                rw [Hrw.out] at hm
                have := List.any_eq_false.1 hb m hm
                simpa using this
              · exact hE.out n (by omega) a b)
            clear h1 h2 hE hb
            as_aux_lemma =>
              go_wp2_with fail
              refine HC.out.mono ?_
              rintro _ w6 ⟨rfl, rfl⟩
              go_wp2_with fail
              go_roundw
              case rel => exact ⟨i + 1, by omega, by go_num, Hr, HS6⟩
              case measure => simp [intOf]; omega
      · rw [show decide ((i : Int) ∈ set) = false by simp [h1]] at z0
        have Hr := hid (show ∀ n : Nat, n < i + 1 → (n : Int) ∈ set → (n : Int) ∉ lf → ∀ m ∈ rw0 D n, m ∈ set from fun n hn a b => by
          by_cases e : n = i
          · subst e; exact absurd a h1
          · exact hE.out n (by omega) a b)
        clear h1 hE HC
        as_aux_lemma =>
          go_wp2_with fail
          go_roundw
          case rel => exact ⟨i + 1, by omega, by go_num, Hr, HS6⟩
          case measure => simp [intOf]; omega
    · obtain rfl : i = dn := by omega
      have Hr := hid (show decide (closedP D lf set) = true by
        rw [decide_eq_true_eq]
        exact closed_end HDv.out Hsi.out hE.out)
      go_wp2_with fail
      go_ret
      exact ⟨ret_b Hr.out, HS6.out.bel⟩
end Go.Proofs.Ytopkmeceakjocaa

namespace Go.Proofs.Ytopkmeceakjocaa
set_option maxRecDepth 20000
set_option linter.unusedVariables false
set_option linter.unusedSimpArgs false
open Go.ChangeShapes Go.WideShapes Go.ChangeAt Go.RowKit

theorem one_int1 (x : Int) : ∀ u ∈ [Value.int .i64 x], u.oneCell' = true := by intro u hu; simp at hu; subst hu; rfl
theorem int_new (w : World) (x : Int) (t : Nat) : ∀ (j : Nat) (u : Value), [Value.int .i64 x][j]? = some u → (w.alloc (.cells #[.int .i64 x] t)).cell? ((⟨w.heap.size, 0, none⟩ : Addr).add j) = some u := by
  intro j u h
  have hb := Fb.new w #[.int .i64 x] t
  rw [add_of, hb.cell]
  simpa using h
theorem one_ints (l : List Int) : ∀ u ∈ ints l, u.oneCell' = true := by
  intro u hu
  unfold ints at hu
  obtain ⟨x, _, rfl⟩ := List.mem_map.1 hu
  rfl
/-- A row came back. -/
def RetIR (w : World) (ex : List (Option Nat)) (l : List Int) (e : Ending) (w' : World) : Prop :=
  ∃ y : RH, e = .returned (.slice y.A y.n y.c) ∧ y.l = l ∧ RHok w' ex y ∧ y.n ≤ y.c ∧ Below w.heap.size w w'
theorem RetIR.own {w w' : World} {ex : List (Option Nat)} {l : List Int} {A : Option Addr} {n c : Nat} (hex : ∀ k, some k ∈ ex → k < w.heap.size) (ho : w'.ownsRow w.heap.size 3 1 (.slice A n c) n (ints l)) (hl : l.length = n) (hn : n ≤ 200000) (hb : Below w.heap.size w w') :
    RetIR w ex l (.returned (.slice A n c)) w' := by
  refine ⟨⟨A, n, c, l⟩, rfl, rfl, ⟨EAt.own ho (fun g hg hm => by have := hex g hm; have := (ho.lt g hg).1; omega), hl, by show n ≤ _; omega⟩, ?_, hb⟩
  rcases ho.2 with ⟨e, h0⟩ | ⟨g, cap, cur, e, _, _, h1, _⟩
  · show n ≤ c; omega
  · injection e with _ _ e3
    show n ≤ c; omega
theorem ins_take {l : List Int} {v a : Int} {k : Nat} (h : ∀ x ∈ l.take k, x < v) (ha : l[k]? = some a) (hlt : a < v) : ∀ x ∈ l.take (k + 1), x < v := by
  intro x hx
  rw [List.take_add_one, ha] at hx
  rcases List.mem_append.1 hx with hx | hx
  · exact h x hx
  · simp at hx; subst hx; exact hlt
theorem add_nil (a : Addr) : a.add 0 = a := by
  obtain ⟨b, o, p⟩ := a
  cases p <;> simp [Addr.add]
theorem int_new1 (w : World) (o : Obj) (x : Int) (t : Nat) : ∀ (j : Nat) (u : Value), [Value.int .i64 x][j]? = some u → ((w.alloc o).alloc (.cells #[.int .i64 x] t)).cell? ((⟨w.heap.size + 1, 0, none⟩ : Addr).add j) = some u := by
  intro j u h
  have := int_new (w.alloc o) x t j u h
  rw [World.size_alloc] at this
  exact this
theorem own_capn {w : World} {base ty k g n cap : Nat} {xs : List Value} (h : w.ownsRow base ty k (.slice (some ⟨g, 0, none⟩) n cap) n xs) : n ≤ cap := by
  rcases h.2 with ⟨e, h0⟩ | ⟨g2, cap2, cur, e, _, _, h1, _⟩
  · omega
  · injection e with _ _ e3; omega
theorem own_step {w W w5 : World} {v : Value} {ty k n : Nat} {xs : List Value} (hB : Below w.heap.size w W) (ho : W.ownsRow w.heap.size ty k v n xs) (hg : W.grownBy w5 v.ownBlock) : Below w.heap.size w w5 := hB.grown hg hB.size (fun k hk => (ho.lt k hk).1)
theorem ints_take (l : List Int) (k : Nat) : ints (l.take k) = (ints l).take k := by simp [ints, List.map_take]
set_option maxHeartbeats 6400000 in
theorem insert_any (x : RH) (v : Int) (ex : List (Option Nat)) (w : World) (h : RHok w ex x) (hcap : x.n ≤ x.c) (hn : x.n ≤ 100000) (hex : ∀ k, some k ∈ ex → k < w.heap.size) :
    Calls Try.prog 19 #[.slice x.A x.n x.c, .int .i64 v] w (RetIR w ex (insI x.l v)) := by
  obtain ⟨i1, hi, hz0, hz1, hz2⟩ := info_parts info3
  have Hi := hid hi; have Hz0 := hid hz0; have Hz1 := hid hz1; have Hz2 := hid hz2
  clear hi hz0 hz1 hz2
  have HX := hid h
  have HL := hid h.len
  have Hex := hid hex
  clear h hex
  obtain ⟨A, n, c, l⟩ := x
  simp only at *
  have hb1 := (Below.refl w.heap.size w).alloc (Nat.le_refl _) (.cells #[] 3)
  have HB1 := hid hb1
  have HO := hid (World.ownsRow_lit (base := w.heap.size) (e := 3) (size := 1) w #[] 0 (Nat.le_refl _) (by unfold maxLen; omega) rfl)
  clear hb1
  go_enter Try.func19, Try.ntmps19
  go_wp2_with fail
  go_loop [5] (fun iv => ∃ k : Nat, k ≤ n ∧ iv = .int .i64 k ∧ Hid (∀ z ∈ l.take k, z < v)) (fun iv => n - (intOf iv).toNat)
  case atStart => exact ⟨0, by omega, rfl, hid (by simp)⟩
  case round =>
    obtain ⟨k, hk, rfl, hP⟩ := hrel
    by_cases hlt : k < n
    · obtain ⟨a, ha, -⟩ := get_at HL.out hlt
      obtain ⟨ad, hA, had, hc⟩ := HX.out.cell ha
      simp only at hA
      subst hA
      have Ha := hid ha
      clear ha
      by_cases h1 : a < v
      · as_aux_lemma =>
          have Hr := hid (ins_take hP.out Ha.out h1)
          go_wp2_with fail
          go_round
          case rel => exact ⟨k + 1, by omega, by go_num, Hr⟩
          case measure => simp [intOf]; omega
      · by_cases h2 : a = v
        · as_aux_lemma =>
            subst h2
            have Hr := hid (insI_hit hP.out Ha.out)
            go_wp2_with fail
            go_ret
            exact ⟨⟨some ad, n, c, l⟩, rfl, Hr.out.symm, HX.out, hcap, Below.refl _ _⟩
        · have Hr := hid (insI_put hP.out Ha.out (by omega))
          have t1 : (a == v) = false := by simpa using h2
          have hkc : k < c := by omega
          have Hal := hid (fun (v : World) (hb : Below w.heap.size w v) (j : Nat) (u : Value) (hj : (ints l)[j]? = some u) => show v.cell? (ad.add j) = some u by
            rcases HX.out.lies with h | ⟨ad2, e, hs, hcc⟩
            · rw [h] at hj; simp at hj
            · obtain rfl := Option.some.inj e
              exact (hb.cell (p := ad.add j) (by rw [add_block]; exact hs.1)).trans (hcc j u hj))
          have Hlen := hid (show (l.take k ++ v :: l.drop k).length = n + 1 by rw [List.length_append, List.length_take, List.length_cons, List.length_drop, HL.out]; omega)
          have Hdl := hid (show (ints (l.drop k)).length = (n - k) * 1 by unfold ints; rw [List.length_map, List.length_drop, HL.out]; omega)
          have Hdc := hid (fun (u : World) (hb : Below w.heap.size w u) (j : Nat) (z : Value) (hj : (ints (l.drop k))[j]? = some z) => show u.cell? ((ad.add k).add j) = some z by
            rw [Go.Deep.add_add]
            refine Hal.out u hb (k + j) z ?_
            unfold ints at hj ⊢
            rw [List.getElem?_map, List.getElem?_drop] at hj
            rw [List.getElem?_map]; exact hj)
          by_cases hk0 : k = 0
          · subst hk0
            have hc0 : w.cell? ad = some (.int .i64 a) := by rw [add_nil] at hc; exact hc
            have Hr2 := hid Hr.out
            as_aux_lemma =>
              go_wp2_with (
                first
                | (
                 at_builtin
                 refine wpList_append_lies _ rfl _ _ 22 rfl w.heap.size 3 i1 _ 1 8 Try.underlying22 Hi.out Hz0.out Hz1.out Hz2.out rfl (by decide) _ 0 [] rfl (HO.out.alloc _) ⟨w.heap.size + 1, 0, none⟩ 1 1 [Value.int .i64 v] rfl rfl (int_new1 w (.cells #[] 3) v 3) (one_int1 _) (by omega) (by unfold maxLen; omega) (by omega) (by rw [World.size_alloc]; have := (HB1.out).size; omega) _ rfl ?_
                 intro g5 cap5 w5 hown5 hgr5 hat5 hlt5
                 try rw [Nat.zero_add] at hown5
                 try rw [List.nil_append] at hown5
                 have HB5 := hid (own_step ((HB1.out).alloc (HB1.out).size (.cells #[Value.int .i64 v] 3)) (HO.out.alloc _) hgr5)
                 have H5 := hid hown5
                 have hcp5 := own_capn hown5
                 clear hown5 hgr5 hat5 hlt5)
                | (
                 at_builtin
                 refine wpList_append_lies _ rfl _ _ 22 rfl w.heap.size 3 i1 _ 1 8 Try.underlying22 Hi.out Hz0.out Hz1.out Hz2.out rfl (by decide) _ 1 [Value.int .i64 v] rfl H5.out ad n c (ints l) rfl (by unfold ints; rw [List.length_map, HL.out]; omega) (Hal.out _ HB5.out) (one_ints _) (by omega) (by unfold maxLen; omega) (by omega) (HB5.out).size _ rfl ?_
                 intro g7 cap7 w7 hown7 hgr7 hat7 hlt7
                 try rw [Nat.zero_add] at hown7
                 try rw [List.nil_append] at hown7
                 have HB7 := hid (own_step (HB5.out) H5.out hgr7)
                 have H7 := hid hown7
                 clear hown7 hgr7 hat7 hlt7))
              go_ret
              exact RetIR.own Hex.out (by rw [Hr.out]; have := H7.out; simpa [ints] using this) (by rw [Hr.out]; have := Hlen.out; omega) (by omega) HB7.out
          ·
            have Htk := hid (show (ints (l.take k)).length = k * 1 by unfold ints; rw [List.length_map, List.length_take, HL.out]; omega)
            have Htc := hid (fun (u : World) (hb : Below w.heap.size w u) (j : Nat) (z : Value) (hj : (ints (l.take k))[j]? = some z) => show u.cell? (ad.add j) = some z by
              refine Hal.out u hb j z ?_
              rw [ints_take, List.getElem?_take] at hj
              split at hj
              · exact hj
              · cases hj)
            as_aux_lemma =>
              go_wp2_with (
                first
                | (
                 at_builtin
                 refine wpList_append_lies _ rfl _ _ 22 rfl w.heap.size 3 i1 _ 1 8 Try.underlying22 Hi.out Hz0.out Hz1.out Hz2.out rfl (by decide) _ 0 [] rfl HO.out ad k c (ints (l.take k)) rfl Htk.out (Htc.out _ HB1.out) (one_ints _) (by omega) (by unfold maxLen; omega) (by omega) (HB1.out).size _ rfl ?_
                 intro g3 cap3 w3 hown3 hgr3 hat3 hlt3
                 try rw [Nat.zero_add] at hown3
                 try rw [List.nil_append] at hown3
                 have HB3 := hid (own_step (HB1.out) HO.out hgr3)
                 have H3 := hid hown3
                 clear hown3 hgr3 hat3 hlt3
                 clear HO)
                | (
                 at_builtin
                 refine wpList_append_lies _ rfl _ _ 22 rfl w.heap.size 3 i1 _ 1 8 Try.underlying22 Hi.out Hz0.out Hz1.out Hz2.out rfl (by decide) _ k (ints (l.take k)) rfl (H3.out.alloc _) ⟨(w3).heap.size, 0, none⟩ 1 1 [Value.int .i64 v] rfl rfl (int_new (w3) v 3) (one_int1 _) (by omega) (by unfold maxLen; omega) (by omega) (by rw [World.size_alloc]; have := (HB3.out).size; omega) _ rfl ?_
                 intro g5 cap5 w5 hown5 hgr5 hat5 hlt5
                 try rw [Nat.zero_add] at hown5
                 try rw [List.nil_append] at hown5
                 have HB5 := hid (own_step ((HB3.out).alloc (HB3.out).size (.cells #[Value.int .i64 v] 3)) (H3.out.alloc _) hgr5)
                 have H5 := hid hown5
                 have hcp5 := own_capn hown5
                 clear hown5 hgr5 hat5 hlt5
                 clear H3)
                | (
                 at_builtin
                 refine wpList_append_lies _ rfl _ _ 22 rfl w.heap.size 3 i1 _ 1 8 Try.underlying22 Hi.out Hz0.out Hz1.out Hz2.out rfl (by decide) _ (k + 1) (ints (l.take k) ++ [Value.int .i64 v]) rfl H5.out (ad.add k) (n - k) (c - k) (ints (l.drop k)) rfl Hdl.out (Hdc.out _ HB5.out) (one_ints _) (by omega) (by unfold maxLen; omega) (by omega) (HB5.out).size _ rfl ?_
                 intro g7 cap7 w7 hown7 hgr7 hat7 hlt7
                 try rw [Nat.zero_add] at hown7
                 try rw [List.nil_append] at hown7
                 have HB7 := hid (own_step (HB5.out) H5.out hgr7)
                 have H7 := hid hown7
                 clear hown7 hgr7 hat7 hlt7))
              go_ret
              exact RetIR.own Hex.out (by rw [Hr.out]; have := H7.out; simpa [ints] using this) (by rw [Hr.out]; have := Hlen.out; omega) (by omega) HB7.out
    · obtain rfl : k = n := by omega
      have Hr := hid (insI_end (l := l) (n := v) (by have := hP.out; rw [List.take_of_length_le (by rw [HL.out]; omega)] at this; exact this))
      have Hlen := hid (show (l ++ [v]).length = k + 1 by rw [List.length_append, HL.out]; rfl)
      have Hex2 := Hex
      by_cases h0 : k = 0
      · subst h0
        have Hl0 := hid (show l = [] from List.length_eq_zero_iff.1 HL.out)
        rcases A with _ | ad
        all_goals
          by_cases hc0 : c = 0
          · as_aux_lemma =>
              subst hc0
              go_wp2_with (
                first
                | (
                 at_builtin
                 refine wpList_append_lies _ rfl _ _ 22 rfl w.heap.size 3 i1 _ 1 8 Try.underlying22 Hi.out Hz0.out Hz1.out Hz2.out rfl (by decide) _ 0 [] rfl (HO.out.alloc _) ⟨w.heap.size + 1, 0, none⟩ 1 1 [Value.int .i64 v] rfl rfl (int_new1 w (.cells #[] 3) v 3) (one_int1 _) (by omega) (by unfold maxLen; omega) (by omega) (by rw [World.size_alloc]; have := (HB1.out).size; omega) _ rfl ?_
                 intro g5 cap5 w5 hown5 hgr5 hat5 hlt5
                 try rw [Nat.zero_add] at hown5
                 try rw [List.nil_append] at hown5
                 have HB5 := hid (own_step ((HB1.out).alloc (HB1.out).size (.cells #[Value.int .i64 v] 3)) (HO.out.alloc _) hgr5)
                 have H5 := hid hown5
                 have hcp5 := own_capn hown5
                 clear hown5 hgr5 hat5 hlt5))
              go_ret
              exact RetIR.own Hex.out (by rw [Hr.out, Hl0.out]; have := H5.out; simpa [ints] using this) (by rw [Hr.out, Hl0.out]; rfl) (by omega) HB5.out
          · as_aux_lemma =>
              have hcp : 0 < c := by omega
              go_wp2_with (
                first
                | (
                 at_builtin
                 refine wpList_append_lies _ rfl _ _ 22 rfl w.heap.size 3 i1 _ 1 8 Try.underlying22 Hi.out Hz0.out Hz1.out Hz2.out rfl (by decide) _ 0 [] rfl (HO.out.alloc _) ⟨w.heap.size + 1, 0, none⟩ 1 1 [Value.int .i64 v] rfl rfl (int_new1 w (.cells #[] 3) v 3) (one_int1 _) (by omega) (by unfold maxLen; omega) (by omega) (by rw [World.size_alloc]; have := (HB1.out).size; omega) _ rfl ?_
                 intro g5 cap5 w5 hown5 hgr5 hat5 hlt5
                 try rw [Nat.zero_add] at hown5
                 try rw [List.nil_append] at hown5
                 have HB5 := hid (own_step ((HB1.out).alloc (HB1.out).size (.cells #[Value.int .i64 v] 3)) (HO.out.alloc _) hgr5)
                 have H5 := hid hown5
                 have hcp5 := own_capn hown5
                 clear hown5 hgr5 hat5 hlt5))
              go_ret
              exact RetIR.own Hex.out (by rw [Hr.out, Hl0.out]; have := H5.out; simpa [ints] using this) (by rw [Hr.out, Hl0.out]; rfl) (by omega) HB5.out
      · obtain ⟨ad, rfl, had, hc⟩ : ∃ ad, A = some ad ∧ Safe w ex ad.block ∧ ∀ j u, (ints l)[j]? = some u → w.cell? (ad.add j) = some u := by
          rcases HX.out.lies with h | h
          · have h := congrArg List.length h; simp [ints] at h; have := HL.out; rw [h] at this; simp at this; omega
          · exact h
        have Htk := hid (show (ints l).length = k * 1 by unfold ints; rw [List.length_map, HL.out]; omega)
        have Htc := hid (fun (u : World) (hb : Below w.heap.size w u) (j : Nat) (z : Value) (hj : (ints l)[j]? = some z) => show u.cell? (ad.add j) = some z from (hb.cell (p := ad.add j) (by rw [add_block]; exact had.1)).trans (hc j z hj))
        clear hc had
        by_cases hkc : k = c
        · as_aux_lemma =>
            subst hkc
            go_wp2_with (
              first
              | (
               at_builtin
               refine wpList_append_lies _ rfl _ _ 22 rfl w.heap.size 3 i1 _ 1 8 Try.underlying22 Hi.out Hz0.out Hz1.out Hz2.out rfl (by decide) _ 0 [] rfl HO.out ad k k (ints l) rfl Htk.out (Htc.out _ HB1.out) (one_ints _) (by omega) (by unfold maxLen; omega) (by omega) (HB1.out).size _ rfl ?_
               intro g3 cap3 w3 hown3 hgr3 hat3 hlt3
               try rw [Nat.zero_add] at hown3
               try rw [List.nil_append] at hown3
               have HB3 := hid (own_step (HB1.out) HO.out hgr3)
               have H3 := hid hown3
               clear hown3 hgr3 hat3 hlt3
               clear HO)
              | (
               at_builtin
               refine wpList_append_lies _ rfl _ _ 22 rfl w.heap.size 3 i1 _ 1 8 Try.underlying22 Hi.out Hz0.out Hz1.out Hz2.out rfl (by decide) _ k (ints l) rfl (H3.out.alloc _) ⟨(w3).heap.size, 0, none⟩ 1 1 [Value.int .i64 v] rfl rfl (int_new (w3) v 3) (one_int1 _) (by omega) (by unfold maxLen; omega) (by omega) (by rw [World.size_alloc]; have := (HB3.out).size; omega) _ rfl ?_
               intro g5 cap5 w5 hown5 hgr5 hat5 hlt5
               try rw [Nat.zero_add] at hown5
               try rw [List.nil_append] at hown5
               have HB5 := hid (own_step ((HB3.out).alloc (HB3.out).size (.cells #[Value.int .i64 v] 3)) (H3.out.alloc _) hgr5)
               have H5 := hid hown5
               have hcp5 := own_capn hown5
               clear hown5 hgr5 hat5 hlt5
               clear H3))
            go_ret
            exact RetIR.own Hex.out (by rw [Hr.out]; have := H5.out; simpa [ints] using this) (by rw [Hr.out]; have := Hlen.out; omega) (by omega) HB5.out
        · as_aux_lemma =>
            have hkc2 : k < c := by omega
            go_wp2_with (
              first
              | (
               at_builtin
               refine wpList_append_lies _ rfl _ _ 22 rfl w.heap.size 3 i1 _ 1 8 Try.underlying22 Hi.out Hz0.out Hz1.out Hz2.out rfl (by decide) _ 0 [] rfl HO.out ad k c (ints l) rfl Htk.out (Htc.out _ HB1.out) (one_ints _) (by omega) (by unfold maxLen; omega) (by omega) (HB1.out).size _ rfl ?_
               intro g3 cap3 w3 hown3 hgr3 hat3 hlt3
               try rw [Nat.zero_add] at hown3
               try rw [List.nil_append] at hown3
               have HB3 := hid (own_step (HB1.out) HO.out hgr3)
               have H3 := hid hown3
               clear hown3 hgr3 hat3 hlt3
               clear HO)
              | (
               at_builtin
               refine wpList_append_lies _ rfl _ _ 22 rfl w.heap.size 3 i1 _ 1 8 Try.underlying22 Hi.out Hz0.out Hz1.out Hz2.out rfl (by decide) _ k (ints l) rfl (H3.out.alloc _) ⟨(w3).heap.size, 0, none⟩ 1 1 [Value.int .i64 v] rfl rfl (int_new (w3) v 3) (one_int1 _) (by omega) (by unfold maxLen; omega) (by omega) (by rw [World.size_alloc]; have := (HB3.out).size; omega) _ rfl ?_
               intro g5 cap5 w5 hown5 hgr5 hat5 hlt5
               try rw [Nat.zero_add] at hown5
               try rw [List.nil_append] at hown5
               have HB5 := hid (own_step ((HB3.out).alloc (HB3.out).size (.cells #[Value.int .i64 v] 3)) (H3.out.alloc _) hgr5)
               have H5 := hid hown5
               have hcp5 := own_capn hown5
               clear hown5 hgr5 hat5 hlt5
               clear H3))
            go_ret
            exact RetIR.own Hex.out (by rw [Hr.out]; have := H5.out; simpa [ints] using this) (by rw [Hr.out]; have := Hlen.out; omega) (by omega) HB5.out
end Go.Proofs.Ytopkmeceakjocaa

namespace Go.Proofs.Ytopkmeceakjocaa
set_option maxRecDepth 20000
set_option linter.unusedVariables false
set_option linter.unusedSimpArgs false
open Go.ChangeShapes Go.WideShapes Go.ChangeAt Go.RowKit

/-- The cone and its cost came back, the list in a block of the call's own. -/
def RetOf (w : World) (D : List (List Int)) (lf : List Int) (root : Int) (e : Ending) (w' : World) : Prop :=
  ∃ y : RH, e = .returned (.tuple #[.slice y.A y.n y.c, .int .i64 ((coneP D lf root).2 : Nat), .int .i64 0]) ∧ y.l = (coneP D lf root).1 ∧ (∀ ex : List (Option Nat), (∀ k, some k ∈ ex → k < w.heap.size) → RHok w' ex y) ∧ y.n ≤ 256 ∧ Below w.heap.size w w'
/-- While the cone is searched: l is marked, l0 is listed. -/
structure OfS (w : World) (S : Array Value) (gL gF N : Nat) (lf l l0 : List Int) (V : Value) (u : World) : Prop where
  bx : Fb u w.heap.size S 27
  lm : BRow u gL N (mks N lf)
  fm : BRow u gF N (mks N l)
  ne : gL ≠ gF
  lt : w.heap.size < gF
  ow : u.ownsRow (w.heap.size + 1) 3 1 V l0.length (ints l0)
  bel : Below w.heap.size w u
section
variable {w u u' : World} {S : Array Value} {gL gF N : Nat} {lf l l0 : List Int} {V : Value}
theorem OfS.below (h : OfS w S gL gF N lf l l0 V u) (hb : Below u.heap.size u u') : OfS w S gL gF N lf l l0 V u' :=
  ⟨h.bx.below hb h.bx.lt, h.lm.below hb, h.fm.below hb, h.ne, h.lt, (Stp1.below (t := 0) hb).own h.ow (by decide), below_step h.bel hb⟩
theorem OfS.mark {m : Nat} (h : OfS w S gL gF N lf l l0 V u) (hm : m < N) : OfS w S gL gF N lf (l ++ [(m : Int)]) l0 V (u.setCell ⟨gF, m, none⟩ (.bool true)) := by
  have hs : Stp1 4 u (u.setCell ⟨gF, m, none⟩ (.bool true)) := ⟨some gF, setCell_grown u ⟨gF, m, none⟩ _, fun k e => by obtain rfl := Option.some.inj e; exact h.fm.fb.typ⟩
  exact ⟨h.bx.far (by have := h.lt; show w.heap.size ≠ gF; omega) _, ⟨h.lm.fb.far h.ne _, h.lm.len⟩, by have := h.fm.put m true; rwa [mks_put hm] at this, h.ne, h.lt, hs.own h.ow (by decide), h.bel.setCell (Nat.le_of_lt h.lt) _⟩
theorem OfS.app {V' : Value} {m : Int} (h : OfS w S gL gF N lf l l0 V u) (hg : u.grownBy u' V.ownBlock) (ho : u'.ownsRow (w.heap.size + 1) 3 1 V' (l0.length + 1) (ints l0 ++ [.int .i64 m])) : OfS w S gL gF N lf l (l0 ++ [m]) V' u' := by
  have hs : Stp1 3 u u' := ⟨_, hg, fun k e => own_typ h.ow e⟩
  exact ⟨hs.fb h.bx (by decide), ⟨hs.fb h.lm.fb (by decide), h.lm.len⟩, ⟨hs.fb h.fm.fb (by decide), h.fm.len⟩, h.ne, h.lt, by
    rw [List.length_append, List.length_singleton]
    unfold ints at ho ⊢
    rw [List.map_append]
    exact ho, h.bel.grown hg h.bel.size (fun k e => by have := (h.ow.lt k e).1; omega)⟩
end
theorem own_one (w : World) (b : Nat) (x : Int) (hb : b ≤ w.heap.size) : (w.alloc (.cells #[.int .i64 x] 3)).ownsRow b 3 1 (.slice (some ⟨w.heap.size, 0, none⟩) 1 1) 1 [.int .i64 x] :=
  ⟨rfl, .inr ⟨w.heap.size, 1, #[.int .i64 x], rfl, hb, Fb.new w _ _, Nat.le_refl _, by unfold maxLen; omega, rfl, rfl⟩⟩
theorem addNew_in {l : List Int} {m : Int} {d : List Int} (h : m ∈ l) : addNew l (m :: d) = addNew l d := by
  conv => lhs; unfold addNew
  rw [if_pos h]
theorem addNew_out {l : List Int} {m : Int} {d : List Int} (h : m ∉ l) : addNew l (m :: d) = addNew (l ++ [m]) d := by
  conv => lhs; unfold addNew
  rw [if_neg h]
theorem ints_len (l : List Int) : (ints l).length = l.length := by unfold ints; rw [List.length_map]
/-- A cell of the list that grows. -/
theorem OfS.cell {w u : World} {S : Array Value} {gL gF N g c n k : Nat} {lf l l0 : List Int} {x : Int} (h : OfS w S gL gF N lf l l0 (.slice (some ⟨g, 0, none⟩) n c) u) (hk : l0[k]? = some x) : u.cell? ⟨g, k, none⟩ = some (.int .i64 x) ∧ g < u.heap.size := by
  have hE := EAt.own (ex := []) (A := some ⟨g, 0, none⟩) (n := n) (c := c) (xs := ints l0) (by
    have := h.ow
    have e : l0.length = n := by
      have := h.ow.2
      rcases this with ⟨e, _⟩ | ⟨g', cap, cur, e, _⟩
      · cases e
      · injection e with _ e2 _; exact e2.symm
    rw [e] at this
    exact this) (by simp)
  obtain ⟨ad, e, hs, hc⟩ := hE.one (i := k) (u := .int .i64 x) (by unfold ints; rw [List.getElem?_map, hk]; rfl)
  obtain rfl := Option.some.inj e
  rw [add_of] at hc
  exact ⟨hc, hs.1⟩
theorem below_dq (w : World) (q : Nat) : Below w.heap.size w (w.drewN q) := ⟨rfl, rfl, rfl, Nat.le_refl _, fun _ _ => rfl⟩
set_option maxHeartbeats 25600000 in
theorem coneOf_any (s : SY) (v N : Nat) (root : Int) (rl : RH) (ex ex2 : List (Option Nat)) (w : World) (h : SYok w ex s) (ho : SOk s v N) (hl : RHok w ex2 rl) (hli : inR N rl.l = true) (hv : sysB s = true) (r0 : 0 ≤ root) (r1 : root < (N : Int)) :
    Calls Try.prog 16 #[s.a, .int .i64 root, .slice rl.A rl.n rl.c] w (RetOf w s.D.v rl.l root) := by
  obtain ⟨i1, hi, hz0, hz1, hz2⟩ := info_parts info3
  have Hi := hid hi; have Hz0 := hid hz0; have Hz1 := hid hz1; have Hz2 := hid hz2
  clear hi hz0 hz1 hz2
  have hN2 := ho.n256
  have hdn := ho.dn
  have HV := hid (fun (u : World) (hu : Below w.heap.size w u) => by
    have := validS_any s ex u (h.below hu)
    rw [hv] at this
    exact this)
  have HM2 := hid (fun (u : World) (hu : Below w.heap.size w u) => markedC_any s N rl ex2 u hdn (by omega) (hl.below hu))
  have HU := hid (fun (u : World) => by
    have := isUnkC_any s N root u hdn
    rw [show decide (0 ≤ root ∧ root < (N : Int)) = true by simp [r0, r1]] at this
    exact this)
  have HS := hid (fun (u : World) (hu : Below w.heap.size w u) => (h.below hu).d)
  have HD := hid ho.d
  have Hli := hid hli
  have HDl := hid (show s.D.l.length = N by rw [h.d.len, hdn])
  have HDv := hid (show s.D.v.length = N by rw [LH.vlen, h.d.len, hdn])
  have HDr := hid (show ∀ l ∈ s.D.v, RisP N l from fun l hl => by obtain ⟨y, hy, rfl⟩ := List.mem_map.1 hl; exact ho.d y hy)
  have Hat := hid (fun (k : Nat) (y : RH) (hy : s.D.l[k]? = some y) => LH.rw hy)
  have hmk := run_mkbools N (by omega)
  have HBn := hid (fun (u : World) => show BRow (u.alloc (.cells ((List.replicate N false).map Value.bool).toArray 4)) u.heap.size N (mks N []) by rw [mks_nil]; exact BRow.new u N)
  generalize List.replicate N false = ds0 at *
  have Hmk := hid hmk
  clear h ho hl hli hv hmk
  obtain ⟨W, ⟨DA, dn, dc, dl⟩, ⟨TA, tn, tc, tl⟩, ⟨BA, bn, bc, bl⟩⟩ := s
  unfold SY.a at *
  simp only at *
  subst hdn
  generalize hDv : LH.v ⟨DA, dn, dc, dl⟩ = D at *
  clear hDv
  generalize rl.l = lf at *
  obtain ⟨root, rfl⟩ : ∃ k : Nat, root = k := ⟨root.toNat, by omega⟩
  have hrN : root < dn := by omega
  have HP := hid (show coneP D lf (root : Int) = coneR D lf (dn - 0) [(root : Int)] 0 0 by unfold coneP; rw [HDv.out]; rfl)
  have HK0 := hid (show Cnk dn [(root : Int)] from ⟨by simp, fun x hx => by rw [List.mem_singleton.1 hx]; exact ⟨r0, r1⟩⟩)
  unfold RetOf
  generalize hcp : coneP D lf (root : Int) = cp at *
  clear hcp
  have hb1 := (Below.refl w.heap.size w).alloc (Nat.le_refl _) (.cells #[.int .i64 W, .slice DA dn dc, .slice TA tn tc, .slice BA bn bc] 27)
  have HW1 := hid (Fb.new w #[.int .i64 W, .slice DA dn dc, .slice TA tn tc, .slice BA bn bc] 27)
  have HB := hid hb1
  clear hb1
  go_enter Try.func16, Try.ntmps16
  go_upto_region 1 with fail
  generalize w.alloc (.cells #[.int .i64 W, .slice DA dn dc, .slice TA tn tc, .slice BA bn bc] 27) = w1 at *
  obtain ⟨x0, x1, x2, x3⟩ := HW1.out.four
  go_wp2_with fail
  refine (HV.out w1 HB.out).mono ?_
  rintro _ w2 ⟨rfl, hb2⟩
  have HW2 := hid (HW1.out.below hb2 HW1.out.lt)
  have HB2 := hid (below_step HB.out hb2)
  clear x0 x1 x2 x3 hb2 HW1 HB HV
  obtain ⟨x0, x1, x2, x3⟩ := HW2.out.four
  go_wp2_with fail
  refine (HM2.out w2 HB2.out).mono ?_
  rintro e w3 ⟨h1, -, hb3⟩
  obtain ⟨gL, rfl, hg, hmk⟩ := h1 Hli.out
  have HW3 := hid (HW2.out.below hb3 HW2.out.lt)
  have HB3 := hid (below_step HB2.out hb3)
  have HL3 := hid hmk
  clear x0 x1 x2 x3 hb3 hmk h1 hg HW2 HB2 HM2
  obtain ⟨x0, x1, x2, x3⟩ := HW3.out.four
  go_wp2_with fail
  refine (HU.out w3).mono ?_
  rintro _ w4 ⟨rfl, hb4⟩
  have HW4 := hid (HW3.out.below hb4 HW3.out.lt)
  have HB4 := hid (below_step HB3.out hb4)
  have HL4 := hid (HL3.out.below hb4)
  clear x0 x1 x2 x3 hb4 HW3 HB3 HL3 HU
  obtain ⟨x0, x1, x2, x3⟩ := HW4.out.four
  have hmk := Hmk.out w4
  have hb5 := (Below.refl w4.heap.size w4).alloc (Nat.le_refl _) (.cells (ds0.map Value.bool).toArray 4)
  have HW5 := hid (HW4.out.below hb5 HW4.out.lt)
  have HB5 := hid (below_step HB4.out hb5)
  have HL5 := hid (HL4.out.below hb5)
  have HF5 := hid (HBn.out w4)
  have Hne := hid (show gL ≠ w4.heap.size from fun e => by have := HL4.out.fb.lt; omega)
  have Hlt := hid HW4.out.lt
  clear hb5
  go_upto_region 7 with fail
  generalize w4.alloc (.cells (ds0.map Value.bool).toArray 4) = w5 at *
  generalize w4.heap.size = gF at *
  clear x0 x1 x2 x3 hmk HW4 HB4 HL4
  have y0 := HF5.out.cell (mks_at hrN)
  have f0 := HF5.out.fb.frozen root
  have hl5 := HF5.out.fb.lt
  have m2 : (root : Int).toNat = root := by omega
  have HS0 := hid (show OfS w #[.int .i64 W, .slice DA dn dc, .slice TA tn tc, .slice BA bn bc] gL gF dn lf [(root : Int)] [(root : Int)] (.slice (some ⟨w5.heap.size, 0, none⟩) 1 1) ((w5.setCell ⟨gF, root, none⟩ (.bool true)).alloc (.cells #[.int .i64 root] 3)) from by
    have hs : OfS w #[.int .i64 W, .slice DA dn dc, .slice TA tn tc, .slice BA bn bc] gL gF dn lf [] [] (.slice none 0 0) w5 := ⟨HW5.out, HL5.out, HF5.out, Hne.out, Hlt.out, World.ownsRow_nil _ _ _ _, HB5.out⟩
    have h2 := (hs.mark hrN).below ((Below.refl _ _).alloc (Nat.le_refl _) (.cells #[.int .i64 root] 3))
    refine ⟨h2.bx, h2.lm, h2.fm, h2.ne, h2.lt, ?_, h2.bel⟩
    have := own_one (w5.setCell ⟨gF, root, none⟩ (.bool true)) (w.heap.size + 1) root (by rw [World.size_setCell]; have := Hlt.out; omega)
    rw [World.size_setCell] at this
    exact this)
  clear HW5 HB5 HL5 HF5 Hne Hlt HBn Hmk
  go_upto_region 9 with fail
  try simp only [World.size_setCell]
  generalize (w5.setCell ⟨gF, root, none⟩ (.bool true)).alloc (.cells #[.int .i64 root] 3) = w6 at *
  generalize w5.heap.size = g6 at *
  clear y0 f0 hl5
  go_wp2_with fail
  go_loopw [12, 13, 14] (fun lv cv kv wr => ∃ (l : List Int) (g L c k t : Nat), lv = .slice (some ⟨g, 0, none⟩) L c ∧ cv = .int .i64 t ∧ kv = .int .i64 k ∧ L = l.length ∧ k ≤ l.length ∧ l.length ≤ dn ∧ t ≤ k * 300 ∧ Hid (cp = coneR D lf (dn - k) l k t) ∧ Hid (Cnk dn l) ∧ Hid (OfS w #[.int .i64 W, .slice DA dn dc, .slice TA tn tc, .slice BA bn bc] gL gF dn lf l l (.slice (some ⟨g, 0, none⟩) L c) wr)) (fun _ _ kv _ => dn - (intOf kv).toNat)
  case atStart => exact ⟨[(root : Int)], g6, 1, 1, 0, 0, rfl, rfl, rfl, rfl, by simp, by simp; omega, by omega, HP, HK0, HS0⟩
  case round =>
    clear HS0 HP HK0
    obtain ⟨l, g, L, c, k, t, rfl, rfl, rfl, rfl, hk, hln, ht, HP, HK, HSt⟩ := hrel
    by_cases hlt : k < l.length
    · obtain ⟨n, hn, hnm⟩ := get_at (rfl : l.length = l.length) hlt
      obtain ⟨n0, n1⟩ := HK.out.rg n hnm
      obtain ⟨n, rfl⟩ : ∃ j : Nat, n = j := ⟨n.toNat, by omega⟩
      have hnN : n < dn := by omega
      obtain ⟨z0, hgl⟩ := HSt.out.cell hn
      have z1 := HSt.out.lm.cell (mks_at hnN)
      have hgL := HSt.out.lm.fb.lt
      have n2 : (n : Int).toNat = n := by omega
      have k0 : (0 : Int) ≤ k := by omega
      have k1 : (k : Int) < l.length := by omega
      have k2 : (k : Int).toNat = k := by omega
      have Hn := hid hn
      have hf : dn - k = (dn - (k + 1)) + 1 := by omega
      have Hf := hid hf
      clear hn hnm hf
      by_cases hlf : (n : Int) ∈ lf
      · rw [show decide ((n : Int) ∈ lf) = true by simp [hlf]] at z1
        have HP2 := hid (show cp = coneR D lf (dn - (k + 1)) l (k + 1) (t + 1) by rw [HP.out, Hf.out, coneR_leaf Hn.out hlf])
        clear hlf Hf
        as_aux_lemma =>
          go_wp2_with fail
          go_roundw
          case rel => exact ⟨l, g, _, c, k + 1, t + 1, rfl, by go_num, by go_num, rfl, by omega, hln, by omega, HP2, HK, HSt⟩
          case measure => simp [intOf]; omega
      · rw [show decide ((n : Int) ∈ lf) = false by simp [hlf]] at z1
        have HP2 := hid (show cp = coneR D lf (dn - (k + 1)) (addNew l (rw0 D n)) (k + 1) (t + 1 + (rw0 D n).length) by rw [HP.out, Hf.out, coneR_node Hn.out hlf, Int.toNat_natCast])
        have HK2 := hid (HK.out.add (rw0_ris HDr.out n).2)
        have hln2 := HK2.out.len
        have hkl2 : l.length ≤ (addNew l (rw0 D n)).length := by obtain ⟨t', e⟩ := addNew_pre l (rw0 D n); rw [e, List.length_append]; omega
        obtain ⟨y, hy, hym⟩ := get_at HDl.out hnN
        have Hrw := hid (Hat.out n y hy)
        have hyn : y.n ≤ dn := by have h1 := ris_len (HD.out y hym); rw [((HS.out w (Below.refl _ _)).all y hym).len] at h1; exact h1
        have Hyr := hid (HD.out y hym).2
        have HY := hid (fun (u : World) (hu : Below w.heap.size w u) => (HS.out u hu).all y hym)
        obtain ⟨adD, hDA, hDl, q0⟩ := (HS.out wr HSt.out.bel).cell hy
        simp only at hDA
        subst hDA
        obtain ⟨b0, b1, b2, b3⟩ := HSt.out.bx.four
        rw [Hrw.out] at HP2 HK2 hln2 hkl2
        have Hyl := hid (HY.out w (Below.refl _ _)).len
        clear hy hym hlf Hf Hrw
        obtain ⟨yA, yn, yc, yl⟩ := y
        simp only at *
        have HQ := hid (fun q => HSt.out.below (below_dq wr q))
        clear HSt
        have HA0 := hid (show addNew l (yl.drop 0) = addNew l yl from rfl)
        go_upto_region 14 with fail
        go_quiet (fail)
        go_wp2_with fail
        clear z0 z1 q0 b0 b1 b2 b3 hgl hgL hDl
        rename_i Kx hKx Kz Qz
        go_loopw [12, 13, 67] (fun lv cv jv wr => ∃ (l' : List Int) (g' L' c' j : Nat), lv = .slice (some ⟨g', 0, none⟩) L' c' ∧ cv = .int .i64 ((t + 1 + j : Nat) : Int) ∧ jv = .int .i64 j ∧ L' = l'.length ∧ j ≤ yn ∧ Hid (addNew l' (yl.drop j) = addNew l yl) ∧ Hid (Cnk dn l') ∧ Hid (OfS w #[.int .i64 W, .slice (some adD) dn dc, .slice TA tn tc, .slice BA bn bc] gL gF dn lf l' l' (.slice (some ⟨g', 0, none⟩) L' c') wr)) (fun _ _ jv _ => yn - (intOf jv).toNat)
        case atStart => exact ⟨l, g, _, c, 0, rfl, by go_num, rfl, rfl, by omega, HA0, HK, HQ.out _⟩
        case round =>
          clear HQ HA0 HK
          obtain ⟨l', g', L', c', j, rfl, rfl, rfl, rfl, hj, HA, HK, HSt⟩ := hrel
          by_cases hlj : j < yn
          · obtain ⟨m, hm, hmm⟩ := get_at Hyl.out hlj
            obtain ⟨m0, m1⟩ := Hyr.out m hmm
            obtain ⟨m, rfl⟩ : ∃ i : Nat, m = i := ⟨m.toNat, by omega⟩
            have hmN : m < dn := by omega
            obtain ⟨adY, hYA, hYl, q0⟩ := (HY.out wr HSt.out.bel).cell hm
            simp only at hYA
            subst hYA
            have m2 : (m : Int).toNat = m := by omega
            have y0 := HSt.out.fm.cell (mks_at hmN)
            have f0 := HSt.out.fm.fb.frozen m
            have hgF := HSt.out.fm.fb.lt
            have hl'n := HK.out.len
            have Hd := hid (drop_at hm)
            clear hm hmm
            by_cases hml : (m : Int) ∈ l'
            · rw [show decide ((m : Int) ∈ l') = true by simp [hml]] at y0
              have HA2 := hid (show addNew l' (yl.drop (j + 1)) = addNew l yl by rw [← HA.out, Hd.out, addNew_in hml])
              clear hml Hd HA
              as_aux_lemma =>
                go_wp2_with fail
                go_roundw
                case rel => exact ⟨l', g', _, c', j + 1, rfl, by go_num, by go_num, rfl, by omega, HA2, HK, HSt⟩
                case measure => simp [intOf]; omega
            · rw [show decide ((m : Int) ∈ l') = false by simp [hml]] at y0
              have HA2 := hid (show addNew (l' ++ [(m : Int)]) (yl.drop (j + 1)) = addNew l yl by rw [← HA.out, Hd.out, addNew_out hml])
              have HK2 := hid (HK.out.one (by omega) (by omega) hml)
              have hln3 := HK2.out.len
              rw [List.length_append, List.length_singleton] at hln3
              have HS7 := hid (HSt.out.mark hmN)
              have HS8 := hid (HS7.out.below ((Below.refl _ _).alloc (Nat.le_refl _) (.cells #[.int .i64 m] 3)))
              have hsz : w.heap.size + 1 ≤ (wr.setCell ⟨gF, m, none⟩ (.bool true)).heap.size := by rw [World.size_setCell]; have := HSt.out.lt; omega
              clear hml Hd HA HSt HK
              go_upto_region 20 with fail
              clear y0 f0 hgF q0 hYl
              generalize wr.setCell ⟨gF, m, none⟩ (.bool true) = w7 at *
              go_wp2_with (first
                | (at_builtin
                   refine wpList_append_lies _ rfl _ _ 22 rfl (w.heap.size + 1) 3 i1 _ 1 8 Try.underlying22 Hi.out Hz0.out Hz1.out Hz2.out rfl (by decide) _ l'.length (ints l') rfl HS8.out.ow ⟨w7.heap.size, 0, none⟩ 1 1 [Value.int .i64 m] rfl rfl (int_new w7 m 3) (one_int1 _) (by omega) (by unfold maxLen; omega) (by omega) (by rw [World.size_alloc]; omega) _ rfl ?_
                   intro g5 cap5 w5 hown5 hgr5 hat5 hlt5
                   have HS9 := hid (HS8.out.app hgr5 hown5)
                   clear hown5 hgr5 hat5 hlt5))
              go_roundw
              case rel => exact ⟨l' ++ [(m : Int)], g5, _, cap5, j + 1, rfl, by go_num, by go_num, by simp, by omega, HA2, HK2, HS9⟩
              case measure => simp [intOf]; omega
          · have e : j = yn := by omega
            have HA2 := hid (show l' = addNew l yl by rw [← HA.out, e, List.drop_of_length_le (by rw [Hyl.out]; exact Nat.le_refl _)]; rfl)
            have HP3 := hid (show cp = coneR D lf (dn - (k + 1)) l' (k + 1) (t + 1 + yn) by rw [HP2.out, HA2.out, Hyl.out])
            have h1 : l'.length ≤ dn := by rw [HA2.out]; exact hln2
            have h2 : k + 1 ≤ l'.length := by rw [HA2.out]; omega
            subst e
            clear HA HA2 HP2 hln2 hkl2
            go_wp2_with fail
            go_roundw
            case rel => exact ⟨l', g', _, c', k + 1, t + 1 + j, rfl, by go_num, by go_num, rfl, h2, h1, by omega, HP3, HK, HSt⟩
            case measure => simp [intOf]; omega
    · obtain rfl : k = l.length := by omega
      have HP2 := hid (show cp = (l, t) by rw [HP.out, coneR_end (Nat.le_refl _)])
      have HFin := hid (show ∃ y : RH, Ending.returned (.tuple #[.slice (some ⟨g, 0, none⟩) l.length c, .int .i64 t, .int .i64 0]) = .returned (.tuple #[.slice y.A y.n y.c, .int .i64 (cp.2 : Nat), .int .i64 0]) ∧ y.l = cp.1 ∧ (∀ ex : List (Option Nat), (∀ k, some k ∈ ex → k < w.heap.size) → RHok wr ex y) ∧ y.n ≤ 256 ∧ Below w.heap.size w wr from
        ⟨⟨some ⟨g, 0, none⟩, l.length, c, l⟩, by rw [HP2.out], by rw [HP2.out], fun ex hex => ⟨EAt.own HSt.out.ow (fun b hb hm => by have h1 := hex b hm; have h2 := (HSt.out.ow.lt b hb).1; omega), rfl, by show l.length ≤ _; omega⟩, by show l.length ≤ 256; omega, HSt.out.bel⟩)
      clear HP HP2 HK HSt
      go_wp2_with fail
      exact bodyPost_ret (v := .tuple #[.slice (some ⟨g, 0, none⟩) l.length c, .int .i64 t, .int .i64 0]) (by simp [results, Try.results16, go_sem]) rfl HFin.out
end Go.Proofs.Ytopkmeceakjocaa

namespace Go.Proofs.Ytopkmeceakjocaa
set_option linter.unusedVariables false
set_option linter.unusedSimpArgs false

def updL (L : Nat → Bool) (i : Nat) : Nat → Bool := fun j => if j = i then true else L j
theorem updL_self (L : Nat → Bool) (i : Nat) : updL L i i = true := by simp [updL]
theorem updL_ne (L : Nat → Bool) {i j : Nat} (h : j ≠ i) : updL L i j = L j := by simp [updL, h]
section
variable {P : Program} {ops : Array Oper} {Q : Exit → Act → World → Prop}
theorem wpAny_inv (Inv : (Nat → Bool) → (Nat → Value) → World → Prop) (ds : List (Option Tmp)) (a0 : Act) (hds : ops.toList.map (·.dst) = ds) (hd : distB ds = true) (hb : backB ops = true)
    (hstep : ∀ (i : Nat) (o : Oper) (L : Nat → Bool) (f : Nat → Value) (w : World), ops[i]? = some o → L i = false → (∀ e ∈ o.after, Region.binds .any e = true → L e.on = true) → Inv L f w → ∀ K : Act → World → Prop, (∀ v w', Inv (updL L i) (updV f i v) w' → K ((putL ds f 0 a0).put o.dst v) w') → wpOp P ops Q i K (putL ds f 0 a0) w)
    (hend : ∀ (L : Nat → Bool) (f : Nat → Value) (w : World), (∀ i, i < ops.size → L i = true) → Inv L f w → Q .normal (putL ds f 0 a0) w) :
    ∀ (fuel : Nat) (listed : Array Bool) (f : Nat → Value) (w : World), listed.size = ops.size → Inv (fun i => listed.getD i false) f w → listed.toList.count false = fuel →
      wpAny P .any ops Q fuel listed (putL ds f 0 a0) w := by
  intro fuel
  induction fuel with
  | zero =>
    intro listed f w hs hI hc
    have hall : ∀ i, i < ops.size → listed.getD i false = true := by
      intro i hi
      have h1 : i < listed.size := by omega
      rw [getD_lt _ h1]
      cases hv : listed[i] with
      | true => rfl
      | false => exact absurd (List.count_pos_iff.2 (Array.mem_toList_iff.2 (hv ▸ Array.getElem_mem h1))) (by omega)
    refine wpAny_done (List.eq_nil_iff_forall_not_mem.2 fun i hi => ?_) (hend _ f w hall hI) 0
    obtain ⟨hiu, o, ho, _⟩ := mem_ready.1 hi
    have hin : i < ops.size := (Array.getElem?_eq_some_iff.1 ho).1
    have h1 := hall i hin
    rw [getD_lt _ (by omega)] at h1 hiu
    rw [h1] at hiu; cases hiu
  | succ fuel ih =>
    intro listed f w hs hI hc
    have hun : ∃ i, i < ops.size ∧ listed.getD i false = false := by
      refine Classical.byContradiction fun hno => ?_
      have hmem : false ∈ listed.toList := List.count_pos_iff.1 (by omega)
      obtain ⟨i, hi, he⟩ := List.getElem_of_mem hmem
      have hi' : i < listed.size := by simpa using hi
      refine hno ⟨i, by omega, ?_⟩
      rw [getD_lt _ hi']
      simpa using he
    have hmin : ∀ n i, i ≤ n → i < ops.size → listed.getD i false = false → ∃ j, j < ops.size ∧ listed.getD j false = false ∧ ∀ k, k < j → listed.getD k false = true := by
      intro n
      induction n with
      | zero => intro i hi him hv; exact ⟨i, him, hv, fun k hk => by omega⟩
      | succ n ihn =>
        intro i hi him hv
        by_cases hex : ∃ k, k < i ∧ listed.getD k false = false
        · obtain ⟨k, hk, hkv⟩ := hex
          exact ihn k (by omega) (by omega) hkv
        · refine ⟨i, him, hv, fun k hk => ?_⟩
          cases hkv : listed.getD k false with
          | true => rfl
          | false => exact absurd ⟨k, hk, hkv⟩ hex
    obtain ⟨i0, hi0, hv0⟩ := hun
    obtain ⟨j0, hj0, hj1, hj2⟩ := hmin i0 i0 (Nat.le_refl _) hi0 hv0
    have hgd : ∀ i, i < ops.size → listed.getD i true = listed.getD i false := by
      intro i hi
      rw [getD_lt true (show i < listed.size by omega), getD_lt false (show i < listed.size by omega)]
    obtain ⟨oj, hoj⟩ : ∃ o, ops[j0]? = some o := ⟨_, Array.getElem?_eq_getElem hj0⟩
    have hrj : j0 ∈ Region.ready .any ops listed := mem_ready.2 ⟨by rw [hgd j0 hj0]; exact hj1, oj, hoj, fun e he hbe => hj2 _ (backB_spec hb hoj e he hbe)⟩
    refine ⟨fun h => (by rw [h] at hrj; cases hrj), fun i hi => ?_⟩
    obtain ⟨hiu, o, ho, hafter⟩ := mem_ready.1 hi
    have hin : i < ops.size := (Array.getElem?_eq_some_iff.1 ho).1
    refine hstep i o _ f w ho (by rw [← hgd i hin]; exact hiu) (fun e he hbe => hafter e he hbe) hI _ fun v w' hI' => ?_
    have hdi : ds[i]? = some o.dst := by
      rw [← hds, List.getElem?_map, Array.getElem?_toList, ho]; rfl
    rw [putL_at hd hdi]
    have hlf : listed.toList[i]? = some false := by
      rw [Array.getElem?_toList, Array.getElem?_eq_getElem (by omega)]
      rw [getD_lt _ (by omega)] at hiu
      exact congrArg some hiu
    refine ih _ _ _ (by simp [hs]) ?_ ?_
    · have e : updL (fun i => listed.getD i false) i = fun j => (listed.setIfInBounds i true).getD j false := by
        funext k
        by_cases e : k = i
        · subst e
          rw [updL_self, getD_lt _ (by rw [Array.size_setIfInBounds]; omega), Array.getElem_setIfInBounds_self]
        · rw [updL_ne _ e, getD_set_ne false (fun h => e h.symm)]
      rw [← e]; exact hI'
    · have := count_set listed.toList i hlf
      rw [Array.toList_setIfInBounds]
      omega
/-- The rule. -/
theorem wp_region_inv {id : Nat} {a0 : Act} {w : World} (Inv : (Nat → Bool) → (Nat → Value) → World → Prop) (K0 : Act → World → Prop) (hK0 : ∀ a w, K0 a w → Q .normal a w) (n : Nat) (ds : List (Option Tmp)) (hn : ops.size = n) (hmix : P.follows .mixedOrders = true) (hds : ops.toList.map (·.dst) = ds) (hd : distB ds = true) (hb : backB ops = true)
    (h0 : ∀ f, Inv (fun _ => false) f w.drew)
    (hstep : ∀ (i : Nat) (o : Oper) (L : Nat → Bool) (f : Nat → Value) (w : World), ops[i]? = some o → L i = false → (∀ e ∈ o.after, Region.binds .any e = true → L e.on = true) → Inv L f w → ∀ K : Act → World → Prop, (∀ v w', Inv (updL L i) (updV f i v) w' → K ((putL ds f 0 a0).put o.dst v) w') → wpOp P ops Q i K (putL ds f 0 a0) w)
    (hend : ∀ (L : Nat → Bool) (f : Nat → Value) (w : World), (∀ i, i < n → L i = true) → Inv L f w → K0 (putL ds f 0 a0) w) :
    (Code.region id ops true).wp P Q a0 w := by
  subst hn
  refine wp_region_any hmix ?_
  have hl0 : (fun i => (Array.replicate ops.size false).getD i false) = fun _ => false := by
    funext i; simp [Array.getD]
  have := wpAny_inv (P := P) (Q := Q) Inv ds a0 hds hd hb hstep (fun L f w h1 h2 => hK0 _ _ (hend L f w h1 h2)) ops.size (Array.replicate ops.size false) (fun j => slotV a0 ((ds[j - 0]?).getD none)) w.drew (by simp)
    (by rw [hl0]; exact h0 _) (by simp)
  rw [putL_self] at this
  exact this
end
end Go.Proofs.Ytopkmeceakjocaa

namespace Go.Proofs.Ytopkmeceakjocaa
set_option maxRecDepth 20000
set_option linter.unusedVariables false
set_option linter.unusedSimpArgs false
open Go.ChangeShapes Go.WideShapes Go.ChangeAt Go.RowKit

def exS (T R bS : Nat) (D B Tr : Value) : List (Option Nat) := [some T, some R, some bS, D.ownBlock, B.ownBlock, Tr.ownBlock]
def lhc (y : RH) : List Value := [.slice y.A y.n y.c]
/-- A generated row of dependencies, set, function. -/
def gD (N : Nat) (y : RH) : Prop := RisP N y.l ∧ y.n ≤ 3
def gB (W : Nat) (y : ZH) : Prop := y.W = W ∧ Bs.Fit W y.ws
def gT (W : Nat) (y : FH) : Prop := FOk W y ∧ y.k ≤ 12
structure Sg (w : World) (T bS W N : Nat) (D B Tr : Value) (lD : List RH) (lB : List ZH) (lT : List FH) (u : World) : Prop where
  tp : Tape u T
  hT : T < w.heap.size
  hb : w.heap.size < bS
  gr : w.grownBy u (some T)
  rx : Fb u w.heap.size #[.int .i64 0, .slice none 0 0, .slice none 0 0, .slice none 0 0] 27
  bx : Fb u bS #[.int .i64 W, D, Tr, B] 27
  oD : u.ownsRow (bS + 1) 22 1 D lD.length (lD.flatMap lhc)
  oB : u.ownsRow (bS + 1) 50 2 B lB.length (lB.flatMap ZH.cs)
  oT : u.ownsRow (bS + 1) 61 5 Tr lT.length (lT.flatMap FH.cells)
  eD : ∀ y ∈ lD, RHok u (exS T w.heap.size bS D B Tr) y
  eB : ∀ y ∈ lB, ZHok u (exS T w.heap.size bS D B Tr) y
  eT : ∀ y ∈ lT, FHok u (exS T w.heap.size bS D B Tr) y
  okD : ∀ y ∈ lD, gD N y
  okB : ∀ y ∈ lB, gB W y
  okT : ∀ y ∈ lT, gT W y
section
variable {w u u' : World} {T bS W N : Nat} {D B Tr : Value} {lD : List RH} {lB : List ZH} {lT : List FH}
theorem Sg.far {v : Value} {ty k n b : Nat} {xs : List Value} (h : u.ownsRow b ty k v n xs) {j : Nat} (hj : j < b) : v.ownBlock = none ∨ v.ownBlock ≠ some j := by
  cases hv : v.ownBlock with
  | none => exact .inl rfl
  | some g => exact .inr fun e => by have := (h.lt g hv).1; have := Option.some.inj e; omega
theorem Sg.step (h : Sg w T bS W N D B Tr lD lB lT u) (ht : Tape u' T) (hg : u.grownBy u' (some T)) : Sg w T bS W N D B Tr lD lB lT u' := by
  have hT := h.hT; have hb := h.hb
  have hG : Go2 u (exS T w.heap.size bS D B Tr) u' (exS T w.heap.size bS D B Tr) := Go2.same hg (.inr (by simp [exS]))
  exact ⟨ht, hT, hb, grown_trans h.gr hg, h.rx.grown hg (by simp; omega), h.bx.grown hg (by simp; omega), h.oD.kept hg (Sg.far h.oD (by omega)), h.oB.kept hg (Sg.far h.oB (by omega)), h.oT.kept hg (Sg.far h.oT (by omega)),
    fun y hy => (h.eD y hy).go hG, fun y hy => (h.eB y hy).go hG, fun y hy => (h.eT y hy).go hG, h.okD, h.okB, h.okT⟩
theorem Sg.below (h : Sg w T bS W N D B Tr lD lB lT u) (hb : Below u.heap.size u u') : Sg w T bS W N D B Tr lD lB lT u' := h.step (h.tp.below hb h.tp.lt) (grown_of_below hb _)
theorem Sg.exlt (h : Sg w T bS W N D B Tr lD lB lT u) : ∀ k, some k ∈ exS T w.heap.size bS D B Tr → k < u.heap.size := by
  intro k hk
  simp only [exS, List.mem_cons, Option.some.injEq, List.not_mem_nil, or_false] at hk
  rcases hk with rfl | rfl | rfl | hk | hk | hk
  · exact h.tp.lt
  · exact h.rx.lt
  · exact h.bx.lt
  · exact (h.oD.lt k hk.symm).2
  · exact (h.oB.lt k hk.symm).2
  · exact (h.oT.lt k hk.symm).2
theorem Sg.ges (h : Sg w T bS W N D B Tr lD lB lT u) : ∀ k, some k ∈ exS T w.heap.size bS D B Tr → k = T ∨ w.heap.size ≤ k := by
  have hb := h.hb
  intro k hk
  simp only [exS, List.mem_cons, Option.some.injEq, List.not_mem_nil, or_false] at hk
  rcases hk with rfl | rfl | rfl | hk | hk | hk
  · exact .inl rfl
  · exact .inr (Nat.le_refl _)
  · exact .inr (by omega)
  · exact .inr (by have := (h.oD.lt k hk.symm).1; omega)
  · exact .inr (by have := (h.oB.lt k hk.symm).1; omega)
  · exact .inr (by have := (h.oT.lt k hk.symm).1; omega)
/-- No block of these holds words or copies. -/
theorem ex_typ {w u : World} {T bS nD nB nT b : Nat} {cs cs' : Array Value} {D B Tr : Value} {xD xB xT : List Value} (ht : Tape u T) (hr : Fb u w.heap.size cs' 27) (hb : Fb u bS cs 27) (oD : u.ownsRow b 22 1 D nD xD) (oB : u.ownsRow b 50 2 B nB xB) (oT : u.ownsRow b 61 5 Tr nT xT) :
    ∀ k, some k ∈ exS T w.heap.size bS D B Tr → ¬ Typ u k 93 ∧ ¬ Typ u k 89 := by
  intro k hk
  simp only [exS, List.mem_cons, Option.some.injEq, List.not_mem_nil, or_false] at hk
  rcases hk with rfl | rfl | rfl | hk | hk | hk
  · exact ⟨fun h => h.ne ht.typ (by decide) rfl, fun h => h.ne ht.typ (by decide) rfl⟩
  · exact ⟨fun h => h.ne hr.typ (by decide) rfl, fun h => h.ne hr.typ (by decide) rfl⟩
  · exact ⟨fun h => h.ne hb.typ (by decide) rfl, fun h => h.ne hb.typ (by decide) rfl⟩
  · exact ⟨fun h => h.ne (own_typ oD hk.symm) (by decide) rfl, fun h => h.ne (own_typ oD hk.symm) (by decide) rfl⟩
  · exact ⟨fun h => h.ne (own_typ oB hk.symm) (by decide) rfl, fun h => h.ne (own_typ oB hk.symm) (by decide) rfl⟩
  · exact ⟨fun h => h.ne (own_typ oT hk.symm) (by decide) rfl, fun h => h.ne (own_typ oT hk.symm) (by decide) rfl⟩
theorem Sg.set (h : Sg w T bS W N D B Tr lD lB lT u) {g : Nat} {ws : List Nat} (hr : Row u g ws) (hf : Bs.Fit W ws) : ZHok u (exS T w.heap.size bS D B Tr) ⟨W, some ⟨g, 0, none⟩, Bs.nw W, Bs.nw W, ws⟩ :=
  ⟨EAt.fb hr (fun hm => (ex_typ h.tp h.rx h.bx h.oD h.oB h.oT g hm).1 hr.typ) (fun j x hx => by simpa using hx), by have := hf.len; simpa using this, hf.ok⟩
theorem Sg.drow (h : Sg w T bS W N D B Tr lD lB lT u) {y : RH} (hy : RHok u (exS T w.heap.size bS D B Tr) y) (ht : Tape u' T) (hg : u.grownBy u' (some T)) : RHok u' (exS T w.heap.size bS D B Tr) y := hy.go (Go2.same hg (.inr (by simp [exS])))
theorem Sg.zset (h : Sg w T bS W N D B Tr lD lB lT u) {y : ZH} (hy : ZHok u (exS T w.heap.size bS D B Tr) y) (ht : Tape u' T) (hg : u.grownBy u' (some T)) : ZHok u' (exS T w.heap.size bS D B Tr) y := hy.go (Go2.same hg (.inr (by simp [exS])))
end
theorem info22 : (Try.prog.info? 22).map (fun i => (i.zero, i.size, i.bytes)) = some (some (.slice none 0 0), 1, 24) := by kernel_rfl
theorem info41 : (Try.prog.info? 50).map (fun i => (i.zero, i.size, i.bytes)) = some (some (.agg #[.int .i64 0, .slice none 0 0]), 2, 32) := by kernel_rfl
theorem info70 : (Try.prog.info? 61).map (fun i => (i.zero, i.size, i.bytes)) = some (some (.agg #[.int .i64 0, .slice none 0 0, .int .i64 0, .slice none 0 0, .slice none 0 0]), 5, 88) := by kernel_rfl
theorem one_lhc (y : RH) : ∀ u ∈ lhc y, u.oneCell' = true := by intro u hu; simp [lhc] at hu; subst hu; rfl
theorem one_zcs (y : ZH) : ∀ u ∈ y.cs, u.oneCell' = true := by intro u hu; simp [ZH.cs] at hu; rcases hu with rfl | rfl <;> rfl
theorem one_fcells (y : FH) : ∀ u ∈ y.cells, u.oneCell' = true := by intro u hu; simp [FH.cells] at hu; rcases hu with rfl | rfl | rfl | rfl | rfl <;> rfl
/-- The types of the blocks that the statement's operations write. -/
def tyO (j : Nat) : Nat := if j = 4 then 22 else if j = 9 then 50 else if j = 17 then 61 else 57
theorem tyO_4 {j : Nat} (h : j ≠ 4) : 22 ≠ tyO j := by unfold tyO; rw [if_neg h]; split; decide; split; decide; decide
theorem tyO_9 {j : Nat} (h : j ≠ 9) : 50 ≠ tyO j := by unfold tyO; rw [if_neg h]; split; decide; split; decide; decide
theorem tyO_17 {j : Nat} (h : j ≠ 17) : 61 ≠ tyO j := by unfold tyO; rw [if_neg h]; split; decide; split; decide; decide
theorem tyO_u (j : Nat) : 93 ≠ tyO j := by unfold tyO; split; decide; split; decide; split; decide; decide
theorem tyO_c (j : Nat) : 89 ≠ tyO j := by unfold tyO; split; decide; split; decide; split; decide; decide
/-- What the operations of the statement leave, one by one. -/
def sgF (w1 : World) (T bS W : Nat) (D B Tr : Value) (lD : List RH) (lB : List ZH) (lT : List FH) (d : RH) (b : ZH) : Nat → Value → World → Prop
  | 0, v, _ => v = .pointer (some ⟨bS, 1, none⟩)
  | 1, v, _ => v = D
  | 2, v, _ => v = .slice d.A d.n d.c
  | 3, v, u => ∃ g, v = .slice (some ⟨g, 0, none⟩) 1 1 ∧ Fb u g (lhc d).toArray 22
  | 4, v, u => ∃ g q, v = .slice (some ⟨g, 0, none⟩) (lD.length + 1) q ∧ u.ownsRow (bS + 1) 22 1 (.slice (some ⟨g, 0, none⟩) (lD.length + 1) q) (lD.length + 1) (lD.flatMap lhc ++ lhc d) ∧ (D.ownBlock = some g ∨ w1.heap.size ≤ g)
  | 5, v, _ => v = .pointer (some ⟨bS, 3, none⟩)
  | 6, v, _ => v = B
  | 7, v, _ => v = b.a
  | 8, v, u => ∃ g, v = .slice (some ⟨g, 0, none⟩) 1 1 ∧ Fb u g b.cs.toArray 50
  | 9, v, u => ∃ g q, v = .slice (some ⟨g, 0, none⟩) (lB.length + 1) q ∧ u.ownsRow (bS + 1) 50 2 (.slice (some ⟨g, 0, none⟩) (lB.length + 1) q) (lB.length + 1) (lB.flatMap ZH.cs ++ b.cs) ∧ (B.ownBlock = some g ∨ w1.heap.size ≤ g)
  | 10, v, _ => v = .pointer (some ⟨bS, 2, none⟩)
  | 11, v, _ => v = Tr
  | 12, v, _ => v = .pointer (some ⟨T, 0, none⟩)
  | 13, v, _ => v = .pointer (some ⟨bS, 0, none⟩)
  | 14, v, _ => v = .int .i64 W
  | 15, v, u => ∃ F : FH, v = F.a ∧ Ft u W F
  | 16, v, u => ∃ (F : FH) (g : Nat), v = .slice (some ⟨g, 0, none⟩) 1 1 ∧ Fb u g F.cells.toArray 61 ∧ Ft u W F
  | 17, v, u => ∃ (F : FH) (g q : Nat), v = .slice (some ⟨g, 0, none⟩) (lT.length + 1) q ∧ u.ownsRow (bS + 1) 61 5 (.slice (some ⟨g, 0, none⟩) (lT.length + 1) q) (lT.length + 1) (lT.flatMap FH.cells ++ F.cells) ∧ (Tr.ownBlock = some g ∨ w1.heap.size ≤ g) ∧ Ft u W F
  | 18, v, _ => v = .pointer (some ⟨bS, 1, none⟩)
  | _, _, _ => True
def sgU : Nat → Option Nat
  | 3 => some 4
  | 8 => some 9
  | 16 => some 17
  | _ => none
theorem sgF_st {w1 : World} {T bS W : Nat} {D B Tr : Value} {lD : List RH} {lB : List ZH} {lT : List FH} {d : RH} {b : ZH} (j : Nat) (u u' : World) (i : Nat) (v : Value) (hR : Stp1 (tyO j) u u') (hne : i ≠ j) (hu : sgU i ≠ some j) (h : sgF w1 T bS W D B Tr lD lB lT d b i v u) : sgF w1 T bS W D B Tr lD lB lT d b i v u' := by
  match i, hne, hu, h with
  | 0, _, _, h => exact h
  | 1, _, _, h => exact h
  | 2, _, _, h => exact h
  | 3, _, hu, h => obtain ⟨g, h1, h2⟩ := h; exact ⟨g, h1, hR.fb h2 (tyO_4 fun e => hu (by rw [e]; rfl))⟩
  | 4, hne, _, h => obtain ⟨g, q, h1, h2, h3⟩ := h; exact ⟨g, q, h1, hR.own h2 (tyO_4 hne.symm), h3⟩
  | 5, _, _, h => exact h
  | 6, _, _, h => exact h
  | 7, _, _, h => exact h
  | 8, _, hu, h => obtain ⟨g, h1, h2⟩ := h; exact ⟨g, h1, hR.fb h2 (tyO_9 fun e => hu (by rw [e]; rfl))⟩
  | 9, hne, _, h => obtain ⟨g, q, h1, h2, h3⟩ := h; exact ⟨g, q, h1, hR.own h2 (tyO_9 hne.symm), h3⟩
  | 10, _, _, h => exact h
  | 11, _, _, h => exact h
  | 12, _, _, h => exact h
  | 13, _, _, h => exact h
  | 14, _, _, h => exact h
  | 15, _, _, h => obtain ⟨F, h1, h2⟩ := h; exact ⟨F, h1, hR.ft h2 (tyO_u j) (tyO_c j)⟩
  | 16, _, hu, h => obtain ⟨F, g, h1, h2, h3⟩ := h; exact ⟨F, g, h1, hR.fb h2 (tyO_17 fun e => hu (by rw [e]; rfl)), hR.ft h3 (tyO_u j) (tyO_c j)⟩
  | 17, hne, _, h => obtain ⟨F, g, q, h1, h2, h3, h4⟩ := h; exact ⟨F, g, q, h1, hR.own h2 (tyO_17 hne.symm), h3, hR.ft h4 (tyO_u j) (tyO_c j)⟩
  | 18, _, _, h => exact h
  | i + 19, _, _, h => trivial
/-- What stands till an operation uses it up. -/
def sgG (bS : Nat) (D B Tr : Value) (lD : List RH) (lB : List ZH) (lT : List FH) : Nat → World → Prop
  | 4, u => u.ownsRow (bS + 1) 22 1 D lD.length (lD.flatMap lhc)
  | 9, u => u.ownsRow (bS + 1) 50 2 B lB.length (lB.flatMap ZH.cs)
  | 17, u => u.ownsRow (bS + 1) 61 5 Tr lT.length (lT.flatMap FH.cells)
  | _, _ => True
theorem sgG_st {bS : Nat} {D B Tr : Value} {lD : List RH} {lB : List ZH} {lT : List FH} (j : Nat) (u u' : World) (c : Nat) (hR : Stp1 (tyO j) u u') (hne : c ≠ j) (h : sgG bS D B Tr lD lB lT c u) : sgG bS D B Tr lD lB lT c u' := by
  by_cases h4 : c = 4
  · subst h4; exact hR.own (show u.ownsRow _ _ _ _ _ _ from h) (tyO_4 hne.symm)
  · by_cases h9 : c = 9
    · subst h9; exact hR.own (show u.ownsRow _ _ _ _ _ _ from h) (tyO_9 hne.symm)
    · by_cases h17 : c = 17
      · subst h17; exact hR.own (show u.ownsRow _ _ _ _ _ _ from h) (tyO_17 hne.symm)
      · unfold sgG; split <;> first | omega | trivial
theorem Sg.sgG {w u : World} {T bS W N : Nat} {D B Tr : Value} {lD : List RH} {lB : List ZH} {lT : List FH} (h : Sg w T bS W N D B Tr lD lB lT u) (c : Nat) : sgG bS D B Tr lD lB lT c u := by
  unfold Ytopkmeceakjocaa.sgG
  split
  · exact h.oD
  · exact h.oB
  · exact h.oT
  · trivial
/-- What stands below while the statement runs. -/
structure SgB (w w1 : World) (T bS W : Nat) (D B Tr : Value) (bb : Nat) (b : ZH) (u : World) : Prop where
  gx : GrX w1 (exS T w.heap.size bS D B Tr) u
  tp : Tape u T
  rx : Fb u w.heap.size #[.int .i64 0, .slice none 0 0, .slice none 0 0, .slice none 0 0] 27
  bx : Fb u bS #[.int .i64 W, D, Tr, B] 27
  bb : Fb u bb b.cs.toArray 50
section
variable {w w1 u u' : World} {T bS W N bb : Nat} {D B Tr : Value} {lD : List RH} {lB : List ZH} {lT : List FH} {d : RH} {b : ZH}
theorem SgB.below (h : SgB w w1 T bS W D B Tr bb b u) (hb : Below u.heap.size u u') : SgB w w1 T bS W D B Tr bb b u' :=
  ⟨h.gx.below hb, h.tp.below hb h.tp.lt, h.rx.below hb h.rx.lt, h.bx.below hb h.bx.lt, h.bb.below hb h.bb.lt⟩
theorem SgB.tape (h : SgB w w1 T bS W D B Tr bb b u) (hs : Sg w T bS W N D B Tr lD lB lT w1) (ht : Tape u' T) (hg : u.grownBy u' (some T)) : SgB w w1 T bS W D B Tr bb b u' := by
  have hT := hs.hT; have hb := hs.hb
  exact ⟨h.gx.step hg (fun g e => .inl (by simp [exS])), ht, h.rx.grown hg (by simp; omega), h.bx.grown hg (by simp; omega), h.bb.grown hg fun e => (h.bb.typ.ne h.tp.typ (by decide)) (Option.some.inj e)⟩
/-- An append to one of the three rows. -/
theorem SgB.app {v : Value} {ty k n : Nat} {xs : List Value} (h : SgB w w1 T bS W D B Tr bb b u) (hs : Sg w T bS W N D B Tr lD lB lT w1) (hv : v = D ∨ v = B ∨ v = Tr) (ho : u.ownsRow (bS + 1) ty k v n xs) (hbb : v.ownBlock ≠ some bb) (hg : u.grownBy u' v.ownBlock) : SgB w w1 T bS W D B Tr bb b u' := by
  have hT := hs.hT; have hb := hs.hb
  have far : ∀ j, j < bS + 1 → some j ≠ v.ownBlock := fun j hj e => by have := (ho.lt j e.symm).1; omega
  refine ⟨h.gx.step hg fun g e => .inl ?_, h.tp.keep fun k hk => hg.block k (by have := h.tp.lt; omega) (far k (by omega)), h.rx.grown hg (far _ (by omega)), h.bx.grown hg (far _ (by omega)), h.bb.grown hg (Ne.symm hbb)⟩
  rcases hv with rfl | rfl | rfl <;> simp [exS]
theorem Sg.sgB (h : Sg w T bS W N D B Tr lD lB lT w1) (hb : Fb w1 bb b.cs.toArray 50) : SgB w w1 T bS W D B Tr bb b w1 := ⟨GrX.refl _ _, h.tp, h.rx, h.bx, hb⟩
/-- The three stores. -/
structure TlI (D' B' T' : Value) (bS : Nat) (u0 : World) (L : Nat → Bool) (f : Nat → Value) (u : World) : Prop where
  pre : ∀ i, i < 19 → L i = true
  v4 : f 4 = D'
  v9 : f 9 = B'
  v17 : f 17 = T'
  a18 : L 18 = true → f 18 = .pointer (some ⟨bS, 1, none⟩)
  a20 : L 20 = true → f 20 = .pointer (some ⟨bS, 3, none⟩)
  a22 : L 22 = true → f 22 = .pointer (some ⟨bS, 2, none⟩)
  c21 : L 21 = true → L 19 = true
  c23 : L 23 = true → L 21 = true
  w0 : L 19 = false → u = u0
  w1 : L 19 = true → L 21 = false → u = u0.setCell ⟨bS, 1, none⟩ D'
  w2 : L 21 = true → L 23 = false → u = (u0.setCell ⟨bS, 1, none⟩ D').setCell ⟨bS, 3, none⟩ B'
  w3 : L 23 = true → u = ((u0.setCell ⟨bS, 1, none⟩ D').setCell ⟨bS, 3, none⟩ B').setCell ⟨bS, 2, none⟩ T'
end
section
variable {D' B' T' : Value} {bS : Nat} {u0 : World} {L : Nat → Bool} {f : Nat → Value} {u : World}
theorem TlI.op20 (h : TlI D' B' T' bS u0 L f u) : TlI D' B' T' bS u0 (updL L 20) (updV f 20 (.pointer (some ⟨bS, 3, none⟩))) u := by
  obtain ⟨h1, h2, h3, h4, h5, h6, h7, h8, h9, h10, h11, h12, h13⟩ := h
  exact ⟨fun i hi => by rw [updL_ne _ (by omega)]; exact h1 i hi, by simpa [updV] using h2, by simpa [updV] using h3, by simpa [updV] using h4, by simpa [updV, updL] using h5, fun _ => updV_self _ _ _, by simpa [updV, updL] using h7, by simpa [updL] using h8, by simpa [updL] using h9, by simpa [updL] using h10, by simpa [updL] using h11, by simpa [updL] using h12, by simpa [updL] using h13⟩
theorem TlI.op22 (h : TlI D' B' T' bS u0 L f u) : TlI D' B' T' bS u0 (updL L 22) (updV f 22 (.pointer (some ⟨bS, 2, none⟩))) u := by
  obtain ⟨h1, h2, h3, h4, h5, h6, h7, h8, h9, h10, h11, h12, h13⟩ := h
  exact ⟨fun i hi => by rw [updL_ne _ (by omega)]; exact h1 i hi, by simpa [updV] using h2, by simpa [updV] using h3, by simpa [updV] using h4, by simpa [updV, updL] using h5, by simpa [updV, updL] using h6, fun _ => updV_self _ _ _, by simpa [updL] using h8, by simpa [updL] using h9, by simpa [updL] using h10, by simpa [updL] using h11, by simpa [updL] using h12, by simpa [updL] using h13⟩
theorem TlI.op19 (h : TlI D' B' T' bS u0 L f u) (hL : L 19 = false) (x : Value) : u = u0 ∧ TlI D' B' T' bS u0 (updL L 19) (updV f 19 x) (u0.setCell ⟨bS, 1, none⟩ D') := by
  obtain ⟨h1, h2, h3, h4, h5, h6, h7, h8, h9, h10, h11, h12, h13⟩ := h
  have l21 : L 21 = false := by cases e : L 21 with | false => rfl | true => rw [h8 e] at hL; cases hL
  have l23 : L 23 = false := by cases e : L 23 with | false => rfl | true => rw [h9 e] at l21; cases l21
  exact ⟨h10 hL, fun i hi => by rw [updL_ne _ (by omega)]; exact h1 i hi, by simpa [updV] using h2, by simpa [updV] using h3, by simpa [updV] using h4, by simpa [updV, updL] using h5, by simpa [updV, updL] using h6, by simpa [updV, updL] using h7, by simp [updL], by simpa [updL] using h9, by simp [updL], by simp [updL], by simp [updL, l21], by simp [updL, l23]⟩
theorem TlI.op21 (h : TlI D' B' T' bS u0 L f u) (hL : L 21 = false) (h19 : L 19 = true) (x : Value) : u = u0.setCell ⟨bS, 1, none⟩ D' ∧ TlI D' B' T' bS u0 (updL L 21) (updV f 21 x) ((u0.setCell ⟨bS, 1, none⟩ D').setCell ⟨bS, 3, none⟩ B') := by
  obtain ⟨h1, h2, h3, h4, h5, h6, h7, h8, h9, h10, h11, h12, h13⟩ := h
  have l23 : L 23 = false := by cases e : L 23 with | false => rfl | true => rw [h9 e] at hL; cases hL
  exact ⟨h11 h19 hL, fun i hi => by rw [updL_ne _ (by omega)]; exact h1 i hi, by simpa [updV] using h2, by simpa [updV] using h3, by simpa [updV] using h4, by simpa [updV, updL] using h5, by simpa [updV, updL] using h6, by simpa [updV, updL] using h7, by simp [updL, h19], by simp [updL], by simp [updL, h19], by simp [updL], by simp [updL], by simp [updL, l23]⟩
theorem TlI.op23 (h : TlI D' B' T' bS u0 L f u) (hL : L 23 = false) (h21 : L 21 = true) (x : Value) : u = (u0.setCell ⟨bS, 1, none⟩ D').setCell ⟨bS, 3, none⟩ B' ∧ TlI D' B' T' bS u0 (updL L 23) (updV f 23 x) (((u0.setCell ⟨bS, 1, none⟩ D').setCell ⟨bS, 3, none⟩ B').setCell ⟨bS, 2, none⟩ T') := by
  obtain ⟨h1, h2, h3, h4, h5, h6, h7, h8, h9, h10, h11, h12, h13⟩ := h
  have l19 := h8 h21
  exact ⟨h12 h21 hL, fun i hi => by rw [updL_ne _ (by omega)]; exact h1 i hi, by simpa [updV] using h2, by simpa [updV] using h3, by simpa [updV] using h4, by simpa [updV, updL] using h5, by simpa [updV, updL] using h6, by simpa [updV, updL] using h7, by simp [updL, l19], by simp [updL, h21], by simp [updL, l19], by simp [updL, h21], by simp [updL], by simp [updL]⟩
end
section
variable {w w1 u : World} {T bS W N bb : Nat} {D B Tr : Value} {lD : List RH} {lB : List ZH} {lT : List FH} {d : RH} {b : ZH}
/-- The statement's end. -/
theorem SgB.done (h : SgB w w1 T bS W D B Tr bb b u) (hs : Sg w T bS W N D B Tr lD lB lT w1) (hd : RHok w1 (exS T w.heap.size bS D B Tr) d) (hz : ZHok w1 (exS T w.heap.size bS D B Tr) b) (hgd : gD N d) (hgb : gB W b) {g1 q1 g2 q2 g3 q3 : Nat} {F : FH}
    (o1 : u.ownsRow (bS + 1) 22 1 (.slice (some ⟨g1, 0, none⟩) (lD.length + 1) q1) (lD.length + 1) (lD.flatMap lhc ++ lhc d)) (n1 : D.ownBlock = some g1 ∨ w1.heap.size ≤ g1)
    (o2 : u.ownsRow (bS + 1) 50 2 (.slice (some ⟨g2, 0, none⟩) (lB.length + 1) q2) (lB.length + 1) (lB.flatMap ZH.cs ++ b.cs)) (n2 : B.ownBlock = some g2 ∨ w1.heap.size ≤ g2)
    (o3 : u.ownsRow (bS + 1) 61 5 (.slice (some ⟨g3, 0, none⟩) (lT.length + 1) q3) (lT.length + 1) (lT.flatMap FH.cells ++ F.cells)) (n3 : Tr.ownBlock = some g3 ∨ w1.heap.size ≤ g3) (hF : Ft u W F) :
    Sg w T bS W N (.slice (some ⟨g1, 0, none⟩) (lD.length + 1) q1) (.slice (some ⟨g2, 0, none⟩) (lB.length + 1) q2) (.slice (some ⟨g3, 0, none⟩) (lT.length + 1) q3) (lD ++ [d]) (lB ++ [b]) (lT ++ [F])
      (((u.setCell ⟨bS, 1, none⟩ (.slice (some ⟨g1, 0, none⟩) (lD.length + 1) q1)).setCell ⟨bS, 3, none⟩ (.slice (some ⟨g2, 0, none⟩) (lB.length + 1) q2)).setCell ⟨bS, 2, none⟩ (.slice (some ⟨g3, 0, none⟩) (lT.length + 1) q3)) := by
  have hT := hs.hT; have hb := hs.hb
  have hgs := hs.ges
  generalize hvD : Value.slice (some ⟨g1, 0, none⟩) (lD.length + 1) q1 = D' at *
  generalize hvB : Value.slice (some ⟨g2, 0, none⟩) (lB.length + 1) q2 = B' at *
  generalize hvT : Value.slice (some ⟨g3, 0, none⟩) (lT.length + 1) q3 = T' at *
  have kD : D'.ownBlock = some g1 := by rw [← hvD]; rfl
  have kB : B'.ownBlock = some g2 := by rw [← hvB]; rfl
  have kT : T'.ownBlock = some g3 := by rw [← hvT]; rfl
  have ht := ex_typ h.tp h.rx h.bx o1 o2 o3
  have hG1 : Go2 w1 (exS T w.heap.size bS D B Tr) u (exS T w.heap.size bS D' B' T') := h.gx.go fun k hk hm => by
    simp only [exS, List.mem_cons, List.not_mem_nil, or_false, kD, kB, kT, Option.some.injEq] at hm ⊢
    rcases hm with e | e | e | e | e | e
    · exact .inl e
    · exact .inr (.inl e)
    · exact .inr (.inr (.inl e))
    · subst e; rcases n1 with n | n
      · exact .inr (.inr (.inr (.inl n.symm)))
      · omega
    · subst e; rcases n2 with n | n
      · exact .inr (.inr (.inr (.inr (.inl n.symm))))
      · omega
    · subst e; rcases n3 with n | n
      · exact .inr (.inr (.inr (.inr (.inr n.symm))))
      · omega
  have s1 := setCell_grown u ⟨bS, 1, none⟩ D'
  have s2 := setCell_grown (u.setCell ⟨bS, 1, none⟩ D') ⟨bS, 3, none⟩ B'
  have s3 := setCell_grown ((u.setCell ⟨bS, 1, none⟩ D').setCell ⟨bS, 3, none⟩ B') ⟨bS, 2, none⟩ T'
  have hS := grown_trans (grown_trans s1 s2) s3
  have hG2 : Go2 u (exS T w.heap.size bS D' B' T') _ (exS T w.heap.size bS D' B' T') := Go2.same hS (.inr (by simp [exS]))
  have hG := hG1.trans hG2
  have hgr : w.grownBy u (some T) := h.gx.grown hs.gr fun k hk => hgs k hk
  have e3 := ((h.bx.set 1 D').set 3 B').set 2 T'
  have fl : ∀ {α : Type} (l : List α) (x : α) (f : α → List Value), (l ++ [x]).flatMap f = l.flatMap f ++ f x := fun l x f => by rw [List.flatMap_append]; simp
  refine ⟨((h.tp.far (by simp; omega) _).far (by simp; omega) _).far (by simp; omega) _, hT, hb, grown_set_new (grown_set_new (grown_set_new hgr (by simp; omega) _) (by simp; omega) _) (by simp; omega) _,
    ((h.rx.far (by simp; omega) _).far (by simp; omega) _).far (by simp; omega) _, e3, ?_, ?_, ?_, ?_, ?_, ?_, ?_, ?_, ?_⟩
  · rw [List.length_append, fl]; exact o1.kept hS (Sg.far o1 (by show bS < bS + 1; omega))
  · rw [List.length_append, fl]; exact o2.kept hS (Sg.far o2 (by show bS < bS + 1; omega))
  · rw [List.length_append, fl]; exact o3.kept hS (Sg.far o3 (by show bS < bS + 1; omega))
  · intro y hy
    rcases List.mem_append.1 hy with hy | hy
    · exact (hs.eD y hy).go hG
    · rw [List.mem_singleton.1 hy]; exact hd.go hG
  · intro y hy
    rcases List.mem_append.1 hy with hy | hy
    · exact (hs.eB y hy).go hG
    · rw [List.mem_singleton.1 hy]; exact hz.go hG
  · intro y hy
    rcases List.mem_append.1 hy with hy | hy
    · exact (hs.eT y hy).go hG
    · rw [List.mem_singleton.1 hy]; exact (hF.fh ht).go hG2
  · intro y hy
    rcases List.mem_append.1 hy with hy | hy
    · exact hs.okD y hy
    · rw [List.mem_singleton.1 hy]; exact hgd
  · intro y hy
    rcases List.mem_append.1 hy with hy | hy
    · exact hs.okB y hy
    · rw [List.mem_singleton.1 hy]; exact hgb
  · intro y hy
    rcases List.mem_append.1 hy with hy | hy
    · exact hs.okT y hy
    · rw [List.mem_singleton.1 hy]; exact ⟨⟨hF.g1.1, hF.k1.1, hF.ok⟩, hF.c1.2⟩
end
end Go.Proofs.Ytopkmeceakjocaa

namespace Go.Proofs.Ytopkmeceakjocaa
set_option maxRecDepth 20000
set_option linter.unusedVariables false
set_option linter.unusedSimpArgs false
open Go.ChangeShapes Go.WideShapes Go.ChangeAt Go.RowKit

/-- A system of the generator's: width v, N unknowns. -/
structure GSy (s : SY) (v N : Nat) : Prop where
  w : s.W = v
  v4 : v ≤ 4
  n1 : 1 ≤ N
  dn : s.D.n = N
  tn : s.T.n = N
  bn : s.B.n = N
  d : ∀ y ∈ s.D.l, gD N y
  t : ∀ y ∈ s.T.l, gT v y
  b : ∀ y ∈ s.B.l, gB v y
def RetSys (w : World) (T n : Nat) (e : Ending) (w' : World) : Prop :=
  ∃ (s : SY) (v N : Nat), e = .returned s.a ∧ SYok w' [some T] s ∧ GSy s v N ∧ N ≤ n ∧ Tape w' T ∧ w.grownBy w' (some T)
theorem insI_len (l : List Int) (n : Int) : (insI l n).length ≤ l.length + 1 := by
  induction l with
  | nil => simp [insI]
  | cons a l ih =>
    unfold insI
    repeat' split
    all_goals simp only [List.length_cons]; omega
theorem flat_lhc (l : List RH) : l.flatMap lhc = l.map RH.v := by
  induction l with
  | nil => rfl
  | cons a l ih => rw [List.flatMap_cons, List.map_cons, ih]; rfl
theorem Sg.fin {w u : World} {T bS W N n : Nat} {A1 A2 A3 : Option Addr} {c1 c2 c3 : Nat} {lD : List RH} {lB : List ZH} {lT : List FH} (h : Sg w T bS W N (.slice A1 N c1) (.slice A2 N c2) (.slice A3 N c3) lD lB lT u) (h1 : lD.length = N) (h2 : lB.length = N) (h3 : lT.length = N) (hW : W ≤ 4) (hN : 1 ≤ N) (hn : N ≤ n) (hn2 : n ≤ 100) :
    RetSys w T n (.returned (.agg #[.int .i64 W, .slice A1 N c1, .slice A3 N c3, .slice A2 N c2])) ((((u.setCell ⟨w.heap.size, 0, none⟩ (.int .i64 W)).setCell ⟨w.heap.size, 1, none⟩ (.slice A1 N c1)).setCell ⟨w.heap.size, 2, none⟩ (.slice A3 N c3)).setCell ⟨w.heap.size, 3, none⟩ (.slice A2 N c2)) := by
  have hT := h.hT; have hb := h.hb
  generalize hu' : (((u.setCell ⟨w.heap.size, 0, none⟩ (.int .i64 W)).setCell ⟨w.heap.size, 1, none⟩ (.slice A1 N c1)).setCell ⟨w.heap.size, 2, none⟩ (.slice A3 N c3)).setCell ⟨w.heap.size, 3, none⟩ (.slice A2 N c2) = u'
  have hgu : u.grownBy u' (some w.heap.size) := by
    rw [← hu']
    exact grown_trans (grown_trans (grown_trans (setCell_grown u ⟨w.heap.size, 0, none⟩ _) (setCell_grown _ ⟨w.heap.size, 1, none⟩ _)) (setCell_grown _ ⟨w.heap.size, 2, none⟩ _)) (setCell_grown _ ⟨w.heap.size, 3, none⟩ _)
  have hgw : w.grownBy u' (some T) := by
    rw [← hu']
    exact grown_set_new (grown_set_new (grown_set_new (grown_set_new h.gr (by simp) _) (by simp) _) (by simp) _) (by simp) _
  have htp : Tape u' T := h.tp.keep fun k hk => hgu.block k (by have := h.tp.lt; omega) (by simp; omega)
  have hG : Go2 u (exS T w.heap.size bS (.slice A1 N c1) (.slice A2 N c2) (.slice A3 N c3)) u' [some T] := Go2.grown hgu (.inr (by simp [exS])) fun k _ hm => by
    simp only [List.mem_cons, List.not_mem_nil, or_false] at hm
    simp only [exS, List.mem_cons]
    exact .inl hm
  have far : ∀ {v : Value} {ty k n : Nat} {xs : List Value}, u.ownsRow (bS + 1) ty k v n xs → u'.ownsRow (bS + 1) ty k v n xs := fun ho => ho.kept hgu (Sg.far ho (by omega))
  have nT : ∀ {v : Value} {ty k n : Nat} {xs : List Value}, u'.ownsRow (bS + 1) ty k v n xs → ∀ g, v.ownBlock = some g → some g ∉ [some T] := fun ho g hg hm => by
    have := (ho.lt g hg).1
    simp only [List.mem_cons, List.not_mem_nil, or_false, Option.some.injEq] at hm
    omega
  have oD := far h.oD
  have oB := far h.oB
  have oT := far h.oT
  rw [h1, flat_lhc] at oD
  rw [h2] at oB
  rw [h3] at oT
  exact ⟨⟨W, ⟨A1, N, c1, lD⟩, ⟨A3, N, c3, lT⟩, ⟨A2, N, c2, lB⟩⟩, W, N, rfl,
    ⟨⟨EAt.own oD (nT oD), h1, by show N ≤ _; omega, fun y hy => (h.eD y hy).go hG⟩, ⟨EAt.own oT (nT oT), h3, by show N ≤ _; omega, fun y hy => (h.eT y hy).go hG⟩, ⟨EAt.own oB (nT oB), h2, by show N ≤ _; omega, fun y hy => (h.eB y hy).go hG⟩⟩,
    ⟨rfl, hW, hN, rfl, rfl, rfl, h.okD, h.okT, h.okB⟩, hn, htp, hgw⟩
set_option maxHeartbeats 12800000 in
theorem system_any (T n : Nat) (w : World) (ht : Tape w T) (hn1 : 1 ≤ n) (hn : n ≤ 100) : Calls Try.prog 8 #[.pointer (some ⟨T, 0, none⟩), .int .i64 n] w (RetSys w T n) := by
  obtain ⟨iD, hi, hz0, hz1, hz2⟩ := info_parts info22
  have HD := hid hi; have HD0 := hid hz0; have HD1 := hid hz1; have HD2 := hid hz2
  clear hi hz0 hz1 hz2
  obtain ⟨iB, hi, hz0, hz1, hz2⟩ := info_parts info41
  have HB := hid hi; have HB0 := hid hz0; have HB1 := hid hz1; have HB2 := hid hz2
  clear hi hz0 hz1 hz2
  obtain ⟨iT, hi, hz0, hz1, hz2⟩ := info_parts info70
  have HT := hid hi; have HT0 := hid hz0; have HT1 := hid hz1; have HT2 := hid hz2
  clear hi hz0 hz1 hz2
  have Ht := hid ht
  have hTl := ht.lt
  clear ht
  have HR := hid (Fb.new w #[.int .i64 0, .slice none 0 0, .slice none 0 0, .slice none 0 0] 27)
  have Hb0 := hid ((Below.refl w.heap.size w).alloc (Nat.le_refl _) (.cells #[.int .i64 0, .slice none 0 0, .slice none 0 0, .slice none 0 0] 27))
  go_enter Try.func8, Try.ntmps8
  go_wp2_with fail
  refine (width_any T _ (Ht.out.alloc _)).mono ?_
  rintro e w3 ⟨v0, rfl, hv0, ht3, hg3⟩
  obtain ⟨W, hW⟩ : ∃ W : Nat, W = v0 % 5 := ⟨_, rfl⟩
  have hW4 : W ≤ 4 := by omega
  have hrem : (v0 : Int) % 5 = (W : Int) := by rw [hW]; omega
  clear hW
  have hbS : w.heap.size < w3.heap.size := by have := hg3.size; rw [World.size_alloc] at this; omega
  have H0 := hid (show ∀ N, Sg w T w3.heap.size W N (.slice none 0 0) (.slice none 0 0) (.slice none 0 0) [] [] [] (w3.alloc (.cells #[.int .i64 W, .slice none 0 0, .slice none 0 0, .slice none 0 0] 27)) from fun N =>
    ⟨ht3.alloc _, hTl, hbS, grown_trans (grown_trans (grown_of_below Hb0.out _) hg3) (grown_of_below ((Below.refl _ _).alloc (Nat.le_refl _) _) _), (HR.out.grown hg3 (by simp; omega)).alloc _, Fb.new _ _ _, World.ownsRow_nil _ _ _ _, World.ownsRow_nil _ _ _ _, World.ownsRow_nil _ _ _ _,
      by simp, by simp, by simp, by simp, by simp, by simp⟩)
  clear ht3 hg3 HR Hb0
  go_wp2_with fail
  clear hrem hv0
  generalize hbq : w3.heap.size = bS at *
  clear hbq
  generalize w3.alloc (.cells #[.int .i64 W, .slice none 0 0, .slice none 0 0, .slice none 0 0] 27) = w4 at *
  refine (next_any T n _ (H0.out 0).tp (by omega)).mono ?_
  rintro e w5 ⟨r, rfl, hr0, hr1, ht5, hg5, -⟩
  obtain ⟨N, hN⟩ : ∃ N : Nat, (1 : Int) + r = (N : Int) := ⟨(1 + r).toNat, by omega⟩
  have hN1 : 1 ≤ N := by omega
  have hNn : N ≤ n := by omega
  have H5 := hid ((H0.out N).step ht5 hg5)
  clear ht5 hg5 H0
  go_wp2_with fail
  clear hN hr0 hr1
  go_loopw [6, 7, 8, 9] (fun iv _ _ _ wr => ∃ (i : Nat) (D B Tr : Value) (lD : List RH) (lB : List ZH) (lT : List FH), i ≤ N ∧ iv = .int .i64 i ∧ (lD.length = i ∧ lB.length = i ∧ lT.length = i) ∧ Hid (Sg w T bS W N D B Tr lD lB lT wr)) (fun iv _ _ _ _ => N - (intOf iv).toNat)
  case atStart => exact ⟨0, _, _, _, [], [], [], by omega, rfl, ⟨rfl, rfl, rfl⟩, H5⟩
  case round =>
    clear H5
    obtain ⟨i, D, B, Tr, lD, lB, lT, hi, rfl, ⟨hlD, hlB, hlT⟩, HS0⟩ := hrel
    by_cases hlt : i < N
    · go_wp2_with fail
      refine (next_any T 4 _ HS0.out.tp (by omega)).mono ?_
      rintro e w6 ⟨k0, rfl, hk0, hk1, ht6, hg6, -⟩
      have HS6 := hid (HS0.out.step ht6 hg6)
      obtain ⟨k0, rfl⟩ := Int.eq_ofNat_of_zero_le hk0
      have hk3 : k0 ≤ 3 := by omega
      clear ht6 hg6 HS0 hk0 hk1
      go_wp2_with fail
      rename_i Kx hKx K6 Q6
      go_loopw [7, 8] (fun dv kv wr => ∃ (k : Nat) (d : RH), kv = .int .i64 k ∧ dv = .slice d.A d.n d.c ∧ d.n + k ≤ 3 ∧ d.n ≤ d.c ∧ Hid (RisP N d.l) ∧ Hid (RHok wr (exS T w.heap.size bS D B Tr) d) ∧ Hid (Sg w T bS W N D B Tr lD lB lT wr)) (fun _ kv _ => (intOf kv).toNat)
      case atStart => exact ⟨k0, ⟨none, 0, 0, []⟩, rfl, rfl, by show 0 + k0 ≤ 3; omega, Nat.le_refl _, hid (RisP.nil _), hid ⟨EAt.nil _ _ _, rfl, by show 0 ≤ _; omega⟩, HS6⟩
      case round =>
        clear HS6 hk3
        obtain ⟨k, d, rfl, rfl, hdk, hdc, Hris, Hd, HS⟩ := hrel
        by_cases hpos : 0 < k
        · go_wp2_with fail
          refine (next_any T N _ HS.out.tp (by omega)).mono ?_
          rintro e w7 ⟨q, rfl, hq0, hq1, ht7, hg7, -⟩
          have Hd7 := hid (HS.out.drow Hd.out ht7 hg7)
          have HS7 := hid (HS.out.step ht7 hg7)
          have Hq := hid (And.intro hq0 (show q < N by omega))
          clear ht7 hg7 HS Hd hq0 hq1
          go_wp2_with fail
          refine (insert_any d q (exS T w.heap.size bS D B Tr) _ Hd7.out hdc (by omega) HS7.out.exlt).mono ?_
          rintro e w8 ⟨y, rfl, hyl, hyo, hyc, hb8⟩
          have HS8 := hid (HS7.out.below hb8)
          have Hy := hid hyo
          have Hyr := hid (show RisP N y.l by rw [hyl]; exact insI_ris Hris.out Hq.out.1 Hq.out.2)
          have hyn : y.n + (k - 1) ≤ 3 := by
            have h1 := insI_len d.l q
            have h2 := Hd7.out.len
            have h3 := hyo.len
            rw [hyl] at h3
            omega
          clear hyl hyo hb8 HS7 Hd7
          go_wp2_with fail
          go_roundw
          case rel => exact ⟨k - 1, y, by first | go_num | (congr 1; omega), rfl, hyn, hyc, Hyr, Hy, HS8⟩
          case measure => simp [intOf]; omega
        · obtain rfl : k = 0 := by omega
          clear hpos
          have Hgd := hid (show gD N d from ⟨Hris.out, by omega⟩)
          clear Hris hdk hdc
          obtain ⟨b0, b1, b2, b3⟩ := HS.out.bx.four
          go_wp2_with fail
          refine (refEmpty_any W _ (by omega)).mono ?_
          rintro e w9 ⟨g9, rfl, hg9, hr9, hb9⟩
          rw [len_emp]
          have hb9a := (Below.refl w9.heap.size w9).alloc (Nat.le_refl _) (.cells #[.int .i64 W, .slice (some ⟨g9, 0, none⟩) (Bs.nw W) (Bs.nw W)] 50)
          have HSw := hid (HS.out.below hb9)
          have Hdw := hid (Hd.out.below hb9)
          have HS9 := hid (HSw.out.below hb9a)
          have Hz9 := hid (HS9.out.set (hr9.below hb9a hr9.lt) (Bs.fit_emp W))
          have Hbb9 := hid (Fb.new w9 #[.int .i64 W, .slice (some ⟨g9, 0, none⟩) (Bs.nw W) (Bs.nw W)] 50)
          have Hg9 := hid (grown_of_below hb9a (some T))
          have HbbB := hid (show B.ownBlock ≠ some w9.heap.size from fun e => by
            have := (HSw.out.oB.lt _ e).2
            omega)
          have hbbw : w9.heap.size ≤ w9.heap.size := Nat.le_refl _
          have hTbb : T < w9.heap.size := HSw.out.tp.lt
          clear hr9 hb9 hb9a b0 b1 b2 b3 HS Hd hg9
          go_upto_region 12 with fail
          generalize hbq : w9.heap.size = bb at HbbB Hbb9 hTbb ⊢
          clear hbbw
          have Hbq := hid (show w9.heap.size ≤ bb by omega)
          clear hbq
          generalize w9.alloc (.cells #[.int .i64 W, .slice (some ⟨g9, 0, none⟩) (Bs.nw W) (Bs.nw W)] 50) = w10 at *
          go_wp2_with fail
          refine (next_any T 3 _ HS9.out.tp (by omega)).mono ?_
          rintro e w11 ⟨r, rfl, hr0, hr1, ht11, hg11, -⟩
          have HS11 := hid (HS9.out.step ht11 hg11)
          have Hz11 := hid (HS9.out.zset Hz9.out ht11 hg11)
          have Hg11 := hid (grown_trans Hg9.out hg11)
          have Hbb11 := hid (Hbb9.out.grown hg11 fun e => (Hbb9.out.typ.ne HS9.out.tp.typ (by decide)) (Option.some.inj e))
          clear ht11 hg11 HS9 Hz9 hr1 Hg9 Hbb9
          go_upto_if 39 with fail
          go_cut [] (fun wd => ∃ b : ZH, Hid (Fb wd bb b.cs.toArray 50) ∧ Hid (ZHok wd (exS T w.heap.size bS D B Tr) b) ∧ Hid (gB W b) ∧ Hid (RHok wd (exS T w.heap.size bS D B Tr) d) ∧ Hid (Sg w T bS W N D B Tr lD lB lT wd))
          case first =>
            by_cases h1 : r = 1
            · have t : (r == 1) = true := by simp [h1]
              clear h1
              obtain ⟨b0, b1, b2, b3⟩ := HS11.out.bx.four
              go_wp2_with fail
              refine (set3_any T W _ HS11.out.tp (by omega)).mono ?_
              rintro e w12 ⟨g12, ws, rfl, hf12, hr12, -, ht12, hg12⟩
              have Hg12 := hid (grown_trans Hg11.out hg12)
              have Ht12 := hid ht12
              have Hr12 := hid hr12
              have Hbb12 := hid (Hbb11.out.grown hg12 fun e => (Hbb11.out.typ.ne HS11.out.tp.typ (by decide)) (Option.some.inj e))
              have Hf12 := hid hf12
              clear hr12 ht12 hg12 hf12 HS11 b0 b1 b2 b3
              obtain ⟨x0, x1⟩ := (show Fb w12 bb #[.int .i64 W, .slice (some ⟨g9, 0, none⟩) (Bs.nw W) (Bs.nw W)] 50 from Hbb12.out).two
              have f0 := Hbb12.out.frozen 0
              have f1 := Hbb12.out.frozen 1
              have fl := Hbb12.out.lt
              go_wp2_with fail
              go_meet
              have hne : g12 ≠ bb := Hr12.out.typ.ne Hbb12.out.typ (by decide)
              have hgf := grown_set_new (grown_set_new Hg12.out (p := ⟨bb, 0, none⟩) Hbq.out (.int .i64 W)) (p := ⟨bb, 1, none⟩) Hbq.out (.slice (some ⟨g12, 0, none⟩) (Bs.nw W) (Bs.nw W))
              have htf := (Ht12.out.far (p := ⟨bb, 0, none⟩) hTbb (.int .i64 W)).far (p := ⟨bb, 1, none⟩) hTbb (.slice (some ⟨g12, 0, none⟩) (Bs.nw W) (Bs.nw W))
              have hSf := HSw.out.step htf hgf
              have hrf := (Hr12.out.far (p := ⟨bb, 0, none⟩) hne (.int .i64 W)).far (p := ⟨bb, 1, none⟩) hne (.slice (some ⟨g12, 0, none⟩) (Bs.nw W) (Bs.nw W))
              exact ⟨⟨W, some ⟨g12, 0, none⟩, Bs.nw W, Bs.nw W, ws⟩, hid ((Hbb12.out.set 0 _).set 1 _), hid (hSf.set hrf Hf12.out), hid ⟨rfl, Hf12.out⟩, hid (HSw.out.drow Hdw.out htf hgf), hid hSf⟩
            · have t : (r == 1) = false := by simp [h1]
              clear h1
              go_wp2_with fail
              go_meet
              exact ⟨⟨W, some ⟨g9, 0, none⟩, Bs.nw W, Bs.nw W, Bs.emp W⟩, Hbb11, Hz11, hid ⟨rfl, Bs.fit_emp W⟩, hid (HSw.out.drow Hdw.out HS11.out.tp Hg11.out), HS11⟩
          case rest =>
            obtain ⟨b, Hbb, Hz, Hgb, Hd, HS⟩ := hcut
            clear HS11 Hz11 Hbb11 HSw Hdw Hg11 Hbq hTbb
            go_upto_region 14 with fail
            generalize wc = w1 at *
            have HL := hid (And.intro hlD (And.intro hlB hlT))
            have hl1 : lD.length < N := by omega
            have hl2 : lB.length < N := by omega
            have hl3 : lT.length < N := by omega
            clear hlD hlB hlT
            refine wp_region_factsG (sgG bS D B Tr lD lB lT) (sgF w1 T bS W D B Tr lD lB lT d b) (SgB w w1 T bS W D B Tr bb b) sgU (fun j u u' => Stp1 (tyO j) u u') Kx (fun _ _ h => h) 24 19 [some 44, some 45, some 46, some 47, some 48, some 49, some 50, some 51, some 52, some 53, some 54, some 55, some 56, some 57, some 58, some 59, some 60, some 61, some 62, none, some 63, none, some 64, none] (by kernel_rfl) (by kernel_rfl) (by kernel_rfl) (by kernel_rfl) (by kernel_rfl) (by kernel_rfl) (by decide)
              sgF_st ?bs ?gs sgG_st ?ar ?en
            case bs => exact (HS.out.sgB Hbb.out).below (Below.refl _ _).drew
            case gs => exact (HS.out.below (Below.refl _ _).drew).sgG
            case ar =>
              intro j o f u ho hi hB hGi hpre K hK
              match j, ho, hpre, hK with
              | 0, ho, hpre, hK =>
                obtain rfl := Option.some.inj ho
                refine wpOp_step rfl fun K' hK' => ?_
                simp only [putL, updV]
                go_simp
                have hz := hK' _ _ (hK (.pointer (some ⟨bS, 1, none⟩)) (u) (hB) (Stp1.refl _ _) (rfl))
                refine Eq.mp (congrArg (fun a => K' a (u)) ?_) hz
                kernel_rfl
              | 1, ho, hpre, hK =>
                obtain rfl := Option.some.inj ho
                obtain ⟨c0, c1, c2, c3⟩ := hB.bx.four
                have hlt := hB.bx.lt
                have e0 : f 0 = .pointer (some ⟨bS, 1, none⟩) := hpre ⟨0, .data⟩ (by simp) rfl (.inl rfl)
                obtain ⟨f, rfl⟩ := fixG f 0 _ e0
                clear e0
                refine wpOp_step rfl fun K' hK' => ?_
                simp only [putL, updV]
                go_simp
                have hz := hK' _ _ (hK (D) (u) (hB) (Stp1.refl _ _) (rfl))
                refine Eq.mp (congrArg (fun a => K' a (u)) ?_) hz
                kernel_rfl
              | 2, ho, hpre, hK =>
                obtain rfl := Option.some.inj ho
                refine wpOp_step rfl fun K' hK' => ?_
                simp only [putL, updV]
                go_simp
                have hz := hK' _ _ (hK (.slice d.A d.n d.c) (u) (hB) (Stp1.refl _ _) (rfl))
                refine Eq.mp (congrArg (fun a => K' a (u)) ?_) hz
                kernel_rfl
              | 3, ho, hpre, hK =>
                obtain rfl := Option.some.inj ho
                have e2 : f 2 = .slice d.A d.n d.c := hpre ⟨2, .data⟩ (by simp) rfl (.inl rfl)
                obtain ⟨f, rfl⟩ := fixG f 2 _ e2
                clear e2
                have hbw := (Below.refl u.heap.size u).alloc (Nat.le_refl _) (.cells #[.slice d.A d.n d.c] 22)
                refine wpOp_step rfl fun K' hK' => ?_
                simp only [putL, updV]
                go_simp
                have hz := hK' _ _ (hK (.slice (some ⟨u.heap.size, 0, none⟩) 1 1) (u.alloc (.cells #[.slice d.A d.n d.c] 22)) (hB.below hbw) (Stp1.below hbw) (⟨_, rfl, Fb.new _ _ _⟩))
                refine Eq.mp (congrArg (fun a => K' a (u.alloc (.cells #[.slice d.A d.n d.c] 22))) ?_) hz
                kernel_rfl
              | 4, ho, hpre, hK =>
                obtain rfl := Option.some.inj ho
                have e1 : f 1 = D := hpre ⟨1, .data⟩ (by simp) rfl (.inl rfl)
                obtain ⟨g, e3, hf⟩ : ∃ g, f 3 = .slice (some ⟨g, 0, none⟩) 1 1 ∧ Fb u g (lhc d).toArray 22 := hpre ⟨3, .data⟩ (by simp) rfl (.inr rfl)
                have ho : u.ownsRow (bS + 1) 22 1 D lD.length (lD.flatMap lhc) := hGi
                have hbb : D.ownBlock ≠ some bb := (by rcases own_noteq ho hB.bb.typ (by decide) with h | h; (rw [h]; simp); exact h)
                have hsz := hB.bx.lt
                obtain ⟨f, rfl⟩ := fixG f 1 _ e1
                rw [updV_ne _ _ (by decide)] at e3
                obtain ⟨f, rfl⟩ := fixG f 3 _ e3
                clear e1 e3
                refine wpOp_step rfl fun K' hK' => ?_
                refine step_append_lies _ rfl (.tmp 45) (.tmp 47) 23 rfl (bS + 1) 22 iD _ 1 24 Try.underlying23 HD.out HD0.out HD1.out HD2.out rfl (by decide) D lD.length (lD.flatMap lhc) (by kernel_rfl) ho ⟨g, 0, none⟩ 1 1 (lhc d) (by kernel_rfl) rfl (fun j x hx => World.news_of_block hf j x hx) (one_lhc d) (by omega) (by unfold maxLen; omega) (by omega) (by omega) _ rfl ?_
                intro g9 q9 w9 hown hgr hat _
                have hB9 := hB.app HS.out (.inl rfl) ho hbb hgr
                have hR9 : Stp1 (tyO 4) u w9 := ⟨_, hgr, fun g e => own_typ ho e⟩
                have hn9 := hat.imp (fun e => e) (fun e => show w1.heap.size ≤ g9 by rw [e]; exact hB.gx.size)
                have hz := hK' _ _ (hK (.slice (some ⟨g9, 0, none⟩) (lD.length + 1) q9) (w9) (hB9) (hR9) (⟨g9, q9, rfl, hown, hn9⟩))
                refine Eq.mp (congrArg (fun a => K' a (w9)) ?_) hz
                kernel_rfl
              | 5, ho, hpre, hK =>
                obtain rfl := Option.some.inj ho
                refine wpOp_step rfl fun K' hK' => ?_
                simp only [putL, updV]
                go_simp
                have hz := hK' _ _ (hK (.pointer (some ⟨bS, 3, none⟩)) (u) (hB) (Stp1.refl _ _) (rfl))
                refine Eq.mp (congrArg (fun a => K' a (u)) ?_) hz
                kernel_rfl
              | 6, ho, hpre, hK =>
                obtain rfl := Option.some.inj ho
                obtain ⟨c0, c1, c2, c3⟩ := hB.bx.four
                have hlt := hB.bx.lt
                have e5 : f 5 = .pointer (some ⟨bS, 3, none⟩) := hpre ⟨5, .data⟩ (by simp) rfl (.inl rfl)
                obtain ⟨f, rfl⟩ := fixG f 5 _ e5
                clear e5
                refine wpOp_step rfl fun K' hK' => ?_
                simp only [putL, updV]
                go_simp
                have hz := hK' _ _ (hK (B) (u) (hB) (Stp1.refl _ _) (rfl))
                refine Eq.mp (congrArg (fun a => K' a (u)) ?_) hz
                kernel_rfl
              | 7, ho, hpre, hK =>
                obtain rfl := Option.some.inj ho
                obtain ⟨c0, c1⟩ := (show Fb u bb #[.int .i64 b.W, .slice b.A b.n b.c] _ from hB.bb).two
                refine wpOp_step rfl fun K' hK' => ?_
                simp only [putL, updV]
                go_simp
                have hz := hK' _ _ (hK (.agg #[.int .i64 b.W, .slice b.A b.n b.c]) (u) (hB) (Stp1.refl _ _) (rfl))
                refine Eq.mp (congrArg (fun a => K' a (u)) ?_) hz
                kernel_rfl
              | 8, ho, hpre, hK =>
                obtain rfl := Option.some.inj ho
                have e7 : f 7 = .agg #[.int .i64 b.W, .slice b.A b.n b.c] := hpre ⟨7, .data⟩ (by simp) rfl (.inl rfl)
                obtain ⟨f, rfl⟩ := fixG f 7 _ e7
                clear e7
                have hbw := (Below.refl u.heap.size u).alloc (Nat.le_refl _) (.cells #[.int .i64 b.W, .slice b.A b.n b.c] 50)
                refine wpOp_step rfl fun K' hK' => ?_
                simp only [putL, updV]
                go_simp
                have hz := hK' _ _ (hK (.slice (some ⟨u.heap.size, 0, none⟩) 1 1) (u.alloc (.cells #[.int .i64 b.W, .slice b.A b.n b.c] 50)) (hB.below hbw) (Stp1.below hbw) (⟨_, rfl, Fb.new _ _ _⟩))
                refine Eq.mp (congrArg (fun a => K' a (u.alloc (.cells #[.int .i64 b.W, .slice b.A b.n b.c] 50))) ?_) hz
                kernel_rfl
              | 9, ho, hpre, hK =>
                obtain rfl := Option.some.inj ho
                have e6 : f 6 = B := hpre ⟨6, .data⟩ (by simp) rfl (.inl rfl)
                obtain ⟨g, e8, hf⟩ : ∃ g, f 8 = .slice (some ⟨g, 0, none⟩) 1 1 ∧ Fb u g b.cs.toArray 50 := hpre ⟨8, .data⟩ (by simp) rfl (.inr rfl)
                have ho : u.ownsRow (bS + 1) 50 2 B lB.length (lB.flatMap ZH.cs) := hGi
                have hbb : B.ownBlock ≠ some bb := HbbB.out
                have hsz := hB.bx.lt
                obtain ⟨f, rfl⟩ := fixG f 6 _ e6
                rw [updV_ne _ _ (by decide)] at e8
                obtain ⟨f, rfl⟩ := fixG f 8 _ e8
                clear e6 e8
                refine wpOp_step rfl fun K' hK' => ?_
                refine step_append_lies _ rfl (.tmp 50) (.tmp 52) 25 rfl (bS + 1) 50 iB _ 2 32 Try.underlying25 HB.out HB0.out HB1.out HB2.out rfl (by decide) B lB.length (lB.flatMap ZH.cs) (by kernel_rfl) ho ⟨g, 0, none⟩ 1 1 (b.cs) (by kernel_rfl) rfl (fun j x hx => World.news_of_block hf j x hx) (one_zcs b) (by omega) (by unfold maxLen; omega) (by omega) (by omega) _ rfl ?_
                intro g9 q9 w9 hown hgr hat _
                have hB9 := hB.app HS.out (.inr (.inl rfl)) ho hbb hgr
                have hR9 : Stp1 (tyO 9) u w9 := ⟨_, hgr, fun g e => own_typ ho e⟩
                have hn9 := hat.imp (fun e => e) (fun e => show w1.heap.size ≤ g9 by rw [e]; exact hB.gx.size)
                have hz := hK' _ _ (hK (.slice (some ⟨g9, 0, none⟩) (lB.length + 1) q9) (w9) (hB9) (hR9) (⟨g9, q9, rfl, hown, hn9⟩))
                refine Eq.mp (congrArg (fun a => K' a (w9)) ?_) hz
                kernel_rfl
              | 10, ho, hpre, hK =>
                obtain rfl := Option.some.inj ho
                refine wpOp_step rfl fun K' hK' => ?_
                simp only [putL, updV]
                go_simp
                have hz := hK' _ _ (hK (.pointer (some ⟨bS, 2, none⟩)) (u) (hB) (Stp1.refl _ _) (rfl))
                refine Eq.mp (congrArg (fun a => K' a (u)) ?_) hz
                kernel_rfl
              | 11, ho, hpre, hK =>
                obtain rfl := Option.some.inj ho
                obtain ⟨c0, c1, c2, c3⟩ := hB.bx.four
                have hlt := hB.bx.lt
                have e10 : f 10 = .pointer (some ⟨bS, 2, none⟩) := hpre ⟨10, .data⟩ (by simp) rfl (.inl rfl)
                obtain ⟨f, rfl⟩ := fixG f 10 _ e10
                clear e10
                refine wpOp_step rfl fun K' hK' => ?_
                simp only [putL, updV]
                go_simp
                have hz := hK' _ _ (hK (Tr) (u) (hB) (Stp1.refl _ _) (rfl))
                refine Eq.mp (congrArg (fun a => K' a (u)) ?_) hz
                kernel_rfl
              | 12, ho, hpre, hK =>
                obtain rfl := Option.some.inj ho
                refine wpOp_step rfl fun K' hK' => ?_
                simp only [putL, updV]
                go_simp
                have hz := hK' _ _ (hK (.pointer (some ⟨T, 0, none⟩)) (u) (hB) (Stp1.refl _ _) (rfl))
                refine Eq.mp (congrArg (fun a => K' a (u)) ?_) hz
                kernel_rfl
              | 13, ho, hpre, hK =>
                obtain rfl := Option.some.inj ho
                refine wpOp_step rfl fun K' hK' => ?_
                simp only [putL, updV]
                go_simp
                have hz := hK' _ _ (hK (.pointer (some ⟨bS, 0, none⟩)) (u) (hB) (Stp1.refl _ _) (rfl))
                refine Eq.mp (congrArg (fun a => K' a (u)) ?_) hz
                kernel_rfl
              | 14, ho, hpre, hK =>
                obtain rfl := Option.some.inj ho
                obtain ⟨c0, c1, c2, c3⟩ := hB.bx.four
                have hlt := hB.bx.lt
                have e13 : f 13 = .pointer (some ⟨bS, 0, none⟩) := hpre ⟨13, .data⟩ (by simp) rfl (.inl rfl)
                obtain ⟨f, rfl⟩ := fixG f 13 _ e13
                clear e13
                refine wpOp_step rfl fun K' hK' => ?_
                simp only [putL, updV]
                go_simp
                have hz := hK' _ _ (hK (.int .i64 (W : Int)) (u) (hB) (Stp1.refl _ _) (rfl))
                refine Eq.mp (congrArg (fun a => K' a (u)) ?_) hz
                kernel_rfl
              | 15, ho, hpre, hK =>
                obtain rfl := Option.some.inj ho
                have e12 : f 12 = .pointer (some ⟨T, 0, none⟩) := hpre ⟨12, .data⟩ (by simp) rfl (.inl rfl)
                have e14 : f 14 = .int .i64 (W : Int) := hpre ⟨14, .data⟩ (by simp) rfl (.inl rfl)
                obtain ⟨f, rfl⟩ := fixG f 12 _ e12
                rw [updV_ne _ _ (by decide)] at e14
                obtain ⟨f, rfl⟩ := fixG f 14 _ e14
                clear e12 e14
                refine wpOp_step rfl fun K' hK' => ?_
                simp only [putL, updV]
                go_simp
                go_at_call 29
                refine (transfer3_any T W _ hB.tp (by omega)).mono ?_
                rintro e u5 ⟨g1, g2, b0, C, k, q, gs, ks, cs, rfl, ⟨r1, f1, n1⟩, ⟨r2, f2, n2⟩, ⟨o3, -, l3⟩, hv, h12, ht, hg⟩
                have hFt : Ft u5 W ⟨⟨W, some ⟨g1, 0, none⟩, Bs.nw W, Bs.nw W, gs⟩, ⟨W, some ⟨g2, 0, none⟩, Bs.nw W, Bs.nw W, ks⟩, C, k, q, cs⟩ := ⟨⟨g1, rfl, r1⟩, ⟨g2, rfl, r2⟩, ⟨b0, o3⟩, ⟨rfl, f1, rfl⟩, ⟨rfl, f2, rfl⟩, ⟨l3, by show k ≤ 12; omega⟩, hv⟩
                have hB5 := hB.tape HS.out ht hg
                have hR5 : Stp1 (tyO 15) u u5 := ⟨_, hg, fun g e => by obtain rfl := Option.some.inj e; exact hB.tp.typ⟩
                clear r1 f1 n1 r2 f2 n2 o3 l3 hv h12 ht hg
                have hz := hK' _ _ (hK (.agg #[.int .i64 W, .slice (some ⟨g1, 0, none⟩) (Bs.nw W) (Bs.nw W), .int .i64 W, .slice (some ⟨g2, 0, none⟩) (Bs.nw W) (Bs.nw W), .slice C k q]) (u5) (hB5) (hR5) (⟨_, rfl, hFt⟩))
                refine Eq.mp (congrArg (fun a => K' a (u5)) ?_) hz
                kernel_rfl
              | 16, ho, hpre, hK =>
                obtain rfl := Option.some.inj ho
                obtain ⟨F, e15, hF⟩ : ∃ F : FH, f 15 = F.a ∧ Ft u W F := hpre ⟨15, .data⟩ (by simp) rfl (.inl rfl)
                have e15 : f 15 = .agg #[.int .i64 F.G.W, .slice F.G.A F.G.n F.G.c, .int .i64 F.K.W, .slice F.K.A F.K.n F.K.c, .slice F.C F.k F.q] := e15
                obtain ⟨f, rfl⟩ := fixG f 15 _ e15
                clear e15
                have hbw := (Below.refl u.heap.size u).alloc (Nat.le_refl _) (.cells #[.int .i64 F.G.W, .slice F.G.A F.G.n F.G.c, .int .i64 F.K.W, .slice F.K.A F.K.n F.K.c, .slice F.C F.k F.q] 61)
                refine wpOp_step rfl fun K' hK' => ?_
                simp only [putL, updV]
                go_simp
                have hz := hK' _ _ (hK (.slice (some ⟨u.heap.size, 0, none⟩) 1 1) (u.alloc (.cells #[.int .i64 F.G.W, .slice F.G.A F.G.n F.G.c, .int .i64 F.K.W, .slice F.K.A F.K.n F.K.c, .slice F.C F.k F.q] 61)) (hB.below hbw) (Stp1.below hbw) (⟨F, _, rfl, Fb.new _ _ _, (Stp1.below (t := tyO 16) hbw).ft hF (tyO_u 16) (tyO_c 16)⟩))
                refine Eq.mp (congrArg (fun a => K' a (u.alloc (.cells #[.int .i64 F.G.W, .slice F.G.A F.G.n F.G.c, .int .i64 F.K.W, .slice F.K.A F.K.n F.K.c, .slice F.C F.k F.q] 61))) ?_) hz
                kernel_rfl
              | 17, ho, hpre, hK =>
                obtain rfl := Option.some.inj ho
                have e11 : f 11 = Tr := hpre ⟨11, .data⟩ (by simp) rfl (.inl rfl)
                obtain ⟨F, g, e16, hf, hF⟩ : ∃ (F : FH) (g : Nat), f 16 = .slice (some ⟨g, 0, none⟩) 1 1 ∧ Fb u g F.cells.toArray 61 ∧ Ft u W F := hpre ⟨16, .data⟩ (by simp) rfl (.inr rfl)
                have ho : u.ownsRow (bS + 1) 61 5 Tr lT.length (lT.flatMap FH.cells) := hGi
                have hbb : Tr.ownBlock ≠ some bb := (by rcases own_noteq ho hB.bb.typ (by decide) with h | h; (rw [h]; simp); exact h)
                have hsz := hB.bx.lt
                obtain ⟨f, rfl⟩ := fixG f 11 _ e11
                rw [updV_ne _ _ (by decide)] at e16
                obtain ⟨f, rfl⟩ := fixG f 16 _ e16
                clear e11 e16
                refine wpOp_step rfl fun K' hK' => ?_
                refine step_append_lies _ rfl (.tmp 55) (.tmp 60) 24 rfl (bS + 1) 61 iT _ 5 88 Try.underlying24 HT.out HT0.out HT1.out HT2.out rfl (by decide) Tr lT.length (lT.flatMap FH.cells) (by kernel_rfl) ho ⟨g, 0, none⟩ 1 1 (F.cells) (by kernel_rfl) rfl (fun j x hx => World.news_of_block hf j x hx) (one_fcells F) (by omega) (by unfold maxLen; omega) (by omega) (by omega) _ rfl ?_
                intro g9 q9 w9 hown hgr hat _
                have hB9 := hB.app HS.out (.inr (.inr rfl)) ho hbb hgr
                have hR9 : Stp1 (tyO 17) u w9 := ⟨_, hgr, fun g e => own_typ ho e⟩
                have hn9 := hat.imp (fun e => e) (fun e => show w1.heap.size ≤ g9 by rw [e]; exact hB.gx.size)
                have hz := hK' _ _ (hK (.slice (some ⟨g9, 0, none⟩) (lT.length + 1) q9) (w9) (hB9) (hR9) (⟨F, g9, q9, rfl, hown, hn9, hR9.ft hF (tyO_u 17) (tyO_c 17)⟩))
                refine Eq.mp (congrArg (fun a => K' a (w9)) ?_) hz
                kernel_rfl
              | 18, ho, hpre, hK =>
                obtain rfl := Option.some.inj ho
                refine wpOp_step rfl fun K' hK' => ?_
                simp only [putL, updV]
                go_simp
                have hz := hK' _ _ (hK (.pointer (some ⟨bS, 1, none⟩)) (u) (hB) (Stp1.refl _ _) (rfl))
                refine Eq.mp (congrArg (fun a => K' a (u)) ?_) hz
                kernel_rfl
              | j + 19, ho, hpre, hK => exact absurd hi (by omega)
            case en =>
              intro Q2 hQ2 f u hB hF
              obtain ⟨g1, q1, e4, o1, n1⟩ : ∃ g q, f 4 = .slice (some ⟨g, 0, none⟩) (lD.length + 1) q ∧ u.ownsRow (bS + 1) 22 1 (.slice (some ⟨g, 0, none⟩) (lD.length + 1) q) (lD.length + 1) (lD.flatMap lhc ++ lhc d) ∧ (D.ownBlock = some g ∨ w1.heap.size ≤ g) := hF 4 (by decide) rfl
              obtain ⟨g2, q2, e9, o2, n2⟩ : ∃ g q, f 9 = .slice (some ⟨g, 0, none⟩) (lB.length + 1) q ∧ u.ownsRow (bS + 1) 50 2 (.slice (some ⟨g, 0, none⟩) (lB.length + 1) q) (lB.length + 1) (lB.flatMap ZH.cs ++ b.cs) ∧ (B.ownBlock = some g ∨ w1.heap.size ≤ g) := hF 9 (by decide) rfl
              obtain ⟨F, g3, q3, e17, o3, n3, hFt⟩ : ∃ (F : FH) (g q : Nat), f 17 = .slice (some ⟨g, 0, none⟩) (lT.length + 1) q ∧ u.ownsRow (bS + 1) 61 5 (.slice (some ⟨g, 0, none⟩) (lT.length + 1) q) (lT.length + 1) (lT.flatMap FH.cells ++ F.cells) ∧ (Tr.ownBlock = some g ∨ w1.heap.size ≤ g) ∧ Ft u W F := hF 17 (by decide) rfl
              have e18 : f 18 = .pointer (some ⟨bS, 1, none⟩) := hF 18 (by decide) rfl
              have HSn := hid (hB.done HS.out Hd.out Hz.out Hgd.out Hgb.out o1 n1 o2 n2 o3 n3 hFt)
              clear hF o1 n1 o2 n2 o3 n3 hFt
              show wpAny _ _ _ _ 5 (tailArr 24 19) _ _
              refine wpAny_inv (TlI (.slice (some ⟨g1, 0, none⟩) (lD.length + 1) q1) (.slice (some ⟨g2, 0, none⟩) (lB.length + 1) q2) (.slice (some ⟨g3, 0, none⟩) (lT.length + 1) q3) bS u) [some 44, some 45, some 46, some 47, some 48, some 49, some 50, some 51, some 52, some 53, some 54, some 55, some 56, some 57, some 58, some 59, some 60, some 61, some 62, none, some 63, none, some 64, none] _ (by kernel_rfl) (by kernel_rfl) (by kernel_rfl) ?hs ?he 5 (tailArr 24 19) f u (by kernel_rfl) ⟨by decide, e4, e9, e17, fun _ => e18, fun h => absurd h (by decide), fun h => absurd h (by decide), fun h => absurd h (by decide), fun h => absurd h (by decide), fun _ => rfl, fun h => absurd h (by decide), fun h => absurd h (by decide), fun h => absurd h (by decide)⟩ (by kernel_rfl)
              case hs =>
                clear HSn
                intro j o L f u' ho hL hdep hI K hK
                match j, ho, hL, hdep, hK with
                | 0, ho, hL, hdep, hK => exact absurd (hI.pre 0 (by decide)) (by rw [hL]; decide)
                | 1, ho, hL, hdep, hK => exact absurd (hI.pre 1 (by decide)) (by rw [hL]; decide)
                | 2, ho, hL, hdep, hK => exact absurd (hI.pre 2 (by decide)) (by rw [hL]; decide)
                | 3, ho, hL, hdep, hK => exact absurd (hI.pre 3 (by decide)) (by rw [hL]; decide)
                | 4, ho, hL, hdep, hK => exact absurd (hI.pre 4 (by decide)) (by rw [hL]; decide)
                | 5, ho, hL, hdep, hK => exact absurd (hI.pre 5 (by decide)) (by rw [hL]; decide)
                | 6, ho, hL, hdep, hK => exact absurd (hI.pre 6 (by decide)) (by rw [hL]; decide)
                | 7, ho, hL, hdep, hK => exact absurd (hI.pre 7 (by decide)) (by rw [hL]; decide)
                | 8, ho, hL, hdep, hK => exact absurd (hI.pre 8 (by decide)) (by rw [hL]; decide)
                | 9, ho, hL, hdep, hK => exact absurd (hI.pre 9 (by decide)) (by rw [hL]; decide)
                | 10, ho, hL, hdep, hK => exact absurd (hI.pre 10 (by decide)) (by rw [hL]; decide)
                | 11, ho, hL, hdep, hK => exact absurd (hI.pre 11 (by decide)) (by rw [hL]; decide)
                | 12, ho, hL, hdep, hK => exact absurd (hI.pre 12 (by decide)) (by rw [hL]; decide)
                | 13, ho, hL, hdep, hK => exact absurd (hI.pre 13 (by decide)) (by rw [hL]; decide)
                | 14, ho, hL, hdep, hK => exact absurd (hI.pre 14 (by decide)) (by rw [hL]; decide)
                | 15, ho, hL, hdep, hK => exact absurd (hI.pre 15 (by decide)) (by rw [hL]; decide)
                | 16, ho, hL, hdep, hK => exact absurd (hI.pre 16 (by decide)) (by rw [hL]; decide)
                | 17, ho, hL, hdep, hK => exact absurd (hI.pre 17 (by decide)) (by rw [hL]; decide)
                | 18, ho, hL, hdep, hK => exact absurd (hI.pre 18 (by decide)) (by rw [hL]; decide)
                | 19, ho, hL, hdep, hK =>
                  obtain rfl := Option.some.inj ho
                  have e18 : f 18 = .pointer (some ⟨bS, 1, none⟩) := hI.a18 (hdep ⟨18, .data⟩ (by simp) rfl)
                  have e4 : f 4 = .slice (some ⟨g1, 0, none⟩) (lD.length + 1) q1 := hI.v4
                  obtain ⟨hu, hI9⟩ := hI.op19 hL undef
                  have hu := hu.symm
                  subst hu
                  obtain ⟨f, rfl⟩ := fixG f 18 _ e18
                  rw [updV_ne _ _ (by decide)] at e4
                  obtain ⟨f, rfl⟩ := fixG f 4 _ e4
                  clear e18 e4
                  have c9 := (hB.bx).cell 1
                  have f9 := (hB.bx).frozen 1
                  have l9 := (hB.bx).lt
                  simp only [Array.getElem?_setIfInBounds_ne, ne_eq, Nat.reduceEqDiff, not_false_eq_true, List.getElem?_toArray, List.getElem?_cons_succ, List.getElem?_cons_zero] at c9
                  refine wpOp_step rfl fun K' hK' => ?_
                  simp only [putL, updV]
                  go_simp
                  have hz := hK' _ _ (hK (undef) (u.setCell ⟨bS, 1, none⟩ (.slice (some ⟨g1, 0, none⟩) (lD.length + 1) q1)) (hI9))
                  refine Eq.mp (congrArg (fun a => K' a (u.setCell ⟨bS, 1, none⟩ (.slice (some ⟨g1, 0, none⟩) (lD.length + 1) q1))) ?_) hz
                  kernel_rfl
                | 20, ho, hL, hdep, hK =>
                  obtain rfl := Option.some.inj ho
                  refine wpOp_step rfl fun K' hK' => ?_
                  simp only [putL, updV]
                  go_simp
                  have hz := hK' _ _ (hK (.pointer (some ⟨bS, 3, none⟩)) (u') (hI.op20))
                  refine Eq.mp (congrArg (fun a => K' a (u')) ?_) hz
                  kernel_rfl
                | 21, ho, hL, hdep, hK =>
                  obtain rfl := Option.some.inj ho
                  have e20 : f 20 = .pointer (some ⟨bS, 3, none⟩) := hI.a20 (hdep ⟨20, .data⟩ (by simp) rfl)
                  have e9 : f 9 = .slice (some ⟨g2, 0, none⟩) (lB.length + 1) q2 := hI.v9
                  have l19 : L 19 = true := hdep ⟨19, .chain⟩ (by simp) rfl
                  obtain ⟨hu, hI9⟩ := hI.op21 hL l19 undef
                  have hu := hu.symm
                  subst hu
                  obtain ⟨f, rfl⟩ := fixG f 20 _ e20
                  rw [updV_ne _ _ (by decide)] at e9
                  obtain ⟨f, rfl⟩ := fixG f 9 _ e9
                  clear e20 e9
                  have c9 := (hB.bx.set 1 (.slice (some ⟨g1, 0, none⟩) (lD.length + 1) q1)).cell 3
                  have f9 := (hB.bx.set 1 (.slice (some ⟨g1, 0, none⟩) (lD.length + 1) q1)).frozen 3
                  have l9 := (hB.bx.set 1 (.slice (some ⟨g1, 0, none⟩) (lD.length + 1) q1)).lt
                  simp only [Array.getElem?_setIfInBounds_ne, ne_eq, Nat.reduceEqDiff, not_false_eq_true, List.getElem?_toArray, List.getElem?_cons_succ, List.getElem?_cons_zero] at c9
                  refine wpOp_step rfl fun K' hK' => ?_
                  simp only [putL, updV]
                  go_simp
                  have hz := hK' _ _ (hK (undef) (((u.setCell ⟨bS, 1, none⟩ (.slice (some ⟨g1, 0, none⟩) (lD.length + 1) q1))).setCell ⟨bS, 3, none⟩ (.slice (some ⟨g2, 0, none⟩) (lB.length + 1) q2)) (hI9))
                  refine Eq.mp (congrArg (fun a => K' a (((u.setCell ⟨bS, 1, none⟩ (.slice (some ⟨g1, 0, none⟩) (lD.length + 1) q1))).setCell ⟨bS, 3, none⟩ (.slice (some ⟨g2, 0, none⟩) (lB.length + 1) q2))) ?_) hz
                  kernel_rfl
                | 22, ho, hL, hdep, hK =>
                  obtain rfl := Option.some.inj ho
                  refine wpOp_step rfl fun K' hK' => ?_
                  simp only [putL, updV]
                  go_simp
                  have hz := hK' _ _ (hK (.pointer (some ⟨bS, 2, none⟩)) (u') (hI.op22))
                  refine Eq.mp (congrArg (fun a => K' a (u')) ?_) hz
                  kernel_rfl
                | 23, ho, hL, hdep, hK =>
                  obtain rfl := Option.some.inj ho
                  have e22 : f 22 = .pointer (some ⟨bS, 2, none⟩) := hI.a22 (hdep ⟨22, .data⟩ (by simp) rfl)
                  have e17 : f 17 = .slice (some ⟨g3, 0, none⟩) (lT.length + 1) q3 := hI.v17
                  have l21 : L 21 = true := hdep ⟨21, .chain⟩ (by simp) rfl
                  obtain ⟨hu, hI9⟩ := hI.op23 hL l21 undef
                  have hu := hu.symm
                  subst hu
                  obtain ⟨f, rfl⟩ := fixG f 22 _ e22
                  rw [updV_ne _ _ (by decide)] at e17
                  obtain ⟨f, rfl⟩ := fixG f 17 _ e17
                  clear e22 e17
                  have c9 := ((hB.bx.set 1 (.slice (some ⟨g1, 0, none⟩) (lD.length + 1) q1)).set 3 (.slice (some ⟨g2, 0, none⟩) (lB.length + 1) q2)).cell 2
                  have f9 := ((hB.bx.set 1 (.slice (some ⟨g1, 0, none⟩) (lD.length + 1) q1)).set 3 (.slice (some ⟨g2, 0, none⟩) (lB.length + 1) q2)).frozen 2
                  have l9 := ((hB.bx.set 1 (.slice (some ⟨g1, 0, none⟩) (lD.length + 1) q1)).set 3 (.slice (some ⟨g2, 0, none⟩) (lB.length + 1) q2)).lt
                  simp only [Array.getElem?_setIfInBounds_ne, ne_eq, Nat.reduceEqDiff, not_false_eq_true, List.getElem?_toArray, List.getElem?_cons_succ, List.getElem?_cons_zero] at c9
                  refine wpOp_step rfl fun K' hK' => ?_
                  simp only [putL, updV]
                  go_simp
                  have hz := hK' _ _ (hK (undef) ((((u.setCell ⟨bS, 1, none⟩ (.slice (some ⟨g1, 0, none⟩) (lD.length + 1) q1)).setCell ⟨bS, 3, none⟩ (.slice (some ⟨g2, 0, none⟩) (lB.length + 1) q2))).setCell ⟨bS, 2, none⟩ (.slice (some ⟨g3, 0, none⟩) (lT.length + 1) q3)) (hI9))
                  refine Eq.mp (congrArg (fun a => K' a ((((u.setCell ⟨bS, 1, none⟩ (.slice (some ⟨g1, 0, none⟩) (lD.length + 1) q1)).setCell ⟨bS, 3, none⟩ (.slice (some ⟨g2, 0, none⟩) (lB.length + 1) q2))).setCell ⟨bS, 2, none⟩ (.slice (some ⟨g3, 0, none⟩) (lT.length + 1) q3))) ?_) hz
                  kernel_rfl
                | j + 24, ho, hL, hdep, hK => exact absurd (Array.getElem?_eq_some_iff.1 ho).1 (by simp)
              case he =>
                intro L f u' hall hI
                have hu := hI.w3 (hall 23 (by decide))
                subst hu
                clear hI hall hB e4 e9 e17 e18
                refine hQ2 _ _ ?_
                simp only [putL]
                go_simp
                refine hKx _ _ ?_
                obtain ⟨hlD, hlB, hlT⟩ := HL.out
                subst hlD
                have HN := hid (show (lD ++ [d]).length = lD.length + 1 ∧ (lB ++ [b]).length = lD.length + 1 ∧ (lT ++ [F]).length = lD.length + 1 from ⟨by simp, by simp [hlB], by simp [hlT]⟩)
                clear hlB hlT
                go_wp2_with fail
                go_roundw
                case rel => exact ⟨lD.length + 1, _, _, _, lD ++ [d], lB ++ [b], lT ++ [F], by omega, by go_num, HN.out, HSn⟩
                case measure => simp [intOf]; omega
    · obtain rfl : i = N := by omega
      obtain ⟨b0, b1, b2, b3⟩ := HS0.out.bx.four
      obtain ⟨r0, r1, r2, r3⟩ := HS0.out.rx.four
      have f0 := HS0.out.rx.frozen 0
      have f1 := HS0.out.rx.frozen 1
      have f2 := HS0.out.rx.frozen 2
      have f3 := HS0.out.rx.frozen 3
      have hlr := HS0.out.rx.lt
      obtain ⟨A1, c1, e1⟩ := own_slice3 HS0.out.oD
      obtain ⟨A2, c2, e2⟩ := own_slice3 HS0.out.oB
      obtain ⟨A3, c3, e3⟩ := own_slice3 HS0.out.oT
      rw [hlD] at e1
      rw [hlB] at e2
      rw [hlT] at e3
      subst e1
      subst e2
      subst e3
      have Hfin := hid (HS0.out.fin hlD hlB hlT hW4 hN1 hNn hn)
      clear hlD hlB hlT
      go_wp2_with fail
      refine bodyPost_ret (v := .agg #[.int .i64 W, .slice A1 i c1, .slice A3 i c3, .slice A2 i c2]) (by simp [results, Try.results8, go_sem, b0, b1, b2, b3, r0, r1, r2, r3]) rfl ?_
      exact Hfin.out
end Go.Proofs.Ytopkmeceakjocaa

namespace Go.Proofs.Ytopkmeceakjocaa
set_option maxRecDepth 20000
set_option linter.unusedVariables false
open Go.ChangeShapes Go.WideShapes Go.ChangeAt Go.RowKit

theorem tot_le {m : Nat} : ∀ {S : List (List Int)}, (∀ l ∈ S, l.length ≤ m) → tot S ≤ S.length * m := by
  intro S
  induction S with
  | nil => intro _; simp [tot]
  | cons l S ih =>
    intro h
    have h1 := h l List.mem_cons_self
    have h2 := ih fun x hx => h x (List.mem_cons_of_mem _ hx)
    have e : tot (l :: S) = l.length + tot S := by simp [tot]
    rw [e, List.length_cons, Nat.succ_mul]
    omega
theorem GSy.ok {s : SY} {v N : Nat} {w : World} {ex : List (Option Nat)} (h : GSy s v N) (hs : SYok w ex s) (hN : N ≤ 100) : SOk s v N := by
  have := h.v4
  refine ⟨h.w, by omega, h.n1, by omega, h.dn, h.tn, h.bn, fun y hy => (h.d y hy).1, ?_, fun y hy => (h.t y hy).1, h.b⟩
  have h1 : ∀ l ∈ s.D.v, l.length ≤ 3 := fun l hl => by
    obtain ⟨y, hy, rfl⟩ := List.mem_map.1 hl
    rw [(hs.d.all y hy).len]
    exact (h.d y hy).2
  have h2 := tot_le h1
  rw [LH.vlen, hs.d.len, h.dn] at h2
  omega
end Go.Proofs.Ytopkmeceakjocaa

namespace Go.Proofs.Ytopkmeceakjocaa
set_option maxRecDepth 20000
set_option linter.unusedVariables false
set_option linter.unusedSimpArgs false
open Go.ChangeShapes Go.WideShapes Go.ChangeAt Go.RowKit

/-- The identity came back, its words in rows of the call's own. -/
def RetIde (w : World) (W : Nat) (e : Ending) (w' : World) : Prop :=
  ∃ (g1 g2 : Nat), e = .returned (.agg #[.int .i64 W, .slice (some ⟨g1, 0, none⟩) (Bs.nw W) (Bs.nw W), .int .i64 W, .slice (some ⟨g2, 0, none⟩) (Bs.nw W) (Bs.nw W), .slice none 0 0]) ∧ (w.heap.size ≤ g1 ∧ Row w' g1 (Bs.emp W)) ∧ (w.heap.size ≤ g2 ∧ Row w' g2 (Bs.emp W)) ∧ Below w.heap.size w w'
theorem refIdentity_any (W : Nat) (w : World) (hW : W ≤ 256) : Calls Try.prog 64 #[.int .i64 W] w (RetIde w W) := by
  have HR := hid (Fb.new w #[.int .i64 0, .slice none 0 0, .int .i64 0, .slice none 0 0, .slice none 0 0] 61)
  have HB := hid ((Below.refl w.heap.size w).alloc (Nat.le_refl _) (.cells #[.int .i64 0, .slice none 0 0, .int .i64 0, .slice none 0 0, .slice none 0 0] 61))
  go_enter Try.func64, Try.ntmps64
  go_wp2_with fail
  refine (refEmpty_any W _ (by omega)).mono ?_
  rintro e w1 ⟨g1, rfl, hg1, hr1, hb1⟩
  rw [len_emp]
  have HR1 := hid (HR.out.below hb1 HR.out.lt)
  have HB1 := hid (below_step HB.out hb1)
  have Hr1 := hid hr1
  have Hg1 := hid (show w.heap.size + 1 ≤ g1 by rw [World.size_alloc] at hg1; exact hg1)
  clear hg1 hr1 hb1 HR HB
  go_wp2_with fail
  refine (refEmpty_any W _ (by omega)).mono ?_
  rintro e w2 ⟨g2, rfl, hg2, hr2, hb2⟩
  rw [len_emp]
  have HR2 := hid (HR1.out.below hb2 HR1.out.lt)
  have HB2 := hid (below_step HB1.out hb2)
  have Hr12 := hid (Hr1.out.below hb2 Hr1.out.lt)
  have Hr2 := hid hr2
  have Hg2 := hid (show w.heap.size + 1 ≤ g2 by have := HR1.out.lt; omega)
  clear hg2 hr2 hb2 HR1 HB1 Hr1
  obtain ⟨r0, r1, r2, r3, r4⟩ := HR2.out.five
  have f0 := HR2.out.frozen 0
  have f1 := HR2.out.frozen 1
  have f2 := HR2.out.frozen 2
  have f3 := HR2.out.frozen 3
  have f4 := HR2.out.frozen 4
  have hl := HR2.out.lt
  have Hfin := hid (show RetIde w W (.returned (.agg #[.int .i64 W, .slice (some ⟨g1, 0, none⟩) (Bs.nw W) (Bs.nw W), .int .i64 W, .slice (some ⟨g2, 0, none⟩) (Bs.nw W) (Bs.nw W), .slice none 0 0]))
    (((((w2.setCell ⟨w.heap.size, 0, none⟩ (.int .i64 W)).setCell ⟨w.heap.size, 1, none⟩ (.slice (some ⟨g1, 0, none⟩) (Bs.nw W) (Bs.nw W))).setCell ⟨w.heap.size, 2, none⟩ (.int .i64 W)).setCell ⟨w.heap.size, 3, none⟩ (.slice (some ⟨g2, 0, none⟩) (Bs.nw W) (Bs.nw W))).setCell ⟨w.heap.size, 4, none⟩ (.slice none 0 0)) from by
    have h1 := Hg1.out
    have h2 := Hg2.out
    have n1 : g1 ≠ w.heap.size := by omega
    have n2 : g2 ≠ w.heap.size := by omega
    exact ⟨g1, g2, rfl, ⟨by omega, ((((Hr12.out.far n1 _).far n1 _).far n1 _).far n1 _).far n1 _⟩, ⟨by omega, ((((Hr2.out.far n2 _).far n2 _).far n2 _).far n2 _).far n2 _⟩, ((((HB2.out.setCell (by simp) _).setCell (by simp) _).setCell (by simp) _).setCell (by simp) _).setCell (by simp) _⟩)
  go_wp2_with fail
  refine bodyPost_ret (v := .agg #[.int .i64 W, .slice (some ⟨g1, 0, none⟩) (Bs.nw W) (Bs.nw W), .int .i64 W, .slice (some ⟨g2, 0, none⟩) (Bs.nw W) (Bs.nw W), .slice none 0 0]) (by simp [results, Try.results64, go_sem, r0, r1, r2, r3, r4]) rfl ?_
  exact Hfin.out
end Go.Proofs.Ytopkmeceakjocaa

namespace Go.Proofs.Ytopkmeceakjocaa
set_option linter.unusedVariables false
set_option linter.unusedSimpArgs false
section
variable {P : Program} {ops : Array Oper} {Q : Exit → Act → World → Prop}
theorem wpAny_factsI (G : Nat → World → Prop) (F : Nat → (Nat → Value) → World → Prop) (B : World → Prop) (use : Nat → Option Nat) (R : Nat → World → World → Prop) (m : Nat) (ds : List (Option Tmp)) (a0 : Act) (hds : ops.toList.map (·.dst) = ds) (hd : distB ds = true) (hb : backB ops = true) (ht : tailB2 ops m = true) (hm : m ≤ ops.size)
    (hst : ∀ j v w w' i f, R j w w' → i ≠ j → use i ≠ some j → (reachL ops 5 i).contains j = false → F i f w → F i (updV f j v) w')
    (hstG : ∀ j w w' c, R j w w' → c ≠ j → (reachL ops 5 j).contains c = false → G c w → G c w')
    (hstep : ∀ (i : Nat) (o : Oper) (f : Nat → Value) (w : World), ops[i]? = some o → i < m → B w → G i w → (∀ e ∈ o.after, Region.binds .any e = true → use e.on = none ∨ use e.on = some i → F e.on f w) → ∀ K : Act → World → Prop, (∀ v w', B w' → R i w w' → F i (updV f i v) w' → K ((putL ds f 0 a0).put o.dst v) w') → wpOp P ops Q i K (putL ds f 0 a0) w)
    (hend : ∀ (f : Nat → Value) (w : World), B w → (∀ i, i < m → use i = none → F i f w) → wpAny P .any ops Q (ops.size - m) (tailArr ops.size m) (putL ds f 0 a0) w) :
    ∀ (fuel : Nat) (listed : Array Bool) (f : Nat → Value) (w : World), listed.size = ops.size → (∀ i, m ≤ i → i < ops.size → listed.getD i true = false) → ClosedL ops listed → B w → (∀ c, listed.getD c false = false → G c w) → (∀ i, listed.getD i false = true → (∀ c, use i = some c → listed.getD c false = false) → F i f w) → listed.toList.count false = fuel →
      wpAny P .any ops Q fuel listed (putL ds f 0 a0) w := by
  intro fuel
  induction fuel with
  | zero =>
    intro listed f w hs htl hcl hB hGc hF hc
    have hall : ∀ i, i < m → listed.getD i false = true := by
      intro i hi
      have h1 : i < listed.size := by omega
      rw [getD_lt _ h1]
      cases hv : listed[i] with
      | true => rfl
      | false => exact absurd (List.count_pos_iff.2 (Array.mem_toList_iff.2 (hv ▸ Array.getElem_mem h1))) (by omega)
    have e : listed = tailArr ops.size m := by
      apply Array.ext
      · simp [tailArr]; omega
      · intro i h1 h2
        by_cases him : i < m
        · have := hall i him
          rw [getD_lt _ h1] at this
          rw [this]
          simp [tailArr, List.getElem_append, him]
        · have := htl i (by omega) (by omega)
          rw [getD_lt _ h1] at this
          rw [this]
          simp [tailArr, List.getElem_append, him]
    have hn : ops.size - m = 0 := by
      rw [e, tail_count] at hc
      exact hc
    have := hend f w hB fun i hi hu => hF i (hall i hi) (fun c hc => by rw [hu] at hc; cases hc)
    rw [hn] at this
    rw [e]; exact this
  | succ fuel ih =>
    intro listed f w hs htl hcl hB hGc hF hc
    by_cases hall : ∀ i, i < m → listed.getD i false = true
    · have e : listed = tailArr ops.size m := by
        apply Array.ext
        · simp [tailArr]; omega
        · intro i h1 h2
          by_cases him : i < m
          · have := hall i him
            rw [getD_lt _ h1] at this
            rw [this]
            simp [tailArr, List.getElem_append, him]
          · have := htl i (by omega) (by omega)
            rw [getD_lt _ h1] at this
            rw [this]
            simp [tailArr, List.getElem_append, him]
      have hn : ops.size - m = fuel + 1 := by
        rw [e, tail_count] at hc
        exact hc
      have := hend f w hB fun i hi hu => hF i (hall i hi) (fun c hc => by rw [hu] at hc; cases hc)
      rw [hn] at this
      rw [e]; exact this
    · have hun : ∃ i, i < m ∧ listed.getD i false = false := by
        refine Classical.byContradiction fun hno => hall fun i hi => ?_
        cases hv : listed.getD i false with
        | true => rfl
        | false => exact absurd ⟨i, hi, hv⟩ hno
      -- the first that has not come up may come up
      have hmin : ∀ n i, i ≤ n → i < m → listed.getD i false = false → ∃ j, j < m ∧ listed.getD j false = false ∧ ∀ k, k < j → listed.getD k false = true := by
        intro n
        induction n with
        | zero => intro i hi him hv; exact ⟨i, him, hv, fun k hk => by omega⟩
        | succ n ihn =>
          intro i hi him hv
          by_cases hex : ∃ k, k < i ∧ listed.getD k false = false
          · obtain ⟨k, hk, hkv⟩ := hex
            exact ihn k (by omega) (by omega) hkv
          · refine ⟨i, him, hv, fun k hk => ?_⟩
            cases hkv : listed.getD k false with
            | true => rfl
            | false => exact absurd ⟨k, hk, hkv⟩ hex
      obtain ⟨i0, hi0, hv0⟩ := hun
      obtain ⟨j0, hj0, hj1, hj2⟩ := hmin i0 i0 (Nat.le_refl _) hi0 hv0
      have hgd : ∀ i, i < ops.size → listed.getD i true = listed.getD i false := by
        intro i hi
        rw [getD_lt true (show i < listed.size by omega), getD_lt false (show i < listed.size by omega)]
      obtain ⟨oj, hoj⟩ : ∃ o, ops[j0]? = some o := ⟨_, Array.getElem?_eq_getElem (by omega)⟩
      have hrj : j0 ∈ Region.ready .any ops listed := mem_ready.2 ⟨by rw [hgd j0 (by omega)]; exact hj1, oj, hoj, fun e he hbe => hj2 _ (backB_spec hb hoj e he hbe)⟩
      refine ⟨fun h => (by rw [h] at hrj; cases hrj), fun i hi => ?_⟩
      obtain ⟨hiu, o, ho, hafter⟩ := mem_ready.1 hi
      have hin : i < ops.size := (Array.getElem?_eq_some_iff.1 ho).1
      have him : i < m := by
        rcases Nat.lt_or_ge i m with h | h
        · exact h
        · exfalso
          have := tailB2_spec ht ho h hcl hafter j0 hj0
          rw [hj1] at this
          cases this
      have hil : listed.getD i false = false := by rw [← hgd i hin]; exact hiu
      refine hstep i o f w ho him hB (hGc i hil) (fun e he hbe hu => hF e.on (hafter e he hbe) (fun c hc => by
        rcases hu with hu | hu
        · rw [hu] at hc; cases hc
        · rw [hu] at hc; obtain rfl := Option.some.inj hc; rw [← hgd i hin]; exact hiu)) _ fun v w' hB' hR hFi => ?_
      have hdi : ds[i]? = some o.dst := by
        rw [← hds, List.getElem?_map, Array.getElem?_toList, ho]; rfl
      rw [putL_at hd hdi]
      have hlf : listed.toList[i]? = some false := by
        rw [Array.getElem?_toList, Array.getElem?_eq_getElem (by omega)]
        rw [getD_lt _ (by omega)] at hiu
        exact congrArg some hiu
      refine ih _ _ _ (by simp [hs]) (fun k hk hk2 => ?_) (fun k ok hok hk e he hbe => ?_) hB' (fun k hk => ?_) (fun k hk hku => ?_) ?_
      · have hk3 : k < (listed.setIfInBounds i true).size := by rw [Array.size_setIfInBounds]; omega
        rw [getD_lt _ hk3, Array.getElem_setIfInBounds, if_neg (by omega)]
        have := htl k hk hk2
        rw [getD_lt _ (by omega)] at this
        exact this
      · have hdep : listed.getD e.on false = true := by
          by_cases hki : k = i
          · subst hki
            rw [ho] at hok
            obtain rfl := Option.some.inj hok
            exact hafter e he hbe
          · rw [getD_set_ne false (fun h => hki h.symm)] at hk
            exact hcl k ok hok hk e he hbe
        by_cases hei : e.on = i
        · rw [hei, getD_lt _ (by rw [Array.size_setIfInBounds]; omega), Array.getElem_setIfInBounds_self]
        · rw [getD_set_ne false (fun h => hei h.symm)]; exact hdep
      · by_cases e : k = i
        · subst e
          rw [getD_lt _ (by rw [Array.size_setIfInBounds]; omega), Array.getElem_setIfInBounds_self] at hk
          cases hk
        · rw [getD_set_ne false (by omega)] at hk
          refine hstG i w w' k hR e ?_ (hGc k hk)
          cases hc : (reachL ops 5 i).contains k with
          | false => rfl
          | true =>
            have h1 := reach_listed hcl 5 i (fun x hx => by
              unfold depsOf at hx
              rw [ho] at hx
              obtain ⟨e, he, rfl⟩ := List.mem_map.1 hx
              obtain ⟨he1, he2⟩ := List.mem_filter.1 he
              exact hafter e (Array.mem_toList_iff.1 he1) he2) k (List.contains_iff_mem.1 hc)
            rw [hk] at h1
            cases h1
      · by_cases e : k = i
        · subst e; exact hFi
        · have hki : use k ≠ some i := fun h => by
            have := hku i h
            rw [getD_lt _ (by rw [Array.size_setIfInBounds]; omega), Array.getElem_setIfInBounds_self] at this
            cases this
          rw [getD_set_ne false (by omega)] at hk
          refine hst i v w w' k f hR e hki ?_ (hF k hk fun c hc => ?_)
          · cases hc : (reachL ops 5 k).contains i with
            | false => rfl
            | true =>
              have h1 := reach_listed hcl 5 k (fun x hx => by
                unfold depsOf at hx
                split at hx
                · next ok hok =>
                  obtain ⟨e, he, rfl⟩ := List.mem_map.1 hx
                  obtain ⟨he1, he2⟩ := List.mem_filter.1 he
                  exact hcl k ok hok hk e (Array.mem_toList_iff.1 he1) he2
                · cases hx) i (List.contains_iff_mem.1 hc)
              rw [hil] at h1
              cases h1
          · have := hku c hc
            rw [getD_set_ne false (by intro h; exact hki (h ▸ hc))] at this
            exact this
      · have := count_set listed.toList i hlf
        rw [Array.toList_setIfInBounds]
        omega
/-- The rule. -/
theorem wp_region_factsI {id : Nat} {a0 : Act} {w : World} (G : Nat → World → Prop) (F : Nat → (Nat → Value) → World → Prop) (B : World → Prop) (use : Nat → Option Nat) (R : Nat → World → World → Prop) (K0 : Act → World → Prop) (hK0 : ∀ a w, K0 a w → Q .normal a w) (n m : Nat) (ds : List (Option Tmp)) (hn : ops.size = n) (hmix : P.follows .mixedOrders = true) (hds : ops.toList.map (·.dst) = ds) (hd : distB ds = true) (hb : backB ops = true) (ht : tailB2 ops m = true) (hm : m ≤ n)
    (hst : ∀ j v w w' i f, R j w w' → i ≠ j → use i ≠ some j → (reachL ops 5 i).contains j = false → F i f w → F i (updV f j v) w') (hB : B w.drew) (hG : ∀ c, G c w.drew) (hstG : ∀ j w w' c, R j w w' → c ≠ j → (reachL ops 5 j).contains c = false → G c w → G c w')
    (hstep : ∀ (i : Nat) (o : Oper) (f : Nat → Value) (w : World), ops[i]? = some o → i < m → B w → G i w → (∀ e ∈ o.after, Region.binds .any e = true → use e.on = none ∨ use e.on = some i → F e.on f w) → ∀ K : Act → World → Prop, (∀ v w', B w' → R i w w' → F i (updV f i v) w' → K ((putL ds f 0 a0).put o.dst v) w') → wpOp P ops Q i K (putL ds f 0 a0) w)
    (hend : ∀ (Q2 : Exit → Act → World → Prop), (∀ a w, K0 a w → Q2 .normal a w) → ∀ (f : Nat → Value) (w : World), B w → (∀ i, i < m → use i = none → F i f w) → wpAny P .any ops Q2 (n - m) (tailArr n m) (putL ds f 0 a0) w) :
    (Code.region id ops true).wp P Q a0 w := by
  subst hn
  refine wp_region_any hmix ?_
  have := wpAny_factsI G F B use R m ds a0 hds hd hb ht hm hst hstG hstep (hend Q hK0) ops.size (Array.replicate ops.size false) (fun j => slotV a0 ((ds[j - 0]?).getD none)) w.drew (by simp)
    (fun i _ hi => by simp [Array.getD, hi]) (fun k _ _ hk => by simp [Array.getD] at hk) hB (fun c _ => hG c) (fun i hi _ => by simp [Array.getD] at hi) (by simp)
  rw [putL_self] at this
  exact this
end
end Go.Proofs.Ytopkmeceakjocaa
