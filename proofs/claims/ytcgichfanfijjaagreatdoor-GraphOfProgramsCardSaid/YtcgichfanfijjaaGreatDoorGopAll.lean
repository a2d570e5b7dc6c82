/- For every list of choices: the graph of a program made of them is built without an error and valid, has at most as many edges as the sizes of the program say, and each of its nodes leads on to another unless it is an exit, and the sanity check holds: GraphOfPrograms returns true and leaves its argument as it was. The rows' list ties the table of shapes of the program's syntax. -/
import Derived.Test.YtcgichfanfijjaaGreatDoorGopAlla
import Derived.Deep.RegionLaw
import Derived.Deep.DrawnRows
import Derived.Test.YtcgichfanfijjaaGreatDoorDp1
import Derived.Laws.OwnMore
import Derived.Deep.DeepCutAuto
import Derived.Test.YtcgichfanfijjaaGreatDoorSnl
import Derived.Test.YtcgichfanfijjaaGreatDoorRsc
import Derived.StillTailTactics
import Derived.Deep.RegionHeld3
import Derived.Test.YtcgichfanfijjaaGreatDoorChp
import Derived.Test.YtcgichfanfijjaaGreatDoorPms
import Derived.Deep.QuietTactic
import Derived.BigQuiet
import Derived.Test.YtcgichfanfijjaaGreatDoorLns
import Derived.Test.YtcgichfanfijjaaGreatDoorVld
import Derived.Test.YtcgichfanfijjaaGreatDoorPg2
import Derived.Test.YtcgichfanfijjaaGreatDoorFnd
import Derived.Lib.SliceRun
import Derived.RegionTactic
import Derived.BigRegion
import Derived.Test.YtcgichfanfijjaaGreatDoorSup
import Derived.Lib.SmallJoins
import Derived.ShutString
import Derived.ChangeOld
import Derived.Test.YtcgichfanfijjaaGreatDoorTie
import Derived.Test.YtcgichfanfijjaaGreatDoorCards
import Derived.Deep.DeepHandedRow
import Derived.Deep.DeepWitnessRowRef
import Derived.LaidMore
import Derived.Lib.LaidTab
namespace Go.Proofs.YtcgichfanfijjaaGreatDoor
set_option maxRecDepth 20000
set_option linter.unusedVariables false
set_option linter.unusedSimpArgs false
open Go.ChangeShapes Go.WideShapes Go.ChangeAt Go.RowKit
attribute [local go_sem ↓] Go.wp_at_zero Go.wp_at_succ

theorem bad_word {r : Rs} (h : r.e ≠ 0) (k : ByteArray) : wordR k r = r := by
  unfold wordR isK failR
  simp [h]
theorem full_e {r : Rs} (h : r.e = 0) : (failR 7 r).e ≠ 0 := by
  unfold failR
  simp [h]
set_option maxHeartbeats 6400000 in
theorem refBlock_any (b : Nat) (A : Option Addr) (c : Nat) (L : List Tok) (σ : Rs) (w : World) (h : Rst w b A c L σ) (hs : Short L) :
    Calls Tryz.prog 104 #[.pointer (some ⟨b, 0, none⟩)] w (RetBk w b A c L (blockR σ)) := by
  have HS := hid hs
  have h0 : Hid (Bg KS w b A c L σ ⟨#[]⟩ (.slice none 0 0) [] ((w.alloc (.cells #[.string ⟨#[]⟩, .slice none 0 0] 68)).alloc (.cells #[.string ⟨#[]⟩, .slice none 0 0] 68))) := hid (Bg.start (K := KS) h)
  have HR : Hid (blockR σ = (⟨(nameR (wordR kwBlock σ)).1, (listR begR stmtR 32 (needR begR (endR (nameR (wordR kwBlock σ)).2))).1⟩, (listR begR stmtR 32 (needR begR (endR (nameR (wordR kwBlock σ)).2))).2)) := hid rfl
  clear h hs
  obtain ⟨i1, hi, hz0, hz1, hz2⟩ := info_parts info68
  have Hi := hid hi; have Hz0 := hid hz0; have Hz1 := hid hz1; have Hz2 := hid hz2
  clear hi hz0 hz1 hz2
  go_enter Tryz.func104, Tryz.ntmps104
  go_wp2_with fail
  refine (refWord_any b A c L σ kwBlock _ h0.out.st).mono ?_
  rintro e w1 ⟨rfl, h1⟩
  have H1 := hid (h0.out.call h1)
  clear h1 h0
  generalize wordR kwBlock σ = σ1 at *
  go_wp2_with fail
  refine (refName_any b A c L σ1 _ H1.out.st HS.out).mono ?_
  rintro e w2 ⟨rfl, h2⟩
  have H2 := hid (H1.out.call h2)
  have H16 := hid (H1.out.st.name16 HS.out)
  clear h2 H1
  generalize (nameR σ1).1 = y at *
  generalize (nameR σ1).2 = σ2 at *
  obtain ⟨⟨q0, q1⟩, ⟨r0, r1⟩, -, -, hz⟩ := H2.out.cells
  have H3 := hid (H2.out.name y)
  go_wp2_with fail
  generalize w2.setCell ⟨w.heap.size + 1, 0, none⟩ (.string y) = w3 at *
  clear q0 q1 r0 r1 hz H2
  refine (refEnd_any b A c L σ2 _ H3.out.st).mono ?_
  rintro e w4 ⟨rfl, h4⟩
  have H4 := hid (H3.out.call h4)
  clear h4 H3
  generalize endR σ2 = σ3 at *
  go_wp2_with fail
  refine (refBegins_any b A c L σ3 _ H4.out.st HS.out).mono ?_
  rintro e w5 ⟨rfl, hb5⟩
  have H5 := hid (H4.out.below hb5)
  clear hb5 H4
  cases hb0 : begR σ3 with
  | true =>
    have hneed : needR begR σ3 = σ3 := by unfold needR; rw [hb0]; rfl
    rw [hneed] at HR
    clear hneed hb0
    go_wp2_with fail
    go_loopw [] (fun wr => ∃ (l : List SH) (n : Nat) (σ4 : Rs) (v : Value), Hid (Bg KS w b A c L σ4 y v l wr) ∧ Hid (Lrel begR stmtR 32 σ3 (l.map SH.t) n σ4)) (fun wr => 32 + 1 - lenAt (w.heap.size + 1) wr)
    case atStart => exact ⟨[], 32, σ3, _, H5.out, Lrel.start⟩
    case round =>
      clear H5
      obtain ⟨l, n, σ4, v, H, HL⟩ := hrel
      obtain ⟨B, d, hv⟩ := own_any_slice H.out.own
      subst hv
      have hlen : l.length + n = 32 := by have := HL.out.1; simpa using this
      obtain ⟨⟨q0, q1⟩, ⟨r0, r1⟩, ⟨p0, p1⟩, ⟨s0, s1⟩, hz⟩ := H.out.cells
      have Hm := hid (lenAt_of q1)
      clear q0 r0 r1 p0 p1 s0 s1 q1 hz
      cases hb : begR σ4 with
      | false =>
        have HB := hid hb
        clear hb
        go_wp2_with fail
        refine (refBegins_any b A c L σ4 _ H.out.st HS.out).mono ?_
        rw [HB.out]
        rintro e w7 ⟨rfl, hb7⟩
        have H7 := hid (H.out.below hb7)
        clear hb7 H
        obtain ⟨⟨q0, q1⟩, ⟨r0, r1⟩, ⟨p0, p1⟩, ⟨s0, s1⟩, hz⟩ := H7.out.cells
        have hsz2 : w.heap.size < w7.heap.size := by omega
        go_wp2_with fail
        refine bodyPost_ret (v := agB ⟨y, B, l.length, d, l⟩) (by simp [results, Tryz.results104, go_sem, q0, q1, p0, p1, s0, s1, hz, hsz2, agB]) rfl ?_
        exact H7.out.doneB rfl (by omega) H16.out _ _ (by rw [HR.out, HL.out.stop HB.out])
      | true =>
        have HB := hid hb
        clear hb
        cases n with
        | zero =>
          have hl32 : l.length = 32 := by omega
          go_wp2_with fail
          refine (refBegins_any b A c L σ4 _ H.out.st HS.out).mono ?_
          rw [HB.out]
          rintro e w7 ⟨rfl, hb7⟩
          have H7 := hid (H.out.below hb7)
          clear hb7 H
          obtain ⟨⟨q0, q1⟩, ⟨r0, r1⟩, -, -, hz⟩ := H7.out.cells
          have tl : ((l.length : Int) == 32) = true := by simp; omega
          go_wp2_with fail
          clear q0 q1 r0 r1 hz
          refine (refFail_any b A c L σ4 7 _ H7.out.st).mono ?_
          rintro e w8 ⟨rfl, h8⟩
          have H8 := hid (H7.out.call h8)
          clear h8 H7
          obtain ⟨⟨q0, q1⟩, ⟨r0, r1⟩, ⟨p0, p1⟩, ⟨s0, s1⟩, hz⟩ := H8.out.cells
          have hsz2 : w.heap.size < w8.heap.size := by omega
          go_wp2_with fail
          refine bodyPost_ret (v := agB ⟨y, B, l.length, d, l⟩) (by simp [results, Tryz.results104, go_sem, q0, q1, p0, p1, s0, s1, hz, hsz2, agB, hl32]) rfl ?_
          exact H8.out.doneB rfl (by omega) H16.out _ _ (by rw [HR.out, HL.out.full HB.out])
        | succ n =>
          have hl32 : l.length < 32 := by omega
          have tl : ((l.length : Int) == 32) = false := by simp; omega
          go_wp2_with fail
          refine (refBegins_any b A c L σ4 _ H.out.st HS.out).mono ?_
          rw [HB.out]
          rintro e w7 ⟨rfl, hb7⟩
          have H7 := hid (H.out.below hb7)
          clear hb7 H
          obtain ⟨⟨q0, q1⟩, ⟨r0, r1⟩, -, -, hz⟩ := H7.out.cells
          go_wp2_with fail
          have H7d : Hid (Bg KS w b A c L σ4 y (.slice B l.length d) l w7.drew) := hid (H7.out.drewN 1)
          have HC := hid (fun w' (h' : Rst w' b A c L σ4) => refStmt_any b A c L σ4 w' h' HS.out HB.out)
          go_region_law (first
            | (go_simp
               go_at_call 135
               go_must (
               refine (HC.out _ H7d.out.st).mono ?_
               rintro e w8 ⟨x, he, hxt, hfx, h8⟩
               unfold agS at he
               subst he
               have H8 := hid (H7d.out.call h8)
               have Hx := hid (FrV.fresh (N := w.heap.size + 2) (v := .slice B l.length d) hfx (by have := H7d.out.size; omega) (fun k hk => (H7d.out.own.lt k hk).2))
               have Hxt := hid hxt
               obtain ⟨⟨q0, q1⟩, ⟨r0, r1⟩, -, -, hz⟩ := H8.out.cells
               clear hfx h8 hxt))
            | ((refine step_append_lies _ (by rfl) _ _ 66 (by rfl) (w.heap.size + 2) 70 i1 _ 4 72 Tryz.underlying66 Hi.out Hz0.out Hz1.out Hz2.out (by rfl) (by decide) (.slice B l.length d) l.length (l.flatMap shc) (by rfl) (by exact World.ownsRow.alloc H8.out.own _)
                  ⟨_, 0, none⟩ 1 1 (shc x) (by rfl) rfl (by exact four_new _ _ _ _ _ _) (one_shc x) (by decide) (by unfold maxLen; omega) (by omega) (by have := H8.out.size; rw [World.size_alloc]; omega) _ rfl ?_)
               intro g9 cap9 w9 hown9 hgr9 hat9 hlt9
               obtain ⟨⟨y0, y1, y2⟩, hT9⟩ := Bg.push (x := x) H8.out ((Below.refl _ _).alloc (Nat.le_refl _) _) (.inr Hx.out) hgr9 hown9 hat9
               have H9 := hid hT9
               clear hown9 hgr9 hat9 hlt9 hT9))
          all_goals
            clear q0 q1 r0 r1 hz
            generalize w9.setCell ⟨w.heap.size + 1, 1, none⟩ (.slice (some ⟨g9, 0, none⟩) (l.length + 1) cap9) = w10 at *
            clear y0 y1 y2
            go_wp2_with fail
            go_roundw
            case rel => exact ⟨l ++ [x], n, (stmtR σ4).2, _, H9.out, by have := HL.out.step HB.out; rw [List.map_append]; rw [← Hxt.out] at this; exact this⟩
            case measure =>
              obtain ⟨⟨q0, q1⟩, -⟩ := H9.out.cells
              rw [Hm.out, lenAt_of q1]
              omega
  | false =>
    have hneed : needR begR σ3 = failR 4 σ3 := by unfold needR; rw [hb0]; rfl
    rw [hneed] at HR
    clear hneed hb0
    go_wp2_with fail
    refine (refFail_any b A c L σ3 4 _ H5.out.st).mono ?_
    rintro e w6 ⟨rfl, h6⟩
    have H6 := hid (H5.out.call h6)
    clear h6 H5
    generalize failR 4 σ3 = σ3 at *
    go_wp2_with fail
    go_loopw [] (fun wr => ∃ (l : List SH) (n : Nat) (σ4 : Rs) (v : Value), Hid (Bg KS w b A c L σ4 y v l wr) ∧ Hid (Lrel begR stmtR 32 σ3 (l.map SH.t) n σ4)) (fun wr => 32 + 1 - lenAt (w.heap.size + 1) wr)
    case atStart => exact ⟨[], 32, σ3, _, H6.out, Lrel.start⟩
    case round =>
      clear H6
      obtain ⟨l, n, σ4, v, H, HL⟩ := hrel
      obtain ⟨B, d, hv⟩ := own_any_slice H.out.own
      subst hv
      have hlen : l.length + n = 32 := by have := HL.out.1; simpa using this
      obtain ⟨⟨q0, q1⟩, ⟨r0, r1⟩, ⟨p0, p1⟩, ⟨s0, s1⟩, hz⟩ := H.out.cells
      have Hm := hid (lenAt_of q1)
      clear q0 r0 r1 p0 p1 s0 s1 q1 hz
      cases hb : begR σ4 with
      | false =>
        have HB := hid hb
        clear hb
        go_wp2_with fail
        refine (refBegins_any b A c L σ4 _ H.out.st HS.out).mono ?_
        rw [HB.out]
        rintro e w7 ⟨rfl, hb7⟩
        have H7 := hid (H.out.below hb7)
        clear hb7 H
        obtain ⟨⟨q0, q1⟩, ⟨r0, r1⟩, ⟨p0, p1⟩, ⟨s0, s1⟩, hz⟩ := H7.out.cells
        have hsz2 : w.heap.size < w7.heap.size := by omega
        go_wp2_with fail
        refine bodyPost_ret (v := agB ⟨y, B, l.length, d, l⟩) (by simp [results, Tryz.results104, go_sem, q0, q1, p0, p1, s0, s1, hz, hsz2, agB]) rfl ?_
        exact H7.out.doneB rfl (by omega) H16.out _ _ (by rw [HR.out, HL.out.stop HB.out])
      | true =>
        have HB := hid hb
        clear hb
        cases n with
        | zero =>
          have hl32 : l.length = 32 := by omega
          go_wp2_with fail
          refine (refBegins_any b A c L σ4 _ H.out.st HS.out).mono ?_
          rw [HB.out]
          rintro e w7 ⟨rfl, hb7⟩
          have H7 := hid (H.out.below hb7)
          clear hb7 H
          obtain ⟨⟨q0, q1⟩, ⟨r0, r1⟩, -, -, hz⟩ := H7.out.cells
          have tl : ((l.length : Int) == 32) = true := by simp; omega
          go_wp2_with fail
          clear q0 q1 r0 r1 hz
          refine (refFail_any b A c L σ4 7 _ H7.out.st).mono ?_
          rintro e w8 ⟨rfl, h8⟩
          have H8 := hid (H7.out.call h8)
          clear h8 H7
          obtain ⟨⟨q0, q1⟩, ⟨r0, r1⟩, ⟨p0, p1⟩, ⟨s0, s1⟩, hz⟩ := H8.out.cells
          have hsz2 : w.heap.size < w8.heap.size := by omega
          go_wp2_with fail
          refine bodyPost_ret (v := agB ⟨y, B, l.length, d, l⟩) (by simp [results, Tryz.results104, go_sem, q0, q1, p0, p1, s0, s1, hz, hsz2, agB, hl32]) rfl ?_
          exact H8.out.doneB rfl (by omega) H16.out _ _ (by rw [HR.out, HL.out.full HB.out])
        | succ n =>
          have hl32 : l.length < 32 := by omega
          have tl : ((l.length : Int) == 32) = false := by simp; omega
          go_wp2_with fail
          refine (refBegins_any b A c L σ4 _ H.out.st HS.out).mono ?_
          rw [HB.out]
          rintro e w7 ⟨rfl, hb7⟩
          have H7 := hid (H.out.below hb7)
          clear hb7 H
          obtain ⟨⟨q0, q1⟩, ⟨r0, r1⟩, -, -, hz⟩ := H7.out.cells
          go_wp2_with fail
          have H7d : Hid (Bg KS w b A c L σ4 y (.slice B l.length d) l w7.drew) := hid (H7.out.drewN 1)
          have HC := hid (fun w' (h' : Rst w' b A c L σ4) => refStmt_any b A c L σ4 w' h' HS.out HB.out)
          go_region_law (first
            | (go_simp
               go_at_call 135
               go_must (
               refine (HC.out _ H7d.out.st).mono ?_
               rintro e w8 ⟨x, he, hxt, hfx, h8⟩
               unfold agS at he
               subst he
               have H8 := hid (H7d.out.call h8)
               have Hx := hid (FrV.fresh (N := w.heap.size + 2) (v := .slice B l.length d) hfx (by have := H7d.out.size; omega) (fun k hk => (H7d.out.own.lt k hk).2))
               have Hxt := hid hxt
               obtain ⟨⟨q0, q1⟩, ⟨r0, r1⟩, -, -, hz⟩ := H8.out.cells
               clear hfx h8 hxt))
            | ((refine step_append_lies _ (by rfl) _ _ 66 (by rfl) (w.heap.size + 2) 70 i1 _ 4 72 Tryz.underlying66 Hi.out Hz0.out Hz1.out Hz2.out (by rfl) (by decide) (.slice B l.length d) l.length (l.flatMap shc) (by rfl) (by exact World.ownsRow.alloc H8.out.own _)
                  ⟨_, 0, none⟩ 1 1 (shc x) (by rfl) rfl (by exact four_new _ _ _ _ _ _) (one_shc x) (by decide) (by unfold maxLen; omega) (by omega) (by have := H8.out.size; rw [World.size_alloc]; omega) _ rfl ?_)
               intro g9 cap9 w9 hown9 hgr9 hat9 hlt9
               obtain ⟨⟨y0, y1, y2⟩, hT9⟩ := Bg.push (x := x) H8.out ((Below.refl _ _).alloc (Nat.le_refl _) _) (.inr Hx.out) hgr9 hown9 hat9
               have H9 := hid hT9
               clear hown9 hgr9 hat9 hlt9 hT9))
          all_goals
            clear q0 q1 r0 r1 hz
            generalize w9.setCell ⟨w.heap.size + 1, 1, none⟩ (.slice (some ⟨g9, 0, none⟩) (l.length + 1) cap9) = w10 at *
            clear y0 y1 y2
            go_wp2_with fail
            go_roundw
            case rel => exact ⟨l ++ [x], n, (stmtR σ4).2, _, H9.out, by have := HL.out.step HB.out; rw [List.map_append]; rw [← Hxt.out] at this; exact this⟩
            case measure =>
              obtain ⟨⟨q0, q1⟩, -⟩ := H9.out.cells
              rw [Hm.out, lenAt_of q1]
              omega
set_option maxHeartbeats 6400000 in
theorem refFunc_any (b : Nat) (A : Option Addr) (c : Nat) (L : List Tok) (σ : Rs) (w : World) (h : Rst w b A c L σ) (hs : Short L) :
    Calls Tryz.prog 71 #[.pointer (some ⟨b, 0, none⟩)] w (RetFn w b A c L (funcR σ)) := by
  have HS := hid hs
  have h0 : Hid (Bg KB w b A c L σ ⟨#[]⟩ (.slice none 0 0) [] ((w.alloc (.cells #[.string ⟨#[]⟩, .slice none 0 0] 65)).alloc (.cells #[.string ⟨#[]⟩, .slice none 0 0] 65))) := hid (Bg.start (K := KB) h)
  have HR : Hid (funcR σ = (⟨(nameR (wordR kwFunc σ)).1, (listR (isK kwBlock) blockR 16 (needR (isK kwBlock) (endR (nameR (wordR kwFunc σ)).2))).1⟩, endR (wordR kwEnd (listR (isK kwBlock) blockR 16 (needR (isK kwBlock) (endR (nameR (wordR kwFunc σ)).2))).2))) := hid rfl
  clear h hs
  obtain ⟨i1, hi, hz0, hz1, hz2⟩ := info_parts info66
  have Hi := hid hi; have Hz0 := hid hz0; have Hz1 := hid hz1; have Hz2 := hid hz2
  clear hi hz0 hz1 hz2
  go_enter Tryz.func71, Tryz.ntmps71
  go_wp2_with fail
  refine (refWord_any b A c L σ kwFunc _ h0.out.st).mono ?_
  rintro e w1 ⟨rfl, h1⟩
  have H1 := hid (h0.out.call h1)
  clear h1 h0
  generalize wordR kwFunc σ = σ1 at *
  go_wp2_with fail
  refine (refName_any b A c L σ1 _ H1.out.st HS.out).mono ?_
  rintro e w2 ⟨rfl, h2⟩
  have H2 := hid (H1.out.call h2)
  have H16 := hid (H1.out.st.name16 HS.out)
  clear h2 H1
  generalize (nameR σ1).1 = y at *
  generalize (nameR σ1).2 = σ2 at *
  obtain ⟨⟨q0, q1⟩, ⟨r0, r1⟩, -, -, hz⟩ := H2.out.cells
  have H3 := hid (H2.out.name y)
  go_wp2_with fail
  generalize w2.setCell ⟨w.heap.size + 1, 0, none⟩ (.string y) = w3 at *
  clear q0 q1 r0 r1 hz H2
  refine (refEnd_any b A c L σ2 _ H3.out.st).mono ?_
  rintro e w4 ⟨rfl, h4⟩
  have H4 := hid (H3.out.call h4)
  clear h4 H3
  generalize endR σ2 = σ3 at *
  go_wp2_with fail
  refine (refIs_any b A c L σ3 kwBlock _ H4.out.st).mono ?_
  rintro e w5 ⟨rfl, hb5⟩
  have H5 := hid (H4.out.below hb5)
  clear hb5 H4
  cases hb0 : isK kwBlock σ3 with
  | true =>
    have hneed : needR (isK kwBlock) σ3 = σ3 := by unfold needR; rw [hb0]; rfl
    rw [hneed] at HR
    clear hneed hb0
    go_wp2_with fail
    go_loopw [] (fun wr => ∃ (l : List BH) (n : Nat) (σ4 : Rs) (v : Value), Hid (Bg KB w b A c L σ4 y v l wr) ∧ Hid (Lrel (isK kwBlock) blockR 16 σ3 (l.map BH.b) n σ4)) (fun wr => 16 + 1 - lenAt (w.heap.size + 1) wr)
    case atStart => exact ⟨[], 16, σ3, _, H5.out, Lrel.start⟩
    case round =>
      clear H5
      obtain ⟨l, n, σ4, v, H, HL⟩ := hrel
      obtain ⟨B, d, hv⟩ := own_any_slice H.out.own
      subst hv
      have hlen : l.length + n = 16 := by have := HL.out.1; simpa using this
      obtain ⟨⟨q0, q1⟩, ⟨r0, r1⟩, ⟨p0, p1⟩, ⟨s0, s1⟩, hz⟩ := H.out.cells
      have Hm := hid (lenAt_of q1)
      clear q0 r0 r1 p0 p1 s0 s1 q1 hz
      cases hb : isK kwBlock σ4 with
      | false =>
        have HB := hid hb
        clear hb
        go_wp2_with fail
        refine (refIs_any b A c L σ4 kwBlock _ H.out.st).mono ?_
        rw [HB.out]
        rintro e w7 ⟨rfl, hb7⟩
        have H7 := hid (H.out.below hb7)
        clear hb7 H
        go_wp2_with fail
        refine (refWord_any b A c L σ4 kwEnd _ H7.out.st).mono ?_
        rintro e w8 ⟨rfl, h8⟩
        have H8 := hid (H7.out.call h8)
        clear h8 H7
        go_wp2_with fail
        refine (refEnd_any b A c L _ _ H8.out.st).mono ?_
        rintro e w9 ⟨rfl, h9⟩
        have H9 := hid (H8.out.call h9)
        clear h9 H8
        obtain ⟨⟨q0, q1⟩, ⟨r0, r1⟩, ⟨p0, p1⟩, ⟨s0, s1⟩, hz⟩ := H9.out.cells
        have hsz2 : w.heap.size < w9.heap.size := by omega
        go_wp2_with fail
        refine bodyPost_ret (v := agF ⟨y, B, l.length, d, l⟩) (by simp [results, Tryz.results71, go_sem, q0, q1, p0, p1, s0, s1, hz, hsz2, agF]) rfl ?_
        exact H9.out.doneF rfl (by omega) H16.out _ _ (by rw [HR.out, HL.out.stop HB.out])
      | true =>
        have HB := hid hb
        clear hb
        cases n with
        | zero =>
          have hl32 : l.length = 16 := by omega
          go_wp2_with fail
          refine (refIs_any b A c L σ4 kwBlock _ H.out.st).mono ?_
          rw [HB.out]
          rintro e w7 ⟨rfl, hb7⟩
          have H7 := hid (H.out.below hb7)
          clear hb7 H
          obtain ⟨⟨q0, q1⟩, ⟨r0, r1⟩, -, -, hz⟩ := H7.out.cells
          have tl : ((l.length : Int) == 16) = true := by simp; omega
          go_wp2_with fail
          clear q0 q1 r0 r1 hz
          refine (refFail_any b A c L σ4 7 _ H7.out.st).mono ?_
          rintro e w8 ⟨rfl, h8⟩
          have H8 := hid (H7.out.call h8)
          clear h8 H7
          obtain ⟨⟨q0, q1⟩, ⟨r0, r1⟩, ⟨p0, p1⟩, ⟨s0, s1⟩, hz⟩ := H8.out.cells
          have hsz2 : w.heap.size < w8.heap.size := by omega
          go_wp2_with fail
          refine bodyPost_ret (v := agF ⟨y, B, l.length, d, l⟩) (by simp [results, Tryz.results71, go_sem, q0, q1, p0, p1, s0, s1, hz, hsz2, agF, hl32]) rfl ?_
          exact H8.out.doneF rfl (by omega) H16.out _ _ (by rw [HR.out, HL.out.full HB.out, bad_word (full_e (isK_ne HB.out).1), bad_end (full_e (isK_ne HB.out).1)])
        | succ n =>
          have hl32 : l.length < 16 := by omega
          have tl : ((l.length : Int) == 16) = false := by simp; omega
          go_wp2_with fail
          refine (refIs_any b A c L σ4 kwBlock _ H.out.st).mono ?_
          rw [HB.out]
          rintro e w7 ⟨rfl, hb7⟩
          have H7 := hid (H.out.below hb7)
          clear hb7 H
          obtain ⟨⟨q0, q1⟩, ⟨r0, r1⟩, -, -, hz⟩ := H7.out.cells
          go_wp2_with fail
          have H7d : Hid (Bg KB w b A c L σ4 y (.slice B l.length d) l w7.drew) := hid (H7.out.drewN 1)
          have HC := hid (fun w' (h' : Rst w' b A c L σ4) => refBlock_any b A c L σ4 w' h' HS.out)
          go_region_law (first
            | (go_simp
               go_at_call 104
               go_must (
               refine (HC.out _ H7d.out.st).mono ?_
               rintro e w8 ⟨x, he, hxt, hfx, h8⟩
               unfold agB at he
               subst he
               have H8 := hid (H7d.out.call h8)
               have Hx := hid (FrV.fresh (N := w.heap.size + 2) (v := .slice B l.length d) hfx (by have := H7d.out.size; omega) (fun k hk => (H7d.out.own.lt k hk).2))
               have Hxt := hid hxt
               obtain ⟨⟨q0, q1⟩, ⟨r0, r1⟩, -, -, hz⟩ := H8.out.cells
               clear hfx h8 hxt))
            | ((refine step_append_lies _ (by rfl) _ _ 63 (by rfl) (w.heap.size + 2) 68 i1 _ 2 40 Tryz.underlying63 Hi.out Hz0.out Hz1.out Hz2.out (by rfl) (by decide) (.slice B l.length d) l.length (l.flatMap bhc) (by rfl) (by exact World.ownsRow.alloc H8.out.own _)
                  ⟨_, 0, none⟩ 1 1 (bhc x) (by rfl) rfl (by exact two_new _ _ _ _) (one_two _ _ _ _) (by decide) (by unfold maxLen; omega) (by omega) (by have := H8.out.size; rw [World.size_alloc]; omega) _ rfl ?_)
               intro g9 cap9 w9 hown9 hgr9 hat9 hlt9
               obtain ⟨⟨y0, y1, y2⟩, hT9⟩ := Bg.push (x := x) H8.out ((Below.refl _ _).alloc (Nat.le_refl _) _) (.inr Hx.out) hgr9 hown9 hat9
               have H9 := hid hT9
               clear hown9 hgr9 hat9 hlt9 hT9))
          all_goals
            clear q0 q1 r0 r1 hz
            generalize w9.setCell ⟨w.heap.size + 1, 1, none⟩ (.slice (some ⟨g9, 0, none⟩) (l.length + 1) cap9) = w10 at *
            clear y0 y1 y2
            go_wp2_with fail
            go_roundw
            case rel => exact ⟨l ++ [x], n, (blockR σ4).2, _, H9.out, by have := HL.out.step HB.out; rw [List.map_append]; rw [← Hxt.out] at this; exact this⟩
            case measure =>
              obtain ⟨⟨q0, q1⟩, -⟩ := H9.out.cells
              rw [Hm.out, lenAt_of q1]
              omega
  | false =>
    have hneed : needR (isK kwBlock) σ3 = failR 4 σ3 := by unfold needR; rw [hb0]; rfl
    rw [hneed] at HR
    clear hneed hb0
    go_wp2_with fail
    refine (refFail_any b A c L σ3 4 _ H5.out.st).mono ?_
    rintro e w6 ⟨rfl, h6⟩
    have H6 := hid (H5.out.call h6)
    clear h6 H5
    generalize failR 4 σ3 = σ3 at *
    go_wp2_with fail
    go_loopw [] (fun wr => ∃ (l : List BH) (n : Nat) (σ4 : Rs) (v : Value), Hid (Bg KB w b A c L σ4 y v l wr) ∧ Hid (Lrel (isK kwBlock) blockR 16 σ3 (l.map BH.b) n σ4)) (fun wr => 16 + 1 - lenAt (w.heap.size + 1) wr)
    case atStart => exact ⟨[], 16, σ3, _, H6.out, Lrel.start⟩
    case round =>
      clear H6
      obtain ⟨l, n, σ4, v, H, HL⟩ := hrel
      obtain ⟨B, d, hv⟩ := own_any_slice H.out.own
      subst hv
      have hlen : l.length + n = 16 := by have := HL.out.1; simpa using this
      obtain ⟨⟨q0, q1⟩, ⟨r0, r1⟩, ⟨p0, p1⟩, ⟨s0, s1⟩, hz⟩ := H.out.cells
      have Hm := hid (lenAt_of q1)
      clear q0 r0 r1 p0 p1 s0 s1 q1 hz
      cases hb : isK kwBlock σ4 with
      | false =>
        have HB := hid hb
        clear hb
        go_wp2_with fail
        refine (refIs_any b A c L σ4 kwBlock _ H.out.st).mono ?_
        rw [HB.out]
        rintro e w7 ⟨rfl, hb7⟩
        have H7 := hid (H.out.below hb7)
        clear hb7 H
        go_wp2_with fail
        refine (refWord_any b A c L σ4 kwEnd _ H7.out.st).mono ?_
        rintro e w8 ⟨rfl, h8⟩
        have H8 := hid (H7.out.call h8)
        clear h8 H7
        go_wp2_with fail
        refine (refEnd_any b A c L _ _ H8.out.st).mono ?_
        rintro e w9 ⟨rfl, h9⟩
        have H9 := hid (H8.out.call h9)
        clear h9 H8
        obtain ⟨⟨q0, q1⟩, ⟨r0, r1⟩, ⟨p0, p1⟩, ⟨s0, s1⟩, hz⟩ := H9.out.cells
        have hsz2 : w.heap.size < w9.heap.size := by omega
        go_wp2_with fail
        refine bodyPost_ret (v := agF ⟨y, B, l.length, d, l⟩) (by simp [results, Tryz.results71, go_sem, q0, q1, p0, p1, s0, s1, hz, hsz2, agF]) rfl ?_
        exact H9.out.doneF rfl (by omega) H16.out _ _ (by rw [HR.out, HL.out.stop HB.out])
      | true =>
        have HB := hid hb
        clear hb
        cases n with
        | zero =>
          have hl32 : l.length = 16 := by omega
          go_wp2_with fail
          refine (refIs_any b A c L σ4 kwBlock _ H.out.st).mono ?_
          rw [HB.out]
          rintro e w7 ⟨rfl, hb7⟩
          have H7 := hid (H.out.below hb7)
          clear hb7 H
          obtain ⟨⟨q0, q1⟩, ⟨r0, r1⟩, -, -, hz⟩ := H7.out.cells
          have tl : ((l.length : Int) == 16) = true := by simp; omega
          go_wp2_with fail
          clear q0 q1 r0 r1 hz
          refine (refFail_any b A c L σ4 7 _ H7.out.st).mono ?_
          rintro e w8 ⟨rfl, h8⟩
          have H8 := hid (H7.out.call h8)
          clear h8 H7
          obtain ⟨⟨q0, q1⟩, ⟨r0, r1⟩, ⟨p0, p1⟩, ⟨s0, s1⟩, hz⟩ := H8.out.cells
          have hsz2 : w.heap.size < w8.heap.size := by omega
          go_wp2_with fail
          refine bodyPost_ret (v := agF ⟨y, B, l.length, d, l⟩) (by simp [results, Tryz.results71, go_sem, q0, q1, p0, p1, s0, s1, hz, hsz2, agF, hl32]) rfl ?_
          exact H8.out.doneF rfl (by omega) H16.out _ _ (by rw [HR.out, HL.out.full HB.out, bad_word (full_e (isK_ne HB.out).1), bad_end (full_e (isK_ne HB.out).1)])
        | succ n =>
          have hl32 : l.length < 16 := by omega
          have tl : ((l.length : Int) == 16) = false := by simp; omega
          go_wp2_with fail
          refine (refIs_any b A c L σ4 kwBlock _ H.out.st).mono ?_
          rw [HB.out]
          rintro e w7 ⟨rfl, hb7⟩
          have H7 := hid (H.out.below hb7)
          clear hb7 H
          obtain ⟨⟨q0, q1⟩, ⟨r0, r1⟩, -, -, hz⟩ := H7.out.cells
          go_wp2_with fail
          have H7d : Hid (Bg KB w b A c L σ4 y (.slice B l.length d) l w7.drew) := hid (H7.out.drewN 1)
          have HC := hid (fun w' (h' : Rst w' b A c L σ4) => refBlock_any b A c L σ4 w' h' HS.out)
          go_region_law (first
            | (go_simp
               go_at_call 104
               go_must (
               refine (HC.out _ H7d.out.st).mono ?_
               rintro e w8 ⟨x, he, hxt, hfx, h8⟩
               unfold agB at he
               subst he
               have H8 := hid (H7d.out.call h8)
               have Hx := hid (FrV.fresh (N := w.heap.size + 2) (v := .slice B l.length d) hfx (by have := H7d.out.size; omega) (fun k hk => (H7d.out.own.lt k hk).2))
               have Hxt := hid hxt
               obtain ⟨⟨q0, q1⟩, ⟨r0, r1⟩, -, -, hz⟩ := H8.out.cells
               clear hfx h8 hxt))
            | ((refine step_append_lies _ (by rfl) _ _ 63 (by rfl) (w.heap.size + 2) 68 i1 _ 2 40 Tryz.underlying63 Hi.out Hz0.out Hz1.out Hz2.out (by rfl) (by decide) (.slice B l.length d) l.length (l.flatMap bhc) (by rfl) (by exact World.ownsRow.alloc H8.out.own _)
                  ⟨_, 0, none⟩ 1 1 (bhc x) (by rfl) rfl (by exact two_new _ _ _ _) (one_two _ _ _ _) (by decide) (by unfold maxLen; omega) (by omega) (by have := H8.out.size; rw [World.size_alloc]; omega) _ rfl ?_)
               intro g9 cap9 w9 hown9 hgr9 hat9 hlt9
               obtain ⟨⟨y0, y1, y2⟩, hT9⟩ := Bg.push (x := x) H8.out ((Below.refl _ _).alloc (Nat.le_refl _) _) (.inr Hx.out) hgr9 hown9 hat9
               have H9 := hid hT9
               clear hown9 hgr9 hat9 hlt9 hT9))
          all_goals
            clear q0 q1 r0 r1 hz
            generalize w9.setCell ⟨w.heap.size + 1, 1, none⟩ (.slice (some ⟨g9, 0, none⟩) (l.length + 1) cap9) = w10 at *
            clear y0 y1 y2
            go_wp2_with fail
            go_roundw
            case rel => exact ⟨l ++ [x], n, (blockR σ4).2, _, H9.out, by have := HL.out.step HB.out; rw [List.map_append]; rw [← Hxt.out] at this; exact this⟩
            case measure =>
              obtain ⟨⟨q0, q1⟩, -⟩ := H9.out.cells
              rw [Hm.out, lenAt_of q1]
              omega
end Go.Proofs.YtcgichfanfijjaaGreatDoor

namespace Go.Proofs.YtcgichfanfijjaaGreatDoor
set_option maxRecDepth 20000
set_option linter.unusedVariables false
set_option linter.unusedSimpArgs false
open Go.ChangeShapes Go.WideShapes Go.ChangeAt Go.RowKit
attribute [local go_sem] fieldTok0 fieldTok1 fieldTok2 fieldTok3

theorem ne_of_name {l : List Tok} (he : nameB (nxt l).text = true) : l ≠ [] := by
  rintro rfl
  rw [show (nxt []).text = noB from rfl, nameB_no] at he
  cases he
theorem ne_of_end {l : List Tok} (he : ((nxt l).kind == 3) = true) : l ≠ [] := by
  rintro rfl
  rw [show (nxt []).kind = 0 from rfl] at he
  cases he
def kwOf : Nat → ByteArray
  | 2 => kwUse
  | 3 => kwCall
  | 4 => kwSource
  | 5 => kwSink
  | 6 => kwSanitize
  | 7 => kwGoto
  | 8 => kwBranch
  | 9 => kwReturn
  | _ => noB
theorem opW_hit {x : ByteArray} {k : Nat} (h2 : 2 ≤ k) (h9 : k ≤ 9) (hn : nameB x = false) (hb : ∀ j, 2 ≤ j → j < k → eqB (kwOf j) x = false) (hk : eqB (kwOf k) x = true) : opW x = (k : Int) := by
  unfold opW
  rw [hn]
  rcases (by omega : k = 2 ∨ k = 3 ∨ k = 4 ∨ k = 5 ∨ k = 6 ∨ k = 7 ∨ k = 8 ∨ k = 9) with rfl | rfl | rfl | rfl | rfl | rfl | rfl | rfl
  all_goals
    have e := fun j h1 h2 => hb j h1 h2
    have e2 := e 2 (by omega); have e3 := e 3 (by omega); have e4 := e 4 (by omega); have e5 := e 5 (by omega); have e6 := e 6 (by omega); have e7 := e 7 (by omega); have e8 := e 8 (by omega)
    simp [kwOf] at e2 e3 e4 e5 e6 e7 e8 hk
    simp [*]
theorem opW_miss {x : ByteArray} (hn : nameB x = false) (hb : ∀ j, 2 ≤ j → j < 10 → eqB (kwOf j) x = false) : opW x = 0 := by
  unfold opW
  rw [hn]
  have e2 := hb 2 (by omega) (by omega); have e3 := hb 3 (by omega) (by omega); have e4 := hb 4 (by omega) (by omega); have e5 := hb 5 (by omega) (by omega); have e6 := hb 6 (by omega) (by omega); have e7 := hb 7 (by omega) (by omega); have e8 := hb 8 (by omega) (by omega); have e9 := hb 9 (by omega) (by omega)
  simp [kwOf] at e2 e3 e4 e5 e6 e7 e8 e9
  simp [*]
theorem Shp.key {w : World} (h : Shp w) {k : Nat} (h2 : 2 ≤ k) (h9 : k ≤ 9) : w.cell? ⟨0, k * 5, none⟩ = some (.string (kwOf k)) := by
  refine h _ _ ?_
  rcases (by omega : k = 2 ∨ k = 3 ∨ k = 4 ∨ k = 5 ∨ k = 6 ∨ k = 7 ∨ k = 8 ∨ k = 9) with rfl | rfl | rfl | rfl | rfl | rfl | rfl | rfl <;> rfl
end Go.Proofs.YtcgichfanfijjaaGreatDoor

namespace Go.Proofs.YtcgichfanfijjaaGreatDoor
set_option maxRecDepth 20000
set_option linter.unusedVariables false
set_option linter.unusedSimpArgs false
open Go.ChangeShapes Go.WideShapes Go.ChangeAt Go.RowKit

section
variable {α : Type} {K : Kind α} {w0 w w' : World} {b : Nat} {σ σ' : Ds} {v : Value} {l : List α}
end
def Drel {α : Type} (bb : ByteArray → Bool) (part : Ds → α × Ds) (N : Nat) (σ0 : Ds) (done : List α) (n : Nat) (σ : Ds) : Prop :=
  done.length + n = N ∧ listS bb part N σ0 = (done ++ (listS bb part n σ).1, (listS bb part n σ).2)
section
variable {α : Type} {bb : ByteArray → Bool} {part : Ds → α × Ds} {N n : Nat} {σ0 σ : Ds} {done : List α}
theorem Drel.start : Drel bb part N σ0 [] N σ0 := ⟨by simp, by simp⟩
theorem Drel.step (h : Drel bb part N σ0 done (n + 1) σ) (hb : bb (nxt σ.l).text = true) : Drel bb part N σ0 (done ++ [(part σ).1]) n (part σ).2 := by
  refine ⟨by have := h.1; simp; omega, ?_⟩
  rw [h.2]
  conv => lhs; unfold listS
  rw [hb]; simp
theorem Drel.step_as {γ : Type} {pr : γ → α} {l : List γ} {x : γ} (h : Drel bb part N σ0 (l.map pr) (n + 1) σ) (hb : bb (nxt σ.l).text = true) (hx : pr x = (part σ).1) : Drel bb part N σ0 ((l ++ [x]).map pr) n (part σ).2 := by
  have := h.step hb
  rw [List.map_append, List.map_singleton, hx]
  exact this
theorem Drel.stop (h : Drel bb part N σ0 done n σ) (hb : bb (nxt σ.l).text = false) : listS bb part N σ0 = (done, σ) := by
  rw [h.2]
  cases n <;> (unfold listS; rw [hb]; simp)
theorem Drel.full (h : Drel bb part N σ0 done 0 σ) (hb : bb (nxt σ.l).text = true) : listS bb part N σ0 = (done, failS 7 σ) := by
  rw [h.2]
  unfold listS
  rw [hb]; simp
end
def KStr : Kind ByteArray := ⟨fun x => [.string x], 1, 9, 0, fun x _ _ => x.size ≤ 16, fun _ _ _ _ _ h _ => h⟩
def KF : Kind FH := ⟨fhc, 2, 65, 25, FP, fun _ _ _ _ _ h hg => FHok.go h hg⟩
theorem flat_str (l : List ByteArray) : l.flatMap KStr.f = l.map Value.string := by
  show l.flatMap (fun x => [Value.string x]) = _
  induction l with
  | nil => rfl
  | cons x l ih => rw [List.flatMap_cons, ih]; rfl
end Go.Proofs.YtcgichfanfijjaaGreatDoor

namespace Go.Proofs.YtcgichfanfijjaaGreatDoor
set_option maxRecDepth 20000
set_option linter.unusedVariables false
set_option linter.unusedSimpArgs false
open Go.ChangeShapes Go.WideShapes Go.ChangeAt Go.RowKit
attribute [local go_sem] fieldTok0 fieldTok1 fieldTok2 fieldTok3

end Go.Proofs.YtcgichfanfijjaaGreatDoor

namespace Go.Proofs.YtcgichfanfijjaaGreatDoor
set_option maxRecDepth 20000
set_option linter.unusedVariables false
set_option linter.unusedSimpArgs false
open Go.ChangeShapes Go.WideShapes Go.ChangeAt Go.RowKit
attribute [local go_sem] fieldTok0 fieldTok1 fieldTok2 fieldTok3
attribute [local go_sem ↓] Go.wp_at_zero Go.wp_at_succ

section
variable {w0 w w' : World} {b g : Nat} {σ σ' : Ds} {A1 : Option Addr} {n1 c1 : Nat} {B1 : Option Addr} {m1 d1 : Nat} {op : Int} {d : ByteArray} {us ts : List ByteArray} {x : SH}
end
theorem begS_ne {l : List Tok} (he : begS (nxt l).text = true) : l ≠ [] := by
  rintro rfl
  rw [show (nxt []).text = noB from rfl, begS_no] at he
  cases he
theorem opS1 (x : ByteArray) (σ : Ds) : opS 1 x σ = (⟨1, x, (listS nameB nameS 4 (wordS kwEq σ)).1, []⟩, (listS nameB nameS 4 (wordS kwEq σ)).2) := rfl
theorem opS2 (x : ByteArray) (σ : Ds) : opS 2 x σ = (⟨2, ⟨#[]⟩, (someS nameB nameS 4 σ).1, []⟩, (someS nameB nameS 4 σ).2) := rfl
theorem opS3 (x : ByteArray) (σ : Ds) : opS 3 x σ = (⟨3, ⟨#[]⟩, [], [(nameS σ).1]⟩, (nameS σ).2) := rfl
theorem opS4 (x : ByteArray) (σ : Ds) : opS 4 x σ = (⟨4, (nameS σ).1, [], []⟩, (nameS σ).2) := rfl
theorem opS5 (x : ByteArray) (σ : Ds) : opS 5 x σ = (⟨5, ⟨#[]⟩, [(nameS σ).1], []⟩, (nameS σ).2) := rfl
theorem opS6 (x : ByteArray) (σ : Ds) : opS 6 x σ = (⟨6, (nameS σ).1, [], []⟩, (nameS σ).2) := rfl
theorem opS7 (x : ByteArray) (σ : Ds) : opS 7 x σ = (⟨7, ⟨#[]⟩, [], [(nameS σ).1]⟩, (nameS σ).2) := rfl
theorem opS8 (x : ByteArray) (σ : Ds) : opS 8 x σ = (⟨8, ⟨#[]⟩, [(nameS σ).1], [(nameS (nameS σ).2).1, (nameS (nameS (nameS σ).2).2).1]⟩, (nameS (nameS (nameS σ).2).2).2) := rfl
theorem opS9 (x : ByteArray) (σ : Ds) : opS 9 x σ = (⟨9, ⟨#[]⟩, [], []⟩, σ) := rfl
theorem opS0 (x : ByteArray) (σ : Ds) : opS 0 x σ = (⟨0, ⟨#[]⟩, [], []⟩, σ) := rfl
theorem opW_range (x : ByteArray) : opW x = 0 ∨ opW x = 1 ∨ opW x = 2 ∨ opW x = 3 ∨ opW x = 4 ∨ opW x = 5 ∨ opW x = 6 ∨ opW x = 7 ∨ opW x = 8 ∨ opW x = 9 := by
  unfold opW
  repeat' split
  all_goals simp
end Go.Proofs.YtcgichfanfijjaaGreatDoor

namespace Go.Proofs.YtcgichfanfijjaaGreatDoor
set_option maxRecDepth 20000
set_option linter.unusedVariables false
set_option linter.unusedSimpArgs false
open Go.ChangeShapes Go.WideShapes Go.ChangeAt Go.RowKit
attribute [local go_sem] fieldTok0 fieldTok1 fieldTok2 fieldTok3
attribute [local go_sem ↓] Go.wp_at_zero Go.wp_at_succ

theorem listS_len {α : Type} (bb : ByteArray → Bool) (part : Ds → α × Ds) (N : Nat) : ∀ σ, (listS bb part N σ).1.length ≤ N := by
  induction N with
  | zero => intro σ; unfold listS; split <;> simp
  | succ n ih =>
    intro σ
    unfold listS
    split
    · have := ih (part σ).2; simp; omega
    · simp
end Go.Proofs.YtcgichfanfijjaaGreatDoor

namespace Go.Proofs.YtcgichfanfijjaaGreatDoor
set_option maxRecDepth 20000
set_option linter.unusedVariables false
set_option linter.unusedSimpArgs false
open Go.ChangeShapes Go.WideShapes Go.ChangeAt Go.RowKit
attribute [local go_sem] fieldTok0 fieldTok1 fieldTok2 fieldTok3

end Go.Proofs.YtcgichfanfijjaaGreatDoor

namespace Go.Proofs.YtcgichfanfijjaaGreatDoor
set_option maxRecDepth 20000
set_option linter.unusedVariables false
set_option linter.unusedSimpArgs false
open Go.ChangeShapes Go.WideShapes Go.ChangeAt Go.RowKit
attribute [local go_sem] fieldTok0 fieldTok1 fieldTok2 fieldTok3

theorem own_mono {w : World} {base base' k n : Nat} {e : TypeId} {v : Value} {xs : List Value} (h : w.ownsRow base e k v n xs) (hb : base' ≤ base) : w.ownsRow base' e k v n xs := by
  obtain ⟨h1, h2⟩ := h
  refine ⟨h1, ?_⟩
  rcases h2 with h2 | ⟨g, cap, cur, a1, a2, a3⟩
  · exact .inl h2
  · exact .inr ⟨g, cap, cur, a1, Nat.le_trans hb a2, a3⟩
section
variable {α : Type} {K : Kind α} {w0 w w' : World} {b g : Nat} {σ σ' : Ds} {nm : ByteArray} {v : Value} {l : List α}
end
end Go.Proofs.YtcgichfanfijjaaGreatDoor

namespace Go.Proofs.YtcgichfanfijjaaGreatDoor
set_option maxRecDepth 20000
set_option linter.unusedVariables false
set_option linter.unusedSimpArgs false
open Go.ChangeShapes Go.WideShapes Go.ChangeAt Go.RowKit
attribute [local go_sem] fieldTok0 fieldTok1 fieldTok2 fieldTok3

end Go.Proofs.YtcgichfanfijjaaGreatDoor

namespace Go.Proofs.YtcgichfanfijjaaGreatDoor
set_option maxRecDepth 20000
set_option linter.unusedVariables false
set_option linter.unusedSimpArgs false
open Go.ChangeShapes Go.WideShapes Go.ChangeAt Go.RowKit
attribute [local go_sem] fieldTok0 fieldTok1 fieldTok2 fieldTok3

end Go.Proofs.YtcgichfanfijjaaGreatDoor

namespace Go.Proofs.YtcgichfanfijjaaGreatDoor
set_option maxRecDepth 20000
set_option linter.unusedVariables false
set_option linter.unusedSimpArgs false
open Go.ChangeShapes Go.WideShapes Go.ChangeAt Go.RowKit
attribute [local go_sem] fieldTok0 fieldTok1 fieldTok2 fieldTok3

end Go.Proofs.YtcgichfanfijjaaGreatDoor

namespace Go.Proofs.YtcgichfanfijjaaGreatDoor
set_option maxRecDepth 20000
set_option linter.unusedVariables false
open Go.ChangeShapes Go.WideShapes Go.ChangeAt Go.RowKit

theorem scanL_few (s : ByteArray) (n i line col : Nat) (l : List Tok) (hn : s.size - i ≤ n) (hf : Fine s i line col l) : (scanL s i line col l).1.length ≤ s.size + 1 ∧ (scanL s i line col l).2.1 ≤ s.size + 1 ∧ (scanL s i line col l).2.2.1 ≤ s.size + 1 := by
  induction n generalizing i line col l with
  | zero =>
    have h := hf.few; have h2 := hf.le; have he := endT_len line col l
    rw [scanL_end (by omega)]
    exact ⟨by simp; omega, by simp, by simp⟩
  | succ n ih =>
    by_cases hlt : i < s.size
    · cases e : stp s i line col l with
      | go i' line' col' l' =>
        have hg := stp_go hlt e
        rw [scanL_go hlt e]
        exact ih i' line' col' l' (by omega) (hf.go hlt e)
      | stop line' col' er =>
        have h3 := hf.line2; have h4 := hf.col2; have h5 := hf.le
        have hst : line' = line ∧ col' = col := by
          unfold stp at e
          repeat' split at e
          all_goals (first | (cases e; done) | (cases e; exact ⟨rfl, rfl⟩))
        rw [scanL_stop hlt e]
        exact ⟨by simp, by simp; omega, by simp; omega⟩
    · have h := hf.few; have h2 := hf.le; have he := endT_len line col l
      rw [scanL_end (by omega)]
      exact ⟨by simp; omega, by simp, by simp⟩
theorem scanR_few (s : ByteArray) : (scanR s).1.length ≤ 100000 := by
  unfold scanR
  split
  · have := (scanL_few s (s.size - 0) 0 1 1 [] (Nat.le_refl _) (Fine.start s)).1
    omega
  · simp

end Go.Proofs.YtcgichfanfijjaaGreatDoor

namespace Go.Proofs.YtcgichfanfijjaaGreatDoor
set_option maxRecDepth 20000
set_option linter.unusedVariables false
set_option linter.unusedSimpArgs false
open Go.ChangeShapes Go.WideShapes Go.ChangeAt Go.RowKit
attribute [local go_sem] fieldTok0 fieldTok1 fieldTok2 fieldTok3
attribute [local go_sem ↓] Go.wp_at_zero Go.wp_at_succ

def PP (x : PH) : World → List (Option Nat) → Prop := fun w ex => PHok w ex x
theorem PP.go {x : PH} {w w' : World} {ex ex' : List (Option Nat)} (h : PP x w ex) (hg : Go2 w ex w' ex') : PP x w' ex' := PHok.go h hg
theorem pp_of {w : World} {base : Nat} {B : Option Addr} {d : Nat} {l : List FH} (hown : w.ownsRow base 65 2 (.slice B l.length d) l.length (l.flatMap fhc)) (hall : ∀ x ∈ l, Fr base (FP x) w) (hl : l.length ≤ 40) : Fr base (PP ⟨B, l.length, d, l⟩) w :=
  fun ex he => ⟨EAt.own hown (fun g hg hin => by have h1 := (hown.lt g hg).1; have h2 := he g hin; omega), rfl, hl, fun y hy => hall y hy ex he⟩
end Go.Proofs.YtcgichfanfijjaaGreatDoor

namespace Go.Proofs.YtcgichfanfijjaaGreatDoor
set_option maxRecDepth 20000
set_option linter.unusedVariables false
set_option linter.unusedSimpArgs false
open Go.ChangeShapes Go.WideShapes Go.ChangeAt Go.RowKit
attribute [local go_sem ↓] Go.wp_at_zero Go.wp_at_succ

theorem own_cap {w : World} {base k n c : Nat} {e : TypeId} {A : Option Addr} {xs : List Value} (h : w.ownsRow base e k (.slice A n c) n xs) : n ≤ c := by
  rcases h.2 with ⟨_, h0⟩ | ⟨g, cap, cur, hv, _, _, hc, _⟩
  · omega
  · injection hv with _ _ e3; omega
/-- What a scan returns, with the capacity. -/
def RetScanC (r : Res) (w : World) (e : Ending) (w' : World) : Prop :=
  ∃ (A : Option Addr) (c : Nat), e = .returned (.tuple #[.slice A r.1.length c, .int .i64 (r.2.1 : Int), .int .i64 (r.2.2.1 : Int), .int .i64 r.2.2.2]) ∧ TArg w' A r.1.length r.1 ∧ r.1.length ≤ c ∧ Below w.heap.size w w'
def RetParse (r : Par) (w : World) (e : Ending) (w' : World) : Prop :=
  ∃ x : PH, e = .returned (.tuple #[.agg #[.slice x.A x.n x.c], .int .i64 (r.2.1 : Int), .int .i64 (r.2.2.1 : Int), .int .i64 r.2.2.2]) ∧ x.p = r.1 ∧ Fr w.heap.size (PP x) w' ∧ Below w.heap.size w w'
theorem pp_nil (w : World) (N : Nat) : Fr N (PP ⟨none, 0, 0, []⟩) w := fun ex _ => ⟨EAt.nil _ _ _, rfl, by show (0 : Nat) ≤ 40; omega, by simp⟩
theorem Shp.lt {w : World} (h : Shp w) : 0 < w.heap.size := World.block_lt_of_cell? w _ (h 0 _ rfl)
end Go.Proofs.YtcgichfanfijjaaGreatDoor

namespace Go.Proofs.YtcgichfanfijjaaGreatDoor
set_option maxRecDepth 20000
set_option linter.unusedVariables false
set_option linter.unusedSimpArgs false
open Go.ChangeShapes Go.WideShapes Go.ChangeAt Go.RowKit
attribute [local go_sem ↓] Go.wp_at_zero Go.wp_at_succ

structure Po (w0 : World) (b : Nat) (A : Option Addr) (c : Nat) (L : List Tok) (σ : Rs) (v : Value) (l : List FH) (w : World) : Prop where
  st : RTo w0 b A c L σ w
  old : b < w0.heap.size
  f3 : Fb w w0.heap.size #[v] 25
  own : w.ownsRow (w0.heap.size + 1) 65 2 v l.length (l.flatMap fhc)
  all : ∀ x ∈ l, FrV (w0.heap.size + 1) v (FP x) w
theorem FP.go {x : FH} {w w' : World} {ex ex' : List (Option Nat)} (h : FP x w ex) (hg : Go2 w ex w' ex') : FP x w' ex' := FHok.go h hg
section
variable {w0 w w' : World} {b : Nat} {A : Option Addr} {c : Nat} {L : List Tok} {σ σ' : Rs} {v : Value} {l : List FH}
theorem Po.start (h : Rst w0 b A c L σ) : Po w0 b A c L σ (.slice none 0 0) [] (w0.alloc (.cells #[.slice none 0 0] 25)) :=
  ⟨(RTo.refl h).belowr ((Below.refl _ _).alloc (Nat.le_refl _) _), h.lt, Fb.new w0 _ _, World.ownsRow_nil _ _ _ _, by simp⟩
theorem Po.call (h : Po w0 b A c L σ v l w) (hr : RTo w b A c L σ' w') : Po w0 b A c L σ' v l w' :=
  ⟨h.st.trans hr, h.old, h.f3.grown hr.2 (by have := h.old; simp; omega), RTo.own h.own hr (by have := h.old; omega),
    fun x hx => (h.all x hx).grown FP.go hr.2 (fun k hk => by injection hk with hk; have := h.old; omega)⟩
theorem Po.below (h : Po w0 b A c L σ v l w) (hb : Below w.heap.size w w') : Po w0 b A c L σ v l w' := h.call ((RTo.refl h.st.1).belowr hb)
theorem Po.drewN (h : Po w0 b A c L σ v l w) (q : Nat) : Po w0 b A c L σ v l (w.drewN q) := h.below (below_drewN (Below.refl _ _) q)
theorem Po.size (h : Po w0 b A c L σ v l w) : w0.heap.size + 1 ≤ w.heap.size := h.f3.lt
theorem Po.push {wa w9 : World} {g9 cap9 : Nat} {x : FH} (h : Po w0 b A c L σ v l w) (ha : Below w.heap.size w wa) (hx : FrV (w0.heap.size + 1) v (FP x) w) (hg : wa.grownBy w9 v.ownBlock)
    (hown : w9.ownsRow (w0.heap.size + 1) 65 2 (.slice (some ⟨g9, 0, none⟩) (l.length + 1) cap9) (l.length + 1) (l.flatMap fhc ++ fhc x)) (hat : v.ownBlock = some g9 ∨ g9 = wa.heap.size) :
    (w9.cell? ⟨w0.heap.size, 0, none⟩ = some v ∧ w9.frozen? ⟨w0.heap.size, 0, none⟩ = false ∧ w0.heap.size < w9.heap.size) ∧
    Po w0 b A c L σ (.slice (some ⟨g9, 0, none⟩) (l.length + 1) cap9) (l ++ [x]) (w9.setCell ⟨w0.heap.size, 0, none⟩ (.slice (some ⟨g9, 0, none⟩) (l.length + 1) cap9)) := by
  have h1 := h.below ha
  have ho := h.old
  have hlt : ∀ k, v.ownBlock = some k → w0.heap.size + 1 ≤ k := fun k hk => (h1.own.lt k hk).1
  have hne : ∀ k, k < w0.heap.size + 1 → some k ≠ v.ownBlock := fun k hk e => by have := hlt k e.symm; omega
  have hf3 := h1.f3.grown hg (hne _ (by omega))
  have hxV : FrV (w0.heap.size + 1) v (FP x) wa := hx.grown FP.go (grown_of_below ha none) (fun k hk => by cases hk)
  have hset := setCell_grown w9 ⟨w0.heap.size, 0, none⟩ (.slice (some ⟨g9, 0, none⟩) (l.length + 1) cap9)
  have hg9 := (hown.lt g9 rfl).1
  refine ⟨⟨hf3.cell 0, hf3.frozen 0, hf3.lt⟩, ?_⟩
  refine ⟨⟨(h1.st.1.grown hg (fun k hk => by have := hlt k hk; omega)).far (by show b < w0.heap.size; omega) _, grown_set_new ?_ (Nat.le_refl _) _⟩, ho, ?_, ?_, ?_⟩
  · have h2 := h1.st.2
    exact ⟨hg.os.trans h2.os, hg.tape.trans h2.tape, hg.output.trans h2.output, Nat.le_trans h2.size hg.size, fun i hi hne2 => (hg.block i (Nat.lt_of_lt_of_le hi h2.size) (hne i (by omega))).trans (h2.block i hi hne2)⟩
  · have := hf3.set 0 (.slice (some ⟨g9, 0, none⟩) (l.length + 1) cap9)
    simpa using this
  · rw [List.flatMap_append, List.length_append]
    have e : [x].flatMap fhc = fhc x := by simp
    rw [e]
    exact hown.kept hset (.inr (by show some g9 ≠ some w0.heap.size; simp; omega))
  · intro y hy
    have hyV : FrV (w0.heap.size + 1) v (FP y) wa := by
      rcases List.mem_append.1 hy with hy | hy
      · exact h1.all y hy
      · simp at hy; subst hy; exact hxV
    exact (hyV.push FP.go hg (v' := .slice (some ⟨g9, 0, none⟩) (l.length + 1) cap9) (g := g9) rfl hat).grown FP.go hset (fun k hk => by injection hk with hk; have : w0.heap.size = k := hk; omega)
end
def lenAt0 (g : Nat) (w : World) : Nat := match w.cell? ⟨g, 0, none⟩ with | some (.slice _ n _) => n | _ => 0
theorem lenAt0_of {g n c : Nat} {B : Option Addr} {w : World} (h : w.cell? ⟨g, 0, none⟩ = some (.slice B n c)) : lenAt0 g w = n := by unfold lenAt0; rw [h]
theorem RTo.kept {w w' : World} {b c : Nat} {A : Option Addr} {L : List Tok} {σ : Rs} {g t : Nat} {cs : Array Value} (h : RTo w b A c L σ w') (hf : Fb w g cs t) (hne : g ≠ b) : Fb w' g cs t := hf.grown h.2 (by simpa using hne)
end Go.Proofs.YtcgichfanfijjaaGreatDoor

namespace Go.Proofs.YtcgichfanfijjaaGreatDoor
set_option maxRecDepth 20000
set_option linter.unusedVariables false
set_option linter.unusedSimpArgs false
open Go.ChangeShapes Go.WideShapes Go.ChangeAt Go.RowKit
attribute [local go_sem ↓] Go.wp_at_zero Go.wp_at_succ

theorem progR_of {σ0 : Rs} {done : List Fnc} {le : List Tok} {ee : Int} (h : listR (isK kwFunc) funcR 8 (needR (isK kwFunc) σ0) = (done, ⟨le, ee⟩)) :
    progR σ0 = (done, if ee == 0 && !le.isEmpty then failR 4 ⟨le, ee⟩ else ⟨le, ee⟩) := by
  unfold progR
  simp only
  rw [h]
theorem Po.pp {w0 w : World} {b c d : Nat} {A B : Option Addr} {L : List Tok} {σ : Rs} {l : List FH} (h : Po w0 b A c L σ (.slice B l.length d) l w) (hl : l.length ≤ 40) : Fr (w0.heap.size + 1) (PP ⟨B, l.length, d, l⟩) w :=
  pp_of h.own (fun x hx => (h.all x hx).fr) hl
theorem Po.grownw {w0 w : World} {b c : Nat} {A : Option Addr} {L : List Tok} {σ : Rs} {v : Value} {l : List FH} (h : Po w0 b A c L σ v l w) : w0.grownBy w (some b) := h.st.2
def parO (p : List Fnc × Rs) : Par := if p.2.e == 0 then (p.1, 0, 0, 0) else ([], (nxt p.2.l).line, (nxt p.2.l).col, p.2.e)
theorem parO_ok {P : List Fnc} {l : List Tok} {ee : Int} (h : (ee == 0) = true) : parO (P, ⟨l, ee⟩) = (P, 0, 0, 0) := by
  unfold parO
  exact if_pos h
theorem parO_bad {P : List Fnc} {l : List Tok} {ee : Int} (h : (ee == 0) = false) : parO (P, ⟨l, ee⟩) = ([], (nxt l).line, (nxt l).col, ee) := by
  unfold parO
  exact if_neg (by show ¬ ((ee == 0) = true); rw [h]; exact Bool.false_ne_true)
theorem par_more {s : ByteArray} {σ0 : Rs} {done : List Fnc} {le : List Tok} {ee : Int} (h2 : parseR s = parO (progR σ0)) (h : progR σ0 = (done, if ee == 0 && !le.isEmpty then failR 4 ⟨le, ee⟩ else ⟨le, ee⟩)) (he : (ee == 0) = true) (hn : le ≠ []) (hf : failR 4 ⟨le, ee⟩ = ⟨le, 4⟩) :
    parseR s = ([], (nxt le).line, (nxt le).col, 4) := by
  have hemp : le.isEmpty = false := by cases le with | nil => exact absurd rfl hn | cons => rfl
  rw [h2, h, hemp, he, hf]
  exact parO_bad rfl
theorem par_end {s : ByteArray} {σ0 : Rs} {done : List Fnc} {le : List Tok} {ee : Int} (h2 : parseR s = parO (progR σ0)) (h : progR σ0 = (done, if ee == 0 && !le.isEmpty then failR 4 ⟨le, ee⟩ else ⟨le, ee⟩)) (he : (ee == 0) = true) (hn : le = []) :
    parseR s = (done, 0, 0, 0) := by
  subst hn
  rw [h2, h]
  have h0 : (ee == 0 && !([] : List Tok).isEmpty) = false := by simp
  rw [h0]
  exact parO_ok he
theorem par_err {s : ByteArray} {σ0 : Rs} {done : List Fnc} {le : List Tok} {ee : Int} (h2 : parseR s = parO (progR σ0)) (h : progR σ0 = (done, if ee == 0 && !le.isEmpty then failR 4 ⟨le, ee⟩ else ⟨le, ee⟩)) (he : (ee == 0) = false) :
    parseR s = ([], (nxt le).line, (nxt le).col, ee) := by
  rw [h2, h, he]
  exact parO_bad he
set_option maxHeartbeats 20000000 in
theorem refParse_any (s : ByteArray) (w : World) (hs : s.size ≤ maxLen) : Calls Tryz.prog 36 #[.string s] w (RetParse (parseR s) w) := by
  have HC := hid (fun w => refScan_any s w hs)
  have HR : Hid (parseR s = (if (scanR s).2.2.2 == 0 then parO (progR ⟨(scanR s).1, 0⟩) else ([], (scanR s).2.1, (scanR s).2.2.1, (scanR s).2.2.2))) := hid rfl
  have HS := hid (show Short (scanR s).1 from fun t ht => tokOk_size (scan_tok s t ht))
  have Hfew := hid (scanR_few s)
  have hf0 := hid (Fb.new w #[.slice none 0 0] 25)
  have hb0 := hid ((Below.refl w.heap.size w).alloc (Nat.le_refl _) (.cells #[.slice none 0 0] 25))
  have hwa := hid (show (w.alloc (.cells #[.slice none 0 0] 25)).heap.size = w.heap.size + 1 by rw [World.size_alloc])
  clear hs
  generalize scanR s = r at *
  obtain ⟨L, line, col, er⟩ := r
  simp only at HR HS Hfew
  obtain ⟨i3, hi, hz0, hz1, hz2⟩ := info_parts info63
  have Hi := hid hi; have Hz0 := hid hz0; have Hz1 := hid hz1; have Hz2 := hid hz2
  clear hi hz0 hz1 hz2
  go_enter Tryz.func36, Tryz.ntmps36
  go_wp2_with fail
  generalize w.alloc (.cells #[.slice none 0 0] 25) = wa at *
  refine (HC.out _).mono ?_
  rintro e w1 ⟨A, c, rfl, ha, hb1⟩
  simp only at ha
  have hf1 := hid (hf0.out.below hb1 hf0.out.lt)
  have hB1 := hid (hb0.out.trans (hb1.mono hb0.out.size))
  have hsz1 := hid (show w.heap.size + 1 ≤ w1.heap.size by have := hb1.size; have := hwa.out; omega)
  cases he : (er == 0) with
  | false =>
    have hne : (er != 0) = true := by simpa using he
    have HR2 : Hid (parseR s = ([], line, col, er)) := hid (by rw [HR.out, he]; rfl)
    have HB : Hid (Below w.heap.size w (w1.setCell ⟨w.heap.size, 0, none⟩ (.slice none 0 0))) := hid (hB1.out.setCell (Nat.le_refl _) _)
    have v0 := hf1.out.cell 0
    have s0 := hf1.out.frozen 0
    have hsz := hf1.out.lt
    clear HR he ha hb1
    go_wp2_with fail
    refine bodyPost_ret (v := .tuple #[.agg #[.slice none 0 0], .int .i64 (line : Int), .int .i64 (col : Int), .int .i64 er]) (by simp [results, Tryz.results36, go_sem, v0, s0, hsz]) rfl ?_
    rw [HR2.out]
    exact ⟨⟨none, 0, 0, []⟩, rfl, rfl, pp_nil _ _, HB.out⟩
  | true =>
    have hne : (er != 0) = false := by simpa using he
    have HR2 : Hid (parseR s = parO (progR ⟨L, 0⟩)) := hid (by rw [HR.out, he]; rfl)
    have hst := hid (show Rst (w1.alloc (.cells #[.slice A L.length c, .int .i64 0, .int .i64 0] 107)) w1.heap.size A c L ⟨L, 0⟩ from ⟨⟨0, Nat.zero_le _, rfl, Fb.new w1 _ _⟩, ha.lies.alloc (Nat.le_refl _) _, Hfew.out⟩)
    have hB2 := hid (hB1.out.alloc (by have := hsz1.out; omega) (.cells #[.slice A L.length c, .int .i64 0, .int .i64 0] 107))
    have hf2 := hid ((hf1.out.alloc (.cells #[.slice A L.length c, .int .i64 0, .int .i64 0] 107)).alloc (.cells #[.slice none 0 0] 25))
    have hszp := hid (show (w1.alloc (.cells #[.slice A L.length c, .int .i64 0, .int .i64 0] 107)).heap.size = w1.heap.size + 1 by rw [World.size_alloc])
    have H0 := hid (Po.start hst.out)
    clear HR he ha hb1 hf0 hb0 hwa hf1 HC hst
    go_wp2_with fail
    generalize w1.alloc (.cells #[.slice A L.length c, .int .i64 0, .int .i64 0] 107) = wp at *
    generalize w1.heap.size = b at *
    have hszp2 := hszp.out
    have hszb := hsz1.out
    rw [show b + 1 = wp.heap.size from hszp2.symm]
    have hww : w.heap.size < wp.heap.size := by omega
    have hwb : w.heap.size < b := by omega
    have hbp : b < wp.heap.size := by omega
    clear hszp2 hszb
    generalize wp.alloc (.cells #[.slice none 0 0] 25) = w2 at *
    refine (refIs_any b A c L ⟨L, 0⟩ kwFunc _ H0.out.st.1).mono ?_
    rintro e w5 ⟨rfl, hb5⟩
    have H5 := hid (H0.out.below hb5)
    have hf5 := hid (hf2.out.below hb5 hf2.out.lt)
    clear hb5 H0 hf2
    cases hb0 : isK kwFunc ⟨L, 0⟩ with
    | true =>
      have hneed := hid (show needR (isK kwFunc) ⟨L, 0⟩ = ⟨L, 0⟩ by unfold needR; rw [hb0]; rfl)
      generalize hσ3 : (⟨L, 0⟩ : Rs) = σ3 at *
      clear hσ3 hb0
      go_wp2_with fail
      go_loopw [] (fun wr => ∃ (l : List FH) (n : Nat) (σ4 : Rs) (v : Value), Hid (Po wp b A c L σ4 v l wr) ∧ Hid (Lrel (isK kwFunc) funcR 8 σ3 (l.map FH.f) n σ4) ∧ Hid (Fb wr w.heap.size #[.slice none 0 0] 25)) (fun wr => 9 - lenAt0 wp.heap.size wr)
      case atStart => exact ⟨[], 8, σ3, _, H5.out, Lrel.start, hf5.out⟩
      case round =>
        clear H5 hf5
        obtain ⟨l, n, σ4, v, H, HL, hfR⟩ := hrel
        obtain ⟨B, d, hv⟩ := own_any_slice H.out.own
        subst hv
        have hlen : l.length + n = 8 := by have := HL.out.1; simpa using this
        have q0 := H.out.f3.cell 0
        have Hm := hid (lenAt0_of q0)
        clear q0
        cases hb : isK kwFunc σ4 with
        | false =>
          have HB0 := hid hb
          clear hb
          go_wp2_with fail
          refine (refIs_any b A c L σ4 kwFunc _ H.out.st.1).mono ?_
          rw [HB0.out]
          rintro e w7 ⟨rfl, hb7⟩
          have H7 := hid (H.out.below hb7)
          have hf7 := hid (hfR.out.below hb7 hfR.out.lt)
          clear hb7 H hfR
          obtain ⟨le, ee⟩ := σ4
          have HPg := hid (progR_of (σ0 := σ3) (done := l.map FH.f) (le := le) (ee := ee) (by rw [hneed.out]; exact HL.out.stop HB0.out))
          obtain ⟨k, hk, hl, hf⟩ := H7.out.st.1.at_
          simp only at hl hf
          cases hee : (ee == 0) with
          | true =>
            by_cases hkl : k < L.length
            · as_aux_lemma =>
              have HneL := hid (show le ≠ [] by
                  intro h0
                  rw [h0] at hl
                  have h1 := congrArg List.length hl
                  rw [List.length_drop] at h1
                  simp at h1
                  omega)
              have hfr := hid (show failR 4 ⟨le, ee⟩ = ⟨le, 4⟩ by unfold failR; simp [hee])
              have HPar : Hid (parseR s = ([], (nxt le).line, (nxt le).col, 4)) := hid (par_more HR2.out HPg.out hee HneL.out hfr.out)
              obtain ⟨⟨c0, c1, c2⟩, -⟩ := hf.three
              have hfew0 := H7.out.st.1.few
              clear hf hl HR2 HPg
              go_wp2_with fail
              refine (refFail_any b A c L ⟨le, ee⟩ 4 _ H7.out.st.1).mono ?_
              rintro e w8 ⟨rfl, h8⟩
              rw [hfr.out] at h8
              have H8 := hid (H7.out.call h8)
              have hf8 := hid (h8.kept hf7.out (by omega))
              clear h8 H7 hf7 c0 c1 c2 hfew0
              obtain ⟨k2, hk2, hl2, hfp⟩ := H8.out.st.1.at_
              simp only at hl2 hfp
              have hkl2 : k2 < L.length := by
                rcases Nat.lt_or_ge k2 L.length with h | h
                · exact h
                · exact absurd (by rw [← hl2, nxt_end h]) HneL.out
              obtain ⟨a, hAa, hab, -, a2, a3⟩ := H8.out.st.1.arg.cell hkl2
              subst hAa
              rw [← nxt_drop hkl2, hl2] at a2 a3
              obtain ⟨⟨c0, c1, c2⟩, -⟩ := hfp.three
              have hltb := H8.out.st.1.lt
              have hfew := H8.out.st.1.few
              have hna : a.block ≠ w.heap.size := by
                intro hq
                have h1 := a2
                rw [show (a.add (k2 * 4)).block = w.heap.size by rw [add_block]; exact hq] at h1
                rw [hf8.out.cell] at h1
                simp at h1
              have hna2 : w.heap.size ≠ a.block := fun h => hna h.symm
              have hab2 : (a.add (k2 * 4)).block < w8.heap.size := by rw [add_block]; exact hab
              have v0 := hf8.out.cell 0
              have s0 := hf8.out.frozen 0
              have hsz := hf8.out.lt
              have hBX := hid (hB2.out.grown H8.out.st.2 hB2.out.size (fun k hk => by injection hk with hk; omega))
              have HB : Hid (∀ q, Below w.heap.size w ((w8.drewN q).setCell ⟨w.heap.size, 0, none⟩ (.slice none 0 0))) := hid (fun q => (below_drewN hBX.out q).setCell (Nat.le_refl _) _)
              generalize (nxt le).line = ln at *
              generalize (nxt le).col = cl at *
              have hS0 : ((fun w' => Below w.heap.size w w' ∧ w'.cell? ⟨w.heap.size, 0, none⟩ = some (.slice none 0 0) ∧ w'.frozen? ⟨w.heap.size, 0, none⟩ = false ∧ w.heap.size < w'.heap.size ∧ w'.cell? ⟨b, 1, none⟩ = some (.int .i64 (k2 : Int)) ∧ w'.cell? ⟨b, 2, none⟩ = some (.int .i64 4) ∧ w'.cell? ⟨(a.add (k2 * 4)).block, (a.add (k2 * 4)).off + 2, none⟩ = some (.int .i64 (ln : Int)) ∧ w'.cell? ⟨(a.add (k2 * 4)).block, (a.add (k2 * 4)).off + 3, none⟩ = some (.int .i64 (cl : Int))) (w8.drew)) := ⟨below_drewN hBX.out 1, v0, s0, hsz, c1, c2, a2, a3⟩
              have HS0 := hid hS0
              have hSt : ∀ w', (fun w' => Below w.heap.size w w' ∧ w'.cell? ⟨w.heap.size, 0, none⟩ = some (.slice none 0 0) ∧ w'.frozen? ⟨w.heap.size, 0, none⟩ = false ∧ w.heap.size < w'.heap.size ∧ w'.cell? ⟨b, 1, none⟩ = some (.int .i64 (k2 : Int)) ∧ w'.cell? ⟨b, 2, none⟩ = some (.int .i64 4) ∧ w'.cell? ⟨(a.add (k2 * 4)).block, (a.add (k2 * 4)).off + 2, none⟩ = some (.int .i64 (ln : Int)) ∧ w'.cell? ⟨(a.add (k2 * 4)).block, (a.add (k2 * 4)).off + 3, none⟩ = some (.int .i64 (cl : Int))) w' → (fun w' => Below w.heap.size w w' ∧ w'.cell? ⟨w.heap.size, 0, none⟩ = some (.slice none 0 0) ∧ w'.frozen? ⟨w.heap.size, 0, none⟩ = false ∧ w.heap.size < w'.heap.size ∧ w'.cell? ⟨b, 1, none⟩ = some (.int .i64 (k2 : Int)) ∧ w'.cell? ⟨b, 2, none⟩ = some (.int .i64 4) ∧ w'.cell? ⟨(a.add (k2 * 4)).block, (a.add (k2 * 4)).off + 2, none⟩ = some (.int .i64 (ln : Int)) ∧ w'.cell? ⟨(a.add (k2 * 4)).block, (a.add (k2 * 4)).off + 3, none⟩ = some (.int .i64 (cl : Int))) (w'.setCell ⟨w.heap.size, 0, none⟩ (.slice none 0 0)) := by
                rintro w' ⟨h0, h1, h2, h3, h4, h5, h6, h7⟩
                refine ⟨h0.setCell (Nat.le_refl _) _, World.cell?_setCell_same (w := w') (a := ⟨w.heap.size, 0, none⟩) (v := .slice none 0 0) h1, by rw [World.frozen?_setCell]; exact h2, by rw [World.size_setCell]; exact h3, ?_, ?_, ?_, ?_⟩
                · exact (World.cell?_setCell_far _ _ _ _ (by show w.heap.size ≠ b; omega)).trans h4
                · exact (World.cell?_setCell_far _ _ _ _ (by show w.heap.size ≠ b; omega)).trans h5
                · exact (World.cell?_setCell_far _ _ _ _ (by show w.heap.size ≠ (a.add (k2 * 4)).block; rw [add_block]; exact hna2)).trans h6
                · exact (World.cell?_setCell_far _ _ _ _ (by show w.heap.size ≠ (a.add (k2 * 4)).block; rw [add_block]; exact hna2)).trans h7
              have HSt := hid hSt
              clear hl2 hfp hS0 hSt
              go_wp2_with fail
              clear c0 c1 c2 v0 s0 hsz a2 a3
              go_region_held3 (fun w' => Below w.heap.size w w' ∧ w'.cell? ⟨w.heap.size, 0, none⟩ = some (.slice none 0 0) ∧ w'.frozen? ⟨w.heap.size, 0, none⟩ = false ∧ w.heap.size < w'.heap.size ∧ w'.cell? ⟨b, 1, none⟩ = some (.int .i64 (k2 : Int)) ∧ w'.cell? ⟨b, 2, none⟩ = some (.int .i64 4) ∧ w'.cell? ⟨(a.add (k2 * 4)).block, (a.add (k2 * 4)).off + 2, none⟩ = some (.int .i64 (ln : Int)) ∧ w'.cell? ⟨(a.add (k2 * 4)).block, (a.add (k2 * 4)).off + 3, none⟩ = some (.int .i64 (cl : Int)))
                (first | exact HS0.out | exact HSt.out _ (by assumption) | assumption)
                (fail)
              go_wp2_with fail
              rename (Below _ _ _ ∧ _) => hh
              obtain ⟨hB9, v9, s9, hz9, -⟩ := hh
              refine bodyPost_ret (v := .tuple #[.agg #[.slice none 0 0], .int .i64 (ln : Int), .int .i64 (cl : Int), .int .i64 4]) (by simp [results, Tryz.results36, go_sem, v9, s9, hz9]) rfl ?_
              rw [HPar.out]
              exact ⟨⟨none, 0, 0, []⟩, rfl, rfl, pp_nil _ _, hB9⟩
            · as_aux_lemma =>
              have hle : le = [] := by rw [← hl, nxt_end (by omega)]
              have hkL : k = L.length := by omega
              have HPar : Hid (parseR s = (l.map FH.f, 0, 0, 0)) := hid (par_end HR2.out HPg.out hee hle)
              subst hkL
              clear hl HR2 HPg hkl
              obtain ⟨⟨c0, c1, c2⟩, -⟩ := hf.three
              have hltb := H7.out.st.1.lt
              have v0 := hf7.out.cell 0
              have s0 := hf7.out.frozen 0
              have hsz := hf7.out.lt
              have k0 := H7.out.f3.cell 0
              have hszX := H7.out.f3.lt
              have hBX := hid (hB2.out.grown H7.out.st.2 hB2.out.size (fun k hk => by injection hk with hk; omega))
              have HB : Hid (Below w.heap.size w (w7.setCell ⟨w.heap.size, 0, none⟩ (.slice B l.length d))) := hid (hBX.out.setCell (Nat.le_refl _) _)
              have Hpp := hid (show Fr w.heap.size (PP ⟨B, l.length, d, l⟩) (w7.setCell ⟨w.heap.size, 0, none⟩ (.slice B l.length d)) from Fr.less (M := w.heap.size) (Fr.grown (fun h hg => PP.go h hg) (H7.out.pp (by omega)) (setCell_grown w7 ⟨w.heap.size, 0, none⟩ _) (fun k hk => by injection hk with hk; have : w.heap.size = k := hk; omega)) (by omega))
              clear hf
              go_wp2_with fail
              refine bodyPost_ret (v := .tuple #[.agg #[.slice B l.length d], .int .i64 0, .int .i64 0, .int .i64 0]) (by simp [results, Tryz.results36, go_sem, v0, s0, hsz]) rfl ?_
              rw [HPar.out]
              exact ⟨⟨B, l.length, d, l⟩, rfl, rfl, Hpp.out, HB.out⟩
          | false =>
            have HPar0 : Hid (parseR s = ([], (nxt le).line, (nxt le).col, ee)) := hid (par_err HR2.out HPg.out hee)
            by_cases hkl : k < L.length
            · as_aux_lemma =>
              have HneL := hid (show le ≠ [] by
                  intro h0
                  rw [h0] at hl
                  have h1 := congrArg List.length hl
                  rw [List.length_drop] at h1
                  simp at h1
                  omega)
              have HPar := HPar0
              clear HPar0 hf hl HR2 HPg
              obtain ⟨k2, hk2, hl2, hfp⟩ := H7.out.st.1.at_
              simp only at hl2 hfp
              have hkl2 : k2 < L.length := by
                rcases Nat.lt_or_ge k2 L.length with h | h
                · exact h
                · exact absurd (by rw [← hl2, nxt_end h]) HneL.out
              obtain ⟨a, hAa, hab, -, a2, a3⟩ := H7.out.st.1.arg.cell hkl2
              subst hAa
              rw [← nxt_drop hkl2, hl2] at a2 a3
              obtain ⟨⟨c0, c1, c2⟩, -⟩ := hfp.three
              have hltb := H7.out.st.1.lt
              have hfew := H7.out.st.1.few
              have hna : a.block ≠ w.heap.size := by
                intro hq
                have h1 := a2
                rw [show (a.add (k2 * 4)).block = w.heap.size by rw [add_block]; exact hq] at h1
                rw [hf7.out.cell] at h1
                simp at h1
              have hna2 : w.heap.size ≠ a.block := fun h => hna h.symm
              have hab2 : (a.add (k2 * 4)).block < w7.heap.size := by rw [add_block]; exact hab
              have v0 := hf7.out.cell 0
              have s0 := hf7.out.frozen 0
              have hsz := hf7.out.lt
              have hBX := hid (hB2.out.grown H7.out.st.2 hB2.out.size (fun k hk => by injection hk with hk; omega))
              have HB : Hid (∀ q, Below w.heap.size w ((w7.drewN q).setCell ⟨w.heap.size, 0, none⟩ (.slice none 0 0))) := hid (fun q => (below_drewN hBX.out q).setCell (Nat.le_refl _) _)
              generalize (nxt le).line = ln at *
              generalize (nxt le).col = cl at *
              have hS0 : ((fun w' => Below w.heap.size w w' ∧ w'.cell? ⟨w.heap.size, 0, none⟩ = some (.slice none 0 0) ∧ w'.frozen? ⟨w.heap.size, 0, none⟩ = false ∧ w.heap.size < w'.heap.size ∧ w'.cell? ⟨b, 1, none⟩ = some (.int .i64 (k2 : Int)) ∧ w'.cell? ⟨b, 2, none⟩ = some (.int .i64 ee) ∧ w'.cell? ⟨(a.add (k2 * 4)).block, (a.add (k2 * 4)).off + 2, none⟩ = some (.int .i64 (ln : Int)) ∧ w'.cell? ⟨(a.add (k2 * 4)).block, (a.add (k2 * 4)).off + 3, none⟩ = some (.int .i64 (cl : Int))) (w7.drew)) := ⟨below_drewN hBX.out 1, v0, s0, hsz, c1, c2, a2, a3⟩
              have HS0 := hid hS0
              have hSt : ∀ w', (fun w' => Below w.heap.size w w' ∧ w'.cell? ⟨w.heap.size, 0, none⟩ = some (.slice none 0 0) ∧ w'.frozen? ⟨w.heap.size, 0, none⟩ = false ∧ w.heap.size < w'.heap.size ∧ w'.cell? ⟨b, 1, none⟩ = some (.int .i64 (k2 : Int)) ∧ w'.cell? ⟨b, 2, none⟩ = some (.int .i64 ee) ∧ w'.cell? ⟨(a.add (k2 * 4)).block, (a.add (k2 * 4)).off + 2, none⟩ = some (.int .i64 (ln : Int)) ∧ w'.cell? ⟨(a.add (k2 * 4)).block, (a.add (k2 * 4)).off + 3, none⟩ = some (.int .i64 (cl : Int))) w' → (fun w' => Below w.heap.size w w' ∧ w'.cell? ⟨w.heap.size, 0, none⟩ = some (.slice none 0 0) ∧ w'.frozen? ⟨w.heap.size, 0, none⟩ = false ∧ w.heap.size < w'.heap.size ∧ w'.cell? ⟨b, 1, none⟩ = some (.int .i64 (k2 : Int)) ∧ w'.cell? ⟨b, 2, none⟩ = some (.int .i64 ee) ∧ w'.cell? ⟨(a.add (k2 * 4)).block, (a.add (k2 * 4)).off + 2, none⟩ = some (.int .i64 (ln : Int)) ∧ w'.cell? ⟨(a.add (k2 * 4)).block, (a.add (k2 * 4)).off + 3, none⟩ = some (.int .i64 (cl : Int))) (w'.setCell ⟨w.heap.size, 0, none⟩ (.slice none 0 0)) := by
                rintro w' ⟨h0, h1, h2, h3, h4, h5, h6, h7⟩
                refine ⟨h0.setCell (Nat.le_refl _) _, World.cell?_setCell_same (w := w') (a := ⟨w.heap.size, 0, none⟩) (v := .slice none 0 0) h1, by rw [World.frozen?_setCell]; exact h2, by rw [World.size_setCell]; exact h3, ?_, ?_, ?_, ?_⟩
                · exact (World.cell?_setCell_far _ _ _ _ (by show w.heap.size ≠ b; omega)).trans h4
                · exact (World.cell?_setCell_far _ _ _ _ (by show w.heap.size ≠ b; omega)).trans h5
                · exact (World.cell?_setCell_far _ _ _ _ (by show w.heap.size ≠ (a.add (k2 * 4)).block; rw [add_block]; exact hna2)).trans h6
                · exact (World.cell?_setCell_far _ _ _ _ (by show w.heap.size ≠ (a.add (k2 * 4)).block; rw [add_block]; exact hna2)).trans h7
              have HSt := hid hSt
              clear hl2 hfp hS0 hSt
              go_wp2_with fail
              clear c0 c1 c2 v0 s0 hsz a2 a3
              go_region_held3 (fun w' => Below w.heap.size w w' ∧ w'.cell? ⟨w.heap.size, 0, none⟩ = some (.slice none 0 0) ∧ w'.frozen? ⟨w.heap.size, 0, none⟩ = false ∧ w.heap.size < w'.heap.size ∧ w'.cell? ⟨b, 1, none⟩ = some (.int .i64 (k2 : Int)) ∧ w'.cell? ⟨b, 2, none⟩ = some (.int .i64 ee) ∧ w'.cell? ⟨(a.add (k2 * 4)).block, (a.add (k2 * 4)).off + 2, none⟩ = some (.int .i64 (ln : Int)) ∧ w'.cell? ⟨(a.add (k2 * 4)).block, (a.add (k2 * 4)).off + 3, none⟩ = some (.int .i64 (cl : Int)))
                (first | exact HS0.out | exact HSt.out _ (by assumption) | assumption)
                (fail)
              go_wp2_with fail
              rename (Below _ _ _ ∧ _) => hh
              obtain ⟨hB9, v9, s9, hz9, -⟩ := hh
              refine bodyPost_ret (v := .tuple #[.agg #[.slice none 0 0], .int .i64 (ln : Int), .int .i64 (cl : Int), .int .i64 ee]) (by simp [results, Tryz.results36, go_sem, v9, s9, hz9]) rfl ?_
              rw [HPar.out]
              exact ⟨⟨none, 0, 0, []⟩, rfl, rfl, pp_nil _ _, hB9⟩
            · as_aux_lemma =>
              have hle : le = [] := by rw [← hl, nxt_end (by omega)]
              have hkL : k = L.length := by omega
              have HPar : Hid (parseR s = ([], 0, 0, ee)) := hid (by rw [HPar0.out, hle]; rfl)
              subst hkL
              clear HPar0 hl HR2 HPg hkl
              obtain ⟨⟨c0, c1, c2⟩, -⟩ := hf.three
              have hltb := H7.out.st.1.lt
              have v0 := hf7.out.cell 0
              have s0 := hf7.out.frozen 0
              have hsz := hf7.out.lt
              have hBX := hid (hB2.out.grown H7.out.st.2 hB2.out.size (fun k hk => by injection hk with hk; omega))
              have HB : Hid (∀ q, Below w.heap.size w ((w7.drewN q).setCell ⟨w.heap.size, 0, none⟩ (.slice none 0 0))) := hid (fun q => (below_drewN hBX.out q).setCell (Nat.le_refl _) _)
              clear hf
              go_wp2_with fail
              go_region_law (fail)
              all_goals
                go_wp2_with fail
                refine bodyPost_ret (v := .tuple #[.agg #[.slice none 0 0], .int .i64 0, .int .i64 0, .int .i64 ee]) (by simp [results, Tryz.results36, go_sem, v0, s0, hsz]) rfl ?_
                rw [HPar.out]
                exact ⟨⟨none, 0, 0, []⟩, rfl, rfl, pp_nil _ _, HB.out 1⟩
        | true =>
          have HB0 := hid hb
          clear hb
          cases n with
          | zero =>
            have hl8 : l.length = 8 := by omega
            go_wp2_with fail
            refine (refIs_any b A c L σ4 kwFunc _ H.out.st.1).mono ?_
            rw [HB0.out]
            rintro e w7 ⟨rfl, hb7⟩
            have H7 := hid (H.out.below hb7)
            have hf7 := hid (hfR.out.below hb7 hfR.out.lt)
            clear hb7 H hfR
            have q0 := H7.out.f3.cell 0
            have tl : ((l.length : Int) == 8) = true := by simp; omega
            go_wp2_with fail
            clear q0 tl
            refine (refFail_any b A c L σ4 7 _ H7.out.st.1).mono ?_
            rintro e w8 ⟨rfl, h8⟩
            obtain ⟨le, ee⟩ := σ4
            have hfr := hid (show failR 7 ⟨le, ee⟩ = ⟨le, 7⟩ by
              have h0 : ee = 0 := (isK_ne HB0.out).1
              unfold failR
              simp [h0])
            rw [hfr.out] at h8
            have HneL := hid (show le ≠ [] from isK_l HB0.out)
            have HPg := hid (progR_of (σ0 := σ3) (done := l.map FH.f) (le := le) (ee := 7) (by rw [hneed.out]; exact (HL.out.full HB0.out).trans (by rw [hfr.out])))
            have HPar : Hid (parseR s = ([], (nxt le).line, (nxt le).col, 7)) := hid (par_err HR2.out HPg.out rfl)
            have H8 := hid (H7.out.call h8)
            have hf8 := hid (h8.kept hf7.out (by omega))
            clear h8 H7 hf7 HR2 HPg
            obtain ⟨k2, hk2, hl2, hfp⟩ := H8.out.st.1.at_
            simp only at hl2 hfp
            have hkl2 : k2 < L.length := by
              rcases Nat.lt_or_ge k2 L.length with h | h
              · exact h
              · exact absurd (by rw [← hl2, nxt_end h]) HneL.out
            obtain ⟨a, hAa, hab, -, a2, a3⟩ := H8.out.st.1.arg.cell hkl2
            subst hAa
            rw [← nxt_drop hkl2, hl2] at a2 a3
            obtain ⟨⟨c0, c1, c2⟩, -⟩ := hfp.three
            have hltb := H8.out.st.1.lt
            have hfew := H8.out.st.1.few
            have hna : a.block ≠ w.heap.size := by
              intro hq
              have h1 := a2
              rw [show (a.add (k2 * 4)).block = w.heap.size by rw [add_block]; exact hq] at h1
              rw [hf8.out.cell] at h1
              simp at h1
            have hna2 : w.heap.size ≠ a.block := fun h => hna h.symm
            have hab2 : (a.add (k2 * 4)).block < w8.heap.size := by rw [add_block]; exact hab
            have v0 := hf8.out.cell 0
            have s0 := hf8.out.frozen 0
            have hsz := hf8.out.lt
            have hBX := hid (hB2.out.grown H8.out.st.2 hB2.out.size (fun k hk => by injection hk with hk; omega))
            have HB : Hid (∀ q, Below w.heap.size w ((w8.drewN q).setCell ⟨w.heap.size, 0, none⟩ (.slice none 0 0))) := hid (fun q => (below_drewN hBX.out q).setCell (Nat.le_refl _) _)
            generalize (nxt le).line = ln at *
            generalize (nxt le).col = cl at *
            have hS0 : ((fun w' => Below w.heap.size w w' ∧ w'.cell? ⟨w.heap.size, 0, none⟩ = some (.slice none 0 0) ∧ w'.frozen? ⟨w.heap.size, 0, none⟩ = false ∧ w.heap.size < w'.heap.size ∧ w'.cell? ⟨b, 1, none⟩ = some (.int .i64 (k2 : Int)) ∧ w'.cell? ⟨b, 2, none⟩ = some (.int .i64 7) ∧ w'.cell? ⟨(a.add (k2 * 4)).block, (a.add (k2 * 4)).off + 2, none⟩ = some (.int .i64 (ln : Int)) ∧ w'.cell? ⟨(a.add (k2 * 4)).block, (a.add (k2 * 4)).off + 3, none⟩ = some (.int .i64 (cl : Int))) (w8.drew)) := ⟨below_drewN hBX.out 1, v0, s0, hsz, c1, c2, a2, a3⟩
            have HS0 := hid hS0
            have hSt : ∀ w', (fun w' => Below w.heap.size w w' ∧ w'.cell? ⟨w.heap.size, 0, none⟩ = some (.slice none 0 0) ∧ w'.frozen? ⟨w.heap.size, 0, none⟩ = false ∧ w.heap.size < w'.heap.size ∧ w'.cell? ⟨b, 1, none⟩ = some (.int .i64 (k2 : Int)) ∧ w'.cell? ⟨b, 2, none⟩ = some (.int .i64 7) ∧ w'.cell? ⟨(a.add (k2 * 4)).block, (a.add (k2 * 4)).off + 2, none⟩ = some (.int .i64 (ln : Int)) ∧ w'.cell? ⟨(a.add (k2 * 4)).block, (a.add (k2 * 4)).off + 3, none⟩ = some (.int .i64 (cl : Int))) w' → (fun w' => Below w.heap.size w w' ∧ w'.cell? ⟨w.heap.size, 0, none⟩ = some (.slice none 0 0) ∧ w'.frozen? ⟨w.heap.size, 0, none⟩ = false ∧ w.heap.size < w'.heap.size ∧ w'.cell? ⟨b, 1, none⟩ = some (.int .i64 (k2 : Int)) ∧ w'.cell? ⟨b, 2, none⟩ = some (.int .i64 7) ∧ w'.cell? ⟨(a.add (k2 * 4)).block, (a.add (k2 * 4)).off + 2, none⟩ = some (.int .i64 (ln : Int)) ∧ w'.cell? ⟨(a.add (k2 * 4)).block, (a.add (k2 * 4)).off + 3, none⟩ = some (.int .i64 (cl : Int))) (w'.setCell ⟨w.heap.size, 0, none⟩ (.slice none 0 0)) := by
              rintro w' ⟨h0, h1, h2, h3, h4, h5, h6, h7⟩
              refine ⟨h0.setCell (Nat.le_refl _) _, World.cell?_setCell_same (w := w') (a := ⟨w.heap.size, 0, none⟩) (v := .slice none 0 0) h1, by rw [World.frozen?_setCell]; exact h2, by rw [World.size_setCell]; exact h3, ?_, ?_, ?_, ?_⟩
              · exact (World.cell?_setCell_far _ _ _ _ (by show w.heap.size ≠ b; omega)).trans h4
              · exact (World.cell?_setCell_far _ _ _ _ (by show w.heap.size ≠ b; omega)).trans h5
              · exact (World.cell?_setCell_far _ _ _ _ (by show w.heap.size ≠ (a.add (k2 * 4)).block; rw [add_block]; exact hna2)).trans h6
              · exact (World.cell?_setCell_far _ _ _ _ (by show w.heap.size ≠ (a.add (k2 * 4)).block; rw [add_block]; exact hna2)).trans h7
            have HSt := hid hSt
            clear hl2 hfp hS0 hSt
            go_wp2_with fail
            clear c0 c1 c2 v0 s0 hsz a2 a3
            go_region_held3 (fun w' => Below w.heap.size w w' ∧ w'.cell? ⟨w.heap.size, 0, none⟩ = some (.slice none 0 0) ∧ w'.frozen? ⟨w.heap.size, 0, none⟩ = false ∧ w.heap.size < w'.heap.size ∧ w'.cell? ⟨b, 1, none⟩ = some (.int .i64 (k2 : Int)) ∧ w'.cell? ⟨b, 2, none⟩ = some (.int .i64 7) ∧ w'.cell? ⟨(a.add (k2 * 4)).block, (a.add (k2 * 4)).off + 2, none⟩ = some (.int .i64 (ln : Int)) ∧ w'.cell? ⟨(a.add (k2 * 4)).block, (a.add (k2 * 4)).off + 3, none⟩ = some (.int .i64 (cl : Int)))
              (first | exact HS0.out | exact HSt.out _ (by assumption) | assumption)
              (fail)
            go_wp2_with fail
            rename (Below _ _ _ ∧ _) => hh
            obtain ⟨hB9, v9, s9, hz9, -⟩ := hh
            refine bodyPost_ret (v := .tuple #[.agg #[.slice none 0 0], .int .i64 (ln : Int), .int .i64 (cl : Int), .int .i64 7]) (by simp [results, Tryz.results36, go_sem, v9, s9, hz9]) rfl ?_
            rw [HPar.out]
            exact ⟨⟨none, 0, 0, []⟩, rfl, rfl, pp_nil _ _, hB9⟩
          | succ n =>
            have hl8 : l.length < 8 := by omega
            have tl : ((l.length : Int) == 8) = false := by simp; omega
            go_wp2_with fail
            refine (refIs_any b A c L σ4 kwFunc _ H.out.st.1).mono ?_
            rw [HB0.out]
            rintro e w7 ⟨rfl, hb7⟩
            have H7 := hid (H.out.below hb7)
            have hf7 := hid (hfR.out.below hb7 hfR.out.lt)
            clear hb7 H hfR
            have q0 := H7.out.f3.cell 0
            have hzq := H7.out.f3.lt
            go_wp2_with fail
            have H7d : Hid (Po wp b A c L σ4 (.slice B l.length d) l w7.drew) := hid (H7.out.drewN 1)
            have HCc := hid (fun w' (h' : Rst w' b A c L σ4) => refFunc_any b A c L σ4 w' h' HS.out)
            go_region_law (first
              | (go_simp
                 go_at_call 71
                 go_must (
                 refine (HCc.out _ H7d.out.st.1).mono ?_
                 rintro e w8 ⟨x, he, hxt, hfx, h8⟩
                 unfold agF at he
                 subst he
                 have H8 := hid (H7d.out.call h8)
                 have hf8 := hid (h8.kept (w := w7.drew) hf7.out (by omega))
                 have Hx := hid (FrV.fresh (N := wp.heap.size + 1) (v := .slice B l.length d) hfx H7d.out.size (fun k hk => (H7d.out.own.lt k hk).2))
                 have Hxt := hid hxt
                 have q0 := H8.out.f3.cell 0
                 have hzq := H8.out.f3.lt
                 clear hfx h8 hxt))
              | ((refine step_append_lies _ (by rfl) _ _ 23 (by rfl) (wp.heap.size + 1) 65 i3 _ 2 40 Tryz.underlying23 Hi.out Hz0.out Hz1.out Hz2.out (by rfl) (by decide) (.slice B l.length d) l.length (l.flatMap fhc) (by rfl) (by exact World.ownsRow.alloc H8.out.own _)
                    ⟨_, 0, none⟩ 1 1 (fhc x) (by rfl) rfl (by exact two_new _ _ _ _) (one_two _ _ _ _) (by decide) (by unfold maxLen; omega) (by omega) (by have := H8.out.size; rw [World.size_alloc]; omega) _ rfl ?_)
                 intro g9 cap9 w9 hown9 hgr9 hat9 hlt9
                 obtain ⟨⟨y0, y1, y2⟩, hT9⟩ := Po.push (x := x) H8.out ((Below.refl _ _).alloc (Nat.le_refl _) _) Hx.out hgr9 hown9 hat9
                 have H9 := hid hT9
                 have hne9 : ∀ k, (Value.slice B l.length d).ownBlock = some k → wp.heap.size + 1 ≤ k := fun k hk => (H8.out.own.lt k hk).1
                 have hf9 := hid (((hf8.out.alloc _).grown hgr9 (fun e => by have := hne9 _ e.symm; omega)).far (p := ⟨wp.heap.size, 0, none⟩) (by show w.heap.size ≠ wp.heap.size; omega) (.slice (some ⟨g9, 0, none⟩) (l.length + 1) cap9))
                 clear hown9 hgr9 hat9 hlt9 hT9 hne9))
            all_goals
              clear q0 hzq
              generalize w9.setCell ⟨wp.heap.size, 0, none⟩ (.slice (some ⟨g9, 0, none⟩) (l.length + 1) cap9) = w10 at *
              clear y0 y1 y2
              go_wp2_with fail
              go_roundw
              case rel => exact ⟨l ++ [x], n, (funcR σ4).2, _, H9.out, by have := HL.out.step HB0.out; rw [List.map_append]; rw [← Hxt.out] at this; exact this, hf9.out⟩
              case measure =>
                have q0 := H9.out.f3.cell 0
                rw [Hm.out, lenAt0_of q0]
                omega
    | false =>
      have hneed := hid (show needR (isK kwFunc) ⟨L, 0⟩ = failR 4 ⟨L, 0⟩ by unfold needR; rw [hb0]; rfl)
      clear hb0
      go_wp2_with fail
      refine (refFail_any b A c L ⟨L, 0⟩ 4 _ H5.out.st.1).mono ?_
      rintro e w6 ⟨rfl, h6⟩
      have H6 := hid (H5.out.call h6)
      have hf6 := hid (h6.kept hf5.out (by omega))
      clear h6 H5 hf5
      generalize failR 4 ⟨L, 0⟩ = σ3 at *
      generalize hσ0 : (⟨L, 0⟩ : Rs) = σ0 at *
      clear hσ0
      go_wp2_with fail
      go_loopw [] (fun wr => ∃ (l : List FH) (n : Nat) (σ4 : Rs) (v : Value), Hid (Po wp b A c L σ4 v l wr) ∧ Hid (Lrel (isK kwFunc) funcR 8 σ3 (l.map FH.f) n σ4) ∧ Hid (Fb wr w.heap.size #[.slice none 0 0] 25)) (fun wr => 9 - lenAt0 wp.heap.size wr)
      case atStart => exact ⟨[], 8, σ3, _, H6.out, Lrel.start, hf6.out⟩
      case round =>
        clear H6 hf6
        obtain ⟨l, n, σ4, v, H, HL, hfR⟩ := hrel
        obtain ⟨B, d, hv⟩ := own_any_slice H.out.own
        subst hv
        have hlen : l.length + n = 8 := by have := HL.out.1; simpa using this
        have q0 := H.out.f3.cell 0
        have Hm := hid (lenAt0_of q0)
        clear q0
        cases hb : isK kwFunc σ4 with
        | false =>
          have HB0 := hid hb
          clear hb
          go_wp2_with fail
          refine (refIs_any b A c L σ4 kwFunc _ H.out.st.1).mono ?_
          rw [HB0.out]
          rintro e w7 ⟨rfl, hb7⟩
          have H7 := hid (H.out.below hb7)
          have hf7 := hid (hfR.out.below hb7 hfR.out.lt)
          clear hb7 H hfR
          obtain ⟨le, ee⟩ := σ4
          have HPg := hid (progR_of (σ0 := σ0) (done := l.map FH.f) (le := le) (ee := ee) (by rw [hneed.out]; exact HL.out.stop HB0.out))
          obtain ⟨k, hk, hl, hf⟩ := H7.out.st.1.at_
          simp only at hl hf
          cases hee : (ee == 0) with
          | true =>
            by_cases hkl : k < L.length
            · as_aux_lemma =>
              have HneL := hid (show le ≠ [] by
                  intro h0
                  rw [h0] at hl
                  have h1 := congrArg List.length hl
                  rw [List.length_drop] at h1
                  simp at h1
                  omega)
              have hfr := hid (show failR 4 ⟨le, ee⟩ = ⟨le, 4⟩ by unfold failR; simp [hee])
              have HPar : Hid (parseR s = ([], (nxt le).line, (nxt le).col, 4)) := hid (par_more HR2.out HPg.out hee HneL.out hfr.out)
              obtain ⟨⟨c0, c1, c2⟩, -⟩ := hf.three
              have hfew0 := H7.out.st.1.few
              clear hf hl HR2 HPg
              go_wp2_with fail
              refine (refFail_any b A c L ⟨le, ee⟩ 4 _ H7.out.st.1).mono ?_
              rintro e w8 ⟨rfl, h8⟩
              rw [hfr.out] at h8
              have H8 := hid (H7.out.call h8)
              have hf8 := hid (h8.kept hf7.out (by omega))
              clear h8 H7 hf7 c0 c1 c2 hfew0
              obtain ⟨k2, hk2, hl2, hfp⟩ := H8.out.st.1.at_
              simp only at hl2 hfp
              have hkl2 : k2 < L.length := by
                rcases Nat.lt_or_ge k2 L.length with h | h
                · exact h
                · exact absurd (by rw [← hl2, nxt_end h]) HneL.out
              obtain ⟨a, hAa, hab, -, a2, a3⟩ := H8.out.st.1.arg.cell hkl2
              subst hAa
              rw [← nxt_drop hkl2, hl2] at a2 a3
              obtain ⟨⟨c0, c1, c2⟩, -⟩ := hfp.three
              have hltb := H8.out.st.1.lt
              have hfew := H8.out.st.1.few
              have hna : a.block ≠ w.heap.size := by
                intro hq
                have h1 := a2
                rw [show (a.add (k2 * 4)).block = w.heap.size by rw [add_block]; exact hq] at h1
                rw [hf8.out.cell] at h1
                simp at h1
              have hna2 : w.heap.size ≠ a.block := fun h => hna h.symm
              have hab2 : (a.add (k2 * 4)).block < w8.heap.size := by rw [add_block]; exact hab
              have v0 := hf8.out.cell 0
              have s0 := hf8.out.frozen 0
              have hsz := hf8.out.lt
              have hBX := hid (hB2.out.grown H8.out.st.2 hB2.out.size (fun k hk => by injection hk with hk; omega))
              have HB : Hid (∀ q, Below w.heap.size w ((w8.drewN q).setCell ⟨w.heap.size, 0, none⟩ (.slice none 0 0))) := hid (fun q => (below_drewN hBX.out q).setCell (Nat.le_refl _) _)
              generalize (nxt le).line = ln at *
              generalize (nxt le).col = cl at *
              have hS0 : ((fun w' => Below w.heap.size w w' ∧ w'.cell? ⟨w.heap.size, 0, none⟩ = some (.slice none 0 0) ∧ w'.frozen? ⟨w.heap.size, 0, none⟩ = false ∧ w.heap.size < w'.heap.size ∧ w'.cell? ⟨b, 1, none⟩ = some (.int .i64 (k2 : Int)) ∧ w'.cell? ⟨b, 2, none⟩ = some (.int .i64 4) ∧ w'.cell? ⟨(a.add (k2 * 4)).block, (a.add (k2 * 4)).off + 2, none⟩ = some (.int .i64 (ln : Int)) ∧ w'.cell? ⟨(a.add (k2 * 4)).block, (a.add (k2 * 4)).off + 3, none⟩ = some (.int .i64 (cl : Int))) (w8.drew)) := ⟨below_drewN hBX.out 1, v0, s0, hsz, c1, c2, a2, a3⟩
              have HS0 := hid hS0
              have hSt : ∀ w', (fun w' => Below w.heap.size w w' ∧ w'.cell? ⟨w.heap.size, 0, none⟩ = some (.slice none 0 0) ∧ w'.frozen? ⟨w.heap.size, 0, none⟩ = false ∧ w.heap.size < w'.heap.size ∧ w'.cell? ⟨b, 1, none⟩ = some (.int .i64 (k2 : Int)) ∧ w'.cell? ⟨b, 2, none⟩ = some (.int .i64 4) ∧ w'.cell? ⟨(a.add (k2 * 4)).block, (a.add (k2 * 4)).off + 2, none⟩ = some (.int .i64 (ln : Int)) ∧ w'.cell? ⟨(a.add (k2 * 4)).block, (a.add (k2 * 4)).off + 3, none⟩ = some (.int .i64 (cl : Int))) w' → (fun w' => Below w.heap.size w w' ∧ w'.cell? ⟨w.heap.size, 0, none⟩ = some (.slice none 0 0) ∧ w'.frozen? ⟨w.heap.size, 0, none⟩ = false ∧ w.heap.size < w'.heap.size ∧ w'.cell? ⟨b, 1, none⟩ = some (.int .i64 (k2 : Int)) ∧ w'.cell? ⟨b, 2, none⟩ = some (.int .i64 4) ∧ w'.cell? ⟨(a.add (k2 * 4)).block, (a.add (k2 * 4)).off + 2, none⟩ = some (.int .i64 (ln : Int)) ∧ w'.cell? ⟨(a.add (k2 * 4)).block, (a.add (k2 * 4)).off + 3, none⟩ = some (.int .i64 (cl : Int))) (w'.setCell ⟨w.heap.size, 0, none⟩ (.slice none 0 0)) := by
                rintro w' ⟨h0, h1, h2, h3, h4, h5, h6, h7⟩
                refine ⟨h0.setCell (Nat.le_refl _) _, World.cell?_setCell_same (w := w') (a := ⟨w.heap.size, 0, none⟩) (v := .slice none 0 0) h1, by rw [World.frozen?_setCell]; exact h2, by rw [World.size_setCell]; exact h3, ?_, ?_, ?_, ?_⟩
                · exact (World.cell?_setCell_far _ _ _ _ (by show w.heap.size ≠ b; omega)).trans h4
                · exact (World.cell?_setCell_far _ _ _ _ (by show w.heap.size ≠ b; omega)).trans h5
                · exact (World.cell?_setCell_far _ _ _ _ (by show w.heap.size ≠ (a.add (k2 * 4)).block; rw [add_block]; exact hna2)).trans h6
                · exact (World.cell?_setCell_far _ _ _ _ (by show w.heap.size ≠ (a.add (k2 * 4)).block; rw [add_block]; exact hna2)).trans h7
              have HSt := hid hSt
              clear hl2 hfp hS0 hSt
              go_wp2_with fail
              clear c0 c1 c2 v0 s0 hsz a2 a3
              go_region_held3 (fun w' => Below w.heap.size w w' ∧ w'.cell? ⟨w.heap.size, 0, none⟩ = some (.slice none 0 0) ∧ w'.frozen? ⟨w.heap.size, 0, none⟩ = false ∧ w.heap.size < w'.heap.size ∧ w'.cell? ⟨b, 1, none⟩ = some (.int .i64 (k2 : Int)) ∧ w'.cell? ⟨b, 2, none⟩ = some (.int .i64 4) ∧ w'.cell? ⟨(a.add (k2 * 4)).block, (a.add (k2 * 4)).off + 2, none⟩ = some (.int .i64 (ln : Int)) ∧ w'.cell? ⟨(a.add (k2 * 4)).block, (a.add (k2 * 4)).off + 3, none⟩ = some (.int .i64 (cl : Int)))
                (first | exact HS0.out | exact HSt.out _ (by assumption) | assumption)
                (fail)
              go_wp2_with fail
              rename (Below _ _ _ ∧ _) => hh
              obtain ⟨hB9, v9, s9, hz9, -⟩ := hh
              refine bodyPost_ret (v := .tuple #[.agg #[.slice none 0 0], .int .i64 (ln : Int), .int .i64 (cl : Int), .int .i64 4]) (by simp [results, Tryz.results36, go_sem, v9, s9, hz9]) rfl ?_
              rw [HPar.out]
              exact ⟨⟨none, 0, 0, []⟩, rfl, rfl, pp_nil _ _, hB9⟩
            · as_aux_lemma =>
              have hle : le = [] := by rw [← hl, nxt_end (by omega)]
              have hkL : k = L.length := by omega
              have HPar : Hid (parseR s = (l.map FH.f, 0, 0, 0)) := hid (par_end HR2.out HPg.out hee hle)
              subst hkL
              clear hl HR2 HPg hkl
              obtain ⟨⟨c0, c1, c2⟩, -⟩ := hf.three
              have hltb := H7.out.st.1.lt
              have v0 := hf7.out.cell 0
              have s0 := hf7.out.frozen 0
              have hsz := hf7.out.lt
              have k0 := H7.out.f3.cell 0
              have hszX := H7.out.f3.lt
              have hBX := hid (hB2.out.grown H7.out.st.2 hB2.out.size (fun k hk => by injection hk with hk; omega))
              have HB : Hid (Below w.heap.size w (w7.setCell ⟨w.heap.size, 0, none⟩ (.slice B l.length d))) := hid (hBX.out.setCell (Nat.le_refl _) _)
              have Hpp := hid (show Fr w.heap.size (PP ⟨B, l.length, d, l⟩) (w7.setCell ⟨w.heap.size, 0, none⟩ (.slice B l.length d)) from Fr.less (M := w.heap.size) (Fr.grown (fun h hg => PP.go h hg) (H7.out.pp (by omega)) (setCell_grown w7 ⟨w.heap.size, 0, none⟩ _) (fun k hk => by injection hk with hk; have : w.heap.size = k := hk; omega)) (by omega))
              clear hf
              go_wp2_with fail
              refine bodyPost_ret (v := .tuple #[.agg #[.slice B l.length d], .int .i64 0, .int .i64 0, .int .i64 0]) (by simp [results, Tryz.results36, go_sem, v0, s0, hsz]) rfl ?_
              rw [HPar.out]
              exact ⟨⟨B, l.length, d, l⟩, rfl, rfl, Hpp.out, HB.out⟩
          | false =>
            have HPar0 : Hid (parseR s = ([], (nxt le).line, (nxt le).col, ee)) := hid (par_err HR2.out HPg.out hee)
            by_cases hkl : k < L.length
            · as_aux_lemma =>
              have HneL := hid (show le ≠ [] by
                  intro h0
                  rw [h0] at hl
                  have h1 := congrArg List.length hl
                  rw [List.length_drop] at h1
                  simp at h1
                  omega)
              have HPar := HPar0
              clear HPar0 hf hl HR2 HPg
              obtain ⟨k2, hk2, hl2, hfp⟩ := H7.out.st.1.at_
              simp only at hl2 hfp
              have hkl2 : k2 < L.length := by
                rcases Nat.lt_or_ge k2 L.length with h | h
                · exact h
                · exact absurd (by rw [← hl2, nxt_end h]) HneL.out
              obtain ⟨a, hAa, hab, -, a2, a3⟩ := H7.out.st.1.arg.cell hkl2
              subst hAa
              rw [← nxt_drop hkl2, hl2] at a2 a3
              obtain ⟨⟨c0, c1, c2⟩, -⟩ := hfp.three
              have hltb := H7.out.st.1.lt
              have hfew := H7.out.st.1.few
              have hna : a.block ≠ w.heap.size := by
                intro hq
                have h1 := a2
                rw [show (a.add (k2 * 4)).block = w.heap.size by rw [add_block]; exact hq] at h1
                rw [hf7.out.cell] at h1
                simp at h1
              have hna2 : w.heap.size ≠ a.block := fun h => hna h.symm
              have hab2 : (a.add (k2 * 4)).block < w7.heap.size := by rw [add_block]; exact hab
              have v0 := hf7.out.cell 0
              have s0 := hf7.out.frozen 0
              have hsz := hf7.out.lt
              have hBX := hid (hB2.out.grown H7.out.st.2 hB2.out.size (fun k hk => by injection hk with hk; omega))
              have HB : Hid (∀ q, Below w.heap.size w ((w7.drewN q).setCell ⟨w.heap.size, 0, none⟩ (.slice none 0 0))) := hid (fun q => (below_drewN hBX.out q).setCell (Nat.le_refl _) _)
              generalize (nxt le).line = ln at *
              generalize (nxt le).col = cl at *
              have hS0 : ((fun w' => Below w.heap.size w w' ∧ w'.cell? ⟨w.heap.size, 0, none⟩ = some (.slice none 0 0) ∧ w'.frozen? ⟨w.heap.size, 0, none⟩ = false ∧ w.heap.size < w'.heap.size ∧ w'.cell? ⟨b, 1, none⟩ = some (.int .i64 (k2 : Int)) ∧ w'.cell? ⟨b, 2, none⟩ = some (.int .i64 ee) ∧ w'.cell? ⟨(a.add (k2 * 4)).block, (a.add (k2 * 4)).off + 2, none⟩ = some (.int .i64 (ln : Int)) ∧ w'.cell? ⟨(a.add (k2 * 4)).block, (a.add (k2 * 4)).off + 3, none⟩ = some (.int .i64 (cl : Int))) (w7.drew)) := ⟨below_drewN hBX.out 1, v0, s0, hsz, c1, c2, a2, a3⟩
              have HS0 := hid hS0
              have hSt : ∀ w', (fun w' => Below w.heap.size w w' ∧ w'.cell? ⟨w.heap.size, 0, none⟩ = some (.slice none 0 0) ∧ w'.frozen? ⟨w.heap.size, 0, none⟩ = false ∧ w.heap.size < w'.heap.size ∧ w'.cell? ⟨b, 1, none⟩ = some (.int .i64 (k2 : Int)) ∧ w'.cell? ⟨b, 2, none⟩ = some (.int .i64 ee) ∧ w'.cell? ⟨(a.add (k2 * 4)).block, (a.add (k2 * 4)).off + 2, none⟩ = some (.int .i64 (ln : Int)) ∧ w'.cell? ⟨(a.add (k2 * 4)).block, (a.add (k2 * 4)).off + 3, none⟩ = some (.int .i64 (cl : Int))) w' → (fun w' => Below w.heap.size w w' ∧ w'.cell? ⟨w.heap.size, 0, none⟩ = some (.slice none 0 0) ∧ w'.frozen? ⟨w.heap.size, 0, none⟩ = false ∧ w.heap.size < w'.heap.size ∧ w'.cell? ⟨b, 1, none⟩ = some (.int .i64 (k2 : Int)) ∧ w'.cell? ⟨b, 2, none⟩ = some (.int .i64 ee) ∧ w'.cell? ⟨(a.add (k2 * 4)).block, (a.add (k2 * 4)).off + 2, none⟩ = some (.int .i64 (ln : Int)) ∧ w'.cell? ⟨(a.add (k2 * 4)).block, (a.add (k2 * 4)).off + 3, none⟩ = some (.int .i64 (cl : Int))) (w'.setCell ⟨w.heap.size, 0, none⟩ (.slice none 0 0)) := by
                rintro w' ⟨h0, h1, h2, h3, h4, h5, h6, h7⟩
                refine ⟨h0.setCell (Nat.le_refl _) _, World.cell?_setCell_same (w := w') (a := ⟨w.heap.size, 0, none⟩) (v := .slice none 0 0) h1, by rw [World.frozen?_setCell]; exact h2, by rw [World.size_setCell]; exact h3, ?_, ?_, ?_, ?_⟩
                · exact (World.cell?_setCell_far _ _ _ _ (by show w.heap.size ≠ b; omega)).trans h4
                · exact (World.cell?_setCell_far _ _ _ _ (by show w.heap.size ≠ b; omega)).trans h5
                · exact (World.cell?_setCell_far _ _ _ _ (by show w.heap.size ≠ (a.add (k2 * 4)).block; rw [add_block]; exact hna2)).trans h6
                · exact (World.cell?_setCell_far _ _ _ _ (by show w.heap.size ≠ (a.add (k2 * 4)).block; rw [add_block]; exact hna2)).trans h7
              have HSt := hid hSt
              clear hl2 hfp hS0 hSt
              go_wp2_with fail
              clear c0 c1 c2 v0 s0 hsz a2 a3
              go_region_held3 (fun w' => Below w.heap.size w w' ∧ w'.cell? ⟨w.heap.size, 0, none⟩ = some (.slice none 0 0) ∧ w'.frozen? ⟨w.heap.size, 0, none⟩ = false ∧ w.heap.size < w'.heap.size ∧ w'.cell? ⟨b, 1, none⟩ = some (.int .i64 (k2 : Int)) ∧ w'.cell? ⟨b, 2, none⟩ = some (.int .i64 ee) ∧ w'.cell? ⟨(a.add (k2 * 4)).block, (a.add (k2 * 4)).off + 2, none⟩ = some (.int .i64 (ln : Int)) ∧ w'.cell? ⟨(a.add (k2 * 4)).block, (a.add (k2 * 4)).off + 3, none⟩ = some (.int .i64 (cl : Int)))
                (first | exact HS0.out | exact HSt.out _ (by assumption) | assumption)
                (fail)
              go_wp2_with fail
              rename (Below _ _ _ ∧ _) => hh
              obtain ⟨hB9, v9, s9, hz9, -⟩ := hh
              refine bodyPost_ret (v := .tuple #[.agg #[.slice none 0 0], .int .i64 (ln : Int), .int .i64 (cl : Int), .int .i64 ee]) (by simp [results, Tryz.results36, go_sem, v9, s9, hz9]) rfl ?_
              rw [HPar.out]
              exact ⟨⟨none, 0, 0, []⟩, rfl, rfl, pp_nil _ _, hB9⟩
            · as_aux_lemma =>
              have hle : le = [] := by rw [← hl, nxt_end (by omega)]
              have hkL : k = L.length := by omega
              have HPar : Hid (parseR s = ([], 0, 0, ee)) := hid (by rw [HPar0.out, hle]; rfl)
              subst hkL
              clear HPar0 hl HR2 HPg hkl
              obtain ⟨⟨c0, c1, c2⟩, -⟩ := hf.three
              have hltb := H7.out.st.1.lt
              have v0 := hf7.out.cell 0
              have s0 := hf7.out.frozen 0
              have hsz := hf7.out.lt
              have hBX := hid (hB2.out.grown H7.out.st.2 hB2.out.size (fun k hk => by injection hk with hk; omega))
              have HB : Hid (∀ q, Below w.heap.size w ((w7.drewN q).setCell ⟨w.heap.size, 0, none⟩ (.slice none 0 0))) := hid (fun q => (below_drewN hBX.out q).setCell (Nat.le_refl _) _)
              clear hf
              go_wp2_with fail
              go_region_law (fail)
              all_goals
                go_wp2_with fail
                refine bodyPost_ret (v := .tuple #[.agg #[.slice none 0 0], .int .i64 0, .int .i64 0, .int .i64 ee]) (by simp [results, Tryz.results36, go_sem, v0, s0, hsz]) rfl ?_
                rw [HPar.out]
                exact ⟨⟨none, 0, 0, []⟩, rfl, rfl, pp_nil _ _, HB.out 1⟩
        | true =>
          have HB0 := hid hb
          clear hb
          cases n with
          | zero =>
            have hl8 : l.length = 8 := by omega
            go_wp2_with fail
            refine (refIs_any b A c L σ4 kwFunc _ H.out.st.1).mono ?_
            rw [HB0.out]
            rintro e w7 ⟨rfl, hb7⟩
            have H7 := hid (H.out.below hb7)
            have hf7 := hid (hfR.out.below hb7 hfR.out.lt)
            clear hb7 H hfR
            have q0 := H7.out.f3.cell 0
            have tl : ((l.length : Int) == 8) = true := by simp; omega
            go_wp2_with fail
            clear q0 tl
            refine (refFail_any b A c L σ4 7 _ H7.out.st.1).mono ?_
            rintro e w8 ⟨rfl, h8⟩
            obtain ⟨le, ee⟩ := σ4
            have hfr := hid (show failR 7 ⟨le, ee⟩ = ⟨le, 7⟩ by
              have h0 : ee = 0 := (isK_ne HB0.out).1
              unfold failR
              simp [h0])
            rw [hfr.out] at h8
            have HneL := hid (show le ≠ [] from isK_l HB0.out)
            have HPg := hid (progR_of (σ0 := σ0) (done := l.map FH.f) (le := le) (ee := 7) (by rw [hneed.out]; exact (HL.out.full HB0.out).trans (by rw [hfr.out])))
            have HPar : Hid (parseR s = ([], (nxt le).line, (nxt le).col, 7)) := hid (par_err HR2.out HPg.out rfl)
            have H8 := hid (H7.out.call h8)
            have hf8 := hid (h8.kept hf7.out (by omega))
            clear h8 H7 hf7 HR2 HPg
            obtain ⟨k2, hk2, hl2, hfp⟩ := H8.out.st.1.at_
            simp only at hl2 hfp
            have hkl2 : k2 < L.length := by
              rcases Nat.lt_or_ge k2 L.length with h | h
              · exact h
              · exact absurd (by rw [← hl2, nxt_end h]) HneL.out
            obtain ⟨a, hAa, hab, -, a2, a3⟩ := H8.out.st.1.arg.cell hkl2
            subst hAa
            rw [← nxt_drop hkl2, hl2] at a2 a3
            obtain ⟨⟨c0, c1, c2⟩, -⟩ := hfp.three
            have hltb := H8.out.st.1.lt
            have hfew := H8.out.st.1.few
            have hna : a.block ≠ w.heap.size := by
              intro hq
              have h1 := a2
              rw [show (a.add (k2 * 4)).block = w.heap.size by rw [add_block]; exact hq] at h1
              rw [hf8.out.cell] at h1
              simp at h1
            have hna2 : w.heap.size ≠ a.block := fun h => hna h.symm
            have hab2 : (a.add (k2 * 4)).block < w8.heap.size := by rw [add_block]; exact hab
            have v0 := hf8.out.cell 0
            have s0 := hf8.out.frozen 0
            have hsz := hf8.out.lt
            have hBX := hid (hB2.out.grown H8.out.st.2 hB2.out.size (fun k hk => by injection hk with hk; omega))
            have HB : Hid (∀ q, Below w.heap.size w ((w8.drewN q).setCell ⟨w.heap.size, 0, none⟩ (.slice none 0 0))) := hid (fun q => (below_drewN hBX.out q).setCell (Nat.le_refl _) _)
            generalize (nxt le).line = ln at *
            generalize (nxt le).col = cl at *
            have hS0 : ((fun w' => Below w.heap.size w w' ∧ w'.cell? ⟨w.heap.size, 0, none⟩ = some (.slice none 0 0) ∧ w'.frozen? ⟨w.heap.size, 0, none⟩ = false ∧ w.heap.size < w'.heap.size ∧ w'.cell? ⟨b, 1, none⟩ = some (.int .i64 (k2 : Int)) ∧ w'.cell? ⟨b, 2, none⟩ = some (.int .i64 7) ∧ w'.cell? ⟨(a.add (k2 * 4)).block, (a.add (k2 * 4)).off + 2, none⟩ = some (.int .i64 (ln : Int)) ∧ w'.cell? ⟨(a.add (k2 * 4)).block, (a.add (k2 * 4)).off + 3, none⟩ = some (.int .i64 (cl : Int))) (w8.drew)) := ⟨below_drewN hBX.out 1, v0, s0, hsz, c1, c2, a2, a3⟩
            have HS0 := hid hS0
            have hSt : ∀ w', (fun w' => Below w.heap.size w w' ∧ w'.cell? ⟨w.heap.size, 0, none⟩ = some (.slice none 0 0) ∧ w'.frozen? ⟨w.heap.size, 0, none⟩ = false ∧ w.heap.size < w'.heap.size ∧ w'.cell? ⟨b, 1, none⟩ = some (.int .i64 (k2 : Int)) ∧ w'.cell? ⟨b, 2, none⟩ = some (.int .i64 7) ∧ w'.cell? ⟨(a.add (k2 * 4)).block, (a.add (k2 * 4)).off + 2, none⟩ = some (.int .i64 (ln : Int)) ∧ w'.cell? ⟨(a.add (k2 * 4)).block, (a.add (k2 * 4)).off + 3, none⟩ = some (.int .i64 (cl : Int))) w' → (fun w' => Below w.heap.size w w' ∧ w'.cell? ⟨w.heap.size, 0, none⟩ = some (.slice none 0 0) ∧ w'.frozen? ⟨w.heap.size, 0, none⟩ = false ∧ w.heap.size < w'.heap.size ∧ w'.cell? ⟨b, 1, none⟩ = some (.int .i64 (k2 : Int)) ∧ w'.cell? ⟨b, 2, none⟩ = some (.int .i64 7) ∧ w'.cell? ⟨(a.add (k2 * 4)).block, (a.add (k2 * 4)).off + 2, none⟩ = some (.int .i64 (ln : Int)) ∧ w'.cell? ⟨(a.add (k2 * 4)).block, (a.add (k2 * 4)).off + 3, none⟩ = some (.int .i64 (cl : Int))) (w'.setCell ⟨w.heap.size, 0, none⟩ (.slice none 0 0)) := by
              rintro w' ⟨h0, h1, h2, h3, h4, h5, h6, h7⟩
              refine ⟨h0.setCell (Nat.le_refl _) _, World.cell?_setCell_same (w := w') (a := ⟨w.heap.size, 0, none⟩) (v := .slice none 0 0) h1, by rw [World.frozen?_setCell]; exact h2, by rw [World.size_setCell]; exact h3, ?_, ?_, ?_, ?_⟩
              · exact (World.cell?_setCell_far _ _ _ _ (by show w.heap.size ≠ b; omega)).trans h4
              · exact (World.cell?_setCell_far _ _ _ _ (by show w.heap.size ≠ b; omega)).trans h5
              · exact (World.cell?_setCell_far _ _ _ _ (by show w.heap.size ≠ (a.add (k2 * 4)).block; rw [add_block]; exact hna2)).trans h6
              · exact (World.cell?_setCell_far _ _ _ _ (by show w.heap.size ≠ (a.add (k2 * 4)).block; rw [add_block]; exact hna2)).trans h7
            have HSt := hid hSt
            clear hl2 hfp hS0 hSt
            go_wp2_with fail
            clear c0 c1 c2 v0 s0 hsz a2 a3
            go_region_held3 (fun w' => Below w.heap.size w w' ∧ w'.cell? ⟨w.heap.size, 0, none⟩ = some (.slice none 0 0) ∧ w'.frozen? ⟨w.heap.size, 0, none⟩ = false ∧ w.heap.size < w'.heap.size ∧ w'.cell? ⟨b, 1, none⟩ = some (.int .i64 (k2 : Int)) ∧ w'.cell? ⟨b, 2, none⟩ = some (.int .i64 7) ∧ w'.cell? ⟨(a.add (k2 * 4)).block, (a.add (k2 * 4)).off + 2, none⟩ = some (.int .i64 (ln : Int)) ∧ w'.cell? ⟨(a.add (k2 * 4)).block, (a.add (k2 * 4)).off + 3, none⟩ = some (.int .i64 (cl : Int)))
              (first | exact HS0.out | exact HSt.out _ (by assumption) | assumption)
              (fail)
            go_wp2_with fail
            rename (Below _ _ _ ∧ _) => hh
            obtain ⟨hB9, v9, s9, hz9, -⟩ := hh
            refine bodyPost_ret (v := .tuple #[.agg #[.slice none 0 0], .int .i64 (ln : Int), .int .i64 (cl : Int), .int .i64 7]) (by simp [results, Tryz.results36, go_sem, v9, s9, hz9]) rfl ?_
            rw [HPar.out]
            exact ⟨⟨none, 0, 0, []⟩, rfl, rfl, pp_nil _ _, hB9⟩
          | succ n =>
            have hl8 : l.length < 8 := by omega
            have tl : ((l.length : Int) == 8) = false := by simp; omega
            go_wp2_with fail
            refine (refIs_any b A c L σ4 kwFunc _ H.out.st.1).mono ?_
            rw [HB0.out]
            rintro e w7 ⟨rfl, hb7⟩
            have H7 := hid (H.out.below hb7)
            have hf7 := hid (hfR.out.below hb7 hfR.out.lt)
            clear hb7 H hfR
            have q0 := H7.out.f3.cell 0
            have hzq := H7.out.f3.lt
            go_wp2_with fail
            have H7d : Hid (Po wp b A c L σ4 (.slice B l.length d) l w7.drew) := hid (H7.out.drewN 1)
            have HCc := hid (fun w' (h' : Rst w' b A c L σ4) => refFunc_any b A c L σ4 w' h' HS.out)
            go_region_law (first
              | (go_simp
                 go_at_call 71
                 go_must (
                 refine (HCc.out _ H7d.out.st.1).mono ?_
                 rintro e w8 ⟨x, he, hxt, hfx, h8⟩
                 unfold agF at he
                 subst he
                 have H8 := hid (H7d.out.call h8)
                 have hf8 := hid (h8.kept (w := w7.drew) hf7.out (by omega))
                 have Hx := hid (FrV.fresh (N := wp.heap.size + 1) (v := .slice B l.length d) hfx H7d.out.size (fun k hk => (H7d.out.own.lt k hk).2))
                 have Hxt := hid hxt
                 have q0 := H8.out.f3.cell 0
                 have hzq := H8.out.f3.lt
                 clear hfx h8 hxt))
              | ((refine step_append_lies _ (by rfl) _ _ 23 (by rfl) (wp.heap.size + 1) 65 i3 _ 2 40 Tryz.underlying23 Hi.out Hz0.out Hz1.out Hz2.out (by rfl) (by decide) (.slice B l.length d) l.length (l.flatMap fhc) (by rfl) (by exact World.ownsRow.alloc H8.out.own _)
                    ⟨_, 0, none⟩ 1 1 (fhc x) (by rfl) rfl (by exact two_new _ _ _ _) (one_two _ _ _ _) (by decide) (by unfold maxLen; omega) (by omega) (by have := H8.out.size; rw [World.size_alloc]; omega) _ rfl ?_)
                 intro g9 cap9 w9 hown9 hgr9 hat9 hlt9
                 obtain ⟨⟨y0, y1, y2⟩, hT9⟩ := Po.push (x := x) H8.out ((Below.refl _ _).alloc (Nat.le_refl _) _) Hx.out hgr9 hown9 hat9
                 have H9 := hid hT9
                 have hne9 : ∀ k, (Value.slice B l.length d).ownBlock = some k → wp.heap.size + 1 ≤ k := fun k hk => (H8.out.own.lt k hk).1
                 have hf9 := hid (((hf8.out.alloc _).grown hgr9 (fun e => by have := hne9 _ e.symm; omega)).far (p := ⟨wp.heap.size, 0, none⟩) (by show w.heap.size ≠ wp.heap.size; omega) (.slice (some ⟨g9, 0, none⟩) (l.length + 1) cap9))
                 clear hown9 hgr9 hat9 hlt9 hT9 hne9))
            all_goals
              clear q0 hzq
              generalize w9.setCell ⟨wp.heap.size, 0, none⟩ (.slice (some ⟨g9, 0, none⟩) (l.length + 1) cap9) = w10 at *
              clear y0 y1 y2
              go_wp2_with fail
              go_roundw
              case rel => exact ⟨l ++ [x], n, (funcR σ4).2, _, H9.out, by have := HL.out.step HB0.out; rw [List.map_append]; rw [← Hxt.out] at this; exact this, hf9.out⟩
              case measure =>
                have q0 := H9.out.f3.cell 0
                rw [Hm.out, lenAt0_of q0]
                omega
end Go.Proofs.YtcgichfanfijjaaGreatDoor

namespace Go.Proofs.YtcgichfanfijjaaGreatDoor
set_option maxRecDepth 100000
set_option linter.unusedVariables false
set_option linter.unusedSimpArgs false
open Go.ChangeShapes Go.WideShapes Go.ChangeAt Go.RowKit

def sxT0 : ByteArray := ⟨#[102, 117, 110, 99, 32, 109, 59, 32, 98, 108, 111, 99, 107, 32, 98, 59, 32, 120, 32, 61, 32, 121, 59, 32, 101, 110, 100]⟩
def sxP0 : List Fnc := [⟨⟨#[109]⟩, [⟨⟨#[98]⟩, [⟨1, ⟨#[120]⟩, [⟨#[121]⟩], []⟩]⟩]⟩]
theorem sx_0 : parseS sxT0 = (sxP0, 0, 0, 0) := by kernel_rfl
def sxT1 : ByteArray := ⟨#[102, 117, 110, 99, 32, 109, 59, 32, 98, 108, 111, 99, 107, 32, 98, 59, 32, 103, 111, 116, 111, 32, 99, 59, 32, 101, 110, 100]⟩
def sxP1 : List Fnc := [⟨⟨#[109]⟩, [⟨⟨#[98]⟩, [⟨7, noB, [], [⟨#[99]⟩]⟩]⟩]⟩]
theorem sx_1 : parseS sxT1 = (sxP1, 0, 0, 0) := by kernel_rfl
def sxT2 : ByteArray := ⟨#[102, 117, 110, 99, 32, 109, 59, 32, 98, 108, 111, 99, 107, 32, 98, 59, 32, 99, 97, 108, 108, 32, 109, 59, 32, 114, 101, 116, 117, 114, 110, 59, 32, 101, 110, 100]⟩
def sxP2 : List Fnc := [⟨⟨#[109]⟩, [⟨⟨#[98]⟩, [⟨3, noB, [], [⟨#[109]⟩]⟩, ⟨9, noB, [], []⟩]⟩]⟩]
theorem sx_2 : parseS sxT2 = (sxP2, 0, 0, 0) := by kernel_rfl
theorem sxc0 : checkP sxP0 = ((3, 0, 0, 0), 4) := by kernel_rfl
theorem sxc1 : checkP sxP1 = ((3, 0, 0, 0), 5) := by kernel_rfl
theorem sxc2 : checkP sxP2 = ((0, 0, 0, 0), 0) := by kernel_rfl
theorem sxs2 : sizesP sxP2 = (5, 5) := by kernel_rfl
/-- A program that was parsed, in a box. -/
structure Bx (w : World) (g : Nat) (x : PH) (p : List Fnc) : Prop where
  box : Fb w g #[.slice x.A x.n x.c] 25
  ok : PHok w [] x
  is : x.p = p
theorem Bx.below {w w' : World} {g : Nat} {x : PH} {p : List Fnc} (h : Bx w g x p) (hb : Below w.heap.size w w') : Bx w' g x p := ⟨h.box.below hb h.box.lt, h.ok.below hb, h.is⟩
def RefP (p : List Fnc) (w : World) (e : Ending) (w' : World) : Prop :=
  ∃ x : PH, e = .returned (.tuple #[.agg #[.slice x.A x.n x.c], .int .i64 0, .int .i64 0, .int .i64 0]) ∧ Bx (w'.alloc (.cells #[.slice x.A x.n x.c] 25)) w'.heap.size x p ∧ Below w.heap.size w (w'.alloc (.cells #[.slice x.A x.n x.c] 25)) ∧ Below w.heap.size w w'
theorem ref_as (T : ByteArray) (w : World) (hs : T.size ≤ maxLen) {p : List Fnc} (h : parseS T = (p, 0, 0, 0)) : Calls Tryz.prog 36 #[.string T] w (RefP p w) := by
  refine (refParse_any T w hs).mono ?_
  rw [← parse_same, h]
  rintro e w' ⟨x, rfl, hx, hp, hb⟩
  have hb2 := (Below.refl w'.heap.size w').alloc (Nat.le_refl _) (.cells #[.slice x.A x.n x.c] 25)
  exact ⟨x, rfl, ⟨Fb.new w' _ _, (hp [] (by simp)).below hb2, hx⟩, below_step hb hb2, hb⟩
theorem nodNew (w : World) (a b c d : Int) : Fb (w.alloc (.cells #[.int .i64 a, .int .i64 b, .int .i64 c, .int .i64 d] 50)) w.heap.size #[.int .i64 a, .int .i64 b, .int .i64 c, .int .i64 d] 50 := Fb.new w _ _
theorem allocB (w : World) (o : Obj) : Below w.heap.size w (w.alloc o) := (Below.refl w.heap.size w).alloc (Nat.le_refl _) o
end Go.Proofs.YtcgichfanfijjaaGreatDoor

namespace Go.Proofs.YtcgichfanfijjaaGreatDoor
set_option maxRecDepth 100000
set_option linter.unusedVariables false
set_option linter.unusedSimpArgs false
open Go.ChangeShapes Go.WideShapes Go.ChangeAt Go.RowKit

def s7T : ByteArray := ⟨#[102, 117, 110, 99, 32, 109, 59, 32, 98, 108, 111, 99, 107, 32, 98, 59, 32, 120, 32, 61, 32, 121, 59, 32, 99, 97, 108, 108, 32, 109, 59, 32, 114, 101, 116, 117, 114, 110, 59, 32, 101, 110, 100]⟩
def s7P : List Fnc := [⟨⟨#[109]⟩, [⟨⟨#[98]⟩, [⟨1, ⟨#[120]⟩, [⟨#[121]⟩], []⟩, ⟨3, noB, [], [⟨#[109]⟩]⟩, ⟨9, noB, [], []⟩]⟩]⟩]
def s7L : List Nd := [⟨1, 0, -1, -1⟩, ⟨3, 0, 0, 0⟩, ⟨3, 0, 0, 1⟩, ⟨4, 0, 0, 1⟩, ⟨3, 0, 0, 2⟩, ⟨2, 0, -1, -1⟩]
def s7W : List ByteArray := [⟨#[109, 46, 101, 110, 116, 114, 121]⟩, ⟨#[109, 46, 98, 46, 48]⟩, ⟨#[109, 46, 98, 46, 49]⟩, ⟨#[109, 46, 98, 46, 49, 43]⟩, ⟨#[109, 46, 98, 46, 50]⟩, ⟨#[109, 46, 101, 120, 105, 116]⟩]
theorem s7_parse : parseS s7T = (s7P, 0, 0, 0) := by kernel_rfl
theorem s7_list : listN s7P = s7L := by kernel_rfl
theorem s7_miss : findI s7L ⟨3, 3, 0, 0⟩ = -1 := by kernel_rfl
def RetPg (p : List Fnc) (w : World) (e : Ending) (w' : World) : Prop := ∃ x : PH, e = .returned (.agg #[.slice x.A x.n x.c]) ∧ x.p = p ∧ PHok w' [] x ∧ Below w.heap.size w w'
set_option maxHeartbeats 1600000 in
theorem program7_any (w : World) : Calls Tryz.prog 66 #[] w (RetPg s7P w) := by
  have hs : s7T.size ≤ maxLen := by have : s7T.size ≤ 100 := by decide
                                    unfold maxLen; omega
  have Hs := hid hs
  have hb0 := (Below.refl w.heap.size w).alloc (Nat.le_refl _) (.cells #[.slice none 0 0] 25)
  have HB0 := hid hb0
  have HG0 := hid (Fb.new w #[.slice none 0 0] 25)
  clear hs hb0
  go_enter Tryz.func66, Tryz.ntmps66
  go_wp2_with fail
  generalize w.alloc (.cells #[.slice none 0 0] 25) = w0 at HB0 HG0 ⊢
  have hw0 := HG0.out.lt
  refine (refParse_any s7T _ Hs.out).mono ?_
  rw [← parse_same, s7_parse]
  rintro e w1 ⟨x, rfl, hx, hp, hb⟩
  have ha := (Below.refl w1.heap.size w1).alloc (Nat.le_refl _) (.cells #[.slice x.A x.n x.c] 25)
  have hb2 := below_step hb ha
  have HX := hid (PHok.below (hp [some w.heap.size] (by intro k hk; simp at hk; subst hk; exact hw0)) ha)
  have Hx := hid hx
  have HB1 := hid (below_step HB0.out hb2)
  have HG1 := hid (HG0.out.below hb2 HG0.out.lt)
  have HM1 := hid (Fb.new w1 #[.slice x.A x.n x.c] 25)
  clear hx hb hb2 ha hp HB0 HG0 hw0
  have b0 := HM1.out.onec
  have g0 := HG1.out.onec
  have z0 := HG1.out.frozen 0
  have hl := HG1.out.lt
  have HF := hid (show RetPg s7P w (.returned (.agg #[.slice x.A x.n x.c])) ((w1.alloc (.cells #[.slice x.A x.n x.c] 25)).setCell ⟨w.heap.size, 0, none⟩ (.slice x.A x.n x.c)) from
    ⟨x, rfl, Hx.out, (HX.out.go (Go2.same (row := some w.heap.size) (setCell_grown _ ⟨w.heap.size, 0, none⟩ _) (.inr (by simp)))).go (Go2.less _ (by simp)), HB1.out.setCell (Nat.le_refl _) _⟩)
  simp only
  clear HX Hx HB1 HG1 HM1
  go_wp2_with fail
  refine bodyPost_ret (v := .agg #[.slice x.A x.n x.c]) (by simp [results, Tryz.results66, go_sem, g0, z0, hl]) rfl ?_
  exact HF.out
theorem lab7 (x : PH) (w : World) (hx : x.p = s7P) (h : PHok w [] x) (hs : Shp w) (i : Nat) (y : Nd) (hy : s7L[i]? = some y) :
    Calls Tryz.prog 63 #[.agg #[.slice x.A x.n x.c], .agg #[.int .i64 y.kd, .int .i64 y.fn, .int .i64 y.bk, .int .i64 y.st]] w (RetTx w (s7W.getD i ByteArray.empty)) := by
  have hL : listN x.p = s7L := by rw [hx]; exact s7_list
  have hi : i < 6 := (List.getElem?_eq_some_iff.1 hy).1
  have h0 : x.p[0]? = some ⟨⟨#[109]⟩, [⟨⟨#[98]⟩, [⟨1, ⟨#[120]⟩, [⟨#[121]⟩], []⟩, ⟨3, noB, [], [⟨#[109]⟩]⟩, ⟨9, noB, [], []⟩]⟩]⟩ := by rw [hx]; rfl
  rcases (show i = 0 ∨ i = 1 ∨ i = 2 ∨ i = 3 ∨ i = 4 ∨ i = 5 by omega) with rfl | rfl | rfl | rfl | rfl | rfl <;> (injection hy with hy; subst hy)
  · exact label_entry x 0 (-1) (-1) _ [] w h hs h0 0 (by rw [hL]; kernel_rfl)
  · exact label_stmt x 0 0 0 _ _ [] w h hs h0 rfl (by omega) 1 (by rw [hL]; kernel_rfl)
  · exact label_stmt x 0 0 1 _ _ [] w h hs h0 rfl (by omega) 2 (by rw [hL]; kernel_rfl)
  · exact label_retn x 0 0 1 _ _ [] w h hs h0 rfl (by omega) 3 (by rw [hL]; kernel_rfl)
  · exact label_stmt x 0 0 2 _ _ [] w h hs h0 rfl (by omega) 4 (by rw [hL]; kernel_rfl)
  · exact label_exit x 0 (-1) (-1) _ [] w h hs h0 5 (by rw [hL]; kernel_rfl)
set_option maxHeartbeats 6400000 in
theorem sane7_any (w : World) (hsh : Shp w) : Calls Tryz.prog 30 #[] w fun e w' => e = .returned (.bool true) ∧ Below w.heap.size w w' := by
  have HS := hid hsh
  clear hsh
  go_enter Tryz.func30, Tryz.ntmps30
  go_wp2_with fail
  refine (program7_any _).mono ?_
  rintro e w1 ⟨x, rfl, hx, hok, hb1⟩
  have HS1 := hid (HS.out.keep (hb1.block 0 HS.out.pos0))
  have HX := hid hok
  have HB1 := hid hb1
  have hLl := hid (show listN x.p = s7L by rw [hx]; exact s7_list)
  clear hx hok hb1
  go_wp2_with fail
  refine (list_any x [] _ HX.out HS1.out).mono ?_
  rw [hLl.out]
  rintro e w2 ⟨A, c, rfl, hE, -, hb2⟩
  have ha := (Below.refl w2.heap.size w2).alloc (Nat.le_refl _) (.cells #[.string ⟨#[109, 46, 101, 110, 116, 114, 121]⟩, .string ⟨#[109, 46, 98, 46, 48]⟩, .string ⟨#[109, 46, 98, 46, 49]⟩, .string ⟨#[109, 46, 98, 46, 49, 43]⟩, .string ⟨#[109, 46, 98, 46, 50]⟩, .string ⟨#[109, 46, 101, 120, 105, 116]⟩] 9)
  have hb3 := below_step hb2 ha
  have HE := hid ((hE [] (by simp)).go (Go2.below ha))
  have HW := hid (show Fb (w2.alloc (.cells #[.string ⟨#[109, 46, 101, 110, 116, 114, 121]⟩, .string ⟨#[109, 46, 98, 46, 48]⟩, .string ⟨#[109, 46, 98, 46, 49]⟩, .string ⟨#[109, 46, 98, 46, 49, 43]⟩, .string ⟨#[109, 46, 98, 46, 50]⟩, .string ⟨#[109, 46, 101, 120, 105, 116]⟩] 9)) w2.heap.size #[.string ⟨#[109, 46, 101, 110, 116, 114, 121]⟩, .string ⟨#[109, 46, 98, 46, 48]⟩, .string ⟨#[109, 46, 98, 46, 49]⟩, .string ⟨#[109, 46, 98, 46, 49, 43]⟩, .string ⟨#[109, 46, 98, 46, 50]⟩, .string ⟨#[109, 46, 101, 120, 105, 116]⟩] 9 from Fb.new w2 _ _)
  have HB3 := hid (below_step HB1.out hb3)
  have HS3 := hid (HS1.out.keep (hb3.block 0 HS1.out.pos0))
  have hLn : s7L.length = 6 := rfl
  clear hE ha hb2 hb3 HB1 HS1 HX hLl
  rw [hLn]
  go_wp2_with fail
  generalize hG : w2.heap.size = G at HW ⊢
  clear hG
  generalize w2.alloc (.cells #[.string ⟨#[109, 46, 101, 110, 116, 114, 121]⟩, .string ⟨#[109, 46, 98, 46, 48]⟩, .string ⟨#[109, 46, 98, 46, 49]⟩, .string ⟨#[109, 46, 98, 46, 49, 43]⟩, .string ⟨#[109, 46, 98, 46, 50]⟩, .string ⟨#[109, 46, 101, 120, 105, 116]⟩] 9) = w3 at HE HW HB3 HS3 ⊢
  go_loopw [3] (fun iv wr => ∃ k : Nat, k ≤ 6 ∧ iv = .int .i64 k ∧ Hid (Below w.heap.size w wr) ∧ Hid (Shp wr) ∧ Hid (EAt wr [] A (s7L.flatMap ndc)) ∧ Hid (Fb wr G #[.string ⟨#[109, 46, 101, 110, 116, 114, 121]⟩, .string ⟨#[109, 46, 98, 46, 48]⟩, .string ⟨#[109, 46, 98, 46, 49]⟩, .string ⟨#[109, 46, 98, 46, 49, 43]⟩, .string ⟨#[109, 46, 98, 46, 50]⟩, .string ⟨#[109, 46, 101, 120, 105, 116]⟩] 9)) (fun iv _ => 6 - (intOf iv).toNat)
  case atStart => exact ⟨0, by omega, rfl, HB3.out, HS3.out, HE.out, HW.out⟩
  case round =>
    clear HB3 HS3 HE HW
    obtain ⟨k, hk, rfl, hB, hS, hE, hW⟩ := hrel
    by_cases hlt : k < 6
    · obtain ⟨y, hy, hym⟩ := get_at hLn hlt
      obtain ⟨ad, hA, had, hc1, hc2, hc3, hc4⟩ := Nd.cells hE.out hy
      subst hA
      have hg1 : wr.cell? ⟨G, k, none⟩ = some (.string (s7W.getD k ByteArray.empty)) := by
        rw [hW.out.cell k]
        rcases (show k = 0 ∨ k = 1 ∨ k = 2 ∨ k = 3 ∨ k = 4 ∨ k = 5 by omega) with rfl | rfl | rfl | rfl | rfl | rfl <;> rfl
      have hGl := hW.out.lt
      have hadl : (ad.add (k * 4)).block < wr.heap.size := by rw [add_block]; exact had
      have Hlab := hid (fun (x : PH) (v : World) (h1 : x.p = s7P) (h2 : PHok v [] x) (h3 : Shp v) => lab7 x v h1 h2 h3 k y hy)
      generalize s7W.getD k ByteArray.empty = sw at *
      have HK : Hid (∀ w' : World, Below wr.heap.size wr w' → Below wr.heap.size wr w' ∧ (w'.cell? (ad.add (k * 4)) = some (.int .i64 y.kd) ∧ w'.cell? ⟨(ad.add (k * 4)).block, (ad.add (k * 4)).off + 1, none⟩ = some (.int .i64 y.fn) ∧ w'.cell? ⟨(ad.add (k * 4)).block, (ad.add (k * 4)).off + 2, none⟩ = some (.int .i64 y.bk) ∧ w'.cell? ⟨(ad.add (k * 4)).block, (ad.add (k * 4)).off + 3, none⟩ = some (.int .i64 y.st)) ∧ w'.cell? ⟨G, k, none⟩ = some (.string sw)) :=
        hid fun w' h => ⟨h, ⟨(h.cell hadl).trans hc1, (h.cell (p := ⟨(ad.add (k * 4)).block, (ad.add (k * 4)).off + 1, none⟩) hadl).trans hc2, (h.cell (p := ⟨(ad.add (k * 4)).block, (ad.add (k * 4)).off + 2, none⟩) hadl).trans hc3, (h.cell (p := ⟨(ad.add (k * 4)).block, (ad.add (k * 4)).off + 3, none⟩) hadl).trans hc4⟩, (h.cell (p := ⟨G, k, none⟩) hGl).trans hg1⟩
      have HSf := hid (fun (v : World) (h : Below wr.heap.size wr v) => hS.out.keep (h.block 0 hS.out.pos0))
      obtain ⟨yk, yf, yb, ys⟩ := y
      simp only at *
      clear hy hym
      go_upto_region 8 with fail
      go_cut [28] (fun v wc => v = .bool false ∧ Hid (Below wr.heap.size wr wc))
      case first =>
        go_region_held3 (fun w' => Below wr.heap.size wr w' ∧ (w'.cell? (ad.add (k * 4)) = some (.int .i64 yk) ∧ w'.cell? ⟨(ad.add (k * 4)).block, (ad.add (k * 4)).off + 1, none⟩ = some (.int .i64 yf) ∧ w'.cell? ⟨(ad.add (k * 4)).block, (ad.add (k * 4)).off + 2, none⟩ = some (.int .i64 yb) ∧ w'.cell? ⟨(ad.add (k * 4)).block, (ad.add (k * 4)).off + 3, none⟩ = some (.int .i64 ys)) ∧ w'.cell? ⟨G, k, none⟩ = some (.string sw))
          (first | (with_reducible exact HK.out _ (Below.refl _ _).drew) | assumption)
          (first
            | (go_at_call 66
               go_must (
               go_split_ands
               refine (program7_any _).mono ?_
               rintro e wn ⟨x, rfl, hx, hok, hbk⟩
               have hcur := below_step (W := wr) (by assumption) hbk
               have hS := HK.out _ hcur
               have Hcur := hid hcur
               have HX := hid hx
               have HOK := hid hok
               clear hx hok hbk))
            | (go_at_call 63
               go_must (
               go_split_ands
               refine (Hlab.out _ _ HX.out HOK.out (HSf.out _ (by assumption))).mono ?_
               rintro e wm ⟨rfl, hbk⟩
               have hcur := below_step (W := wr) (by assumption) hbk
               have hS := HK.out _ hcur
               have Hcur2 := hid hcur
               clear hbk)))
        all_goals go_wp2_with fail
        all_goals go_meet
        all_goals exact ⟨rfl, Hcur2⟩
      case rest =>
        obtain ⟨rfl, HC⟩ := hcut
        go_wp2_with fail
        go_roundw
        case rel =>
          exact ⟨k + 1, by omega, by first | rfl | push_cast; rfl | (congr 1; omega), hid (below_step hB.out HC.out), hid (hS.out.keep (HC.out.block 0 hS.out.pos0)), hid (hE.out.go (Go2.below HC.out)), hid (hW.out.below HC.out hW.out.lt)⟩
        case measure => simp [intOf]; omega
    · have hk6 : k = 6 := by omega
      subst hk6
      have HB := hid hB.out
      have HS4 := hid hS.out
      clear hB hS hE hW
      go_wp2_with fail
      refine (program7_any _).mono ?_
      rintro e w4 ⟨x4, rfl, hx4, hok4, hb4⟩
      have HB4 := hid (below_step HB.out hb4)
      have HS5 := hid (HS4.out.keep (hb4.block 0 HS4.out.pos0))
      have HX4 := hid hok4
      have hF : findI (listN x4.p) ⟨3, 3, 0, 0⟩ = -1 := by rw [hx4, s7_list]; exact s7_miss
      have HF := hid hF
      clear hx4 hok4 hb4 hF HB HS4
      go_wp2_with fail
      refine (find_any x4 ⟨3, 3, 0, 0⟩ [] _ HX4.out HS5.out).mono ?_
      rw [HF.out]
      rintro e w5 ⟨rfl, hb5⟩
      have HB5 := hid (below_step HB4.out hb5)
      clear hb5 HX4 HS5 HB4 HF
      go_wp2_with fail
      refine bodyPost_ret (v := .bool true) (by simp [results, Tryz.results30, go_sem]) rfl ?_
      exact ⟨rfl, HB5.out⟩
end Go.Proofs.YtcgichfanfijjaaGreatDoor

namespace Go.Proofs.YtcgichfanfijjaaGreatDoor
set_option maxRecDepth 20000
set_option linter.unusedVariables false
open Go.ChangeShapes Go.WideShapes Go.ChangeAt Go.RowKit

def printL (L : List ByteArray) : ByteArray := L.foldl (fun s x => s ++ (x ++ ⟨#[10]⟩)) ⟨#[]⟩
def sepL (L : List ByteArray) (s : ByteArray) : ByteArray := L.foldl (fun s x => (s ++ ⟨#[59, 32]⟩) ++ x) s
def inlineL : List ByteArray → ByteArray
  | [] => ⟨#[]⟩
  | x :: L => sepL L (⟨#[]⟩ ++ x)
/-- P5.3: the texts. -/
def printP (p : List Fnc) : ByteArray := if prgB p then printL (linesP p) else ⟨#[]⟩
def inlineP (p : List Fnc) : ByteArray := if prgB p then inlineL (linesP p) else ⟨#[]⟩
theorem get_snoc {α : Type} (l : List α) {k : Nat} {x : α} (hx : l[k]? = some x) : l.take (k + 1) = l.take k ++ [x] := by
  rw [List.take_add_one, hx]; rfl
theorem printL_snoc (L : List ByteArray) (x : ByteArray) : printL (L ++ [x]) = printL L ++ (x ++ ⟨#[10]⟩) := by unfold printL; rw [List.foldl_append]; rfl
theorem printL_size (L : List ByteArray) (h : ∀ x ∈ L, x.size ≤ 100000) : (printL L).size ≤ L.length * 100001 := by
  suffices H : ∀ (L : List ByteArray) (s : ByteArray), (∀ x ∈ L, x.size ≤ 100000) → (L.foldl (fun s x => s ++ (x ++ ⟨#[10]⟩)) s).size ≤ s.size + L.length * 100001 by
    have := H L ⟨#[]⟩ h
    have e : (⟨#[]⟩ : ByteArray).size = 0 := rfl
    unfold printL; omega
  intro L
  induction L with
  | nil => intro s _; simp
  | cons x L ih =>
    intro s h
    have h1 := ih (s ++ (x ++ ⟨#[10]⟩)) fun y hy => h y (by simp [hy])
    have h2 := h x (by simp)
    rw [List.foldl_cons, List.length_cons, Nat.succ_mul]
    have e : (s ++ (x ++ (⟨#[10]⟩ : ByteArray))).size = s.size + (x.size + 1) := by rw [ByteArray.size_append, ByteArray.size_append]; rfl
    omega
theorem inlineL_one (x : ByteArray) : inlineL [x] = ⟨#[]⟩ ++ x := rfl
theorem inlineL_snoc (L : List ByteArray) (x : ByteArray) (h : 0 < L.length) : inlineL (L ++ [x]) = (inlineL L ++ ⟨#[59, 32]⟩) ++ x := by
  cases L with
  | nil => simp at h
  | cons y L => show sepL (L ++ [x]) _ = _; unfold sepL; rw [List.foldl_append]; rfl
theorem inlineL_size (L : List ByteArray) (h : ∀ x ∈ L, x.size ≤ 100000) : (inlineL L).size ≤ L.length * 100002 := by
  have H : ∀ (L : List ByteArray) (s : ByteArray), (∀ x ∈ L, x.size ≤ 100000) → (sepL L s).size ≤ s.size + L.length * 100002 := by
    intro L
    induction L with
    | nil => intro s _; simp [sepL]
    | cons x L ih =>
      intro s h
      have h1 := ih ((s ++ ⟨#[59, 32]⟩) ++ x) fun y hy => h y (by simp [hy])
      have h2 := h x (by simp)
      have e0 : sepL (x :: L) s = sepL L ((s ++ ⟨#[59, 32]⟩) ++ x) := rfl
      rw [e0, List.length_cons, Nat.succ_mul]
      have e : ((s ++ (⟨#[59, 32]⟩ : ByteArray)) ++ x).size = s.size + 2 + x.size := by rw [ByteArray.size_append, ByteArray.size_append]; rfl
      omega
  cases L with
  | nil => simp [inlineL]; rfl
  | cons x L =>
    have h1 := H L (⟨#[]⟩ ++ x) fun y hy => h y (by simp [hy])
    have h2 := h x (by simp)
    have e : ((⟨#[]⟩ : ByteArray) ++ x).size = x.size := by rw [ByteArray.size_append]; show 0 + x.size = _; omega
    show (sepL L (⟨#[]⟩ ++ x)).size ≤ _
    rw [List.length_cons, Nat.succ_mul]; omega
theorem linesP_len {w : World} {ex : List (Option Nat)} {x : PH} (h : PHok w ex x) : (linesP x.p).length ≤ 65680 := by
  have h1 := fncL_len x.l h.all
  have h2 := h.len; have h3 := h.few
  have e : linesP x.p = x.l.flatMap fun y => fncL y.f := by unfold linesP PH.p; rw [List.flatMap_map]
  rw [e]
  have : x.l.length * 1642 ≤ 40 * 1642 := Nat.mul_le_mul_right _ (by omega)
  omega

end Go.Proofs.YtcgichfanfijjaaGreatDoor

namespace Go.Proofs.YtcgichfanfijjaaGreatDoor
set_option maxRecDepth 20000
set_option linter.unusedVariables false
set_option linter.unusedSimpArgs false
open Go.ChangeShapes Go.WideShapes Go.ChangeAt Go.RowKit

theorem vars_name : ∀ x ∈ varsL, nameB x = true := by
  intro x hx
  rw [nameD_eq]
  revert x
  decide +kernel
theorem fns_name : ∀ x ∈ fnsL, nameB x = true := by
  intro x hx
  rw [nameD_eq]
  revert x
  decide +kernel
theorem bls_name : ∀ x ∈ blsL, nameB x = true := by
  intro x hx
  rw [nameD_eq]
  revert x
  decide +kernel
theorem f2_name {i : Nat} (h : i < 3) : nameB (f2 i) = true := bls_name _ (List.mem_of_getElem? (f2_get h))
theorem namesB_of {l : List ByteArray} {b : Int} (h : ∀ x ∈ l, nameB x = true) (hb : (l.length : Int) ≤ b) : namesB l 0 b = true := by
  unfold namesB
  rw [List.all_eq_true.2 h]
  simp
  exact hb
theorem genS_ok {k : Nat} {t : Stm} (hk : k ≤ 3) (h : genS k t) : stmB t = true := by
  obtain ⟨op, d, us, ts⟩ := t
  unfold genS at h
  simp only at h
  rcases h with ⟨rfl, rfl, ⟨h1, h2, h3⟩, rfl⟩ | ⟨h0, hd, rfl, rfl⟩ | ⟨rfl, rfl, ⟨x, hx, rfl⟩, rfl⟩ | ⟨rfl, rfl, rfl, i, x, hi, hx, rfl⟩ | ⟨rfl, hd, ⟨h1, h2⟩, rfl⟩
  · unfold stmB
    rw [namesB_of (fun x hx => vars_name x (h3 x hx)) (by show (us.length : Int) ≤ 4; omega), namesB_of (l := []) (by simp) (by simp)]
    simp [okP]
    omega
  · unfold stmB
    rw [namesB_of (l := []) (by simp) (by simp), namesB_of (l := []) (by simp) (by simp)]
    rcases h0 with rfl | rfl <;> simp [okP, vars_name d hd]
  · unfold stmB
    rw [namesB_of (l := [x]) (by intro y hy; simp at hy; subst hy; exact vars_name y hx) (by simp), namesB_of (l := []) (by simp) (by simp)]
    simp [okP]
  · unfold stmB
    rw [namesB_of (l := []) (by simp) (by simp), namesB_of (l := [x]) (by intro y hy; simp at hy; subst hy; exact fns_name y (List.mem_of_getElem? hx)) (by simp)]
    simp [okP]
  · unfold stmB
    rw [namesB_of (fun x hx => vars_name x (h2 x hx)) (by show (us.length : Int) ≤ 4; omega), namesB_of (l := []) (by simp) (by simp)]
    simp [okP, vars_name d hd]
theorem termS_ok {n : Nat} {t : Stm} (hn : n ≤ 3) (h : termS n t) : stmB t = true := by
  obtain ⟨op, d, us, ts⟩ := t
  unfold termS at h
  simp only at h
  rcases h with ⟨rfl, rfl, rfl, rfl⟩ | ⟨rfl, rfl, rfl, i, hi, rfl⟩ | ⟨rfl, rfl, ⟨x, hx, rfl⟩, i, j, hi, hj, rfl⟩
  · unfold stmB
    rw [namesB_of (l := []) (by simp) (by simp), namesB_of (l := []) (by simp) (by simp)]
    simp [okP]
  · unfold stmB
    rw [namesB_of (l := []) (by simp) (by simp), namesB_of (l := [f2 i]) (by intro y hy; simp at hy; subst hy; exact f2_name (by omega)) (by simp)]
    simp [okP]
  · unfold stmB
    rw [namesB_of (l := [x]) (by intro y hy; simp at hy; subst hy; exact vars_name y hx) (by simp), namesB_of (l := [f2 i, f2 j]) (by intro y hy; simp at hy; rcases hy with rfl | rfl <;> exact f2_name (by omega)) (by simp)]
    simp [okP]
theorem genB_ok {N M : Nat} {b : Blk} {j : Nat} (hN : N ≤ 3) (hM : M ≤ 3) (hnm : blsL[j]? = some b.name) (h : genB N M b) : blkB b = true := by
  obtain ⟨body, t, hb, hl, h1, h2⟩ := h
  unfold blkB
  rw [hb, bls_name _ (List.mem_of_getElem? hnm), List.all_append, List.all_eq_true.2 fun x hx => genS_ok hN (h1 x hx)]
  simp [termS_ok hM h2]
  omega
theorem genF_ok {N : Nat} {f : FH} {i : Nat} (hN : N ≤ 3) (hnm : fnsL[i]? = some f.name) (h : genF N f) : fncB f.f = true := by
  obtain ⟨h1, h2, h3⟩ := h
  unfold fncB
  have hall : f.f.bs.all blkB = true := by
    rw [List.all_eq_true]
    intro b hb
    obtain ⟨y, hy, rfl⟩ := List.mem_map.1 hb
    obtain ⟨j, hj, he⟩ := List.getElem_of_mem hy
    obtain ⟨g1, g2⟩ := h3 j y (by rw [List.getElem?_eq_getElem hj, he])
    exact genB_ok hN h2 g1 g2
  have hlen : f.f.bs.length = f.l.length := by simp [FH.f]
  rw [hall, hlen, show f.f.name = f.name from rfl, fns_name _ (List.mem_of_getElem? hnm)]
  simp
  omega
theorem genP_ok {ls : List FH} (h : genP ls) : prgB (ls.map FH.f) = true := by
  obtain ⟨h1, h2, h3⟩ := h
  unfold prgB
  have hall : (ls.map FH.f).all fncB = true := by
    rw [List.all_eq_true]
    intro b hb
    obtain ⟨y, hy, rfl⟩ := List.mem_map.1 hb
    obtain ⟨j, hj, he⟩ := List.getElem_of_mem hy
    obtain ⟨g1, g2⟩ := h3 j y (by rw [List.getElem?_eq_getElem hj, he])
    exact genF_ok h2 g1 g2
  rw [hall]
  simp
  omega

/-! ### Sizes -/
theorem vars_len {l : List ByteArray} {k : Nat} (hl : l.length ≤ k) (h : ∀ x ∈ l, x.size ≤ 1) : (wordsP l).size ≤ k * 2 := by
  have h1 := wordsP_size l l.length 1 (Nat.le_refl _) h
  rw [List.take_length] at h1
  have : l.length * (1 + 1) ≤ k * 2 := Nat.mul_le_mul_right _ hl
  omega
theorem line_20 {t : Stm} (hd : t.d.size ≤ 1) (hu : t.us.length ≤ 3) (hus : ∀ x ∈ t.us, x.size ≤ 1) (ht : t.ts.length ≤ 2) (hts : ∀ x ∈ t.ts, x.size ≤ 1) : (lineP t).size ≤ 20 := by
  have h1 := vars_len hu hus
  have h2 := vars_len ht hts
  unfold lineP
  repeat' split
  all_goals (try simp only [ByteArray.size_append])
  · show t.d.size + 2 + _ ≤ _; omega
  · show 3 + _ ≤ _; omega
  · show 4 + _ ≤ _; omega
  · show 7 + _ ≤ _; omega
  · show 4 + _ ≤ _; omega
  · show 9 + _ ≤ _; omega
  · show 4 + _ ≤ _; omega
  · show 6 + _ + _ ≤ _; omega
  · show 6 ≤ _; omega
theorem genS_20 {k : Nat} {t : Stm} (hk : k ≤ 3) (h : genS k t) : (lineP t).size ≤ 20 := by
  obtain ⟨op, d, us, ts⟩ := t
  unfold genS at h
  simp only at h
  rcases h with ⟨rfl, rfl, ⟨h1, h2, h3⟩, rfl⟩ | ⟨h0, hd, rfl, rfl⟩ | ⟨rfl, rfl, ⟨x, hx, rfl⟩, rfl⟩ | ⟨rfl, rfl, rfl, i, x, hi, hx, rfl⟩ | ⟨rfl, hd, ⟨h1, h2⟩, rfl⟩
  · exact line_20 (Nat.zero_le _) (by show us.length ≤ 3; omega) (fun x hx => varsL_small x (h3 x hx)) (by simp) (by simp)
  · exact line_20 (varsL_small d hd) (by simp) (by simp) (by simp) (by simp)
  · exact line_20 (Nat.zero_le _) (by simp) (by intro y hy; simp at hy; subst hy; exact varsL_small y hx) (by simp) (by simp)
  · exact line_20 (Nat.zero_le _) (by simp) (by simp) (by simp) (by intro y hy; simp at hy; subst hy; exact fnsL_small y (List.mem_of_getElem? hx))
  · exact line_20 (varsL_small d hd) (by show us.length ≤ 3; omega) (fun x hx => varsL_small x (h2 x hx)) (by simp) (by simp)
theorem termS_20 {n : Nat} {t : Stm} (h : termS n t) : (lineP t).size ≤ 20 := by
  obtain ⟨op, d, us, ts⟩ := t
  unfold termS at h
  simp only at h
  rcases h with ⟨rfl, rfl, rfl, rfl⟩ | ⟨rfl, rfl, rfl, i, hi, rfl⟩ | ⟨rfl, rfl, ⟨x, hx, rfl⟩, i, j, hi, hj, rfl⟩
  · exact line_20 (Nat.zero_le _) (by simp) (by simp) (by simp) (by simp)
  · exact line_20 (Nat.zero_le _) (by simp) (by simp) (by simp) (by intro y hy; simp at hy; subst hy; exact f2_small _)
  · exact line_20 (Nat.zero_le _) (by simp) (by intro y hy; simp at hy; subst hy; exact varsL_small y hx) (by simp) (by intro y hy; simp at hy; rcases hy with rfl | rfl <;> exact f2_small _)
theorem genB_20 {N M : Nat} {b : Blk} {j : Nat} (hN : N ≤ 3) (hnm : blsL[j]? = some b.name) (h : genB N M b) : (blkL b).length ≤ 5 ∧ ∀ x ∈ blkL b, x.size ≤ 20 := by
  obtain ⟨body, t, hb, hl, h1, h2⟩ := h
  unfold blkL
  rw [hb]
  refine ⟨by simp; omega, fun x hx => ?_⟩
  simp only [List.mem_cons, List.map_append, List.mem_append, List.mem_map, List.map_cons, List.map_nil, List.not_mem_nil, or_false] at hx
  rcases hx with rfl | ⟨y, hy, rfl⟩ | rfl
  · have := blsL_small _ (List.mem_of_getElem? hnm)
    rw [ByteArray.size_append]; show 6 + _ ≤ _; omega
  · exact genS_20 hN (h1 y hy)
  · exact termS_20 h2
theorem flat_20 {α : Type} (f : α → List ByteArray) (l : List α) (k m : Nat) (hl : l.length ≤ k) (h : ∀ x ∈ l, (f x).length ≤ m ∧ ∀ y ∈ f x, y.size ≤ 20) : (l.flatMap f).length ≤ k * m ∧ ∀ y ∈ l.flatMap f, y.size ≤ 20 := by
  refine ⟨?_, fun y hy => by obtain ⟨x, hx, hy⟩ := List.mem_flatMap.1 hy; exact (h x hx).2 y hy⟩
  have : (l.flatMap f).length ≤ l.length * m := by
    induction l with
    | nil => simp
    | cons x l ih =>
      have h1 := ih (by simp at hl; omega) fun z hz => h z (by simp [hz])
      have h2 := (h x (by simp)).1
      rw [List.flatMap_cons, List.length_append, List.length_cons, Nat.succ_mul]; omega
  exact Nat.le_trans this (Nat.mul_le_mul_right _ hl)
theorem genF_20 {N : Nat} {f : FH} {i : Nat} (hN : N ≤ 3) (hnm : fnsL[i]? = some f.name) (h : genF N f) : (fncL f.f).length ≤ 17 ∧ ∀ x ∈ fncL f.f, x.size ≤ 20 := by
  obtain ⟨h1, h2, h3⟩ := h
  have hb := flat_20 blkL f.f.bs 3 5 (by simpa [FH.f] using h2) (fun b hb => by
    obtain ⟨y, hy, rfl⟩ := List.mem_map.1 hb
    obtain ⟨j, hj, he⟩ := List.getElem_of_mem hy
    obtain ⟨g1, g2⟩ := h3 j y (by rw [List.getElem?_eq_getElem hj, he])
    exact genB_20 hN g1 g2)
  unfold fncL
  refine ⟨by simp only [List.length_cons, List.length_append, List.length_nil]; omega, fun x hx => ?_⟩
  simp only [List.mem_cons, List.mem_append, List.not_mem_nil, or_false] at hx
  rcases hx with rfl | hx | rfl
  · have := fnsL_small _ (List.mem_of_getElem? hnm)
    rw [ByteArray.size_append]; show 5 + f.name.size ≤ _; omega
  · exact hb.2 x hx
  · decide
theorem genP_20 {ls : List FH} (h : genP ls) : (linesP (ls.map FH.f)).length ≤ 51 ∧ ∀ x ∈ linesP (ls.map FH.f), x.size ≤ 20 := by
  obtain ⟨h1, h2, h3⟩ := h
  exact flat_20 fncL (ls.map FH.f) 3 17 (by simpa using h2) (fun b hb => by
    obtain ⟨y, hy, rfl⟩ := List.mem_map.1 hb
    obtain ⟨j, hj, he⟩ := List.getElem_of_mem hy
    obtain ⟨g1, g2⟩ := h3 j y (by rw [List.getElem?_eq_getElem hj, he])
    exact genF_20 h2 g1 g2)
theorem lines_pos {ls : List FH} (h : genP ls) : ∃ x L, linesP (ls.map FH.f) = (funcW ++ x) :: L := by
  obtain ⟨h1, h2, h3⟩ := h
  cases ls with
  | nil => simp at h1
  | cons f ls => exact ⟨f.name, _, rfl⟩
theorem printL_20 (L : List ByteArray) (h : ∀ x ∈ L, x.size ≤ 100000) : (printL L).size ≤ L.length * 100001 := printL_size L h
/-- The texts are not empty, and not long. -/
theorem print_small {ls : List FH} (h : genP ls) : 0 < (printP (ls.map FH.f)).size ∧ (printP (ls.map FH.f)).size ≤ 100000 := by
  obtain ⟨x, L, he⟩ := lines_pos h
  have h2 := genP_20 h
  have H : ∀ (L : List ByteArray) (s : ByteArray), (∀ x ∈ L, x.size ≤ 20) → s.size ≤ (L.foldl (fun s x => s ++ (x ++ ⟨#[10]⟩)) s).size ∧ (L.foldl (fun s x => s ++ (x ++ ⟨#[10]⟩)) s).size ≤ s.size + L.length * 21 := by
    intro L
    induction L with
    | nil => intro s _; simp
    | cons x L ih =>
      intro s h
      have h1 := ih (s ++ (x ++ ⟨#[10]⟩)) fun y hy => h y (by simp [hy])
      have h2 := h x (by simp)
      rw [List.foldl_cons, List.length_cons, Nat.succ_mul]
      have e : (s ++ (x ++ (⟨#[10]⟩ : ByteArray))).size = s.size + (x.size + 1) := by rw [ByteArray.size_append, ByteArray.size_append]; rfl
      omega
  have hp : printP (ls.map FH.f) = printL (linesP (ls.map FH.f)) := by unfold printP; rw [genP_ok h]; rfl
  rw [hp]
  have h3 := H (linesP (ls.map FH.f)) ⟨#[]⟩ h2.2
  have e0 : (⟨#[]⟩ : ByteArray).size = 0 := rfl
  refine ⟨?_, by unfold printL; omega⟩
  rw [he]
  have h4 := (H L (⟨#[]⟩ ++ ((funcW ++ x) ++ ⟨#[10]⟩)) fun y hy => h2.2 y (by rw [he]; simp [hy])).1
  have e1 : ((⟨#[]⟩ : ByteArray) ++ ((funcW ++ x) ++ ⟨#[10]⟩)).size = 0 + (5 + x.size + 1) := by
    rw [ByteArray.size_append, ByteArray.size_append, ByteArray.size_append]; rfl
  show 0 < (List.foldl (fun s x => s ++ (x ++ ⟨#[10]⟩)) (⟨#[]⟩ ++ ((funcW ++ x) ++ ⟨#[10]⟩)) L).size
  omega
theorem inline_small {ls : List FH} (h : genP ls) : 0 < (inlineP (ls.map FH.f)).size ∧ (inlineP (ls.map FH.f)).size ≤ 100000 := by
  obtain ⟨x, L, he⟩ := lines_pos h
  have h2 := genP_20 h
  have H : ∀ (L : List ByteArray) (s : ByteArray), (∀ x ∈ L, x.size ≤ 20) → s.size ≤ (sepL L s).size ∧ (sepL L s).size ≤ s.size + L.length * 22 := by
    intro L
    induction L with
    | nil => intro s _; simp [sepL]
    | cons x L ih =>
      intro s h
      have h1 := ih ((s ++ ⟨#[59, 32]⟩) ++ x) fun y hy => h y (by simp [hy])
      have h2 := h x (by simp)
      have e0 : sepL (x :: L) s = sepL L ((s ++ ⟨#[59, 32]⟩) ++ x) := rfl
      rw [e0, List.length_cons, Nat.succ_mul]
      have e : ((s ++ (⟨#[59, 32]⟩ : ByteArray)) ++ x).size = s.size + 2 + x.size := by rw [ByteArray.size_append, ByteArray.size_append]; rfl
      omega
  have hp : inlineP (ls.map FH.f) = inlineL (linesP (ls.map FH.f)) := by unfold inlineP; rw [genP_ok h]; rfl
  have hl := h2.1
  rw [hp, he]
  rw [he, List.length_cons] at hl
  have hx : (funcW ++ x).size ≤ 20 := h2.2 _ (by rw [he]; simp)
  have h3 := H L (⟨#[]⟩ ++ (funcW ++ x)) fun y hy => h2.2 y (by rw [he]; simp [hy])
  have e1 : ((⟨#[]⟩ : ByteArray) ++ (funcW ++ x)).size = 0 + (funcW ++ x).size := by rw [ByteArray.size_append]; rfl
  have e2 : (funcW ++ x).size = 5 + x.size := by rw [ByteArray.size_append]; rfl
  show 0 < (sepL L (⟨#[]⟩ ++ (funcW ++ x))).size ∧ (sepL L (⟨#[]⟩ ++ (funcW ++ x))).size ≤ _
  omega
end Go.Proofs.YtcgichfanfijjaaGreatDoor

namespace Go.Proofs.YtcgichfanfijjaaGreatDoor
set_option maxRecDepth 20000
set_option linter.unusedVariables false
set_option linter.unusedSimpArgs false

theorem nodup_len {α : Type} : ∀ (V S : List α), V.Nodup → (∀ x ∈ V, x ∈ S) → V.length ≤ S.length := by
  intro V
  induction V with
  | nil => intro S _ _; simp
  | cons x V ih =>
    intro S hn hs
    obtain ⟨S1, S2, rfl⟩ := List.append_of_mem (hs x (List.mem_cons_self ..))
    have hn2 := List.nodup_cons.1 hn
    have := ih (S1 ++ S2) hn2.2 (fun y hy => by
      have h := hs y (List.mem_cons_of_mem _ hy)
      rcases List.mem_append.1 h with h | h
      · exact List.mem_append_left _ h
      · rcases List.mem_cons.1 h with rfl | h
        · exact absurd hy hn2.1
        · exact List.mem_append_right _ h)
    simp at this ⊢
    omega
theorem addV_ok {S V : List ByteArray} {x : ByteArray} (hV : V.Nodup ∧ ∀ y ∈ V, y ∈ S) (hx : x ∈ S) : (addV V x).Nodup ∧ ∀ y ∈ addV V x, y ∈ S := by
  unfold addV
  cases h : inB x V with
  | true => exact hV
  | false =>
    have hnx : x ∉ V := fun hm => by rw [inB_iff.2 hm] at h; cases h
    refine ⟨?_, fun y hy => ?_⟩
    · show (V ++ [x]).Nodup
      rw [List.nodup_append]
      exact ⟨hV.1, by simp, fun a ha b hb e => by simp at hb; subst hb; subst e; exact hnx ha⟩
    · rcases List.mem_append.1 (show y ∈ V ++ [x] from hy) with h | h
      · exact hV.2 y h
      · simp at h; subst h; exact hx
theorem foldV_ok {S : List ByteArray} : ∀ (l V : List ByteArray), (V.Nodup ∧ ∀ y ∈ V, y ∈ S) → (∀ x ∈ l, x ∈ S) → ((l.foldl addV V).Nodup ∧ ∀ y ∈ l.foldl addV V, y ∈ S) := by
  intro l
  induction l with
  | nil => intro V h _; exact h
  | cons x l ih => intro V h hl; exact ih _ (addV_ok h (hl x (List.mem_cons_self ..))) fun y hy => hl y (List.mem_cons_of_mem _ hy)
theorem none_all {α : Type} {f : Nat → Option α} {n : Nat} (h : ∀ k, k < n → f k = none) : (List.range n).findSome? f = none := by
  rw [List.findSome?_eq_none_iff]
  intro k hk
  exact h k (List.mem_range.1 hk)
theorem names_take {α : Type} {nm : α → ByteArray} {S : List ByteArray} {l : List α} (h : ∀ (j : Nat) (y : α), l[j]? = some y → S[j]? = some (nm y)) (hl : l.length ≤ S.length) : l.map nm = S.take l.length := by
  apply List.ext_getElem?
  intro j
  rw [List.getElem?_map, List.getElem?_take]
  by_cases hj : j < l.length
  · rw [if_pos hj, List.getElem?_eq_getElem hj]
    exact (h j _ (List.getElem?_eq_getElem hj)).symm
  · rw [if_neg hj, List.getElem?_eq_none (by omega)]; rfl
theorem dup_fns (n : Nat) : dupI (fnsL.take n) = -1 := by
  rcases (show n = 0 ∨ n = 1 ∨ n = 2 ∨ 3 ≤ n by omega) with rfl | rfl | rfl | h
  · rfl
  · decide +kernel
  · decide +kernel
  · rw [List.take_of_length_le (by exact h)]; decide +kernel
theorem dup_bls (n : Nat) : dupI (blsL.take n) = -1 := by
  rcases (show n = 0 ∨ n = 1 ∨ n = 2 ∨ 3 ≤ n by omega) with rfl | rfl | rfl | h
  · rfl
  · decide +kernel
  · decide +kernel
  · rw [List.take_of_length_le (by exact h)]; decide +kernel
theorem gen_stm {N M : Nat} {t : Stm} (h : genS N t) : stmtE (fnsL.take N) (blsL.take M) false t = 0 := by
  refine stmtE_0 (S := if t.op == 3 then fnsL.take N else blsL.take M) ?_ rfl ?_
  · rcases h with ⟨h, _⟩ | ⟨h | h, _⟩ | ⟨h, _⟩ | ⟨h, _⟩ | ⟨h, _⟩ <;> rw [h] <;> rfl
  · rcases h with ⟨_, _, _, h⟩ | ⟨_, _, _, h⟩ | ⟨_, _, _, h⟩ | ⟨h0, _, _, i, x, hi, hx, h⟩ | ⟨_, _, _, h⟩
    · rw [h]; rfl
    · rw [h]; rfl
    · rw [h]; rfl
    · rw [h, h0]
      have hm : x ∈ fnsL.take N := by
        have : (fnsL.take N)[i]? = some x := by rw [List.getElem?_take, if_pos hi]; exact hx
        exact List.mem_of_getElem? this
      simp [inB_iff.2 hm]
    · rw [h]; rfl
theorem f2_mem {i M : Nat} (hi : i < M) (hM : M ≤ 3) : f2 i ∈ blsL.take M := by
  have : (blsL.take M)[i]? = some (f2 i) := by
    rw [List.getElem?_take, if_pos hi]
    rcases (show i = 0 ∨ i = 1 ∨ i = 2 by omega) with rfl | rfl | rfl <;> rfl
  exact List.mem_of_getElem? this
theorem gen_term {N M : Nat} {t : Stm} (hM : M ≤ 3) (h : termS M t) : stmtE (fnsL.take N) (blsL.take M) true t = 0 := by
  refine stmtE_0 (S := blsL.take M) ?_ ?_ ?_
  · rcases h with ⟨h, _⟩ | ⟨h, _⟩ | ⟨h, _⟩ <;> rw [h] <;> rfl
  · rcases h with ⟨h, _⟩ | ⟨h, _⟩ | ⟨h, _⟩ <;> rw [h] <;> rfl
  · rcases h with ⟨_, _, _, h⟩ | ⟨_, _, _, i, hi, h⟩ | ⟨_, _, _, i, j, hi, hj, h⟩
    · rw [h]; rfl
    · rw [h]; simp [inB_iff.2 (f2_mem hi hM)]
    · rw [h]; simp [inB_iff.2 (f2_mem hi hM), inB_iff.2 (f2_mem hj hM)]
theorem gen_blk {N M : Nat} {b : Blk} {k : Nat} (hM : M ≤ 3) (h : genB N M b) : (List.range b.ss.length).findSome? (stAt (fnsL.take N) (blsL.take M) b.ss k) = none := by
  obtain ⟨body, t, hb, hl, hbody, ht⟩ := h
  refine none_all fun j hj => ?_
  rw [hb] at hj ⊢
  rcases Nat.lt_or_ge j body.length with h1 | h1
  · refine st_none (t := body[j]) (e := 0) (by rw [List.getElem?_append_left h1, List.getElem?_eq_getElem h1]) ?_ rfl
    rw [decide_eq_false (by simp; omega)]
    exact gen_stm (hbody _ (List.getElem_mem h1))
  · have e : j = body.length := by simp at hj; omega
    subst e
    refine st_none (t := t) (e := 0) (by simp) ?_ rfl
    rw [decide_eq_true (by simp)]
    exact gen_term hM ht
theorem gen_fnc {N : Nat} {f : FH} (h : genF N f) : blocksE (fnsL.take N) f.f.bs = (0, 0, 0) := by
  obtain ⟨h1, h2, h3⟩ := h
  have hnm : f.f.bs.map Blk.name = blsL.take f.l.length := by
    rw [show f.f.bs.map Blk.name = f.l.map fun y => y.name by simp [FH.f, BH.b]]
    exact names_take (fun j y hy => (h3 j y hy).1) h2
  refine blocks_end (k := f.f.bs.length) (by rw [hnm]; exact dup_bls _) ?_ rfl
  rw [hnm]
  refine none_all fun k hk => ?_
  have hk2 : k < f.l.length := by simpa [FH.f] using hk
  have hy : f.l[k]? = some f.l[k] := List.getElem?_eq_getElem hk2
  rw [blk_at (b := (f.l[k]).b) (by show (f.l.map BH.b)[k]? = _; rw [List.getElem?_map, hy]; rfl)]
  exact gen_blk h2 (h3 k _ hy).2
theorem gen_funcs {ls : List FH} (h : genP ls) : funcsE (ls.map FH.f) = ((0, 0, 0, 0), 0) := by
  obtain ⟨h1, h2, h3⟩ := h
  have hnm : (ls.map FH.f).map Fnc.name = fnsL.take ls.length := by
    rw [show (ls.map FH.f).map Fnc.name = ls.map fun y => y.name by simp [FH.f]]
    exact names_take (fun j y hy => (h3 j y hy).1) h2
  refine funcs_end (k := (ls.map FH.f).length) (by rw [hnm]; exact dup_fns _) ?_ rfl
  rw [hnm]
  refine none_all fun k hk => ?_
  have hk2 : k < ls.length := by simpa using hk
  have hy : ls[k]? = some ls[k] := List.getElem?_eq_getElem hk2
  exact fn_none (f := (ls[k]).f) (by rw [List.getElem?_map, hy]; rfl) (gen_fnc (h3 k _ hy).2) rfl
theorem gen_occ {N : Nat} {t : Stm} (h : genS N t) : ∀ x ∈ occP t, x ∈ varsL := by
  unfold occP
  rcases h with ⟨h, _, hu, _⟩ | ⟨h, hd, hu, _⟩ | ⟨h, _, ⟨y, hy, hu⟩, _⟩ | ⟨h, _, hu, _⟩ | ⟨h, hd, hu, _⟩
  · rw [h]; intro x hx; exact hu.2.2 x hx
  · rcases h with h | h <;> rw [h, hu] <;> intro x hx <;> simp [defB] at hx <;> (subst hx; exact hd)
  · rw [h, hu]; intro x hx; simp [defB] at hx; subst hx; exact hy
  · rw [h, hu]; intro x hx; simp [defB] at hx
  · rw [h]; intro x hx; simp [defB] at hx; rcases hx with rfl | hx; exact hd; exact hu.2 x hx
theorem term_occ {M : Nat} {t : Stm} (h : termS M t) : ∀ x ∈ occP t, x ∈ varsL := by
  unfold occP
  rcases h with ⟨h, _, hu, _⟩ | ⟨h, _, hu, _⟩ | ⟨h, _, ⟨y, hy, hu⟩, _⟩
  · rw [h, hu]; intro x hx; simp [defB] at hx
  · rw [h, hu]; intro x hx; simp [defB] at hx
  · rw [h, hu]; intro x hx; simp [defB] at hx; subst hx; exact hy
theorem gen_each {ls : List FH} (h : genP ls) : ∀ t ∈ (ls.map FH.f).flatMap fncS, ∃ N M, genS N t ∨ termS M t := by
  refine flat_mem fun f hf => flat_mem fun b hb s hs => ?_
  obtain ⟨y, hy, rfl⟩ := List.mem_map.1 hf
  obtain ⟨z, hz, rfl⟩ := List.mem_map.1 (show b ∈ y.l.map BH.b from hb)
  obtain ⟨i, hi⟩ := List.mem_iff_getElem?.1 hy
  obtain ⟨j, hj⟩ := List.mem_iff_getElem?.1 hz
  obtain ⟨body, t, hbt, _, hbody, ht⟩ := ((h.2.2 i y hi).2.2.2 j z hj).2
  rw [hbt] at hs
  rcases List.mem_append.1 hs with hs | hs
  · exact ⟨_, 0, .inl (hbody s hs)⟩
  · simp at hs; subst hs; exact ⟨0, _, .inr ht⟩
theorem gen_vars {ls : List FH} (h : genP ls) : (varsP (ls.map FH.f)).length ≤ 64 := by
  have h1 := foldV_ok (S := varsL) ((stmtsP (ls.map FH.f)).flatMap occP) [] ⟨List.nodup_nil, by simp⟩ (by
    unfold stmtsP
    rw [if_pos (genP_ok h)]
    refine flat_mem fun t ht => ?_
    obtain ⟨N, M, h2 | h2⟩ := gen_each h t ht
    · exact gen_occ h2
    · exact term_occ h2)
  have h2 := nodup_len _ _ h1.1 h1.2
  have h3 : varsL.length = 4 := rfl
  show (List.foldl addV [] _).length ≤ 64
  omega
theorem flat_len2 {α β : Type} (f : α → List β) (l : List α) (k m : Nat) (hl : l.length ≤ k) (h : ∀ x ∈ l, (f x).length ≤ m) : (l.flatMap f).length ≤ k * m := by
  have key : ∀ l : List α, (∀ x ∈ l, (f x).length ≤ m) → (l.flatMap f).length ≤ l.length * m := by
    intro l
    induction l with
    | nil => intro _; simp
    | cons x l ih =>
      intro h
      rw [List.flatMap_cons, List.length_append, List.length_cons, Nat.succ_mul]
      have := h x (List.mem_cons_self ..)
      have := ih fun y hy => h y (List.mem_cons_of_mem _ hy)
      omega
  exact Nat.le_trans (key l h) (Nat.mul_le_mul_right _ hl)
theorem gen_stmts {ls : List FH} (h : genP ls) : ((ls.map FH.f).flatMap fncS).length ≤ 36 := by
  refine Go.Proofs.YtcgichfanfijjaaGreatDoor.flat_len2 fncS _ 3 12 (by rw [List.length_map]; exact h.2.1) fun f hf => ?_
  obtain ⟨y, hy, rfl⟩ := List.mem_map.1 hf
  obtain ⟨i, hi⟩ := List.mem_iff_getElem?.1 hy
  have hg := (h.2.2 i y hi).2
  refine Go.Proofs.YtcgichfanfijjaaGreatDoor.flat_len2 Blk.ss _ 3 4 (by show (y.l.map BH.b).length ≤ 3; rw [List.length_map]; exact hg.2.1) fun b hb => ?_
  obtain ⟨z, hz, rfl⟩ := List.mem_map.1 (show b ∈ y.l.map BH.b from hb)
  obtain ⟨j, hj⟩ := List.mem_iff_getElem?.1 hz
  obtain ⟨body, t, hbt, hbl, _, _⟩ := (hg.2.2 j z hj).2
  rw [hbt]; simp; omega
theorem gen_check {ls : List FH} (h : genP ls) : checkP (ls.map FH.f) = ((0, 0, 0, 0), 0) := by
  refine chk_fine (genP_ok h) (gen_funcs h) rfl ?_
  have h1 := gen_vars h
  have h2 := gen_stmts h
  have h3 : stmtsP (ls.map FH.f) = (ls.map FH.f).flatMap fncS := by unfold stmtsP; rw [if_pos (genP_ok h)]
  have h4 := sumP_le nod_le ((ls.map FH.f).flatMap fncS)
  have h5 := sumP_le edg_le ((ls.map FH.f).flatMap fncS)
  have h6 : (ls.map FH.f).length ≤ 3 := by rw [List.length_map]; exact h.2.1
  have h7 : (sizesP (ls.map FH.f)).1 ≤ 256 ∧ (sizesP (ls.map FH.f)).2 ≤ 1024 := by
    unfold sizesP
    rw [h3]
    split
    · simp
    · constructor
      · show 2 * _ + _ ≤ 256; omega
      · show _ + _ ≤ 1024; omega
  unfold fitB
  simp [h1, h7.1, h7.2]
end Go.Proofs.YtcgichfanfijjaaGreatDoor

namespace Go.Proofs.YtcgichfanfijjaaGreatDoor
set_option maxRecDepth 20000
set_option linter.unusedVariables false
set_option linter.unusedSimpArgs false
open Go.ChangeShapes Go.WideShapes Go.ChangeAt Go.RowKit
attribute [local go_sem ↓] Go.wp_at_zero Go.wp_at_succ

def RetCl (w : World) (l : List ByteArray) (e : Ending) (w' : World) : Prop :=
  ∃ (A : Option Addr) (n c : Nat), e = .returned (.slice A n c) ∧ SArg w' A n l ∧ (∀ ad, A = some ad → w.heap.size ≤ ad.block) ∧ Below w.heap.size w w'
set_option maxHeartbeats 1600000 in
theorem clone_any (A : Option Addr) (n c : Nat) (l : List ByteArray) (w : World) (hA : SArg w A n l) : Calls Tryz.prog 90 #[.slice A n c] w (RetCl w l) := by
  obtain ⟨i0, hi, hz0, hz1, hz2⟩ := info_parts info9
  have Hi := hid hi; have Hz0 := hid hz0; have Hz1 := hid hz1; have Hz2 := hid hz2
  clear hi hz0 hz1 hz2
  have hl := hA.len
  have HL := hid hl
  have hf := hA.few
  have HA := hid hA
  clear hA
  by_cases h0 : n = 0
  · subst h0
    have Hl := hid (show l = [] from List.length_eq_zero_iff.1 HL.out)
    clear hl
    rcases A with _ | a0
    · have hnil : ∀ w : World, (binOp .eql 62 (.slice none 0 c) (.slice none 0 0)).run Tryz.prog w = .ok (.bool true) w := fun w => Lib.run_eql_slice_nil w 62 9 none 0 c 0 0 Tryz.underlying62
      go_enter Tryz.func90, Tryz.ntmps90
      go_wp2_with fail
      go_ret
      rw [Hl.out]
      exact ⟨none, 0, 0, rfl, ⟨.inl rfl, rfl, by omega, by simp⟩, (fun _ h => by cases h), Below.refl _ _⟩
    · have HB := hid ((Below.refl w.heap.size w).alloc (Nat.le_refl _) (.cells #[] 9))
      have hnil : ∀ w : World, (binOp .eql 62 (.slice (some a0) 0 c) (.slice none 0 0)).run Tryz.prog w = .ok (.bool false) w := fun w => Lib.run_eql_slice_nil w 62 9 (some a0) 0 c 0 0 Tryz.underlying62
      go_enter Tryz.func90, Tryz.ntmps90
      go_wp2_with fail
      go_ret
      rw [Hl.out]
      exact ⟨_, 0, _, rfl, ⟨.inl rfl, rfl, by omega, by simp⟩, (fun ad h => by injection h with h; subst h; exact Nat.le_refl _), HB.out⟩
  · obtain ⟨ad, rfl, had, hc⟩ : ∃ ad, A = some ad ∧ ad.block < w.heap.size ∧ ∀ j u, (l.map Value.string)[j]? = some u → w.cell? (ad.add j) = some u := by
      rcases HA.out.lies with h | h
      · have := congrArg List.length h; simp at this; subst this; simp at hl; omega
      · exact h
    have hb2 := (Below.refl w.heap.size w).alloc (Nat.le_refl _) (.cells #[] 9)
    have HB2 := hid hb2
    have Hc := hid (fun j u (h : (l.map Value.string)[j]? = some u) => (show (w.alloc (.cells #[] 9)).cell? (ad.add j) = some u from (World.cell?_of_block (by rw [add_block]; exact hb2.block _ had)).trans (hc j u h)))
    have HO := hid (World.ownsRow_lit (base := w.heap.size) (e := 9) (size := 1) w #[] 0 (Nat.le_refl _) (by unfold maxLen; omega) rfl)
    have Hul := hid (show (l.map Value.string).length = n * 1 by rw [List.length_map, HL.out]; omega)
    have hpos : 0 < n := by omega
    clear hc hl hb2 h0
    have hnil : ∀ w : World, (binOp .eql 62 (.slice (some ad) n c) (.slice none 0 0)).run Tryz.prog w = .ok (.bool false) w := fun w => Lib.run_eql_slice_nil w 62 9 (some ad) n c 0 0 Tryz.underlying62
    go_enter Tryz.func90, Tryz.ntmps90
    go_wp2_with ((
      at_builtin
      go_must (refine wpList_append_lies _ rfl _ _ 62 rfl w.heap.size 9 i0 _ 1 16 Tryz.underlying62 Hi.out Hz0.out Hz1.out Hz2.out rfl (by decide) _ 0 [] rfl HO.out ad n c (l.map Value.string) rfl Hul.out Hc.out (one_strs l) hpos (by unfold maxLen; omega) (by omega) (by rw [World.size_alloc]; omega) _ rfl ?_)
      intro g5 cap5 w5 hown5 hgr5 hat5 hlt5))
    have HB5 := hid (HB2.out.grown hgr5 HB2.out.size (fun k hk => (HO.out.lt k hk).1))
    have Hown := hid hown5
    clear hown5 hgr5 hat5 hlt5
    go_wp2_with fail
    go_ret
    exact ⟨_, _, _, rfl, ⟨by have := own_at Hown.out; rw [List.nil_append] at this; exact this, by have := HL.out; omega, by omega, HA.out.small⟩, (fun ad h => by injection h with h; subst h; exact (Hown.out.lt _ rfl).1), HB5.out⟩
/-- A list of strings that lies behind N. -/
structure SLk (N : Nat) (w : World) (A : Option Addr) (n : Nat) (L : List ByteArray) : Prop where
  arg : SArg w A n L
  off : ∀ ad, A = some ad → N ≤ ad.block
theorem SLk.grown {N g : Nat} {w w' : World} {A : Option Addr} {n : Nat} {L : List ByteArray} (h : SLk N w A n L) (hN : g < N) (hg : w.grownBy w' (some g)) : SLk N w' A n L := by
  refine ⟨⟨?_, h.arg.len, h.arg.few, h.arg.small⟩, h.off⟩
  rcases h.arg.lies with e | ⟨ad, e, hlt, hc⟩
  · exact .inl e
  · exact .inr ⟨ad, e, Nat.lt_of_lt_of_le hlt hg.size, fun j u hu => (World.cell?_of_block (by rw [add_block]; exact hg.block _ hlt (by have := h.off ad e; intro e2; injection e2 with e2; omega))).trans (hc j u hu)⟩
theorem SLk.below {N : Nat} {w w' : World} {A : Option Addr} {n : Nat} {L : List ByteArray} (h : SLk N w A n L) (hb : Below w.heap.size w w') : SLk N w' A n L := ⟨h.arg.below hb, h.off⟩
theorem SLk.of {N : Nat} {w w' : World} {A : Option Addr} {n : Nat} {L : List ByteArray} (h : SArg w' A n L) (hb : ∀ ad, A = some ad → w.heap.size ≤ ad.block) (hg : N ≤ w.heap.size) : SLk N w' A n L :=
  ⟨h, fun ad e => Nat.le_trans hg (hb ad e)⟩
/-- The statement of a node came back, in lists of its own. -/
def RetSm (w : World) (t : Stm) (e : Ending) (w' : World) : Prop :=
  ∃ (A : Option Addr) (n c : Nat) (B : Option Addr) (m d : Nat), e = .returned (.tuple #[.agg #[.int .i64 t.op, .string t.d, .slice A n c, .slice B m d], .bool true]) ∧ StArg w' t.op t.d A n B m t ∧ Below w.heap.size w w' ∧ (∀ ad, A = some ad → w.heap.size ≤ ad.block) ∧ (∀ ad, B = some ad → w.heap.size ≤ ad.block)
theorem prog_stm {w : World} {ex : List (Option Nat)} {x : PH} (h : PHok w ex x) {f b j : Nat} {F : Fnc} {B : Blk} {t : Stm} (h1 : x.p[f]? = some F) (h2 : F.bs[b]? = some B) (h3 : B.ss[j]? = some t) :
    ∃ (y : FH) (z : BH) (s : SH), x.l[f]? = some y ∧ y ∈ x.l ∧ y.l[b]? = some z ∧ z ∈ y.l ∧ z.l[j]? = some s ∧ s ∈ z.l ∧ s.t = t ∧ y.f = F ∧ z.b = B := by
  unfold PH.p at h1
  rw [List.getElem?_map] at h1
  obtain ⟨y, hy, rfl⟩ := Option.map_eq_some_iff.1 h1
  change (y.l.map BH.b)[b]? = some B at h2
  rw [List.getElem?_map] at h2
  obtain ⟨z, hz, rfl⟩ := Option.map_eq_some_iff.1 h2
  change (z.l.map SH.t)[j]? = some t at h3
  rw [List.getElem?_map] at h3
  obtain ⟨s, hs, rfl⟩ := Option.map_eq_some_iff.1 h3
  exact ⟨y, z, s, hy, List.mem_of_getElem? hy, hz, List.mem_of_getElem? hz, hs, List.mem_of_getElem? hs, rfl, rfl, rfl⟩
set_option maxHeartbeats 6400000 in
theorem stmtN_any (x : PH) (kd : Int) (f b j : Nat) (F : Fnc) (B : Blk) (t : Stm) (ex : List (Option Nat)) (w : World) (h : PHok w ex x) (hs : Shp w) (h1 : x.p[f]? = some F) (h2 : F.bs[b]? = some B) (h3 : B.ss[j]? = some t)
    (hk1 : (kd == 1) = false) (hk2 : (kd == 2) = false) (i : Nat) (hfind : findI (listN x.p) ⟨kd, f, b, j⟩ = (i : Int)) :
    Calls Tryz.prog 59 #[.agg #[.slice x.A x.n x.c], .agg #[.int .i64 kd, .int .i64 f, .int .i64 b, .int .i64 j]] w (RetSm w t) := by
  have hx0 : PHok w [] x := h.go (Go2.less w (by simp))
  obtain ⟨y, z, s, hy, hym, hz, hzm, hss, hsm, rfl, -, -⟩ := prog_stm hx0 h1 h2 h3
  have hb0 : Below w.heap.size w (((w.alloc (.cells #[.slice x.A x.n x.c] 25)).alloc (.cells #[.int .i64 kd, .int .i64 f, .int .i64 b, .int .i64 j] 50)).alloc (.cells #[.int .i64 0, .string ⟨#[]⟩, .slice none 0 0, .slice none 0 0] 70)) := (((Below.refl w.heap.size w).alloc (Nat.le_refl _) _).alloc (by rw [World.size_alloc]; omega) _).alloc (by rw [World.size_alloc, World.size_alloc]; omega) _
  have HB0 := hid hb0
  have HP0 := hid ((Fb.new w #[.slice x.A x.n x.c] 25).alloc (.cells #[.int .i64 kd, .int .i64 f, .int .i64 b, .int .i64 j] 50) |>.alloc (.cells #[.int .i64 0, .string ⟨#[]⟩, .slice none 0 0, .slice none 0 0] 70))
  have HN0 := hid (show Fb (((w.alloc (.cells #[.slice x.A x.n x.c] 25)).alloc (.cells #[.int .i64 kd, .int .i64 f, .int .i64 b, .int .i64 j] 50)).alloc (.cells #[.int .i64 0, .string ⟨#[]⟩, .slice none 0 0, .slice none 0 0] 70)) (w.heap.size + 1) #[.int .i64 kd, .int .i64 f, .int .i64 b, .int .i64 j] 50 by have := (Fb.new (w.alloc (.cells #[.slice x.A x.n x.c] 25)) #[.int .i64 kd, .int .i64 f, .int .i64 b, .int .i64 j] 50).alloc (.cells #[.int .i64 0, .string ⟨#[]⟩, .slice none 0 0, .slice none 0 0] 70); rwa [World.size_alloc] at this)
  have HR0 := hid (show Fb (((w.alloc (.cells #[.slice x.A x.n x.c] 25)).alloc (.cells #[.int .i64 kd, .int .i64 f, .int .i64 b, .int .i64 j] 50)).alloc (.cells #[.int .i64 0, .string ⟨#[]⟩, .slice none 0 0, .slice none 0 0] 70)) (w.heap.size + 1 + 1) #[.int .i64 0, .string ⟨#[]⟩, .slice none 0 0, .slice none 0 0] 70 by have := Fb.new ((w.alloc (.cells #[.slice x.A x.n x.c] 25)).alloc (.cells #[.int .i64 kd, .int .i64 f, .int .i64 b, .int .i64 j] 50)) #[.int .i64 0, .string ⟨#[]⟩, .slice none 0 0, .slice none 0 0] 70; rwa [World.size_alloc, World.size_alloc] at this)
  have HX0 := hid hx0
  have Hss := hid hss; have Hz := hid hz; have Hy := hid hy
  have HC := hid (find_any x ⟨kd, f, b, j⟩ [] _ (PHok.below hx0 hb0) (hs.keep (hb0.block 0 hs.pos0)))
  rw [hfind] at HC
  unfold agN at HC
  simp only at HC
  clear h hs h1 h2 h3 hb0 hx0 hfind
  have hfl : f < x.n := by have := (List.getElem?_eq_some_iff.1 hy).1; have h2 : x.l.length = x.n := HX0.out.len; omega
  have hfn : x.n ≤ 40 := HX0.out.few
  have hbl : b < y.n := by have := (List.getElem?_eq_some_iff.1 hz).1; have h2 : y.l.length = y.n := (HX0.out.all y hym).len; omega
  have hbn : y.n ≤ 40 := (HX0.out.all y hym).few
  have hjl : j < z.n := by have := (List.getElem?_eq_some_iff.1 hss).1; have h2 : z.l.length = z.n := ((HX0.out.all y hym).all z hzm).len; omega
  have hjn : z.n ≤ 40 := ((HX0.out.all y hym).all z hzm).few
  have Hym := hid hym; have Hzm := hid hzm; have Hsm := hid hsm
  clear hy hz hss hym hzm hsm
  go_enter Tryz.func59, Tryz.ntmps59
  go_wp2_with fail
  generalize ((w.alloc (.cells #[.slice x.A x.n x.c] 25)).alloc (.cells #[.int .i64 kd, .int .i64 f, .int .i64 b, .int .i64 j] 50)).alloc (.cells #[.int .i64 0, .string ⟨#[]⟩, .slice none 0 0, .slice none 0 0] 70) = w0 at HB0 HP0 HN0 HR0 HC ⊢
  refine HC.out.mono ?_
  rintro e w1 ⟨rfl, hb1⟩
  have HB1 := hid (below_step HB0.out hb1)
  have HP1 := hid (HP0.out.below hb1 HP0.out.lt)
  have HN1 := hid (HN0.out.below hb1 HN0.out.lt)
  have HR1 := hid (HR0.out.below hb1 HR0.out.lt)
  have HX1 := hid (PHok.below HX0.out HB1.out)
  clear hb1 HB0 HP0 HN0 HR0 HC HX0
  obtain ⟨ad, hA, had, hc1, hc2⟩ := FH.cells HX1.out.lies Hy.out
  have HY := hid (HX1.out.all y Hym.out)
  obtain ⟨ad2, hA2, had2, hd1, hd2⟩ := BH.cells HY.out.lies Hz.out
  have HZ := hid (HY.out.all z Hzm.out)
  obtain ⟨ad3, hA3, had3, he1, he2, he3, he4⟩ := SH.cells HZ.out.lies Hss.out
  have HSx := hid (HZ.out.all s Hsm.out)
  obtain ⟨xA, xn, xc, xl⟩ := x
  obtain ⟨ynm, yA, yn, yc, yl⟩ := y
  obtain ⟨znm, zA, zn, zc, zl⟩ := z
  simp only at *
  subst hA; subst hA2; subst hA3
  have p0 := HP1.out.onec
  obtain ⟨n0, n1, n2, n3⟩ := Fb.four HN1.out
  have hlP := HP1.out.lt
  have hlN := HN1.out.lt
  have had' : (ad.add (f * 2)).block < w1.heap.size := by rw [add_block]; exact had
  have had2' : (ad2.add (b * 2)).block < w1.heap.size := by rw [add_block]; exact had2
  have had3' : (ad3.add (j * 4)).block < w1.heap.size := by rw [add_block]; exact had3
  have hi0 : decide ((i : Int) < 0) = false := by simp
  clear Hy Hz Hss Hym Hzm Hsm HX1 HY HZ
  go_wp2_with fail
  clear hi0
  have HB5 := hid HB1.out
  go_upto_region 3 with fail
  go_cut [6] (fun a wc => ∃ g : Nat, a = .pointer (some ⟨g, 0, none⟩) ∧ w1.heap.size ≤ g ∧ Hid (Fb wc g #[.int .i64 s.t.op, .string s.t.d, .slice s.A s.n s.c, .slice s.B s.m s.c2] 70 ∧ Below w1.heap.size w1 wc))
  case first =>
    have HZ1 := hid (And.intro (Fb.drewN (Fb.new w1 #[.int .i64 s.t.op, .string s.t.d, .slice s.A s.n s.c, .slice s.B s.m s.c2] 70) 1) (below_drewN ((Below.refl w1.heap.size w1).alloc (Nat.le_refl _) (.cells #[.int .i64 s.t.op, .string s.t.d, .slice s.A s.n s.c, .slice s.B s.m s.c2] 70)) 1))
    go_region
    go_wp2_with fail
    go_meet
    exact ⟨_, rfl, Nat.le_refl _, HZ1⟩
  case rest =>
    clear hc1 hc2 hd1 hd2 he1 he2 he3 he4 had had2 had3 had' had2' had3' p0 n0 n1 n2 n3 hlP hlN
    obtain ⟨g, rfl, hg, HZ⟩ := hcut
    obtain ⟨sA, sn, sc, sB, sm, sd, ⟨op, dd, us, ts⟩⟩ := s
    simp only at *
    have Hg := hid HZ.out.1
    have HBc := hid (below_step HB5.out HZ.out.2)
    have HU := hid (show SArg wc sA sn us from (HSx.out.go (Go2.below HZ.out.2)).uses.arg)
    have HT := hid (show SArg wc sB sm ts from (HSx.out.go (Go2.below HZ.out.2)).targets.arg)
    have HRc := hid (HR1.out.below HZ.out.2 HR1.out.lt)
    have Hds := hid (show dd.size ≤ 100000 by have := HSx.out.small; simp only at this; omega)
    have hgl := Hg.out.lt
    have hgR : g ≠ w.heap.size + 1 + 1 := by have := HR1.out.lt; omega
    have HgR := hid hgR
    have HRg := hid (show w.heap.size + 1 + 1 < g + 1 by have := HR1.out.lt; omega)
    have Hgw := hid (show w.heap.size ≤ g by have := HB1.out.size; omega)
    clear HZ HSx HR1 HB1 HB5 HP1 HN1
    have HK : Hid (∀ w' : World, Below wc.heap.size wc w' → Below wc.heap.size wc w' ∧ (w'.cell? ⟨g, 0, none⟩ = some (.int .i64 op) ∧ w'.cell? ⟨g, 1, none⟩ = some (.string dd) ∧ w'.cell? ⟨g, 2, none⟩ = some (.slice sA sn sc) ∧ w'.cell? ⟨g, 3, none⟩ = some (.slice sB sm sd)) ∧ (w'.frozen? ⟨g, 2, none⟩ = false ∧ w'.frozen? ⟨g, 3, none⟩ = false) ∧ g < w'.heap.size) :=
      hid fun w' h => ⟨h, Fb.four (Hg.out.below h hgl), ⟨(Hg.out.below h hgl).frozen 2, (Hg.out.below h hgl).frozen 3⟩, (Hg.out.below h hgl).lt⟩
    have HFb : Hid (∀ w' : World, Below wc.heap.size wc w' → Fb w' g #[.int .i64 op, .string dd, .slice sA sn sc, .slice sB sm sd] 70 ∧ Fb w' (w.heap.size + 1 + 1) #[.int .i64 0, .string ⟨#[]⟩, .slice none 0 0, .slice none 0 0] 70 ∧ Below w.heap.size w w') := hid fun w' h => ⟨Hg.out.below h hgl, HRc.out.below h HRc.out.lt, below_step HBc.out h⟩
    obtain ⟨-, ⟨m0, m1, m2, m3⟩, ⟨z2, z3⟩, -⟩ := HK.out _ (Below.refl _ _)
    clear Hg HRc HBc hgR
    go_upto_region 4 with fail
    go_cut [] (fun wd => ∃ (A1 : Option Addr) (n1 c1 : Nat) (B1 : Option Addr) (k1 d1 : Nat), Hid (Fb wd g #[.int .i64 op, .string dd, .slice A1 n1 c1, .slice B1 k1 d1] 70 ∧ Fb wd (w.heap.size + 1 + 1) #[.int .i64 0, .string ⟨#[]⟩, .slice none 0 0, .slice none 0 0] 70 ∧ Below w.heap.size w wd ∧ SLk (g + 1) wd A1 n1 us ∧ SLk (g + 1) wd B1 k1 ts))
    case first =>
      have HUf := hid (fun v (h : Below wc.heap.size wc v) => HU.out.below h)
      have HTf := hid (fun v (h : Below wc.heap.size wc v) => HT.out.below h)
      have hcur : Below wc.heap.size wc wc.drew := (Below.refl _ _).drew
      go_region_law (
          (go_simp
           first
           | (go_at_call_of 90 sA
              refine (clone_any sA sn sc us _ (HUf.out _ hcur)).mono ?_
              rintro e wn ⟨A1, n1, c1, rfl, ha1, ho1, hbk⟩
              have H1 := hid (SLk.of (N := g + 1) ha1 ho1 (HK.out _ hcur).2.2.2)
              try (have H2 := hid (H2.out.below hbk))
              have hcur := below_step hcur hbk
              obtain ⟨-, ⟨m0, m1, m2, m3⟩, ⟨z2, z3⟩, hgl⟩ := HK.out _ hcur
              clear ha1 ho1 hbk)
           | (go_at_call_of 90 sB
              refine (clone_any sB sm sd ts _ (HTf.out _ hcur)).mono ?_
              rintro e wm ⟨B1, k1, d1, rfl, ha2, ho2, hbk⟩
              have H2 := hid (SLk.of (N := g + 1) ha2 ho2 (HK.out _ hcur).2.2.2)
              try (have H1 := hid (H1.out.below hbk))
              have hcur := below_step hcur hbk
              obtain ⟨-, ⟨m0, m1, m2, m3⟩, ⟨z2, z3⟩, hgl⟩ := HK.out _ hcur
              clear ha2 ho2 hbk)))
      all_goals
        have hfb := HFb.out _ hcur
        have hgr : wm.grownBy ((wm.setCell ⟨g, 2, none⟩ (.slice A1 n1 c1)).setCell ⟨g, 3, none⟩ (.slice B1 k1 d1)) (some g) := grown_trans (setCell_grown wm ⟨g, 2, none⟩ (.slice A1 n1 c1)) (setCell_grown _ ⟨g, 3, none⟩ (.slice B1 k1 d1))
        have HQ := hid (And.intro (show Fb ((wm.setCell ⟨g, 2, none⟩ (.slice A1 n1 c1)).setCell ⟨g, 3, none⟩ (.slice B1 k1 d1)) g #[.int .i64 op, .string dd, .slice A1 n1 c1, .slice B1 k1 d1] 70 from (hfb.1.set 2 (.slice A1 n1 c1)).set 3 (.slice B1 k1 d1)) (And.intro (hfb.2.1.grown hgr (fun e => HgR.out (by injection e with e; exact e.symm))) (And.intro (hfb.2.2.grown hgr hfb.2.2.size (fun k hk => by injection hk with hk; have := Hgw.out; omega)) (And.intro (H1.out.grown (Nat.lt_succ_self g) hgr) (H2.out.grown (Nat.lt_succ_self g) hgr)))))
        clear hfb hgr H1 H2 HK HFb HU HT HUf HTf m0 m1 m2 m3 z2 z3
        go_wp2_with fail
        go_meet
        exact ⟨_, _, _, _, _, _, HQ⟩
    case rest =>
      obtain ⟨A1, n1, c1, B1, k1, d1, HQ⟩ := hcut
      have hr := HQ.out.2.1
      obtain ⟨x0, x1, x2, x3⟩ := Fb.four HQ.out.1
      obtain ⟨y0, y1, y2, y3⟩ := Fb.four hr
      have v0 := hr.frozen 0
      have v1 := hr.frozen 1
      have v2 := hr.frozen 2
      have v3 := hr.frozen 3
      have hrl := hr.lt
      have hgl2 := HQ.out.1.lt
      have hRg := HRg.out
      have HF := hid (show RetSm w ⟨op, dd, us, ts⟩ (.returned (.tuple #[.agg #[.int .i64 op, .string dd, .slice A1 n1 c1, .slice B1 k1 d1], .bool true])) ((((wc.setCell ⟨w.heap.size + 1 + 1, 0, none⟩ (.int .i64 op)).setCell ⟨w.heap.size + 1 + 1, 1, none⟩ (.string dd)).setCell ⟨w.heap.size + 1 + 1, 2, none⟩ (.slice A1 n1 c1)).setCell ⟨w.heap.size + 1 + 1, 3, none⟩ (.slice B1 k1 d1)) from by
        have hgr : wc.grownBy ((((wc.setCell ⟨w.heap.size + 1 + 1, 0, none⟩ (.int .i64 op)).setCell ⟨w.heap.size + 1 + 1, 1, none⟩ (.string dd)).setCell ⟨w.heap.size + 1 + 1, 2, none⟩ (.slice A1 n1 c1)).setCell ⟨w.heap.size + 1 + 1, 3, none⟩ (.slice B1 k1 d1)) (some (w.heap.size + 1 + 1)) :=
          grown_trans (grown_trans (grown_trans (setCell_grown wc ⟨w.heap.size + 1 + 1, 0, none⟩ _) (setCell_grown _ ⟨w.heap.size + 1 + 1, 1, none⟩ _)) (setCell_grown _ ⟨w.heap.size + 1 + 1, 2, none⟩ _)) (setCell_grown _ ⟨w.heap.size + 1 + 1, 3, none⟩ _)
        exact ⟨A1, n1, c1, B1, k1, d1, rfl, ⟨(HQ.out.2.2.2.1.grown (by omega) hgr).arg, (HQ.out.2.2.2.2.grown (by omega) hgr).arg, rfl, rfl, Hds.out⟩, HQ.out.2.2.1.grown hgr HQ.out.2.2.1.size (fun k hk => by injection hk with hk; omega), fun ad e => by have := HQ.out.2.2.2.1.off ad e; have := Hgw.out; omega, fun ad e => by have := HQ.out.2.2.2.2.off ad e; have := Hgw.out; omega⟩)
      clear hRg m0 m1 m2 m3 z2 z3 HK HFb HU HT hr
      as_aux_lemma =>
        go_wp2_with fail
        refine bodyPost_ret (v := .tuple #[.agg #[.int .i64 op, .string dd, .slice A1 n1 c1, .slice B1 k1 d1], .bool true]) (by simp [results, Tryz.results59, go_sem, y0, y1, y2, y3, v0, v1, v2, v3, hrl]) rfl ?_
        exact HF.out
end Go.Proofs.YtcgichfanfijjaaGreatDoor

namespace Go.Proofs.YtcgichfanfijjaaGreatDoor
set_option maxRecDepth 20000
set_option linter.unusedVariables false
set_option linter.unusedSimpArgs false
open Go.ChangeShapes Go.WideShapes Go.ChangeAt Go.RowKit

/-- The statement's tape and the table of shapes stand, and nothing old has changed. -/
structure GoS (w : World) (T : Nat) (wr : World) : Prop where
  go : Going w T wr
  shp : Shp wr
  pos : 0 < w.heap.size
theorem GoS.step {w wr w' : World} {T : Nat} (h : GoS w T wr) (hg : Going w T w') (hw : wr.grownBy w' (some T)) : GoS w T w' :=
  ⟨hg, h.shp.keep (hw.block 0 h.shp.lt (by have := h.go.2.2; have := h.pos; intro e; injection e with e; omega)), h.pos⟩
theorem GoS.stepT {w wr w' : World} {T : Nat} (h : GoS w T wr) (ht : Tape w' T) (hw : wr.grownBy w' (some T)) : GoS w T w' := h.step (h.go.step ht hw) hw
theorem GoS.below {w wr w' : World} {T : Nat} (h : GoS w T wr) (hb : Below wr.heap.size wr w') : GoS w T w' := h.step (h.go.below hb) (grown_of_below hb _)
theorem GoS.alloc {w wr : World} {T : Nat} (h : GoS w T wr) (o : Obj) : GoS w T (wr.alloc o) := h.below ((Below.refl _ _).alloc (Nat.le_refl _) o)

def pre1 (p : List Fnc) (k : Nat) : List Nd := (List.range k).flatMap (ndFs p)
def pre2 (p : List Fnc) (k : Nat) (bs : List Blk) (b : Nat) : List Nd := (pre1 p k ++ [⟨1, k, -1, -1⟩]) ++ (List.range b).flatMap (ndBs k bs)
def pre3 (p : List Fnc) (k : Nat) (bs : List Blk) (b : Nat) (ss : List Stm) (i : Nat) : List Nd := pre2 p k bs b ++ (List.range i).flatMap (ndSs k b ss)
theorem range_pre {f : Nat → List Nd} {k n : Nat} (h : k ≤ n) : (List.range k).flatMap f <+: (List.range n).flatMap f := by
  obtain ⟨d, rfl⟩ := Nat.exists_eq_add_of_le h
  induction d with
  | zero => exact List.prefix_refl _
  | succ d ih => exact (ih (by omega)).trans (by rw [← Nat.add_assoc, range_flat]; exact List.prefix_append _ _)
theorem pre2_zero (p : List Fnc) (k : Nat) (bs : List Blk) : (pre2 p k bs 0).length = (pre1 p k).length + 1 := by simp [pre2]
theorem pre3_zero (p : List Fnc) (k : Nat) (bs : List Blk) (b : Nat) (ss : List Stm) : (pre3 p k bs b ss 0).length = (pre2 p k bs b).length := by simp [pre3]
theorem pre3_succ {p : List Fnc} {k : Nat} {bs : List Blk} {b : Nat} {ss : List Stm} {i : Nat} {t : Stm} (h : ss[i]? = some t) : pre3 p k bs b ss (i + 1) = pre3 p k bs b ss i ++ ndS k b i t := by
  unfold pre3
  rw [range_flat, ndSs_at h, List.append_assoc]
theorem pre3_all {p : List Fnc} {k : Nat} {bs : List Blk} {b : Nat} {x : Blk} (h : bs[b]? = some x) : pre3 p k bs b x.ss x.ss.length = pre2 p k bs (b + 1) := by
  unfold pre3 pre2
  rw [range_flat, ndBs_at h]
  simp [ndB]
theorem pre2_all {p : List Fnc} {k : Nat} {x : Fnc} (h : p[k]? = some x) : pre2 p k x.bs x.bs.length ++ [⟨2, k, -1, -1⟩] = pre1 p (k + 1) := by
  unfold pre2 pre1
  rw [range_flat, ndFs_at h]
  simp [ndF]
theorem pre2_mono {p : List Fnc} {k : Nat} {bs : List Blk} {b c : Nat} (h : b ≤ c) : pre2 p k bs b <+: pre2 p k bs c := (List.prefix_append_right_inj _).2 (range_pre h)
theorem pre3_mono {p : List Fnc} {k : Nat} {bs : List Blk} {b : Nat} {ss : List Stm} {i j : Nat} (h : i ≤ j) : pre3 p k bs b ss i <+: pre3 p k bs b ss j := (List.prefix_append_right_inj _).2 (range_pre h)
/-- A statement's nodes stand at their places. -/
theorem node_at {p : List Fnc} {k b i : Nat} {F : Fnc} {B : Blk} {t : Stm} (h1 : p[k]? = some F) (h2 : F.bs[b]? = some B) (h3 : B.ss[i]? = some t) {q : Nat} {nd : Nd} (hq : (ndS k b i t)[q]? = some nd) :
    (pre1 p p.length)[(pre3 p k F.bs b B.ss i).length + q]? = some nd := by
  have e1 : pre3 p k F.bs b B.ss i ++ ndS k b i t <+: pre3 p k F.bs b B.ss B.ss.length := by
    rw [← pre3_succ h3]
    exact pre3_mono (by have := (List.getElem?_eq_some_iff.1 h3).1; omega)
  rw [pre3_all h2] at e1
  have e2 := e1.trans (pre2_mono (p := p) (k := k) (bs := F.bs) (c := F.bs.length) (by have := (List.getElem?_eq_some_iff.1 h2).1; omega))
  have e3 : pre2 p k F.bs F.bs.length <+: pre1 p (k + 1) := by rw [← pre2_all h1]; exact List.prefix_append _ _
  have e4 : pre1 p (k + 1) <+: pre1 p p.length := range_pre (by have := (List.getElem?_eq_some_iff.1 h1).1; omega)
  obtain ⟨r, hr⟩ := (e2.trans e3).trans e4
  rw [← hr, List.append_assoc, List.getElem?_append_right (by omega), Nat.add_sub_cancel_left, List.getElem?_append_left (List.getElem?_eq_some_iff.1 hq).1]
  exact hq
/-- What stands in the list is found. -/
theorem find_has {L : List Nd} {n : Nd} {i : Nat} (h : L[i]? = some n) : ∃ j : Nat, findI L n = (j : Int) := by
  unfold findI
  cases hs : (List.range L.length).findSome? (findAt L n) with
  | none =>
    rw [List.findSome?_eq_none_iff] at hs
    have := hs i (List.mem_range.2 (List.getElem?_eq_some_iff.1 h).1)
    rw [find_yes h] at this
    cases this
  | some v =>
    obtain ⟨j, -, hj⟩ := List.exists_of_findSome?_eq_some hs
    unfold findAt at hj
    split at hj
    · injection hj with hj; exact ⟨j, by rw [← hj]; rfl⟩
    · cases hj
theorem ndS_kind {f b j : Nat} {t : Stm} {q : Nat} (h : q < (ndS f b j t).length) : ∃ kd : Int, (ndS f b j t)[q]? = some ⟨kd, f, b, j⟩ ∧ (kd == 1) = false ∧ (kd == 2) = false := by
  unfold ndS at h ⊢
  split at h
  · next ho =>
    rw [if_pos ho]
    have : q = 0 ∨ q = 1 := by simp at h; omega
    rcases this with rfl | rfl
    · exact ⟨3, rfl, rfl, rfl⟩
    · exact ⟨4, rfl, rfl, rfl⟩
  · next ho =>
    rw [if_neg ho]
    obtain rfl : q = 0 := by simp at h; omega
    exact ⟨3, rfl, rfl, rfl⟩
theorem ndS_len_yes {f b j : Nat} {t : Stm} (h : (t.op == 3) = true) : (ndS f b j t).length = 2 := by unfold ndS; rw [if_pos h]; rfl
theorem ndS_len_no {f b j : Nat} {t : Stm} (h : (t.op == 3) = false) : (ndS f b j t).length = 1 := by unfold ndS; rw [if_neg (by rw [h]; decide)]; rfl
/-- The walk's world: the program and the list of its nodes stand. -/
structure NW (w : World) (G : Nat) (x : PH) (A : Option Addr) (L : List Nd) (v : World) : Prop where
  bel : Below w.heap.size w v
  shp : Shp v
  prog : PHok v [] x
  ptr : Fb v G #[.slice x.A x.n x.c] 25
  nds : EAt v [] A (L.flatMap ndc)
theorem NW.below {w v v' : World} {G : Nat} {x : PH} {A : Option Addr} {L : List Nd} (h : NW w G x A L v) (hb : Below v.heap.size v v') : NW w G x A L v' :=
  ⟨below_step h.bel hb, h.shp.keep (hb.block 0 h.shp.pos0), PHok.below h.prog hb, h.ptr.below hb h.ptr.lt, h.nds.go (Go2.below hb)⟩
end Go.Proofs.YtcgichfanfijjaaGreatDoor

namespace Go.Proofs.YtcgichfanfijjaaGreatDoor
set_option maxRecDepth 20000
set_option linter.unusedVariables false
set_option linter.unusedSimpArgs false
open Go.ChangeShapes Go.WideShapes Go.ChangeAt Go.RowKit

/-- All edges, in their order. -/
def edgesN (p : List Fnc) : List (Nd × Nd) := (listN p).flatMap (lvE p)
def sumH (h : Nd → Nat) (l : List Nd) : Nat := (l.map h).sum
theorem sumH_append (h : Nd → Nat) (l m : List Nd) : sumH h (l ++ m) = sumH h l + sumH h m := by simp [sumH]
theorem sumH_len (l : List Nd) : sumH (fun _ => 1) l = l.length := by
  induction l with
  | nil => rfl
  | cons x l ih => unfold sumH at *; simp [ih]; omega
theorem flat_sum (p : List Fnc) (l : List Nd) : (l.flatMap (lvE p)).length = sumH (fun n => (lvE p n).length) l := by
  induction l with
  | nil => rfl
  | cons x l ih => rw [List.flatMap_cons, List.length_append, ih]; unfold sumH; simp
theorem sumP_append (f : Int → Nat) (l m : List Stm) : sumP f (l ++ m) = sumP f l + sumP f m := by simp [sumP]
theorem sum_stmts {h : Nd → Nat} {e : Int → Nat} {f b : Nat} {ss : List Stm} (hs : ∀ (j : Nat) (t : Stm), ss[j]? = some t → sumH h (ndS f b j t) = e t.op) : ∀ k, k ≤ ss.length → sumH h ((List.range k).flatMap (ndSs f b ss)) = sumP e (ss.take k) := by
  intro k
  induction k with
  | zero => intro _; rfl
  | succ k ih =>
    intro hk
    have ht : ss[k]? = some ss[k] := List.getElem?_eq_getElem (by omega)
    rw [range_flat, sumH_append, ih (by omega), ndSs_at ht, hs k _ ht, List.take_add_one, ht, sumP_append]
    simp [sumP]
theorem sum_blocks {h : Nd → Nat} {e : Int → Nat} {f : Nat} {bs : List Blk} (hs : ∀ (b : Nat) (B : Blk) (j : Nat) (t : Stm), bs[b]? = some B → B.ss[j]? = some t → sumH h (ndS f b j t) = e t.op) :
    ∀ k, k ≤ bs.length → sumH h ((List.range k).flatMap (ndBs f bs)) = sumP e ((bs.take k).flatMap Blk.ss) := by
  intro k
  induction k with
  | zero => intro _; rfl
  | succ k ih =>
    intro hk
    have ht : bs[k]? = some bs[k] := List.getElem?_eq_getElem (by omega)
    rw [range_flat, sumH_append, ih (by omega), ndBs_at ht, List.take_add_one, ht]
    have := sum_stmts (h := h) (e := e) (f := f) (b := k) (ss := bs[k].ss) (fun j t hj => hs k _ j t ht hj) bs[k].ss.length (Nat.le_refl _)
    unfold ndB
    rw [this, List.take_length, List.flatMap_append, sumP_append, Option.toList_some, List.flatMap_cons, List.flatMap_nil, List.append_nil]
theorem sum_funcs {h : Nd → Nat} {e : Int → Nat} {p : List Fnc} {c : Nat} (hc : ∀ f : Nat, h ⟨1, f, -1, -1⟩ + h ⟨2, f, -1, -1⟩ = c)
    (hs : ∀ (f : Nat) (F : Fnc) (b : Nat) (B : Blk) (j : Nat) (t : Stm), p[f]? = some F → F.bs[b]? = some B → B.ss[j]? = some t → sumH h (ndS f b j t) = e t.op) :
    ∀ k, k ≤ p.length → sumH h (pre1 p k) = k * c + sumP e ((p.take k).flatMap fncS) := by
  intro k
  induction k with
  | zero => intro _; simp [pre1, sumH, sumP]
  | succ k ih =>
    intro hk
    have ht : p[k]? = some p[k] := List.getElem?_eq_getElem (by omega)
    have hp : pre1 p (k + 1) = pre1 p k ++ ndF k p[k] := by unfold pre1; rw [range_flat, ndFs_at ht]
    rw [hp, sumH_append, ih (by omega), List.take_add_one, ht]
    have := sum_blocks (h := h) (e := e) (f := k) (bs := p[k].bs) (fun b B j t hb hj => hs k _ b B j t ht hb hj) p[k].bs.length (Nat.le_refl _)
    rw [List.take_length] at this
    have h2 : sumH h (ndF k p[k]) = c + sumP e (fncS p[k]) := by
      unfold ndF fncS
      rw [sumH_append, show (⟨1, k, -1, -1⟩ : Nd) :: (List.range p[k].bs.length).flatMap (ndBs k p[k].bs) = [(⟨1, k, -1, -1⟩ : Nd)] ++ (List.range p[k].bs.length).flatMap (ndBs k p[k].bs) from rfl, sumH_append, this]
      have := hc k
      unfold sumH
      simp
      omega
    rw [h2, Nat.succ_mul, List.flatMap_append, sumP_append, Option.toList_some, List.flatMap_cons, List.flatMap_nil, List.append_nil]
    omega
theorem check_parts {p : List Fnc} (h : (checkP p).2 = 0) : prgB p = true ∧ fitB p = true ∧ listN p = pre1 p p.length := by
  unfold checkP at h
  by_cases h1 : prgB p = true
  · rw [if_pos h1] at h
    by_cases h2 : ((funcsE p).2 == 0) = true
    · rw [if_pos h2] at h
      by_cases h3 : fitB p = true
      · refine ⟨h1, h3, ?_⟩
        unfold listN pre1 checkP
        rw [if_pos h1, if_pos h2, if_pos h3]
        rfl
      · rw [if_neg h3] at h; simp at h
    · rw [if_neg h2] at h
      rw [h] at h2
      simp at h2
  · rw [if_neg h1] at h; simp at h
theorem stm_ts {t : Stm} (h : stmB t = true) : (t.op = 3 ∨ t.op = 7 → t.ts.length = 1) ∧ (t.op = 8 → t.ts.length = 2) ∧ t.ts.length ≤ 2 ∧ 1 ≤ t.op ∧ t.op ≤ 9 := by
  unfold stmB at h
  simp only [Bool.and_eq_true] at h
  obtain ⟨⟨_, h2⟩, h3⟩ := h
  have hl : t.ts.length ≤ 2 := by
    unfold namesB at h2
    simp only [Bool.and_eq_true, decide_eq_true_eq] at h2
    omega
  unfold okP at h3
  refine ⟨fun ho => ?_, fun ho => ?_, hl, ?_⟩
  · rcases ho with ho | ho <;> (rw [ho] at h3; simp at h3; omega)
  · rw [ho] at h3; simp at h3; omega
  · split at h3
    · omega
    · split at h3
      · omega
      · split at h3
        · omega
        · split at h3
          · omega
          · split at h3
            · omega
            · split at h3
              · omega
              · split at h3
                · omega
                · simp at h3
theorem stE_len {p : List Fnc} {bs : List Blk} {f b j : Nat} {t : Stm} (h : stmB t = true) : (stE p bs f b j t).length + (if t.op == 3 then 1 else 0) = edgO t.op := by
  obtain ⟨h1, h2, h3, h4, h5⟩ := stm_ts h
  unfold stE edgO
  by_cases e7 : t.op = 7
  · have := h1 (.inr e7); simp [e7, this]
  · by_cases e8 : t.op = 8
    · have := h2 e8; simp [e8, this]
    · by_cases e9 : t.op = 9
      · simp [e9]
      · by_cases e3 : t.op = 3
        · simp [e3]
        · simp [e7, e8, e9, e3]
theorem lvE_at {p : List Fnc} {f b j : Nat} {F : Fnc} {B : Blk} {t : Stm} (h1 : p[f]? = some F) (h2 : F.bs[b]? = some B) (h3 : B.ss[j]? = some t) : lvE p ⟨3, f, b, j⟩ = stE p F.bs f b j t := by
  unfold lvE
  simp [h1, h2, h3]
theorem sizes_ok {p : List Fnc} (h : (checkP p).2 = 0) : (listN p).length = (sizesP p).1 ∧ (edgesN p).length = (sizesP p).2 ∧ (listN p).length ≤ 256 ∧ (edgesN p).length ≤ 1024 := by
  obtain ⟨hp, hf, hL⟩ := check_parts h
  obtain ⟨q1, q2, q3⟩ := prg_parts hp
  have hst : ∀ (f : Nat) (F : Fnc) (b : Nat) (B : Blk) (j : Nat) (t : Stm), p[f]? = some F → F.bs[b]? = some B → B.ss[j]? = some t → stmB t = true := fun f F b B j t h1 h2 h3 =>
    (blk_parts ((fnc_parts (q3 F (List.mem_of_getElem? h1))).2.2 B (List.mem_of_getElem? h2))).2.2 t (List.mem_of_getElem? h3)
  have hn : (listN p).length = 2 * p.length + sumP nodO (p.flatMap fncS) := by
    rw [← sumH_len, hL, sum_funcs (h := fun _ => 1) (e := nodO) (c := 2) (fun _ => rfl) (fun f F b B j t h1 h2 h3 => ?_) p.length (Nat.le_refl _), List.take_length]
    · omega
    · rw [sumH_len]; unfold ndS nodO; split <;> rfl
  have he : (edgesN p).length = p.length + sumP edgO (p.flatMap fncS) := by
    unfold edgesN
    rw [flat_sum, hL, sum_funcs (h := fun n => (lvE p n).length) (e := edgO) (c := 1) (fun f => ?_) (fun f F b B j t h1 h2 h3 => ?_) p.length (Nat.le_refl _), List.take_length]
    · omega
    · rfl
    · rw [← stE_len (p := p) (bs := F.bs) (f := f) (b := b) (j := j) (hst f F b B j t h1 h2 h3)]
      unfold ndS
      by_cases e3 : (t.op == 3) = true
      · rw [if_pos e3, if_pos e3]
        unfold sumH
        simp only [List.map_cons, List.map_nil, List.sum_cons, List.sum_nil, lvE_at h1 h2 h3]
        rfl
      · rw [if_neg e3, if_neg e3]
        unfold sumH
        simp only [List.map_cons, List.map_nil, List.sum_cons, List.sum_nil, lvE_at h1 h2 h3]
  have hs : stmtsP p = p.flatMap fncS := by unfold stmtsP; rw [if_pos hp]
  have hne : (stmtsP p).length ≠ 0 := by
    rw [hs]
    intro h0
    have h0 := List.length_eq_zero_iff.1 h0
    rw [List.flatMap_eq_nil_iff] at h0
    have hF : p[0] ∈ p := List.getElem_mem (by omega)
    have h1 := h0 _ hF
    obtain ⟨a1, _, a3⟩ := fnc_parts (q3 _ hF)
    unfold fncS at h1
    rw [List.flatMap_eq_nil_iff] at h1
    have hB : p[0].bs[0] ∈ p[0].bs := List.getElem_mem (by omega)
    have h2 := h1 _ hB
    have := (blk_parts (a3 _ hB)).1
    rw [h2] at this
    simp at this
  have hz : sizesP p = (2 * p.length + sumP nodO (p.flatMap fncS), p.length + sumP edgO (p.flatMap fncS)) := by unfold sizesP; rw [if_neg hne, hs]
  unfold fitB at hf
  rw [hz] at hf ⊢
  simp only [Bool.and_eq_true, decide_eq_true_eq] at hf
  exact ⟨hn, he, by omega, by omega⟩
theorem list_pos {p : List Fnc} (h : (checkP p).2 = 0) : 1 ≤ (listN p).length := by
  obtain ⟨hp, hf, hL⟩ := check_parts h
  obtain ⟨q1, q2, q3⟩ := prg_parts hp
  have hF : p[0]? = some p[0] := List.getElem?_eq_getElem (by omega)
  have : (⟨1, (0 : Nat), -1, -1⟩ : Nd) ∈ listN p := by
    rw [hL]
    unfold pre1
    refine List.mem_flatMap.2 ⟨0, List.mem_range.2 (by omega), ?_⟩
    rw [ndFs_at hF]
    unfold ndF
    simp
  exact List.length_pos_of_mem this
end Go.Proofs.YtcgichfanfijjaaGreatDoor

namespace Go.Proofs.YtcgichfanfijjaaGreatDoor
set_option maxRecDepth 20000
set_option linter.unusedVariables false
set_option linter.unusedSimpArgs false
open Go.ChangeShapes Go.WideShapes Go.ChangeAt Go.RowKit

theorem flat_nodup {f : Nat → List Nd} {key : Nd → Int} (h1 : ∀ i, (f i).Nodup) (h2 : ∀ i, ∀ x ∈ f i, key x = i) : ∀ n : Nat, ((List.range n).flatMap f).Nodup := by
  intro n
  induction n with
  | zero => exact List.nodup_nil
  | succ n ih =>
    rw [range_flat, List.nodup_append]
    refine ⟨ih, h1 n, ?_⟩
    intro a ha b hb e
    subst e
    obtain ⟨i, hi, hx⟩ := List.mem_flatMap.1 ha
    have e1 := h2 i a hx
    have e2 := h2 n a hb
    have := List.mem_range.1 hi
    omega
theorem ndS_mem {f b j : Nat} {t : Stm} {x : Nd} (h : x ∈ ndS f b j t) : (x.kd = 3 ∨ x.kd = 4) ∧ x.fn = f ∧ x.bk = b ∧ x.st = j := by
  unfold ndS at h
  split at h
  · simp at h
    rcases h with rfl | rfl
    · exact ⟨.inl rfl, rfl, rfl, rfl⟩
    · exact ⟨.inr rfl, rfl, rfl, rfl⟩
  · simp at h
    subst h
    exact ⟨.inl rfl, rfl, rfl, rfl⟩
theorem ndSs_mem {f b j : Nat} {ss : List Stm} {x : Nd} (h : x ∈ ndSs f b ss j) : (x.kd = 3 ∨ x.kd = 4) ∧ x.fn = f ∧ x.bk = b ∧ x.st = j := by
  unfold ndSs at h
  split at h
  · exact ndS_mem h
  · cases h
theorem ndSs_nodup (f b : Nat) (ss : List Stm) (j : Nat) : (ndSs f b ss j).Nodup := by
  unfold ndSs
  split
  · unfold ndS
    split
    · simp
    · simp
  · exact List.nodup_nil
theorem ndB_mem {f b : Nat} {y : Blk} {x : Nd} (h : x ∈ ndB f b y) : (x.kd = 3 ∨ x.kd = 4) ∧ x.fn = f ∧ x.bk = b := by
  obtain ⟨i, -, hx⟩ := List.mem_flatMap.1 h
  obtain ⟨h1, h2, h3, -⟩ := ndSs_mem hx
  exact ⟨h1, h2, h3⟩
theorem ndBs_mem {f b : Nat} {bs : List Blk} {x : Nd} (h : x ∈ ndBs f bs b) : (x.kd = 3 ∨ x.kd = 4) ∧ x.fn = f ∧ x.bk = b := by
  unfold ndBs at h
  split at h
  · exact ndB_mem h
  · cases h
theorem ndBs_nodup (f : Nat) (bs : List Blk) (b : Nat) : (ndBs f bs b).Nodup := by
  unfold ndBs
  split
  · exact flat_nodup (key := Nd.st) (ndSs_nodup f b _) (fun i x h => (ndSs_mem h).2.2.2) _
  · exact List.nodup_nil
theorem ndF_nodup (f : Nat) (y : Fnc) : (ndF f y).Nodup := by
  unfold ndF
  have h1 : ((List.range y.bs.length).flatMap (ndBs f y.bs)).Nodup := flat_nodup (key := Nd.bk) (ndBs_nodup f y.bs) (fun i x h => (ndBs_mem h).2.2) _
  have h2 : ∀ x ∈ (List.range y.bs.length).flatMap (ndBs f y.bs), x.kd = 3 ∨ x.kd = 4 := by
    intro x hx
    obtain ⟨i, -, hx⟩ := List.mem_flatMap.1 hx
    exact (ndBs_mem hx).1
  rw [List.cons_append, List.nodup_cons, List.nodup_append]
  refine ⟨?_, h1, by simp, ?_⟩
  · intro h
    rcases List.mem_append.1 h with h | h
    · rcases h2 _ h with e | e <;> cases e
    · simp at h
  · intro a ha b hb e
    subst e
    simp at hb
    subst hb
    rcases h2 _ ha with e | e <;> cases e
theorem ndF_mem {f : Nat} {y : Fnc} {x : Nd} (h : x ∈ ndF f y) : x.fn = f := by
  unfold ndF at h
  rw [List.cons_append, List.mem_cons, List.mem_append] at h
  rcases h with rfl | h | h
  · rfl
  · obtain ⟨i, -, hx⟩ := List.mem_flatMap.1 h
    exact (ndBs_mem hx).2.1
  · simp at h
    subst h
    rfl
theorem ndFs_mem {fs : List Fnc} {f : Nat} {x : Nd} (h : x ∈ ndFs fs f) : x.fn = f := by
  unfold ndFs at h
  split at h
  · exact ndF_mem h
  · cases h
theorem ndFs_nodup (fs : List Fnc) (f : Nat) : (ndFs fs f).Nodup := by
  unfold ndFs
  split
  · exact ndF_nodup f _
  · exact List.nodup_nil
theorem list_nodup (p : List Fnc) : (listN p).Nodup := by
  unfold listN
  split
  · exact flat_nodup (key := Nd.fn) (ndFs_nodup p) (fun i x h => ndFs_mem h) _
  · exact List.nodup_nil
/-- P7.2: a node is found at its index. -/
theorem find_index {L : List Nd} (hd : L.Nodup) {n : Nd} {i : Nat} (h : L[i]? = some n) : findI L n = i := by
  have hi := (List.getElem?_eq_some_iff.1 h).1
  refine find_hit (k := i) ?_ hi h
  rw [List.findSome?_eq_none_iff]
  intro j hj
  have hji := List.mem_range.1 hj
  unfold findAt
  rw [if_neg]
  intro e
  have hj2 : j < L.length := by omega
  exact List.pairwise_iff_getElem.1 hd j i hj2 hi hji ((List.getElem?_eq_some_iff.1 e).2.trans (List.getElem?_eq_some_iff.1 h).2.symm)
end Go.Proofs.YtcgichfanfijjaaGreatDoor

namespace Go.Proofs.YtcgichfanfijjaaGreatDoor
set_option maxRecDepth 20000
set_option linter.unusedVariables false
set_option linter.unusedSimpArgs false
open Go.ChangeShapes Go.WideShapes Go.ChangeAt Go.RowKit

/-- The edges as pairs of numbers. -/
def numsE (p : List Fnc) : List (Nat × Nat) := (edgesN p).map (numE (listN p))
def sucF (p : List Fnc) (a : Nat) : List Int := rowP (listN p).length fun b => decide ((b : Int) ∈ outF (numsE p) a)
def sucL (p : List Fnc) : List (List Int) := rowsF (listN p).length (sucF p)
/-- What the sorted part of the lists holds. -/
def srF (N : Nat) (E : List (Nat × Nat)) (k : Nat) (a : Nat) : List Int := if a < k then rowP N (fun b => decide ((b : Int) ∈ outF E a)) else outF E a
theorem nodes_ok {p : List Fnc} (h : (checkP p).2 = 0) : ∀ n ∈ listN p, NdOk p n ∧ wfN n := by
  obtain ⟨hp, hf, hL⟩ := check_parts h
  obtain ⟨q1, q2, q3⟩ := prg_parts hp
  intro n hn
  rw [hL] at hn
  unfold pre1 at hn
  obtain ⟨f, hf1, hn⟩ := List.mem_flatMap.1 hn
  have hf1 := List.mem_range.1 hf1
  have hF : p[f]? = some p[f] := List.getElem?_eq_getElem hf1
  rw [ndFs_at hF] at hn
  have hfl : f ≤ 1000 := by omega
  obtain ⟨a1, a2, a3⟩ := fnc_parts (q3 _ (List.getElem_mem hf1))
  unfold ndF at hn
  simp only [List.mem_append, List.mem_cons, List.mem_singleton, List.not_mem_nil, or_false] at hn
  rcases hn with (rfl | hn) | rfl
  · exact ⟨.entry f hfl, wf_small (by omega) (by omega) (by omega) (by omega)⟩
  · obtain ⟨b, hb1, hn⟩ := List.mem_flatMap.1 hn
    have hb1 := List.mem_range.1 hb1
    have hB : p[f].bs[b]? = some p[f].bs[b] := List.getElem?_eq_getElem hb1
    rw [ndBs_at hB] at hn
    obtain ⟨c1, c2, c3⟩ := blk_parts (a3 _ (List.getElem_mem hb1))
    unfold ndB at hn
    obtain ⟨j, hj1, hn⟩ := List.mem_flatMap.1 hn
    have hj1 := List.mem_range.1 hj1
    have hS : p[f].bs[b].ss[j]? = some p[f].bs[b].ss[j] := List.getElem?_eq_getElem hj1
    rw [ndSs_at hS] at hn
    have hst := stm_ts (c3 _ (List.getElem_mem hj1))
    have hts : (p[f].bs[b].ss[j].op == 3) = true → p[f].bs[b].ss[j].ts ≠ [] := fun e h0 => by
      have := hst.1 (.inl (by simpa using e))
      rw [h0] at this
      simp at this
    have h3 : NdOk p ⟨3, f, b, j⟩ ∧ wfN ⟨3, f, b, j⟩ := ⟨.stmt f b j _ _ _ hF hB hS hts, wf_small (by omega) (by omega) (by omega) (by omega)⟩
    have h4 : NdOk p ⟨4, f, b, j⟩ ∧ wfN ⟨4, f, b, j⟩ := ⟨.retn f b j hfl (by omega) (by omega), wf_small (by omega) (by omega) (by omega) (by omega)⟩
    unfold ndS at hn
    split at hn
    · simp only [List.mem_cons, List.not_mem_nil, or_false] at hn
      rcases hn with rfl | rfl
      · exact h3
      · exact h4
    · simp only [List.mem_cons, List.not_mem_nil, or_false] at hn
      subst hn
      exact h3
  · exact ⟨.exit f hfl, wf_small (by omega) (by omega) (by omega) (by omega)⟩
theorem drew_size (w : World) : w.drew.heap.size = w.heap.size := rfl
/-- What stands in Build before the builder is made. -/
structure Bw (w : World) (P0 : Nat) (x : PH) (A : Option Addr) (L : List Nd) (v : World) : Prop where
  bel : Below w.heap.size w v
  par : Fb v P0 #[.slice x.A x.n x.c] 25
  res : Fb v (P0 + 1) #[.slice none 0 0, .slice none 0 0, .slice none 0 0] 36
  nds : ∀ ex : List (Option Nat), (∀ k, some k ∈ ex → k < w.heap.size + 2) → EAt v ex A (L.flatMap ndc)
  peq : P0 = w.heap.size
theorem Bw.below {w v v' : World} {P0 : Nat} {x : PH} {A : Option Addr} {L : List Nd} (h : Bw w P0 x A L v) (hb : Below v.heap.size v v') : Bw w P0 x A L v' :=
  ⟨below_step h.bel hb, h.par.below hb h.par.lt, h.res.below hb h.res.lt, fun ex hex => (h.nds ex hex).go (Go2.below hb), h.peq⟩
/-- The builder while its lists are sorted. -/
structure Bms (w0 : World) (x : PH) (B MB M N : Nat) (f : Nat → List Int) (w : World) : Prop where
  box : Fb w B #[.slice x.A x.n x.c, .map (some MB), .slice (some ⟨M, 0, none⟩) N N] 86
  mx : Mx w M N f
  bel : Below w0.heap.size w0 w
  mle : w0.heap.size ≤ M
theorem Bms.below {w0 w w' : World} {x : PH} {B MB M N : Nat} {f : Nat → List Int} (h : Bms w0 x B MB M N f w) (hb : Below w.heap.size w w') : Bms w0 x B MB M N f w' :=
  ⟨h.box.below hb h.box.lt, h.mx.below hb, below_step h.bel hb, h.mle⟩
theorem ints_mem {E : List (Nat × Nat)} {N : Nat} (hE : ∀ e ∈ E, e.2 < N) (a : Nat) : ∀ x ∈ outF E a, 0 ≤ x ∧ x < (N : Int) := by
  intro x hx
  obtain ⟨c, hc, rfl⟩ := outF_mem.1 hx
  have := hE _ hc
  simp only at this
  omega
theorem srF_step {N : Nat} {E : List (Nat × Nat)} {k : Nat} (hE : ∀ e ∈ E, e.2 < N) (a : Nat) : upd (srF N E k) k (Lib.compact (srtI (outF E k))) a = srF N E (k + 1) a := by
  by_cases e : a = k
  · subst e
    rw [upd_at, compact_row (ints_mem hE a)]
    unfold srF
    rw [if_pos (by omega)]
  · rw [upd_ne _ _ e]
    unfold srF
    by_cases e2 : a < k
    · rw [if_pos e2, if_pos (by omega)]
    · rw [if_neg e2, if_neg (by omega)]
theorem srF_at {N : Nat} {E : List (Nat × Nat)} {k : Nat} : srF N E k k = outF E k := by unfold srF; rw [if_neg (by omega)]
theorem srF_zero (N : Nat) (E : List (Nat × Nat)) (a : Nat) : srF N E 0 a = outF E a := by unfold srF; rw [if_neg (by omega)]
theorem slice_own {A : Option Addr} {n c m d : Nat} : (Value.slice A n c).ownBlock = (Value.slice A m d).ownBlock := by cases A <;> rfl
theorem Bms.turn {w0 w w2 : World} {x : PH} {B MB M N : Nat} {E : List (Nat × Nat)} {k n c n2 c2 : Nat} {A : Option Addr} (h : Bms w0 x B MB M N (srF N E k) w) (hE : ∀ e ∈ E, e.2 < N) (hk : k < N) (hc : w.cell? ⟨M, k, none⟩ = some (.slice A n c))
    (hg : w.grownBy w2 (Value.slice A n c).ownBlock) (ho : w2.ownsRow (M + 1) 3 1 (.slice A n2 c2) n2 (ints (Lib.compact (srtI (outF E k))))) (hn2 : (Lib.compact (srtI (outF E k))).length = n2) :
    (w2.cell? ⟨M, k, none⟩ = some (.slice A n c) ∧ w2.frozen? ⟨M, k, none⟩ = false) ∧ Bms w0 x B MB M N (srF N E (k + 1)) (w2.setCell ⟨M, k, none⟩ (.slice A n2 c2)) := by
  obtain ⟨h1, h2, h3⟩ := h.mx.of hk hc
  subst hn2
  have hbM := h.mx.fb h.box (by decide)
  refine ⟨h2 _ hg, ⟨(h.box.grown hg (fb_ne_own h.box h1 (by decide))).far (by simpa using hbM) _, ?_, ?_, h.mle⟩⟩
  · exact (h3 w2 (.slice A (Lib.compact (srtI (outF E k))).length c2) _ hg ho (fun g hg2 => .inl (by rw [← hg2]; exact slice_own))).congr fun a _ => srF_step hE a
  · exact (h.bel.grown hg h.bel.size (fun j hj => by have := (h1.lt j hj).1; have := h.mle; omega)).setCell (by simpa using h.mle) _
theorem numsE_lt {p : List Fnc} {N : Nat} (h : (listN p).length = N) (hN : 1 ≤ N) : ∀ e ∈ numsE p, e.2 < N := by
  intro e he
  obtain ⟨e2, _, rfl⟩ := List.mem_map.1 he
  show numN (listN p) e2.2 < N
  rw [← h]; exact numN_lt (by omega) _
theorem flat_take {p : List Fnc} {L : List Nd} {k : Nat} {y : Nd} (h : L[k]? = some y) : ((L.take k).flatMap (lvE p)).map (numE L) ++ (lvE p y).map (numE L) = ((L.take (k + 1)).flatMap (lvE p)).map (numE L) := by
  rw [List.take_add_one, h]; simp
theorem flat_take_len {p : List Fnc} {L : List Nd} {k m : Nat} (h : (L.flatMap (lvE p)).length ≤ m) : (((L.take k).flatMap (lvE p)).map (numE L)).length ≤ m := by
  rw [List.length_map]
  refine Nat.le_trans ?_ h
  conv => rhs; rw [← List.take_append_drop k L]
  rw [List.flatMap_append, List.length_append]
  omega
theorem mx_nil {w : World} {M N : Nat} (h : Fb w M (Array.replicate N (Value.slice none 0 0)) 22) : Mx w M N (outF []) := by
  refine ⟨List.replicate N (.slice none 0 0), by simp, by rw [List.toArray_replicate]; exact h, fun i v hv => ?_, fun i j u v g _ hu hv hg => ?_⟩
  · obtain rfl := List.eq_of_mem_replicate (List.mem_of_getElem? hv)
    exact World.ownsRow_nil _ _ _ _
  · obtain rfl := List.eq_of_mem_replicate (List.mem_of_getElem? hu)
    simp [Value.ownBlock] at hg
theorem NMp.far {w : World} {MB B t : Nat} {cs : Array Value} {L : List Nd} (h : NMp w MB L) (hf : Fb w B cs t) (o : Nat) (u : Value) : NMp (w.setCell ⟨B, o, none⟩ u) MB L := by
  refine h.kept (setCell_grown w ⟨B, o, none⟩ u) (fun e => ?_)
  injection e with e
  simp only at e
  obtain ⟨es, clock, hm⟩ := h.isMap
  unfold Fb at hf
  rw [← e, hm] at hf
  cases hf
section
variable {w5 wn : World} {x : PH} {MB N : Nat} {L : List Nd}
theorem bl1 (hm : NMp wn MB L) (hb : Below w5.heap.size w5 wn) :
    Bls w5 x (wn.heap.size + 1) MB wn.heap.size N L [] ((wn.alloc (.cells (Array.replicate N (Value.slice none 0 0)) 22)).alloc (.cells #[.slice x.A x.n x.c, .map (some MB), .slice (some ⟨wn.heap.size, 0, none⟩) N N] 86)) :=
  ⟨by have := Fb.new (wn.alloc (.cells (Array.replicate N (Value.slice none 0 0)) 22)) #[.slice x.A x.n x.c, .map (some MB), .slice (some ⟨wn.heap.size, 0, none⟩) N N] 86; rwa [World.size_alloc] at this,
    hm.below (((Below.refl _ _).alloc (Nat.le_refl _) _).alloc (by simp) _), mx_nil ((Fb.new _ _ _).alloc _), (hb.alloc hb.size _).alloc (by simp; have := hb.size; omega) _, hb.size⟩
theorem bl2 (hm : NMp wn MB L) (hb : Below w5.heap.size w5 wn) :
    Bls w5 x wn.heap.size MB (wn.heap.size + 1) N L [] ((wn.alloc (.cells #[.slice x.A x.n x.c, .map (some MB), .slice (some ⟨wn.heap.size + 1, 0, none⟩) N N] 86)).alloc (.cells (Array.replicate N (Value.slice none 0 0)) 22)) :=
  ⟨(Fb.new _ _ _).alloc _, hm.below (((Below.refl _ _).alloc (Nat.le_refl _) _).alloc (by simp) _),
    mx_nil (by have := Fb.new (wn.alloc (.cells #[.slice x.A x.n x.c, .map (some MB), .slice (some ⟨wn.heap.size + 1, 0, none⟩) N N] 86)) (Array.replicate N (Value.slice none 0 0)) 22; rwa [World.size_alloc] at this),
    (hb.alloc hb.size _).alloc (by simp; have := hb.size; omega) _, by have := hb.size; omega⟩
theorem bl3 (hm : NMp wn MB L) (hb : Below w5.heap.size w5 wn) (hk : Below (w5.alloc (.cells (Array.replicate N (Value.slice none 0 0)) 22)).drew.heap.size (w5.alloc (.cells (Array.replicate N (Value.slice none 0 0)) 22)).drew wn) :
    Bls w5 x wn.heap.size MB w5.heap.size N L [] (wn.alloc (.cells #[.slice x.A x.n x.c, .map (some MB), .slice (some ⟨w5.heap.size, 0, none⟩) N N] 86)) :=
  have h1 : Fb (w5.alloc (.cells (Array.replicate N (Value.slice none 0 0)) 22)).drew w5.heap.size (Array.replicate N (Value.slice none 0 0)) 22 := Fb.new w5 _ _
  ⟨Fb.new _ _ _, hm.below ((Below.refl _ _).alloc (Nat.le_refl _) _), mx_nil ((h1.below hk h1.lt).alloc _), hb.alloc hb.size _, Nat.le_refl _⟩
theorem set3 {w : World} {B : Nat} {a b c a' b' c' : Value} {t : Nat} (h : Fb w B #[a, b, c] t) : Fb (((w.setCell ⟨B, 0, none⟩ a').setCell ⟨B, 1, none⟩ b').setCell ⟨B, 2, none⟩ c') B #[a', b', c'] t := by
  have := ((h.set 0 a').set 1 b').set 2 c'
  simpa using this
theorem far3 {w : World} {B g t : Nat} {a' b' c' : Value} {cs : Array Value} (h : Fb w g cs t) (hne : g ≠ B) : Fb (((w.setCell ⟨B, 0, none⟩ a').setCell ⟨B, 1, none⟩ b').setCell ⟨B, 2, none⟩ c') g cs t :=
  ((h.far (p := ⟨B, 0, none⟩) hne _).far (p := ⟨B, 1, none⟩) hne _).far (p := ⟨B, 2, none⟩) hne _
theorem map3 {w : World} {B t : Nat} {a b c a' b' c' : Value} (hm : NMp w MB L) (h : Fb w B #[a, b, c] t) : NMp (((w.setCell ⟨B, 0, none⟩ a').setCell ⟨B, 1, none⟩ b').setCell ⟨B, 2, none⟩ c') MB L :=
  ((hm.far h 0 a').far (h.set 0 a') 1 b').far ((h.set 0 a').set 1 b') 2 c'
theorem bel3 {w : World} {B : Nat} {a' b' c' : Value} (hb : Below w5.heap.size w5 w) (hB : w5.heap.size ≤ B) : Below w5.heap.size w5 (((w.setCell ⟨B, 0, none⟩ a').setCell ⟨B, 1, none⟩ b').setCell ⟨B, 2, none⟩ c') :=
  ((hb.setCell (by simpa using hB) _).setCell (by simpa using hB) _).setCell (by simpa using hB) _
theorem bl4 (hm : NMp wn MB L) (hb : Below w5.heap.size w5 wn)
    (hk : Below ((w5.alloc (.cells (Array.replicate N (Value.slice none 0 0)) 22)).alloc (.cells #[.slice none 0 0, .map none, .slice none 0 0] 86)).drew.heap.size ((w5.alloc (.cells (Array.replicate N (Value.slice none 0 0)) 22)).alloc (.cells #[.slice none 0 0, .map none, .slice none 0 0] 86)).drew wn) :
    Bls w5 x (w5.heap.size + 1) MB w5.heap.size N L [] (((wn.setCell ⟨w5.heap.size + 1, 0, none⟩ (.slice x.A x.n x.c)).setCell ⟨w5.heap.size + 1, 1, none⟩ (.map (some MB))).setCell ⟨w5.heap.size + 1, 2, none⟩ (.slice (some ⟨w5.heap.size, 0, none⟩) N N)) :=
  have h1 : Fb ((w5.alloc (.cells (Array.replicate N (Value.slice none 0 0)) 22)).alloc (.cells #[.slice none 0 0, .map none, .slice none 0 0] 86)).drew w5.heap.size (Array.replicate N (Value.slice none 0 0)) 22 := (Fb.new w5 _ _).alloc _
  have h2 : Fb ((w5.alloc (.cells (Array.replicate N (Value.slice none 0 0)) 22)).alloc (.cells #[.slice none 0 0, .map none, .slice none 0 0] 86)).drew (w5.heap.size + 1) #[.slice none 0 0, .map none, .slice none 0 0] 86 := by
    have := Fb.new (w5.alloc (.cells (Array.replicate N (Value.slice none 0 0)) 22)) #[.slice none 0 0, .map none, .slice none 0 0] 86
    rw [World.size_alloc] at this
    exact this
  ⟨set3 (h2.below hk h2.lt), map3 hm (h2.below hk h2.lt), mx_nil (far3 (h1.below hk h1.lt) (by omega)), bel3 hb (by omega), Nat.le_refl _⟩
theorem bl5 (hm : NMp wn MB L) (hb : Below w5.heap.size w5 wn)
    (hk : Below (w5.alloc (.cells #[.slice none 0 0, .map none, .slice none 0 0] 86)).drew.heap.size (w5.alloc (.cells #[.slice none 0 0, .map none, .slice none 0 0] 86)).drew wn) :
    Bls w5 x w5.heap.size MB wn.heap.size N L [] ((((wn.setCell ⟨w5.heap.size, 0, none⟩ (.slice x.A x.n x.c)).setCell ⟨w5.heap.size, 1, none⟩ (.map (some MB))).setCell ⟨w5.heap.size, 2, none⟩ (.slice (some ⟨wn.heap.size, 0, none⟩) N N)).alloc (.cells (Array.replicate N (Value.slice none 0 0)) 22)) :=
  have h2 : Fb (w5.alloc (.cells #[.slice none 0 0, .map none, .slice none 0 0] 86)).drew w5.heap.size #[.slice none 0 0, .map none, .slice none 0 0] 86 := Fb.new w5 _ _
  have h3 := h2.below hk h2.lt
  have hb3 := bel3 (a' := .slice x.A x.n x.c) (b' := .map (some MB)) (c' := .slice (some ⟨wn.heap.size, 0, none⟩) N N) hb (Nat.le_refl w5.heap.size)
  ⟨(set3 h3).alloc _, (map3 hm h3).below ((Below.refl _ _).alloc (Nat.le_refl _) _),
    mx_nil (by have := Fb.new (((wn.setCell ⟨w5.heap.size, 0, none⟩ (.slice x.A x.n x.c)).setCell ⟨w5.heap.size, 1, none⟩ (.map (some MB))).setCell ⟨w5.heap.size, 2, none⟩ (.slice (some ⟨wn.heap.size, 0, none⟩) N N)) (Array.replicate N (Value.slice none 0 0)) 22; simpa using this),
    hb3.alloc hb3.size _, hb.size⟩
theorem bl6 (hm : NMp wn MB L) (hb : Below w5.heap.size w5 wn)
    (hk : Below ((w5.alloc (.cells #[.slice none 0 0, .map none, .slice none 0 0] 86)).alloc (.cells (Array.replicate N (Value.slice none 0 0)) 22)).drew.heap.size ((w5.alloc (.cells #[.slice none 0 0, .map none, .slice none 0 0] 86)).alloc (.cells (Array.replicate N (Value.slice none 0 0)) 22)).drew wn) :
    Bls w5 x w5.heap.size MB (w5.heap.size + 1) N L [] (((wn.setCell ⟨w5.heap.size, 0, none⟩ (.slice x.A x.n x.c)).setCell ⟨w5.heap.size, 1, none⟩ (.map (some MB))).setCell ⟨w5.heap.size, 2, none⟩ (.slice (some ⟨w5.heap.size + 1, 0, none⟩) N N)) :=
  have h2 : Fb ((w5.alloc (.cells #[.slice none 0 0, .map none, .slice none 0 0] 86)).alloc (.cells (Array.replicate N (Value.slice none 0 0)) 22)).drew w5.heap.size #[.slice none 0 0, .map none, .slice none 0 0] 86 := (Fb.new w5 _ _).alloc _
  have h1 : Fb ((w5.alloc (.cells #[.slice none 0 0, .map none, .slice none 0 0] 86)).alloc (.cells (Array.replicate N (Value.slice none 0 0)) 22)).drew (w5.heap.size + 1) (Array.replicate N (Value.slice none 0 0)) 22 := by
    have := Fb.new (w5.alloc (.cells #[.slice none 0 0, .map none, .slice none 0 0] 86)) (Array.replicate N (Value.slice none 0 0)) 22
    rw [World.size_alloc] at this
    exact this
  ⟨set3 (h2.below hk h2.lt), map3 hm (h2.below hk h2.lt), mx_nil (far3 (h1.below hk h1.lt) (by omega)), bel3 hb (Nat.le_refl _), by omega⟩
end
theorem bld_done {w wr w8 : World} {P0 M N c : Nat} {x : PH} {A : Option Addr} {L : List Nd} {yl : List RH} {y2 : LH} {S P : List (List Int)} {a b d : Value} (hW : Bw w P0 x A L wr) (hb : Below wr.heap.size wr w8) (hM : P0 + 2 ≤ M) (hl : L.length = N) (hN : N ≤ 100000)
    (hS : (⟨some ⟨M, 0, none⟩, N, N, yl⟩ : LH).v = S) (hS2 : ∀ ex : List (Option Nat), (∀ k, some k ∈ ex → k < M) → LHok wr ex ⟨some ⟨M, 0, none⟩, N, N, yl⟩) (hP : y2.v = P) (hP2 : ∀ ex : List (Option Nat), (∀ k, some k ∈ ex → k < wr.drew.heap.size) → LHok w8 ex y2) (hsz : w.heap.size + 2 ≤ wr.heap.size) :
    RetGr w L S P 0 (.returned (.tuple #[.agg #[.slice A N c, .slice (some ⟨M, 0, none⟩) N N, .slice y2.A y2.n y2.c], .int .i64 0])) (((w8.setCell ⟨P0 + 1, 0, none⟩ a).setCell ⟨P0 + 1, 1, none⟩ b).setCell ⟨P0 + 1, 2, none⟩ d) := by
  have hp := hW.peq
  refine ⟨⟨A, N, c, L, ⟨some ⟨M, 0, none⟩, N, N, yl⟩, y2⟩, rfl, rfl, hS, hP, fun ex hex => ?_, ?_⟩
  · have hx : ∀ k, some k ∈ some (P0 + 1) :: ex → k < w.heap.size + 2 := fun k hk => by
      rcases List.mem_cons.1 hk with e | e
      · injection e with e; omega
      · have := hex k e; omega
    have h1 : GHok w8 (some (P0 + 1) :: ex) ⟨A, N, c, L, ⟨some ⟨M, 0, none⟩, N, N, yl⟩, y2⟩ :=
      ⟨(hW.below hb).nds _ hx, hl, by show N ≤ _; omega, (hS2 _ (fun k hk => by have := hx k hk; omega)).below hb, hP2 _ (fun k hk => by have := hx k hk; show k < wr.heap.size; omega)⟩
    have hs : ∀ (u : World) (o : Nat) (z : Value), Go2 u (some (P0 + 1) :: ex) (u.setCell ⟨P0 + 1, o, none⟩ z) (some (P0 + 1) :: ex) := fun u o z => Go2.same (row := some (P0 + 1)) (setCell_grown u ⟨P0 + 1, o, none⟩ z) (.inr (by simp))
    exact (((h1.go (hs _ 0 a)).go (hs _ 1 b)).go (hs _ 2 d)).go (Go2.less _ (fun k hk => by simp [hk]))
  · have hbw := (hW.below hb).bel
    exact ((hbw.setCell (by simp; omega) _).setCell (by simp; omega) _).setCell (by simp; omega) _
set_option maxHeartbeats 16000000 in
theorem build_yes (x : PH) (ex : List (Option Nat)) (w : World) (h : PHok w ex x) (hs : Shp w) (hc : (checkP x.p).2 = 0) :
    Calls Tryz.prog 19 #[.agg #[.slice x.A x.n x.c]] w (RetGr w (listN x.p) (sucL x.p) (revL (listN x.p).length (sucL x.p)) 0) := by
  obtain ⟨z1, z2, z3, z4⟩ := sizes_ok hc
  have Hno := hid (nodes_ok hc)
  have Hnd := hid (list_nodup x.p)
  have HEl := hid z4
  have Hnl := hid (numsE_lt (p := x.p) rfl (list_pos hc))
  have hN1 := list_pos hc
  have hb0 : Below w.heap.size w ((w.alloc (.cells #[.slice x.A x.n x.c] 25)).alloc (.cells #[.slice none 0 0, .slice none 0 0, .slice none 0 0] 36)) := ((Below.refl _ _).alloc (Nat.le_refl _) _).alloc (by simp) _
  have HB0 := hid hb0
  have HP0 := hid ((Fb.new w #[.slice x.A x.n x.c] 25).alloc (.cells #[.slice none 0 0, .slice none 0 0, .slice none 0 0] 36))
  have HR0 := hid (show Fb ((w.alloc (.cells #[.slice x.A x.n x.c] 25)).alloc (.cells #[.slice none 0 0, .slice none 0 0, .slice none 0 0] 36)) (w.heap.size + 1) #[.slice none 0 0, .slice none 0 0, .slice none 0 0] 36 by
    have := Fb.new (w.alloc (.cells #[.slice x.A x.n x.c] 25)) #[.slice none 0 0, .slice none 0 0, .slice none 0 0] 36; rwa [World.size_alloc] at this)
  have HX := hid (fun (v : World) (hb : Below w.heap.size w v) => h.go (Go2.below hb))
  have HS := hid (fun (v : World) (hb : Below w.heap.size w v) => hs.keep (hb.block 0 hs.pos0))
  have HCk := hid (fun (v : World) (hb : Below w.heap.size w v) => check_any x ex v (HX.out v hb) (HS.out v hb))
  have HLs := hid (fun (v : World) (hb : Below w.heap.size w v) => list_any x ex v (HX.out v hb) (HS.out v hb))
  have hq : ∃ q, checkP x.p = q := ⟨_, rfl⟩
  obtain ⟨⟨⟨qa, qb, qc, qd⟩, qe⟩, hq⟩ := hq
  rw [hq] at hc HCk
  simp only at hc
  subst hc
  have Hsl := hid (show sucL x.p = rowsF (listN x.p).length (srF (listN x.p).length (numsE x.p) (listN x.p).length) by
    unfold sucL rowsF
    refine List.map_congr_left fun a ha => ?_
    unfold sucF srF
    rw [if_pos (List.mem_range.1 ha)])
  have HNe := hid (show (edgesN x.p).map (numE (listN x.p)) = numsE x.p from rfl)
  have HLe := hid (show (listN x.p).flatMap (lvE x.p) = edgesN x.p from rfl)
  clear h hs hb0 z1 z2 z4 hq
  generalize listN x.p = L at *
  generalize hln : L.length = N at *
  have Hln := hid hln
  clear hln
  go_enter Tryz.func19, Tryz.ntmps19
  go_wp2_with fail
  have hG : ∃ G, w.heap.size = G := ⟨_, rfl⟩
  obtain ⟨G, hG⟩ := hG
  have HGe := hid hG
  rw [hG] at HP0 HR0 ⊢
  clear hG
  generalize (w.alloc (.cells #[.slice x.A x.n x.c] 25)).alloc (.cells #[.slice none 0 0, .slice none 0 0, .slice none 0 0] 36) = w1 at *
  refine (HCk.out _ HB0.out).mono ?_
  rintro e w2 ⟨rfl, hb2⟩
  have ha := (Below.refl w2.heap.size w2).alloc (Nat.le_refl _) (.cells #[.int .i64 qa, .int .i64 qb, .int .i64 qc, .int .i64 qd] 50)
  have hb3 := below_step hb2 ha
  have HB3 := hid (below_step HB0.out hb3)
  have HP3 := hid (HP0.out.below hb3 HP0.out.lt)
  have HR3 := hid (HR0.out.below hb3 HR0.out.lt)
  have p0 := HP3.out.onec
  have hpl := HP3.out.lt
  have hG1 : w2.heap.size ≠ G := by have := HP0.out.lt; have := hb2.size; omega
  clear ha hb2 hb3 HB0 HP0 HR0 HCk
  simp only
  go_wp2_with fail
  clear p0 hpl hG1
  generalize w2.alloc (.cells #[.int .i64 qa, .int .i64 qb, .int .i64 qc, .int .i64 qd] 50) = w3 at *
  have hsz3 : G + 2 ≤ w3.heap.size := HR3.out.lt
  refine (HLs.out _ HB3.out).mono ?_
  rintro e w5 ⟨A, c, rfl, hE, hLl, hb5⟩
  have HW5 := hid (show Bw w G x A L w5 from ⟨below_step HB3.out hb5, HP3.out.below hb5 HP3.out.lt, HR3.out.below hb5 HR3.out.lt, fun ex hex => hE ex (fun k hk => by have := hex k hk; have := HGe.out; omega), HGe.out.symm⟩)
  clear hE hLl hb5 hsz3 HB3 HP3 HR3
  rw [Hln.out]
  have p0 := HW5.out.par.onec
  have hpl := HW5.out.par.lt
  go_wp2_with fail
  have hrow := run_mkrows N (by omega)
  go_cut [7] (fun a wd => ∃ (B MB M : Nat), a = .pointer (some ⟨B, 0, none⟩) ∧ Hid (Bls w5 x B MB M N L [] wd))
  case first =>
    have HN44 := hid (fun (v : World) (hb : Below w5.heap.size w5 v) => numbers_any A N c L v ((HW5.out.below hb).nds [] (by simp)) Hln.out (by omega) Hnd.out (fun y hy => (Hno.out y hy).2))
    have HPb := hid (fun (v : World) (hb : Below w5.heap.size w5 v) => And.intro (HW5.out.below hb).par.onec (HW5.out.below hb).par.lt)
    have hcur : Below w5.heap.size w5 w5.drew := (Below.refl _ _).drew
    go_region_law (
      (go_simp
       go_at_call 44
       refine (HN44.out _ (by first | exact hcur | exact hcur.alloc (by simp) _ | exact (hcur.alloc (by simp) _).alloc (by simp) _)).mono ?_
       rintro e wn ⟨MB, rfl, hm, hmb, hbk⟩
       have HM := hid hm
       have HBk := hid hbk
       have hcw : Below w5.heap.size w5 wn := by first | exact below_step hcur hbk | exact below_step (hcur.alloc (by simp) _) hbk | exact below_step ((hcur.alloc (by simp) _).alloc (by simp) _) hbk
       obtain ⟨p0, hpl⟩ := HPb.out wn hcw
       have HCw := hid hcw
       clear hcw
       obtain ⟨hcc, hff⟩ := bcell hbk
       have hzz := hbk.size
       try simp only [drew_size, World.size_alloc] at hzz hcc hff
       try (have hl5 : w5.heap.size < wn.heap.size := by omega)
       try (have hl6 : w5.heap.size + 1 < wn.heap.size := by omega)
       clear hm hbk hmb))
    all_goals
      clear hcc hff hzz p0 hpl hcur hrow
      go_wp2_with fail
      go_meet
      first
      | exact ⟨_, MB, _, rfl, hid (bl1 HM.out HCw.out)⟩
      | exact ⟨_, MB, _, rfl, hid (bl2 HM.out HCw.out)⟩
      | exact ⟨_, MB, _, rfl, hid (bl3 HM.out HCw.out HBk.out)⟩
      | exact ⟨_, MB, _, rfl, hid (bl4 HM.out HCw.out HBk.out)⟩
      | exact ⟨_, MB, _, rfl, hid (bl5 HM.out HCw.out HBk.out)⟩
      | exact ⟨_, MB, _, rfl, hid (bl6 HM.out HCw.out HBk.out)⟩
  case rest =>
    obtain ⟨B, MB, M, rfl, HL⟩ := hcut
    have HX5 := hid (HX.out w5 HW5.out.bel)
    clear p0 hpl hrow HX HS HLs
    go_wp2_with fail
    go_loopw [9, 32] (fun _ iv wr => ∃ k : Nat, k ≤ N ∧ iv = .int .i64 k ∧ Hid (Bls w5 x B MB M N L (((L.take k).flatMap (lvE x.p)).map (numE L)) wr)) (fun _ iv _ => N - (intOf iv).toNat)
    case atStart => exact ⟨0, by omega, rfl, hid (by simpa using HL.out)⟩
    case round =>
      clear HL
      obtain ⟨k, hk, rfl, hL⟩ := hrel
      by_cases hlt : k < N
      · obtain ⟨y, hy, hym⟩ := get_at Hln.out hlt
        obtain ⟨ad, hA, had, hc1, hc2, hc3, hc4⟩ := Nd.cells ((HW5.out.below hL.out.bel).nds [] (by simp)) hy
        subst hA
        have Hst := hid (flat_take (p := x.p) hy)
        have Hel := hid (flat_take_len (p := x.p) (L := L) (k := k) (m := 900000) (by rw [HLe.out]; have := HEl.out; omega))
        have Hok := hid ((Hno.out y hym).1)
        have ha := (Below.refl wr.heap.size wr).alloc (Nat.le_refl _) (.cells #[.int .i64 y.kd, .int .i64 y.fn, .int .i64 y.bk, .int .i64 y.st] 50)
        have HLa := hid (hL.out.below ha)
        have HF := hid (Fb.new wr #[.int .i64 y.kd, .int .i64 y.fn, .int .i64 y.bk, .int .i64 y.st] 50)
        have HC := hid (leave_any w5 x ex B MB M N L _ _ HLa.out HX5.out hN1 Hln.out Hel.out y Hok.out)
        clear hy hym ha HLa hL
        generalize hEk : ((L.take k).flatMap (lvE x.p)).map (numE L) = Ek at *
        clear hEk
        obtain ⟨yk, yf, yb, ys⟩ := y
        simp only at *
        obtain ⟨g0, g1, g2, g3⟩ := Fb.four HF.out
        as_aux_lemma =>
          go_wp2_with fail
          refine HC.out.mono ?_
          rintro e w6 ⟨rfl, h6, -⟩
          have H6 := hid (Hst.out ▸ h6)
          clear h6 HC g0 g1 g2 g3 hc1 hc2 hc3 hc4 had
          go_wp2_with fail
          go_roundw
          case rel => exact ⟨k + 1, by omega, by go_num, H6⟩
          case measure => simp [intOf]; omega
      · obtain rfl : k = N := by omega
        have HL2 := hid (show Bls w5 x B MB M k L (numsE x.p) wr from by
          have := hL.out
          rw [List.take_of_length_le (by rw [Hln.out]; omega), HLe.out, HNe.out] at this
          exact this)
        have HEl2 := hid (show (numsE x.p).length ≤ 1024 by rw [← HNe.out, List.length_map]; exact HEl.out)
        have HB2 := hid (show Bms w5 x B MB M k (srF k (numsE x.p) 0) wr from ⟨HL2.out.box, HL2.out.mx.congr (fun a _ => (srF_zero k (numsE x.p) a).symm), HL2.out.bel, HL2.out.mle⟩)
        clear hL HL2 HNe HLe HEl
        generalize numsE x.p = E at *
        obtain ⟨b0, b1, b2⟩ := HB2.out.box.thr
        have hbl := HB2.out.box.lt
        go_wp2_with fail
        clear b0 b1 b2 hbl
        go_loopw [10, 11, 42] (fun _ _ iv wr => ∃ j : Nat, j ≤ k ∧ iv = .int .i64 j ∧ Hid (Bms w5 x B MB M k (srF k E j) wr)) (fun _ _ iv _ => k - (intOf iv).toNat)
        case atStart => exact ⟨0, by omega, rfl, HB2⟩
        case round =>
          clear HB2
          obtain ⟨j, hj, rfl, hM⟩ := hrel
          by_cases hlt2 : j < k
          · obtain ⟨rv, hown, hcell, hfr, ⟨rA, rc, hrv⟩, -, -⟩ := hM.out.mx.at hlt2
            have hlen := outF_len E j
            have hE2 := HEl2.out
            rw [srF_at] at hown hrv
            subst hrv
            have HO := hid hown
            have Hcell := hid hcell
            have HSo := hid (sort_own hown rfl (by omega))
            have hMl := hM.out.mx.lt
            clear hown hfr
            as_aux_lemma =>
              go_wp2_with fail
              refine HSo.out.mono ?_
              rintro e w7 ⟨rfl, ho7, hg7⟩
              have HBx7 := hid (hM.out.box.grown hg7 (fb_ne_own hM.out.box HO.out (by decide)))
              have HG7 := hid hg7
              have ho7d := own_below ho7 (Below.refl w7.heap.size w7).drew
              have HCo := hid (compact_own ho7d (by rw [srtI_len]) (by omega))
              have hMl7 : M < w7.heap.size := Nat.lt_of_lt_of_le hMl hg7.size
              obtain ⟨b0, b1, b2⟩ := HBx7.out.thr
              have hbl := HBx7.out.lt
              clear ho7 hg7 ho7d HSo hcell
              go_wp2_with fail
              go_region_law (
                (go_simp
                 go_at_call 47
                 refine HCo.out.mono ?_
                 rintro e w8 ⟨rfl, ho8, hg8⟩
                 have hgt : wr.grownBy w8 (Value.slice rA (outF E j).length rc).ownBlock := (HG7.out.trans (grown_drewN w7 1 _)).trans hg8
                 obtain ⟨⟨y0, y1⟩, h8⟩ := Bms.turn hM.out Hnl.out hlt2 Hcell.out hgt ho8 rfl
                 have H8 := hid h8
                 have hbx8 := hM.out.box.grown hgt (fb_ne_own hM.out.box HO.out (by decide))
                 obtain ⟨b0, b1, b2⟩ := hbx8.thr
                 have hbl8 := hbx8.lt
                 clear ho8 hg8 hgt h8 hbx8))
              all_goals
                go_wp2_with fail
                go_roundw
                case rel => exact ⟨j + 1, by omega, by go_num, H8⟩
                case measure => simp [intOf]; omega
          · obtain rfl : j = k := by omega
            obtain ⟨yL, hy1, hy2, hy3, hy4, hy5⟩ := hM.out.mx.lists (by omega)
            obtain ⟨yA, yn, yc, yl⟩ := yL
            simp only at hy1 hy2 hy3
            subst hy1
            subst hy2
            subst hy3
            have HWr := hid (HW5.out.below hM.out.bel)
            have HMle := hid (show G + 2 ≤ M by have := hM.out.mle; have h2 : G + 1 < w5.heap.size := HW5.out.res.lt; omega)
            have Hy4 := hid (show (⟨some ⟨M, 0, none⟩, yc, yc, yl⟩ : LH).v = sucL x.p by rw [hy4, Hsl.out])
            have Hy5 := hid hy5
            have HRv := hid (fun (v : World) (hb : Below wr.heap.size wr v) => reversed_any ⟨some ⟨M, 0, none⟩, yc, yc, yl⟩ [] v ((hy5 [] (by simp)).below hb) (by show yc ≤ _; omega) (by
              rw [hy4]
              intro l hl
              unfold rowsF at hl
              obtain ⟨a, ha, rfl⟩ := List.mem_map.1 hl
              unfold srF
              rw [if_pos (List.mem_range.1 ha)]
              exact rowP_ris _ _))
            rw [Hy4.out] at HRv
            simp only at HRv
            have HBx := hid (fun (v : World) (hb : Below wr.heap.size wr v) => And.intro (hM.out.below hb).box.thr (hM.out.below hb).box.lt)
            have HRs := hid (fun (v : World) (hb : Below wr.heap.size wr v) => And.intro (And.intro (HWr.out.below hb).res.thr (HWr.out.below hb).res.thrz) (HWr.out.below hb).res.lt)
            have Hszw := hid (show w.heap.size + 2 ≤ wr.heap.size by have := HWr.out.res.lt; have := HGe.out; omega)
            clear hy4 hy5 hM HW5 Hsl HX5 Hnd Hno Hnl HEl2
            have hcur : Below wr.heap.size wr wr.drew := (Below.refl _ _).drew
            obtain ⟨⟨b0, b1, b2⟩, hbl⟩ := HBx.out _ hcur
            obtain ⟨⟨⟨r0, r1, r2⟩, z0, z1, z2⟩, hrl⟩ := HRs.out _ hcur
            as_aux_lemma =>
              go_wp2_with fail
              go_region_law (
                (go_simp
                 go_at_call 48
                 refine (HRv.out _ hcur).mono ?_
                 rintro e w8 ⟨y2, rfl, hv2, hok2, hbk⟩
                 have hcur := below_step hcur hbk
                 have Hv2 := hid hv2
                 have Hok2 := hid hok2
                 have Hcur := hid hcur
                 obtain ⟨⟨b0, b1, b2⟩, hbl⟩ := HBx.out _ hcur
                 obtain ⟨⟨⟨r0, r1, r2⟩, z0, z1, z2⟩, hrl⟩ := HRs.out _ hcur
                 clear hv2 hok2 hbk))
              all_goals
                clear hcur
                go_wp2_with fail
                refine bodyPost_ret (v := .tuple #[.agg #[.slice A yc c, .slice (some ⟨M, 0, none⟩) yc yc, .slice y2.A y2.n y2.c], .int .i64 0]) (by simp [results, Tryz.results19, go_sem, r0, r1, r2, z0, z1, z2, hrl]) rfl ?_
                exact bld_done HWr.out Hcur.out HMle.out Hln.out (by omega) Hy4.out Hy5.out Hv2.out Hok2.out Hszw.out
end Go.Proofs.YtcgichfanfijjaaGreatDoor

namespace Go.Proofs.YtcgichfanfijjaaGreatDoor
set_option maxRecDepth 100000
set_option linter.unusedVariables false
set_option linter.unusedSimpArgs false
open Go.ChangeShapes Go.WideShapes Go.ChangeAt Go.RowKit

def s8T : ByteArray := ⟨#[102, 117, 110, 99, 32, 109, 59, 32, 98, 108, 111, 99, 107, 32, 98, 59, 32, 98, 114, 97, 110, 99, 104, 32, 120, 32, 98, 32, 98, 59, 32, 101, 110, 100]⟩
def s8P : List Fnc := [⟨⟨#[109]⟩, [⟨⟨#[98]⟩, [⟨8, noB, [⟨#[120]⟩], [⟨#[98]⟩, ⟨#[98]⟩]⟩]⟩]⟩]
theorem s8_parse : parseS s8T = (s8P, 0, 0, 0) := by kernel_rfl
theorem s8_ok : (checkP s8P).2 = 0 := by kernel_rfl
theorem s8_S : sucL s8P = [[1], [1], []] := by kernel_rfl
theorem s8_P : revL (listN s8P).length (sucL s8P) = [[], [0, 1], []] := by kernel_rfl
theorem s8_N : (listN s8P).length = 3 := by kernel_rfl
theorem s8_E : edgN 3 [[1], [1], []] [[], [0, 1], []] = 2 := by kernel_rfl
theorem LH.three {x : LH} {a b c : List Int} (h : x.v = [a, b, c]) : ∃ r0 r1 r2 : RH, x.l = [r0, r1, r2] ∧ r0.l = a ∧ r1.l = b ∧ r2.l = c := by
  unfold LH.v at h
  rcases hl : x.l with _ | ⟨r0, _ | ⟨r1, _ | ⟨r2, _ | ⟨r3, l⟩⟩⟩⟩ <;> rw [hl] at h <;> simp at h
  exact ⟨r0, r1, r2, rfl, h.1, h.2.1, h.2.2⟩
theorem lit_row (w : World) (cs : Array Value) (l : List Int) (n : Nat) (hc : cs = (ints l).toArray) (hn : l.length = n) (hf : n ≤ 1000) : RHok (w.alloc (.cells cs 3)) [] ⟨some ⟨w.heap.size, 0, none⟩, n, n, l⟩ :=
  ⟨EAt.fb (Fb.new w cs 3) (by simp) (fun j u hu => by subst hc; simpa using hu), hn, by show n ≤ _; omega⟩
theorem LHok.cell_of {w : World} {ex : List (Option Nat)} {x : LH} (h : LHok w ex x) {ad : Addr} (hA : x.A = some ad) {i : Nat} {y : RH} (hi : x.l[i]? = some y) : w.cell? (ad.add i) = some (.slice y.A y.n y.c) ∧ ad.block < w.heap.size := by
  obtain ⟨ad2, h1, h2, h3⟩ := h.cell hi
  obtain rfl := Option.some.inj (hA.symm.trans h1)
  exact ⟨h3, h2⟩
theorem add_zero2 (ad : Addr) : ad.add 0 = ad := by unfold Addr.add; simp
theorem lit_row2 (w : World) (cs : Array Value) (l : List Int) (n b : Nat) (hb : b = w.heap.size) (hc : cs = (ints l).toArray) (hn : l.length = n) (hf : n ≤ 1000) : RHok (w.alloc (.cells cs 3)) [] ⟨some ⟨b, 0, none⟩, n, n, l⟩ := by subst hb; exact lit_row w cs l n hc hn hf
/-- What stands while the examples are asked. -/
structure Sw (w : World) (G : Nat) (y : GH) (v : World) : Prop where
  bel : Below w.heap.size w v
  box : Fb v G #[.slice y.A y.n y.c, .slice y.S.A y.S.n y.S.c, .slice y.P.A y.P.n y.P.c] 36
  g : GHok v [] y
theorem Sw.below {w v v' : World} {G : Nat} {y : GH} (h : Sw w G y v) (hb : Below v.heap.size v v') : Sw w G y v' := ⟨below_step h.bel hb, h.box.below hb h.box.lt, h.g.below hb⟩
set_option maxHeartbeats 6400000 in
theorem sane8_any (w : World) (hsh : Shp w) : Calls Tryz.prog 14 #[] w fun e w' => e = .returned (.bool true) ∧ Below w.heap.size w w' := by
  have hs : s8T.size ≤ maxLen := by have : s8T.size ≤ 100 := by decide
                                    unfold maxLen; omega
  have Hs := hid hs
  have HS := hid hsh
  clear hs hsh
  go_enter Tryz.func14, Tryz.ntmps14
  go_wp2_with fail
  refine (refParse_any s8T _ Hs.out).mono ?_
  rw [← parse_same, s8_parse]
  rintro e w1 ⟨x, rfl, hx, hp, hb⟩
  have ha := (Below.refl w1.heap.size w1).alloc (Nat.le_refl _) (.cells #[.slice x.A x.n x.c] 25)
  have hb2 := below_step hb ha
  have HX := hid (PHok.below (hp [] (by simp)) ha)
  have HB1 := hid hb2
  have HS1 := hid (HS.out.keep (hb2.block 0 HS.out.pos0))
  have HM1 := hid (Fb.new w1 #[.slice x.A x.n x.c] 25)
  have HBd := hid (fun (v : World) (h : PHok v [] x) (hs : Shp v) => build_yes x [] v h hs (by rw [hx]; exact s8_ok))
  have e1 : listN x.p = listN s8P := by rw [hx]
  have e2 : sucL x.p = sucL s8P := by rw [hx]
  rw [e1, e2, s8_S, show revL (listN s8P).length [[1], [1], []] = [[], [0, 1], []] from by rw [← s8_S]; exact s8_P] at HBd
  clear hb ha hb2 hp hx HS e1 e2
  have b0 := HM1.out.onec
  have hl := HM1.out.lt
  simp only
  go_wp2_with fail
  clear b0 hl
  refine (HBd.out _ HX.out HS1.out).mono ?_
  rintro e w2 ⟨y, rfl, hyn, hyS, hyP, hyok, hb⟩
  have ha := (Below.refl w2.heap.size w2).alloc (Nat.le_refl _) (.cells #[.slice y.A y.n y.c, .slice y.S.A y.S.n y.S.c, .slice y.P.A y.P.n y.P.c] 36)
  have HW := hid (show Sw w w2.heap.size y (w2.alloc (.cells #[.slice y.A y.n y.c, .slice y.S.A y.S.n y.S.c, .slice y.P.A y.P.n y.P.c] 36)) from ⟨below_step HB1.out (below_step hb ha), Fb.new _ _ _, (hyok [] (by simp)).below ha⟩)
  have hn3 : y.n = 3 := by rw [← (hyok [] (by simp)).len, hyn]; exact s8_N
  obtain ⟨r0, r1, r2, hr, hr0, hr1, hr2⟩ := LH.three hyS
  obtain ⟨q0, q1, q2, hq, hq0, hq1, hq2⟩ := LH.three hyP
  have hsn : y.S.n = 3 := by rw [← (hyok [] (by simp)).s.len, hr]; rfl
  have hpn : y.P.n = 3 := by rw [← (hyok [] (by simp)).p.len, hq]; rfl
  obtain ⟨adS, hAS, -, -⟩ := (hyok [] (by simp)).s.cell (i := 0) (y := r0) (by rw [hr]; rfl)
  obtain ⟨adP, hAP, -, -⟩ := (hyok [] (by simp)).p.cell (i := 1) (y := q1) (by rw [hq]; rfl)
  have hl2 : r2.n = 0 := by rw [← ((hyok [] (by simp)).s.all r2 (by rw [hr]; simp)).len, hr2]; rfl
  have HF := hid (fun (v : World) (h : Sw w w2.heap.size y v) => show ((v.cell? ⟨w2.heap.size, 0, none⟩ = some (.slice y.A 3 y.c) ∧ v.cell? ⟨w2.heap.size, 1, none⟩ = some (.slice (some adS) 3 y.S.c) ∧ v.cell? ⟨w2.heap.size, 2, none⟩ = some (.slice (some adP) 3 y.P.c)) ∧
    (v.cell? adS = some (.slice r0.A r0.n r0.c) ∧ v.cell? ⟨adS.block, adS.off + 1, none⟩ = some (.slice r1.A r1.n r1.c) ∧ v.cell? ⟨adS.block, adS.off + 2, none⟩ = some (.slice r2.A 0 r2.c) ∧ v.cell? ⟨adP.block, adP.off + 1, none⟩ = some (.slice q1.A q1.n q1.c))) ∧ (w2.heap.size < v.heap.size ∧ adS.block < v.heap.size ∧ adP.block < v.heap.size) from by
    obtain ⟨c0, c1, c2⟩ := h.box.thr
    rw [hn3] at c0
    rw [hAS, hsn] at c1
    rw [hAP, hpn] at c2
    obtain ⟨d0, e0⟩ := h.g.s.cell_of hAS (i := 0) (y := r0) (by rw [hr]; rfl)
    obtain ⟨d1, -⟩ := h.g.s.cell_of hAS (i := 1) (y := r1) (by rw [hr]; rfl)
    obtain ⟨d2, -⟩ := h.g.s.cell_of hAS (i := 2) (y := r2) (by rw [hr]; rfl)
    obtain ⟨d3, e3⟩ := h.g.p.cell_of hAP (i := 1) (y := q1) (by rw [hq]; rfl)
    rw [add_zero2] at d0
    rw [hl2] at d2
    exact ⟨⟨⟨c0, c1, c2⟩, d0, d1, d2, d3⟩, h.box.lt, e0, e3⟩)
  have HR0 := hid (fun (v : World) (h : Sw w w2.heap.size y v) => h.g.s.all r0 (by rw [hr]; simp))
  have HR1 := hid (fun (v : World) (h : Sw w w2.heap.size y v) => h.g.s.all r1 (by rw [hr]; simp))
  have HQ1 := hid (fun (v : World) (h : Sw w w2.heap.size y v) => h.g.p.all q1 (by rw [hq]; simp))
  have HEd := hid (fun (v : World) (h : Sw w w2.heap.size y v) => edges_any y [] v h.g)
  rw [hyS, hyP, hn3, s8_E] at HEd
  unfold GH.a at HEd
  rw [hn3, hAS, hsn, hAP, hpn] at HEd
  have HK := hid (fun (v u : World) (h : Sw w w2.heap.size y v) (hb : Below v.heap.size v u) => h.below hb)
  have E0 := hid (show eqD r0.l [1] = true by rw [hr0]; rfl)
  have E1 := hid (show eqD r1.l [1] = true by rw [hr1]; rfl)
  have E2 := hid (show eqD q1.l [0, 1] = true by rw [hq1]; rfl)
  have HBw := hid (fun (v : World) (h : Sw w w2.heap.size y v) => h.bel)
  unfold GH.a
  rw [hn3, hAS, hsn, hAP, hpn]
  rw [hn3, hAS, hsn, hAP, hpn] at HW
  clear hb ha hyok hyn hyS hyP hr hq HB1 HX HS1 HM1 HBd hr0 hr1 hr2 hq0 hq1 hq2 hl2 hAS hAP hn3 hsn hpn
  simp only
  obtain ⟨⟨⟨c0, c1, c2⟩, d0, d1, d2, d3⟩, g0, g1, g2⟩ := HF.out _ HW.out
  go_wp2_with fail
  clear c0 c1 c2 d0 d1 d2 d3 g0 g1 g2
  refine (refInts_any r0 ⟨some ⟨w2.heap.size + 1, 0, none⟩, 1, 1, [1]⟩ [] [] _ (HR0.out _ (HK.out _ _ HW.out ((Below.refl _ _).alloc (Nat.le_refl _) _))) (lit_row2 _ _ _ _ _ (by rw [World.size_alloc]) rfl rfl (by omega))).mono ?_
  rw [E0.out]
  rintro e w' ⟨rfl, q, rfl⟩
  have HW1 := hid (HK.out _ _ (HK.out _ _ HW.out ((Below.refl _ _).alloc (Nat.le_refl _) (.cells (ints [1]).toArray 3))) (below_drewN (Below.refl _ _) q))
  clear HW
  generalize ((w2.alloc (.cells #[.slice y.A 3 y.c, .slice (some adS) 3 y.S.c, .slice (some adP) 3 y.P.c] 36)).alloc (.cells (ints [1]).toArray 3)).drewN q = V1 at HW1 ⊢
  obtain ⟨⟨⟨c0, c1, c2⟩, d0, d1, d2, d3⟩, g0, g1, g2⟩ := HF.out _ HW1.out
  go_wp2_with fail
  clear c0 c1 c2 d0 d1 d2 d3 g0 g1 g2
  refine (refInts_any r1 ⟨some ⟨V1.heap.size, 0, none⟩, 1, 1, [1]⟩ [] [] _ (HR1.out _ (HK.out _ _ HW1.out ((Below.refl _ _).alloc (Nat.le_refl _) _))) (lit_row2 _ _ _ _ _ (by rfl) rfl rfl (by omega))).mono ?_
  rw [E1.out]
  rintro e w' ⟨rfl, q, rfl⟩
  have HW2 := hid (HK.out _ _ (HK.out _ _ HW1.out ((Below.refl _ _).alloc (Nat.le_refl _) (.cells (ints [1]).toArray 3))) (below_drewN (Below.refl _ _) q))
  clear HW1
  generalize ((V1).alloc (.cells (ints [1]).toArray 3)).drewN q = V2 at HW2 ⊢
  obtain ⟨⟨⟨c0, c1, c2⟩, d0, d1, d2, d3⟩, g0, g1, g2⟩ := HF.out _ HW2.out
  go_wp2_with fail
  clear c0 c1 c2 d0 d1 d2 d3 g0 g1 g2
  refine (refInts_any q1 ⟨some ⟨V2.heap.size, 0, none⟩, 2, 2, [0, 1]⟩ [] [] _ (HQ1.out _ (HK.out _ _ HW2.out ((Below.refl _ _).alloc (Nat.le_refl _) _))) (lit_row2 _ _ _ _ _ (by rfl) rfl rfl (by omega))).mono ?_
  rw [E2.out]
  rintro e w' ⟨rfl, q, rfl⟩
  have HW3 := hid (HK.out _ _ (HK.out _ _ HW2.out ((Below.refl _ _).alloc (Nat.le_refl _) (.cells (ints [0, 1]).toArray 3))) (below_drewN (Below.refl _ _) q))
  clear HW2
  generalize ((V2).alloc (.cells (ints [0, 1]).toArray 3)).drewN q = V3 at HW3 ⊢
  obtain ⟨⟨⟨c0, c1, c2⟩, d0, d1, d2, d3⟩, g0, g1, g2⟩ := HF.out _ HW3.out
  go_wp2_with fail
  clear c0 c1 c2 d0 d1 d2 d3 g0 g1 g2
  refine (HEd.out _ HW3.out).mono ?_
  rintro e w' ⟨rfl, hb⟩
  have HB := hid (below_step (HBw.out _ HW3.out) hb)
  go_wp2_with fail
  refine bodyPost_ret (v := .bool true) (by simp [results, Tryz.results14, go_sem]) rfl ?_
  exact ⟨rfl, HB.out⟩
end Go.Proofs.YtcgichfanfijjaaGreatDoor

namespace Go.Proofs.YtcgichfanfijjaaGreatDoor
set_option maxRecDepth 20000
set_option linter.unusedVariables false
set_option linter.unusedSimpArgs false
open Go.ChangeShapes Go.WideShapes Go.ChangeAt Go.RowKit

theorem pre2_le {p : List Fnc} {k b : Nat} {F : Fnc} (h1 : p[k]? = some F) (hb : b ≤ F.bs.length) : (pre2 p k F.bs b).length + 1 ≤ (pre1 p p.length).length := by
  have e1 := (pre2_mono (p := p) (k := k) (bs := F.bs) hb).length_le
  have e2 := congrArg List.length (pre2_all h1)
  rw [List.length_append] at e2
  have e4 := (range_pre (f := ndFs p) (show k + 1 ≤ p.length by have := (List.getElem?_eq_some_iff.1 h1).1; omega)).length_le
  change (pre1 p (k + 1)).length ≤ (pre1 p p.length).length at e4
  simp at e2
  omega
theorem pre3_le {p : List Fnc} {k b i : Nat} {F : Fnc} {B : Blk} (h1 : p[k]? = some F) (h2 : F.bs[b]? = some B) (hi : i ≤ B.ss.length) : (pre3 p k F.bs b B.ss i).length + 1 ≤ (pre1 p p.length).length := by
  have e1 := (pre3_mono (p := p) (k := k) (bs := F.bs) (b := b) (ss := B.ss) hi).length_le
  rw [pre3_all h2] at e1
  have := pre2_le h1 (show b + 1 ≤ F.bs.length by have := (List.getElem?_eq_some_iff.1 h2).1; omega)
  omega
structure ZW (w : World) (x : PH) (v : World) : Prop where
  bel : Below w.heap.size w v
  prog : PHok v [] x
  ptr : Fb v w.heap.size #[.slice x.A x.n x.c] 25
set_option maxHeartbeats 16000000 in
theorem refSizes_any (x : PH) (w : World) (h : PHok w [] x) (hv : prgB x.p = true) (hfew : (pre1 x.p x.p.length).length ≤ 200000) :
    Calls Tryz.prog 20 #[.agg #[.slice x.A x.n x.c]] w fun e w' => (∃ ed : Int, e = .returned (.tuple #[.int .i64 ((pre1 x.p x.p.length).length : Nat), .int .i64 ed])) ∧ Below w.heap.size w w' := by
  have hb0 := (Below.refl w.heap.size w).alloc (Nat.le_refl _) (.cells #[.slice x.A x.n x.c] 25)
  have HZ := hid (show ZW w x (w.alloc (.cells #[.slice x.A x.n x.c] 25)) from ⟨hb0, PHok.below h hb0, Fb.new w #[.slice x.A x.n x.c] 25⟩)
  have Hfew := hid hfew
  have Hlen := hid (show x.p.length = x.n by have e : x.p.length = x.l.length := by simp [PH.p]
                                             exact e.trans h.len)
  have HC := hid (valid_any x [] _ HZ.out.prog)
  rw [hv] at HC
  have HQ2 := hid (fun (k b : Nat) (F : Fnc) (h1 : x.p[k]? = some F) (hb : b ≤ F.bs.length) => pre2_le h1 hb)
  have HQ3 := hid (fun (k b i : Nat) (F : Fnc) (B : Blk) (h1 : x.p[k]? = some F) (h2 : F.bs[b]? = some B) (hi : i ≤ B.ss.length) => pre3_le h1 h2 hi)
  generalize hT : (pre1 x.p x.p.length).length = tot at *
  have HT := hid hT
  clear hT hb0 h hv
  go_enter Tryz.func20, Tryz.ntmps20
  have hp0 := HZ.out.ptr.onec
  go_wp2_with fail
  clear hp0
  generalize w.alloc (.cells #[.slice x.A x.n x.c] 25) = w0 at HZ HC ⊢
  refine HC.out.mono ?_
  rintro e w1 ⟨rfl, hb1⟩
  have HW := hid (show ZW w x w1 from ⟨below_step HZ.out.bel hb1, PHok.below HZ.out.prog hb1, HZ.out.ptr.below hb1 HZ.out.ptr.lt⟩)
  clear hb1 HZ HC
  go_wp2_with fail
  go_loopw [4, 5, 6] (fun av ev iv wr => ∃ (k a : Nat) (ed : Int), k ≤ x.n ∧ av = .int .i64 a ∧ ev = .int .i64 ed ∧ iv = .int .i64 k ∧ Hid (a = (pre1 x.p k).length) ∧ Hid (ZW w x wr)) (fun _ _ iv _ => x.n - (intOf iv).toNat)
  case atStart => exact ⟨0, 0, 0, by omega, rfl, rfl, rfl, hid rfl, HW.out⟩
  case round =>
    clear HW
    obtain ⟨k, a, ed, hk, rfl, rfl, rfl, hA, hW⟩ := hrel
    by_cases hlt : k < x.n
    · obtain ⟨y, hy, hym⟩ := get_at hW.out.prog.len hlt
      have Hy1 := hid (show x.p[k]? = some y.f by unfold PH.p; rw [List.getElem?_map, hy]; rfl)
      have Hyl := hid (show y.l.length = y.n from (hW.out.prog.all y hym).len)
      have Hyb := hid (show y.f.bs.length = y.n by show (y.l.map BH.b).length = y.n; rw [List.length_map]; exact (hW.out.prog.all y hym).len)
      have Hyg := hid (fun (j : Nat) (z : BH) (hz : y.l[j]? = some z) => show y.f.bs[j]? = some z.b by show (y.l.map BH.b)[j]? = _; rw [List.getElem?_map, hz]; rfl)
      have Hya := hid (fun (v : World) (h : ZW w x v) => And.intro (FH.cells h.prog.lies hy) (h.prog.all y hym))
      have hyn : y.n ≤ 40 := (hW.out.prog.all y hym).few
      have hal : a + 2 ≤ 200000 := by have h1 := HQ2.out k 0 y.f Hy1.out (Nat.zero_le _); rw [pre2_zero] at h1; have := hA.out; omega
      clear hy hym
      obtain hp0 := hW.out.ptr.onec
      obtain ⟨⟨ad, hAd, had, hc1, hc2⟩, -⟩ := Hya.out _ hW.out
      rw [hAd] at hp0
      have HAd := hid hAd
      clear hAd
      go_wp2_with fail
      clear hp0 hc1 hc2 had
      go_loopw [4, 5, 7] (fun av ev iv wr => ∃ (b a2 : Nat) (ed : Int), b ≤ y.n ∧ av = .int .i64 a2 ∧ ev = .int .i64 ed ∧ iv = .int .i64 b ∧ Hid (a2 = (pre2 x.p k y.f.bs b).length + 1) ∧ Hid (ZW w x wr)) (fun _ _ iv _ => y.n - (intOf iv).toNat)
      case atStart => exact ⟨0, a + 2, _, by omega, by go_num, rfl, rfl, hid (by rw [pre2_zero, hA.out]), hW.out⟩
      case round =>
        clear hW
        obtain ⟨b, a2, ed, hb, rfl, rfl, rfl, hA2, hW⟩ := hrel
        obtain hp0 := hW.out.ptr.onec
        obtain ⟨⟨ad', hAd', had, hc1, hc2⟩, hyok⟩ := Hya.out _ hW.out
        obtain rfl : ad = ad' := Option.some.inj (HAd.out.symm.trans hAd')
        rw [HAd.out] at hp0
        clear hAd'
        have hadl : (ad.add (k * 2)).block < wr.heap.size := by rw [add_block]; exact had
        by_cases hlt2 : b < y.n
        · obtain ⟨z, hz, hzm⟩ := get_at Hyl.out hlt2
          have Hz1 := hid (Hyg.out b z hz)
          have Hzl := hid (show z.l.length = z.n from (hyok.all z hzm).len)
          have Hzb := hid (show z.b.ss.length = z.n by show (z.l.map SH.t).length = z.n; rw [List.length_map]; exact (hyok.all z hzm).len)
          have Hzg := hid (fun (j : Nat) (s : SH) (hs : z.l[j]? = some s) => show z.b.ss[j]? = some s.t by show (z.l.map SH.t)[j]? = _; rw [List.getElem?_map, hs]; rfl)
          have Hza := hid (fun (v : World) (h : ZW w x v) => And.intro (BH.cells (Hya.out _ h).2.lies hz) ((Hya.out _ h).2.all z hzm))
          have hzn : z.n ≤ 40 := (hyok.all z hzm).few
          obtain ⟨⟨ad2, hAd2, had2, hd1, hd2⟩, -⟩ := Hza.out _ hW.out
          have had2l : (ad2.add (b * 2)).block < wr.heap.size := by rw [add_block]; exact had2
          rw [hAd2] at hc2
          clear hz hzm hyok hAd2
          go_wp2_with fail
          clear hp0 hc1 hc2 had hadl had2 had2l hd1 hd2
          go_loopw [4, 5, 9] (fun av ev iv wr => ∃ (i a3 : Nat) (ed : Int), i ≤ z.n ∧ av = .int .i64 a3 ∧ ev = .int .i64 ed ∧ iv = .int .i64 i ∧ Hid (a3 = (pre3 x.p k y.f.bs b z.b.ss i).length + 1) ∧ Hid (ZW w x wr)) (fun _ _ iv _ => z.n - (intOf iv).toNat)
          case atStart => exact ⟨0, a2, _, by omega, rfl, rfl, rfl, hid (by rw [pre3_zero, hA2.out]), hW.out⟩
          case round =>
            clear hW
            obtain ⟨i, a3, ed, hi, rfl, rfl, rfl, hA3, hW⟩ := hrel
            by_cases hlt3 : i < z.n
            · obtain ⟨s, hs, hsm⟩ := get_at Hzl.out hlt3
              have Hs1 := hid (Hzg.out i s hs)
              obtain ⟨ad3, hAd3, had3, he1, -, -, -⟩ := SH.cells (Hza.out _ hW.out).2.lies hs
              have had3l : (ad3.add (i * 4)).block < wr.heap.size := by rw [add_block]; exact had3
              have h3 := HQ3.out k b (i + 1) y.f z.b Hy1.out Hz1.out (by rw [Hzb.out]; omega)
              have Hnx := hid (show (pre3 x.p k y.f.bs b z.b.ss (i + 1)).length = (pre3 x.p k y.f.bs b z.b.ss i).length + (ndS k b i s.t).length by rw [pre3_succ Hs1.out, List.length_append])
              rw [hAd3]
              have HAd3 := hid hAd3
              clear hs hsm hAd3
              have hA3' := hA3.out
              have hnx := Hnx.out
              cases ho : (s.t.op == 3) with
              | true =>
                have hl := ndS_len_yes (f := k) (b := b) (j := i) ho
                have Hd := hid (show a3 + 1 + 1 = (pre3 x.p k y.f.bs b z.b.ss (i + 1)).length + 1 by omega)
                have hal3 : a3 + 2 ≤ 200000 := by omega
                clear h3 hA3' hnx hl
                as_aux_lemma =>
                  go_wp2_with fail
                  go_roundw
                  case rel => exact ⟨i + 1, a3 + 1 + 1, _, by omega, by go_num, rfl, by go_num, Hd, hW⟩
                  case measure => simp [intOf]; omega
              | false =>
                have hl := ndS_len_no (f := k) (b := b) (j := i) ho
                have Hd := hid (show a3 + 1 = (pre3 x.p k y.f.bs b z.b.ss (i + 1)).length + 1 by omega)
                have hal3 : a3 + 1 ≤ 200000 := by omega
                clear h3 hA3' hnx hl
                cases ho8 : (s.t.op == 8) with
                | true =>
                  as_aux_lemma =>
                    go_wp2_with fail
                    go_roundw
                    case rel => exact ⟨i + 1, a3 + 1, _, by omega, by go_num, rfl, by go_num, Hd, hW⟩
                    case measure => simp [intOf]; omega
                | false =>
                  as_aux_lemma =>
                    go_wp2_with fail
                    go_roundw
                    case rel => exact ⟨i + 1, a3 + 1, _, by omega, by go_num, rfl, by go_num, Hd, hW⟩
                    case measure => simp [intOf]; omega
            · as_aux_lemma =>
                obtain rfl : i = z.n := by omega
                have Hd := hid (show a3 = (pre2 x.p k y.f.bs (b + 1)).length + 1 by rw [hA3.out, ← pre3_all Hz1.out, Hzb.out])
                go_wp2_with fail
                go_roundw
                case rel => exact ⟨b + 1, a3, _, by omega, rfl, rfl, by go_num, Hd, hW⟩
                case measure => simp [intOf]; omega
        · obtain rfl : b = y.n := by omega
          have Hd := hid (show a2 = (pre1 x.p (k + 1)).length by rw [← pre2_all Hy1.out, List.length_append, Hyb.out, hA2.out]; rfl)
          have hxn : x.n ≤ 40 := hW.out.prog.few
          as_aux_lemma =>
            go_wp2_with fail
            go_roundw
            case rel => exact ⟨k + 1, a2, _, by omega, rfl, rfl, by go_num, Hd, hW⟩
            case measure => simp [intOf]; omega
    · obtain rfl : k = x.n := by omega
      have hfin : a = tot := by rw [hA.out, ← HT.out, Hlen.out]
      rw [hfin]
      have hp0 := hW.out.ptr.onec
      as_aux_lemma =>
        go_wp2_with fail
        refine bodyPost_ret (v := .tuple #[.int .i64 (tot : Nat), .int .i64 ed]) (by simp [results, Tryz.results20, go_sem]) rfl ?_
        exact ⟨⟨_, rfl⟩, hW.out.bel⟩
end Go.Proofs.YtcgichfanfijjaaGreatDoor

namespace Go.Proofs.YtcgichfanfijjaaGreatDoor
set_option maxRecDepth 20000
set_option linter.unusedVariables false
set_option linter.unusedSimpArgs false
open Go.ChangeShapes Go.WideShapes Go.ChangeAt Go.RowKit

def eg1 (p : List Fnc) (k : Nat) : Nat := k + sumP edgO ((p.take k).flatMap fncS)
def eg2 (p : List Fnc) (k : Nat) (bs : List Blk) (b : Nat) : Nat := eg1 p k + 1 + sumP edgO ((bs.take b).flatMap Blk.ss)
def eg3 (p : List Fnc) (k : Nat) (bs : List Blk) (b : Nat) (ss : List Stm) (i : Nat) : Nat := eg2 p k bs b + sumP edgO (ss.take i)
theorem sumP_app2 (f : Int → Nat) (l m : List Stm) : sumP f (l ++ m) = sumP f l + sumP f m := by simp [sumP]
theorem eg3_succ {p : List Fnc} {k : Nat} {bs : List Blk} {b : Nat} {ss : List Stm} {i : Nat} {t : Stm} (h : ss[i]? = some t) : eg3 p k bs b ss (i + 1) = eg3 p k bs b ss i + edgO t.op := by
  unfold eg3
  rw [List.take_add_one, h, sumP_app2]
  simp [sumP]
  omega
theorem eg3_all {p : List Fnc} {k : Nat} {bs : List Blk} {b : Nat} {x : Blk} (h : bs[b]? = some x) : eg3 p k bs b x.ss x.ss.length = eg2 p k bs (b + 1) := by
  unfold eg3 eg2
  rw [List.take_length, List.take_add_one, h]
  simp [List.flatMap_append, sumP_app2]
  omega
theorem eg2_all {p : List Fnc} {k : Nat} {x : Fnc} (h : p[k]? = some x) : eg2 p k x.bs x.bs.length = eg1 p (k + 1) := by
  unfold eg2 eg1
  rw [List.take_length, List.take_add_one, h]
  simp [List.flatMap_append, sumP_app2, fncS]
  omega
theorem edg_3 {o : Int} (h : (o == 3) = true) : edgO o = 3 := by unfold edgO; rw [if_pos h]
theorem edg_8 {o : Int} (h : (o == 3) = false) (h2 : (o == 8) = true) : edgO o = 2 := by unfold edgO; rw [if_neg (by rw [h]; decide), if_pos h2]
theorem edg_1 {o : Int} (h : (o == 3) = false) (h2 : (o == 8) = false) : edgO o = 1 := by unfold edgO; rw [if_neg (by rw [h]; decide), if_neg (by rw [h2]; decide)]
set_option maxHeartbeats 16000000 in
theorem refSizes2_any (x : PH) (w : World) (h : PHok w [] x) (hv : prgB x.p = true) (hfew : (pre1 x.p x.p.length).length ≤ 200000) :
    Calls Tryz.prog 20 #[.agg #[.slice x.A x.n x.c]] w fun e w' => e = .returned (.tuple #[.int .i64 ((pre1 x.p x.p.length).length : Nat), .int .i64 (eg1 x.p x.p.length : Nat)]) ∧ Below w.heap.size w w' := by
  have hb0 := (Below.refl w.heap.size w).alloc (Nat.le_refl _) (.cells #[.slice x.A x.n x.c] 25)
  have HZ := hid (show ZW w x (w.alloc (.cells #[.slice x.A x.n x.c] 25)) from ⟨hb0, PHok.below h hb0, Fb.new w #[.slice x.A x.n x.c] 25⟩)
  have Hfew := hid hfew
  have Hlen := hid (show x.p.length = x.n by have e : x.p.length = x.l.length := by simp [PH.p]
                                             exact e.trans h.len)
  have HC := hid (valid_any x [] _ HZ.out.prog)
  rw [hv] at HC
  have HQ2 := hid (fun (k b : Nat) (F : Fnc) (h1 : x.p[k]? = some F) (hb : b ≤ F.bs.length) => pre2_le h1 hb)
  have HQ3 := hid (fun (k b i : Nat) (F : Fnc) (B : Blk) (h1 : x.p[k]? = some F) (h2 : F.bs[b]? = some B) (hi : i ≤ B.ss.length) => pre3_le h1 h2 hi)
  generalize hT : (pre1 x.p x.p.length).length = tot at *
  have HT := hid hT
  clear hT hb0 h hv
  go_enter Tryz.func20, Tryz.ntmps20
  have hp0 := HZ.out.ptr.onec
  go_wp2_with fail
  clear hp0
  generalize w.alloc (.cells #[.slice x.A x.n x.c] 25) = w0 at HZ HC ⊢
  refine HC.out.mono ?_
  rintro e w1 ⟨rfl, hb1⟩
  have HW := hid (show ZW w x w1 from ⟨below_step HZ.out.bel hb1, PHok.below HZ.out.prog hb1, HZ.out.ptr.below hb1 HZ.out.ptr.lt⟩)
  clear hb1 HZ HC
  go_wp2_with fail
  go_loopw [4, 5, 6] (fun av ev iv wr => ∃ (k a ed : Nat), k ≤ x.n ∧ av = .int .i64 a ∧ ev = .int .i64 ed ∧ iv = .int .i64 k ∧ ed ≤ 2 * a ∧ Hid (ed = eg1 x.p k) ∧ Hid (a = (pre1 x.p k).length) ∧ Hid (ZW w x wr)) (fun _ _ iv _ => x.n - (intOf iv).toNat)
  case atStart => exact ⟨0, 0, 0, by omega, rfl, rfl, rfl, by omega, hid rfl, hid rfl, HW.out⟩
  case round =>
    clear HW
    obtain ⟨k, a, ed, hk, rfl, rfl, rfl, hle, hEd, hA, hW⟩ := hrel
    by_cases hlt : k < x.n
    · obtain ⟨y, hy, hym⟩ := get_at hW.out.prog.len hlt
      have Hy1 := hid (show x.p[k]? = some y.f by unfold PH.p; rw [List.getElem?_map, hy]; rfl)
      have Hyl := hid (show y.l.length = y.n from (hW.out.prog.all y hym).len)
      have Hyb := hid (show y.f.bs.length = y.n by show (y.l.map BH.b).length = y.n; rw [List.length_map]; exact (hW.out.prog.all y hym).len)
      have Hyg := hid (fun (j : Nat) (z : BH) (hz : y.l[j]? = some z) => show y.f.bs[j]? = some z.b by show (y.l.map BH.b)[j]? = _; rw [List.getElem?_map, hz]; rfl)
      have Hya := hid (fun (v : World) (h : ZW w x v) => And.intro (FH.cells h.prog.lies hy) (h.prog.all y hym))
      have hyn : y.n ≤ 40 := (hW.out.prog.all y hym).few
      have hal : a + 2 ≤ 200000 := by have h1 := HQ2.out k 0 y.f Hy1.out (Nat.zero_le _); rw [pre2_zero] at h1; have := hA.out; omega
      clear hy hym
      obtain hp0 := hW.out.ptr.onec
      obtain ⟨⟨ad, hAd, had, hc1, hc2⟩, -⟩ := Hya.out _ hW.out
      rw [hAd] at hp0
      have HAd := hid hAd
      clear hAd
      go_wp2_with fail
      clear hp0 hc1 hc2 had
      go_loopw [4, 5, 7] (fun av ev iv wr => ∃ (b a2 ed : Nat), b ≤ y.n ∧ av = .int .i64 a2 ∧ ev = .int .i64 ed ∧ iv = .int .i64 b ∧ ed ≤ 2 * a2 ∧ Hid (ed = eg2 x.p k y.f.bs b) ∧ Hid (a2 = (pre2 x.p k y.f.bs b).length + 1) ∧ Hid (ZW w x wr)) (fun _ _ iv _ => y.n - (intOf iv).toNat)
      case atStart => exact ⟨0, a + 2, ed + 1, by omega, by go_num, by go_num, rfl, by omega, hid (by rw [hEd.out]; rfl), hid (by rw [pre2_zero, hA.out]), hW.out⟩
      case round =>
        clear hW
        obtain ⟨b, a2, ed, hb, rfl, rfl, rfl, hle, hEd, hA2, hW⟩ := hrel
        obtain hp0 := hW.out.ptr.onec
        obtain ⟨⟨ad', hAd', had, hc1, hc2⟩, hyok⟩ := Hya.out _ hW.out
        obtain rfl : ad = ad' := Option.some.inj (HAd.out.symm.trans hAd')
        rw [HAd.out] at hp0
        clear hAd'
        have hadl : (ad.add (k * 2)).block < wr.heap.size := by rw [add_block]; exact had
        by_cases hlt2 : b < y.n
        · obtain ⟨z, hz, hzm⟩ := get_at Hyl.out hlt2
          have Hz1 := hid (Hyg.out b z hz)
          have Hzl := hid (show z.l.length = z.n from (hyok.all z hzm).len)
          have Hzb := hid (show z.b.ss.length = z.n by show (z.l.map SH.t).length = z.n; rw [List.length_map]; exact (hyok.all z hzm).len)
          have Hzg := hid (fun (j : Nat) (s : SH) (hs : z.l[j]? = some s) => show z.b.ss[j]? = some s.t by show (z.l.map SH.t)[j]? = _; rw [List.getElem?_map, hs]; rfl)
          have Hza := hid (fun (v : World) (h : ZW w x v) => And.intro (BH.cells (Hya.out _ h).2.lies hz) ((Hya.out _ h).2.all z hzm))
          have hzn : z.n ≤ 40 := (hyok.all z hzm).few
          obtain ⟨⟨ad2, hAd2, had2, hd1, hd2⟩, -⟩ := Hza.out _ hW.out
          have had2l : (ad2.add (b * 2)).block < wr.heap.size := by rw [add_block]; exact had2
          rw [hAd2] at hc2
          clear hz hzm hyok hAd2
          go_wp2_with fail
          clear hp0 hc1 hc2 had hadl had2 had2l hd1 hd2
          go_loopw [4, 5, 9] (fun av ev iv wr => ∃ (i a3 ed : Nat), i ≤ z.n ∧ av = .int .i64 a3 ∧ ev = .int .i64 ed ∧ iv = .int .i64 i ∧ ed ≤ 2 * a3 ∧ Hid (ed = eg3 x.p k y.f.bs b z.b.ss i) ∧ Hid (a3 = (pre3 x.p k y.f.bs b z.b.ss i).length + 1) ∧ Hid (ZW w x wr)) (fun _ _ iv _ => z.n - (intOf iv).toNat)
          case atStart => exact ⟨0, a2, ed, by omega, rfl, rfl, rfl, hle, hid (by rw [hEd.out]; rfl), hid (by rw [pre3_zero, hA2.out]), hW.out⟩
          case round =>
            clear hW
            obtain ⟨i, a3, ed, hi, rfl, rfl, rfl, hle, hEd, hA3, hW⟩ := hrel
            by_cases hlt3 : i < z.n
            · obtain ⟨s, hs, hsm⟩ := get_at Hzl.out hlt3
              have Hs1 := hid (Hzg.out i s hs)
              obtain ⟨ad3, hAd3, had3, he1, -, -, -⟩ := SH.cells (Hza.out _ hW.out).2.lies hs
              have had3l : (ad3.add (i * 4)).block < wr.heap.size := by rw [add_block]; exact had3
              have h3 := HQ3.out k b (i + 1) y.f z.b Hy1.out Hz1.out (by rw [Hzb.out]; omega)
              have Hnx := hid (show (pre3 x.p k y.f.bs b z.b.ss (i + 1)).length = (pre3 x.p k y.f.bs b z.b.ss i).length + (ndS k b i s.t).length by rw [pre3_succ Hs1.out, List.length_append])
              rw [hAd3]
              have HAd3 := hid hAd3
              clear hs hsm hAd3
              have hA3' := hA3.out
              have hnx := Hnx.out
              have hEs := hid (eg3_succ (p := x.p) (k := k) (bs := y.f.bs) (b := b) Hs1.out)
              cases ho : (s.t.op == 3) with
              | true =>
                have HEd := hid (show ed + 3 = eg3 x.p k y.f.bs b z.b.ss (i + 1) by rw [hEs.out, ← hEd.out, edg_3 ho])
                have hl := ndS_len_yes (f := k) (b := b) (j := i) ho
                have Hd := hid (show a3 + 1 + 1 = (pre3 x.p k y.f.bs b z.b.ss (i + 1)).length + 1 by omega)
                have hal3 : a3 + 2 ≤ 200000 := by omega
                clear h3 hA3' hnx hl
                as_aux_lemma =>
                  go_wp2_with fail
                  go_roundw
                  case rel => exact ⟨i + 1, a3 + 1 + 1, ed + 3, by omega, by go_num, by go_num, by go_num, by omega, HEd, Hd, hW⟩
                  case measure => simp [intOf]; omega
              | false =>
                have hl := ndS_len_no (f := k) (b := b) (j := i) ho
                have Hd := hid (show a3 + 1 = (pre3 x.p k y.f.bs b z.b.ss (i + 1)).length + 1 by omega)
                have hal3 : a3 + 1 ≤ 200000 := by omega
                clear h3 hA3' hnx hl
                cases ho8 : (s.t.op == 8) with
                | true =>
                  have HEd := hid (show ed + 2 = eg3 x.p k y.f.bs b z.b.ss (i + 1) by rw [hEs.out, ← hEd.out, edg_8 ho ho8])
                  as_aux_lemma =>
                    go_wp2_with fail
                    go_roundw
                    case rel => exact ⟨i + 1, a3 + 1, ed + 2, by omega, by go_num, by go_num, by go_num, by omega, HEd, Hd, hW⟩
                    case measure => simp [intOf]; omega
                | false =>
                  have HEd := hid (show ed + 1 = eg3 x.p k y.f.bs b z.b.ss (i + 1) by rw [hEs.out, ← hEd.out, edg_1 ho ho8])
                  as_aux_lemma =>
                    go_wp2_with fail
                    go_roundw
                    case rel => exact ⟨i + 1, a3 + 1, ed + 1, by omega, by go_num, by go_num, by go_num, by omega, HEd, Hd, hW⟩
                    case measure => simp [intOf]; omega
            · as_aux_lemma =>
                obtain rfl : i = z.n := by omega
                have HEd := hid (show ed = eg2 x.p k y.f.bs (b + 1) by rw [hEd.out, ← eg3_all Hz1.out, Hzb.out])
                have Hd := hid (show a3 = (pre2 x.p k y.f.bs (b + 1)).length + 1 by rw [hA3.out, ← pre3_all Hz1.out, Hzb.out])
                go_wp2_with fail
                go_roundw
                case rel => exact ⟨b + 1, a3, ed, by omega, rfl, rfl, by go_num, hle, HEd, Hd, hW⟩
                case measure => simp [intOf]; omega
        · obtain rfl : b = y.n := by omega
          have HEd := hid (show ed = eg1 x.p (k + 1) by rw [hEd.out, ← eg2_all Hy1.out, Hyb.out])
          have Hd := hid (show a2 = (pre1 x.p (k + 1)).length by rw [← pre2_all Hy1.out, List.length_append, Hyb.out, hA2.out]; rfl)
          have hxn : x.n ≤ 40 := hW.out.prog.few
          as_aux_lemma =>
            go_wp2_with fail
            go_roundw
            case rel => exact ⟨k + 1, a2, ed, by omega, rfl, rfl, by go_num, hle, HEd, Hd, hW⟩
            case measure => simp [intOf]; omega
    · obtain rfl : k = x.n := by omega
      have hfin : a = tot := by rw [hA.out, ← HT.out, Hlen.out]
      have hfin2 := hid (show ed = eg1 x.p x.p.length by rw [hEd.out, Hlen.out])
      rw [hfin]
      have hp0 := hW.out.ptr.onec
      as_aux_lemma =>
        go_wp2_with fail
        refine bodyPost_ret (v := .tuple #[.int .i64 (tot : Nat), .int .i64 (ed : Nat)]) (by simp [results, Tryz.results20, go_sem]) rfl ?_
        exact ⟨by rw [hfin2.out], hW.out.bel⟩
end Go.Proofs.YtcgichfanfijjaaGreatDoor

namespace Go.Proofs.YtcgichfanfijjaaGreatDoor
set_option maxRecDepth 20000
set_option linter.unusedVariables false
set_option linter.unusedSimpArgs false
open Go.ChangeShapes Go.WideShapes Go.ChangeAt Go.RowKit

theorem edges_eg {p : List Fnc} (h : (checkP p).2 = 0) : (edgesN p).length = eg1 p p.length := by
  obtain ⟨h1, h2, _, _⟩ := sizes_ok h
  have hp := list_pos h
  obtain ⟨q1, _, _⟩ := check_parts h
  have hs : stmtsP p = p.flatMap fncS := by unfold stmtsP; rw [if_pos q1]
  rw [h2]
  rw [h1] at hp
  unfold sizesP at hp ⊢
  by_cases h0 : (stmtsP p).length = 0
  · rw [if_pos h0] at hp; simp at hp
  · rw [if_neg h0]
    unfold eg1
    rw [List.take_length, hs]
theorem count_one (N c : Nat) : ((List.range N).map fun a => if c == a then 1 else 0).sum ≤ 1 ∧ (N ≤ c → ((List.range N).map fun a => if c == a then 1 else 0).sum = 0) := by
  induction N with
  | zero => simp
  | succ N ih =>
    rw [List.range_succ, List.map_append, List.sum_append]
    simp only [List.map_cons, List.map_nil, List.sum_cons, List.sum_nil, Nat.add_zero]
    by_cases e : c = N
    · subst e
      have := ih.2 (Nat.le_refl _)
      simp only [beq_self_eq_true, if_true]
      omega
    · have he : (c == N) = false := by simpa using e
      rw [he]
      have h1 := ih.1
      have h2 := ih.2
      refine ⟨by simpa using h1, fun h => ?_⟩
      have := h2 (by omega)
      simpa using this
theorem outF_sum (N : Nat) (E : List (Nat × Nat)) : ((List.range N).map fun a => (outF E a).length).sum ≤ E.length := by
  induction E with
  | nil =>
    have : ((List.range N).map fun a => (outF [] a).length).sum = 0 := by
      induction N with
      | zero => rfl
      | succ N ih => rw [List.range_succ, List.map_append, List.sum_append, ih]; rfl
    omega
  | cons e E ih =>
    have h : ((List.range N).map fun a => (outF (e :: E) a).length).sum = ((List.range N).map fun a => (if e.1 == a then 1 else 0) + (outF E a).length).sum := by
      congr 1
      refine List.map_congr_left fun a _ => ?_
      unfold outF
      rw [List.filter_cons]
      by_cases he : (e.1 == a) = true
      · rw [if_pos he, if_pos he]; simp; omega
      · rw [if_neg he, if_neg he]; simp
    rw [h, sum_add, List.length_cons]
    have := (count_one N e.1).1
    omega
theorem row_le {N : Nat} {l : List Int} : (rowP N fun b => decide ((b : Int) ∈ l)).length ≤ l.length := by
  refine nodup_len _ _ ?_ (fun x hx => ?_)
  · exact (rowP_ris N _).1.imp (fun h => by omega)
  · obtain ⟨k, _, h2, rfl⟩ := mem_rowP.1 hx
    simpa using h2
theorem suc_tot (p : List Fnc) : tot (sucL p) ≤ (numsE p).length := by
  refine Nat.le_trans ?_ (outF_sum (listN p).length (numsE p))
  unfold tot sucL rowsF
  rw [List.map_map]
  have : ∀ n : Nat, ((List.range n).map (List.length ∘ sucF p)).sum ≤ ((List.range n).map fun a => (outF (numsE p) a).length).sum := by
    intro n
    induction n with
    | zero => simp
    | succ n ih =>
      rw [List.range_succ, List.map_append, List.map_append, List.sum_append, List.sum_append]
      simp only [List.map_cons, List.map_nil, List.sum_cons, List.sum_nil, Nat.add_zero, Function.comp]
      have := row_le (N := (listN p).length) (l := outF (numsE p) n)
      unfold sucF at *
      omega
  exact this _
theorem suc_val {p : List Fnc} (h : (checkP p).2 = 0) : ValG (listN p).length (sucL p) (revL (listN p).length (sucL p)) ∧ tot (sucL p) ≤ eg1 p p.length := by
  obtain ⟨_, _, h3, h4⟩ := sizes_ok h
  have ht := suc_tot p
  have hl : (numsE p).length = (edgesN p).length := by unfold numsE; rw [List.length_map]
  refine ⟨⟨list_pos h, h3, by unfold sucL rowsF; simp, revL_len _ _, fun l hl => ?_, by omega, rfl⟩, by rw [← edges_eg h]; omega⟩
  unfold sucL rowsF at hl
  obtain ⟨a, _, rfl⟩ := List.mem_map.1 hl
  exact rowP_ris _ _
theorem numN_at {L : List Nd} (hd : L.Nodup) {i : Nat} {x : Nd} (h : L[i]? = some x) : numN L x = i := by
  unfold numN
  obtain ⟨h1, h2⟩ := List.getElem?_eq_some_iff.1 h
  have : L.findIdx? (fun y => decide (y = x)) = some i := by
    rw [List.findIdx?_eq_some_iff_getElem]
    refine ⟨h1, by simp [h2], fun j hj => ?_⟩
    have := (List.pairwise_iff_getElem.1 (List.nodup_iff_pairwise_ne.1 hd)) j i (by omega) h1 hj
    simp only [decide_eq_true_eq]
    exact fun e => this (e.trans h2.symm)
  rw [this]
  rfl
/-- A node that is no exit leads on. -/
theorem suc_some {p : List Fnc} (h : (checkP p).2 = 0) {i : Nat} {n : Nd} (hn : (listN p)[i]? = some n) (hk : n.kd ≠ 2) : sucF p i ≠ [] := by
  obtain ⟨hp, hf, hL⟩ := check_parts h
  obtain ⟨q1, q2, q3⟩ := prg_parts hp
  have hm := List.mem_of_getElem? hn
  have hex : ∃ t, (n, t) ∈ lvE p n := by
    have hok := (nodes_ok h n hm).1
    cases hok with
    | entry f hf => exact ⟨⟨3, f, 0, 0⟩, by unfold lvE; simp⟩
    | exit f hf => exact absurd rfl hk
    | retn f b j _ _ _ => exact ⟨⟨3, f, b, (j : Int) + 1⟩, by unfold lvE; simp⟩
    | stmt f b j F B t h1 h2 h3 hts =>
      rw [lvE_at h1 h2 h3]
      have hst := stm_ts ((blk_parts ((fnc_parts (q3 F (List.mem_of_getElem? h1))).2.2 B (List.mem_of_getElem? h2))).2.2 t (List.mem_of_getElem? h3))
      unfold stE
      split
      · next h7 =>
        have : 0 < t.ts.length := by
          simp only [Bool.or_eq_true, beq_iff_eq] at h7
          rcases h7 with h7 | h7
          · have := hst.1 (.inr h7); omega
          · have := hst.2.1 h7; omega
        exact ⟨_, List.mem_map.2 ⟨t.ts[0], List.getElem_mem this, rfl⟩⟩
      · split
        · exact ⟨_, List.mem_singleton.2 rfl⟩
        · split
          · exact ⟨_, List.mem_cons_self ..⟩
          · exact ⟨_, List.mem_singleton.2 rfl⟩
  obtain ⟨t, ht⟩ := hex
  have he : (i, numN (listN p) t) ∈ numsE p := by
    have := List.mem_map_of_mem (f := numE (listN p)) (List.mem_flatMap.2 ⟨n, hm, ht⟩)
    rw [show numE (listN p) (n, t) = (i, numN (listN p) t) from by show (numN (listN p) n, _) = _; rw [numN_at (list_nodup p) hn]] at this
    exact this
  intro h0
  have : ((numN (listN p) t : Nat) : Int) ∈ sucF p i := by
    unfold sucF
    rw [mem_rowP_nat]
    exact ⟨numN_lt (list_pos h) t, by simp only [decide_eq_true_eq]; exact outF_mem.2 ⟨_, he, rfl⟩⟩
  rw [h0] at this
  simp at this
end Go.Proofs.YtcgichfanfijjaaGreatDoor

namespace Go.Proofs.YtcgichfanfijjaaGreatDoor
set_option maxRecDepth 20000
set_option linter.unusedVariables false
set_option linter.unusedSimpArgs false
open Go.ChangeShapes Go.WideShapes Go.ChangeAt Go.RowKit

/-- What stands in GraphOfPrograms' walk: the program's box, the graph's box, the shapes. -/
structure Ow (w : World) (G1 G2 : Nat) (x : PH) (y : GH) (v : World) : Prop where
  bel : Below w.heap.size w v
  shp : Shp v
  pb : Fb v G1 #[.slice x.A x.n x.c] 25
  gb : Fb v G2 #[.slice y.A y.n y.c, .slice y.S.A y.S.n y.S.c, .slice y.P.A y.P.n y.P.c] 36
  prog : PHok v [] x
  g : GHok v [] y
theorem Ow.below {w v v' : World} {G1 G2 : Nat} {x : PH} {y : GH} (h : Ow w G1 G2 x y v) (hb : Below v.heap.size v v') : Ow w G1 G2 x y v' :=
  ⟨below_step h.bel hb, h.shp.keep (hb.block 0 h.shp.pos0), h.pb.below hb h.pb.lt, h.gb.below hb h.gb.lt, h.prog.below hb, h.g.below hb⟩
theorem LH.rowOf {x : LH} {i : Nat} {y : RH} {v : List (List Int)} (hv : x.v = v) (h : x.l[i]? = some y) : v[i]? = some y.l := by rw [← hv]; exact LH.at h
theorem suc_at {p : List Fnc} {i : Nat} {l : List Int} (h : (sucL p)[i]? = some l) : l = sucF p i := by
  unfold sucL rowsF at h
  rw [List.getElem?_map] at h
  obtain ⟨a, ha, rfl⟩ := Option.map_eq_some_iff.1 h
  obtain ⟨h1, h2⟩ := List.getElem?_eq_some_iff.1 ha
  simp at h2
  rw [h2]
set_option maxHeartbeats 6400000 in
theorem lawGop (At : Option Addr) (nt ct : Nat) (zs : List Int) (w : World) (ht : IArg w At nt zs) (hnt : nt ≤ maxLen) (hsh : Shp w) :
    Calls Tryz.prog 5 #[.slice At nt ct] w fun e w' => e = .returned (.bool true) ∧ Below w.heap.size w w' := by
  have Hinv := hid (show GoS w w.heap.size (w.alloc (.cells #[.slice At nt ct, .int .i64 0] 61)) from ⟨⟨tape_new ht hnt, (Below.refl _ _).alloc (Nat.le_refl _) _, Nat.le_refl _⟩, hsh.keep (Below.heap_alloc w _ 0 hsh.lt), hsh.lt⟩)
  clear ht hsh
  go_enter Tryz.func5, Tryz.ntmps5
  go_wp2_with (go_at_call 9; refine (new_any At nt ct _).mono ?_; rintro e w1 ⟨rfl, rfl⟩)
  generalize w.alloc (.cells #[.slice At nt ct, .int .i64 0] 61) = w1 at Hinv ⊢
  refine (program_any [] w w.heap.size _ Hinv.out.go (by simp)).mono ?_
  rintro e w2 ⟨x, rfl, hgp, hx, hgo, hgr⟩
  have h2 := GoS.step Hinv.out hgo hgr
  have ha := (Below.refl w2.heap.size w2).alloc (Nat.le_refl _) (.cells #[.slice x.A x.n x.c] 25)
  have HB := hid (below_step h2.go.2.1 ha)
  have HS := hid (h2.shp.keep (ha.block 0 h2.shp.pos0))
  have HX := hid (PHok.below hx ha)
  have HG := hid (Fb.new w2 #[.slice x.A x.n x.c] 25)
  have hck : checkP x.p = ((0, 0, 0, 0), 0) := gen_check hgp
  have hck2 : (checkP x.p).2 = 0 := by rw [hck]
  have Hok := hid hck2
  have Hprg := hid (show prgB x.p = true from genP_ok hgp)
  have HBd := hid (fun (v : World) (h : PHok v [] x) (hs : Shp v) => build_yes x [] v h hs hck2)
  obtain ⟨hval, htot⟩ := suc_val hck2
  have Hval := hid hval
  have Htot := hid htot
  have HLp := hid (check_parts hck2).2.2
  have Hfew := hid (sizes_ok hck2).2.2.1
  have Hsome := hid (fun (i : Nat) (n : Nd) (hn : (listN x.p)[i]? = some n) (hk : n.kd ≠ 2) => suc_some hck2 hn hk)
  have HszE := hid (show eg1 x.p x.p.length ≤ 1024 by rw [← edges_eg hck2]; exact (sizes_ok hck2).2.2.2)
  have HN1 := hid (list_pos hck2)
  clear h2 ha hx hgo hgr hgp Hinv hck hck2 hval htot
  have b0 := HG.out.onec
  have hl := HG.out.lt
  simp only
  go_wp2_with fail
  clear b0 hl
  refine (HBd.out _ HX.out HS.out).mono ?_
  rintro e w3 ⟨y, rfl, hyn, hyS, hyP, hyok, hb⟩
  have ha := (Below.refl w3.heap.size w3).alloc (Nat.le_refl _) (.cells #[.slice y.A y.n y.c, .slice y.S.A y.S.n y.S.c, .slice y.P.A y.P.n y.P.c] 36)
  have hb2 := below_step hb ha
  have HW := hid (show Ow w w2.heap.size w3.heap.size x y (w3.alloc (.cells #[.slice y.A y.n y.c, .slice y.S.A y.S.n y.S.c, .slice y.P.A y.P.n y.P.c] 36)) from
    ⟨below_step HB.out hb2, HS.out.keep (hb2.block 0 HS.out.pos0), HG.out.below hb2 HG.out.lt, Fb.new _ _ _, PHok.below HX.out hb2, (hyok [] (by simp)).below ha⟩)
  have hnN : y.n = (listN x.p).length := by rw [← (hyok [] (by simp)).len, hyn]
  have Hnl := hid (hyok [] (by simp)).len
  have HyS := hid hyS
  have HyN := hid hyn
  have Hsl := hid (hyok [] (by simp)).s.len
  have hsn : y.S.n = (listN x.p).length := by rw [← (hyok [] (by simp)).s.len, ← LH.vlen, hyS]; exact Hval.out.slen
  have HVa := hid (fun (v : World) (h : Ow w w2.heap.size w3.heap.size x y v) => valid_graph y [] v h.g)
  have HEd := hid (fun (v : World) (h : Ow w w2.heap.size w3.heap.size x y v) => edges_any y [] v h.g)
  have HSz := hid (fun (v : World) (h : Ow w w2.heap.size w3.heap.size x y v) => refSizes2_any x v h.prog Hprg.out (by rw [← HLp.out]; have := Hfew.out; omega))
  have hvb : validB y.n y.S.v y.P.v = true := by rw [hnN, hyS, hyP]; exact validB_iff.2 Hval.out
  have heb : edgN y.n y.S.v y.P.v = tot (sucL x.p) := by unfold edgN; rw [hvb, hyS]; rfl
  rw [hvb] at HVa
  rw [heb] at HEd
  unfold GH.a at *
  clear hb ha hb2 hyok hyn hyS hyP hvb heb HB HX HS HG HBd Hval Hprg
  generalize hNd : (listN x.p).length = N at *
  clear hNd
  have hN1 := HN1.out
  have hN2 := Hfew.out
  have hE1 := HszE.out
  have hT := Htot.out
  generalize tot (sucL x.p) = tt at *
  generalize eg1 x.p x.p.length = eg at *
  have HpL := hid (show (pre1 x.p x.p.length).length = N by rw [← HLp.out, ← HyN.out, Hnl.out, hnN])
  rw [HpL.out] at HSz
  clear HLp HpL Hfew HN1 HszE Htot
  rw [hnN, hsn] at HVa HEd
  have HFc := hid (fun (v : World) (h : Ow w w2.heap.size w3.heap.size x y v) => And.intro (And.intro h.pb.onec h.pb.lt) (And.intro h.gb.thr h.gb.lt))
  rw [hnN, hsn] at HFc
  have HK := hid (fun (v u : World) (h : Ow w w2.heap.size w3.heap.size x y v) (hb : Below v.heap.size v u) => h.below hb)
  have Hgne := hid (show w2.heap.size ≠ w3.heap.size by have h1 := HW.out.pb; have h2 := HW.out.gb; intro e; rw [e] at h1; unfold Fb at h1 h2; rw [h1] at h2; simp at h2)
  have hgne := Hgne.out
  simp only
  rw [hnN, hsn] at HW ⊢
  have HnN := hid hnN
  have HsN := hid hsn
  clear hnN hsn
  obtain ⟨⟨p0, pl⟩, ⟨c0, c1, c2⟩, gl⟩ := HFc.out _ HW.out
  go_wp2_with fail
  clear p0 pl c0 c1 c2 gl
  generalize w3.alloc (.cells #[.slice y.A N y.c, .slice y.S.A N y.S.c, .slice y.P.A y.P.n y.P.c] 36) = v0 at HW ⊢
  generalize w2.heap.size = G1 at *
  generalize w3.heap.size = G2 at *
  refine (HSz.out _ HW.out).mono ?_
  rintro e v1 ⟨rfl, hb⟩
  have HW1 := hid (HK.out _ _ HW.out hb)
  obtain ⟨⟨p0, pl⟩, ⟨c0, c1, c2⟩, gl⟩ := HFc.out _ HW1.out
  clear hb HW HSz
  go_wp2_with fail
  clear p0 pl c0 c1 c2 gl
  refine (HVa.out _ HW1.out).mono ?_
  rintro e v2 ⟨rfl, hb⟩
  have HW2 := hid (HK.out _ _ HW1.out hb)
  obtain ⟨⟨p0, pl⟩, ⟨c0, c1, c2⟩, gl⟩ := HFc.out _ HW2.out
  clear hb HW1 HVa
  go_wp2_with fail
  clear p0 pl c0 c1 c2 gl
  refine (HEd.out _ HW2.out).mono ?_
  rintro e v3 ⟨rfl, hb⟩
  have HW3 := hid (HK.out _ _ HW2.out hb)
  obtain ⟨⟨p0, pl⟩, ⟨c0, c1, c2⟩, gl⟩ := HFc.out _ HW3.out
  clear hb HW2 HEd
  have t1 : decide ((eg : Int) < (tt : Int)) = false := by simp; omega
  have t2 : decide ((tt : Int) > (eg : Int)) = false := by simp; omega
  have t3 : decide (eg < tt) = false := by simp; omega
  have t4 : ((N : Int) == 0) = false := by simp; omega
  go_wp2_with fail
  clear p0 pl c0 c1 c2 gl t1 t2 t3 t4
  go_loop [8] (fun iv => ∃ k : Nat, k ≤ N ∧ iv = .int .i64 k) (fun iv => N - (intOf iv).toNat)
  case atStart => exact ⟨0, by omega, rfl⟩
  case round =>
    obtain ⟨k, hk, rfl⟩ := hrel
    obtain ⟨⟨p0, pl⟩, ⟨c0, c1, c2⟩, gl⟩ := HFc.out _ HW3.out
    by_cases hlt : k < N
    · obtain ⟨r, hr, hrm⟩ := get_at Hsl.out (show k < y.S.n by rw [HsN.out]; exact hlt)
      obtain ⟨n, hn, hnm⟩ := get_at Hnl.out (show k < y.n by rw [HnN.out]; exact hlt)
      obtain ⟨adS, hAS, hadS, hcS⟩ := HW3.out.g.s.cell hr
      obtain ⟨adN, hAN, hadN, hf1, hf2, hf3, hf4⟩ := Nd.cells HW3.out.g.lies hn
      have hadN' : (adN.add (k * 4)).block < v3.heap.size := by rw [add_block]; exact hadN
      have hrl := (HW3.out.g.s.all r hrm).len
      have hsuc := suc_at (LH.rowOf HyS.out hr)
      rw [HyN.out] at hn
      have Hkd := hid (show r.n = 0 → n.kd = 2 from fun h0 => Classical.byContradiction fun hne => Hsome.out k n hn hne (by rw [← hsuc]; exact List.length_eq_zero_iff.1 (by omega)))
      rw [hAS] at c1
      rw [hAN] at c0
      clear hr hrm hnm hn hrl hsuc hAS hAN
      obtain ⟨rA, rn, rc, rl⟩ := r
      obtain ⟨nk, nf, nb, ns⟩ := n
      simp only at *
      by_cases h0 : rn = 0
      · as_aux_lemma =>
          subst h0
          have hkd := Hkd.out rfl
          subst hkd
          go_wp2_with fail
          go_round
          case rel => exact ⟨k + 1, by omega, by go_num⟩
          case measure => simp [intOf]; omega
      · as_aux_lemma =>
          have t5 : ((rn : Int) == 0) = false := by simp; omega
          go_wp2_with fail
          go_round
          case rel => exact ⟨k + 1, by omega, by go_num⟩
          case measure => simp [intOf]; omega
    · obtain rfl : k = N := by omega
      as_aux_lemma =>
        go_wp2_with fail
        refine (sane8_any _ HW3.out.shp).mono ?_
        rintro e v4 ⟨rfl, hb⟩
        have HF := hid (below_step HW3.out.bel hb)
        go_wp2_with fail
        refine bodyPost_ret (v := .bool true) (by simp [results, Tryz.results5, go_sem]) rfl ?_
        exact ⟨rfl, HF.out⟩
end Go.Proofs.YtcgichfanfijjaaGreatDoor

namespace Go.Proofs.YtcgichfanfijjaaGreatDoor
set_option maxRecDepth 10000
open Go.ChangeShapes Go.WideShapes Go.ChangeAt Go.RowKit Go.Joins

theorem cells3 : Tryz.prog.cellsOf 3 = 1 := by kernel_rfl
theorem cell_in {w : World} {a : Addr} {v : Value} (h : w.cell? a = some v) : a.block < w.heap.size := by
  rcases Nat.lt_or_ge a.block w.heap.size with hlt | hge
  · exact hlt
  · unfold World.cell? at h; rw [Array.getElem?_eq_none hge] at h; cases h

theorem wf_u64 {z : Int} (h : (Lit.int .u64 z).wf = true) : 0 ≤ z ∧ z ≤ 18446744073709551615 := by
  have m0 : IntKind.u64.min = 0 := by decide
  have m1 : IntKind.u64.max = 18446744073709551615 := by decide
  simp [Lit.wf] at h
  omega
theorem open_list {H : Type} {enc : TypeId × Value → H} {W : World} {b0 base : Nat} {spare : Nat → Bool} {held : Bool} {v : Value} {d : DataW H} {p : List MemPlace}
    (hv : Value.okWide Tryz.prog W .any b0 22 v) (h : DataW.Trod enc Tryz.prog W base spare held 22 v d p) :
    ∃ (A : Option Addr) (n c : Nat) (l : List Int), v = .slice A n c ∧ IArg W A n l ∧ n ≤ maxLen := by
  obtain ⟨A, n, c, rfl⟩ := okWide_slice Tryz.underlying22 hv
  obtain ⟨fuel, hf⟩ := h
  rcases open_ints Tryz.underlying22 Tryz.underlying3 cells3 hf with ⟨hcs, _⟩ | ⟨x, l, c', zs, hcs, _, hl, hm, hz, _, hcell, hwz⟩
  · simp [Value.cells] at hcs
    obtain ⟨rfl, rfl, rfl⟩ := hcs
    exact ⟨none, 0, 0, [], rfl, ⟨.inl rfl, rfl⟩, by simp [maxLen]⟩
  · simp [Value.cells] at hcs
    obtain ⟨rfl, rfl, rfl⟩ := hcs
    have hle : n ≤ zs.length := by rw [hz]; split <;> omega
    refine ⟨some x, n, c, zs.take n, rfl, ⟨?_, by rw [List.length_take]; omega⟩, Nat.le_trans hl hm⟩
    by_cases h0 : n = 0
    · subst h0; exact .inl rfl
    · refine .inr ⟨x, rfl, ?_, fun j u hu => ?_⟩
      · have := cell_in (hcell 0 (by omega)); rwa [add_block] at this
      · unfold ints at hu
        rw [List.getElem?_map] at hu
        have hj : j < n := by
          rcases Nat.lt_or_ge j n with h | h
          · exact h
          · rw [List.getElem?_eq_none (by rw [List.length_take]; omega)] at hu; simp at hu
        rw [List.getElem?_take, if_pos hj, List.getElem?_eq_getElem (by omega)] at hu
        have := hcell j (by omega)
        rw [List.getD_eq_getElem?_getD, List.getElem?_eq_getElem (by omega)] at this
        rw [this]; simpa using hu

end Go.Proofs.YtcgichfanfijjaaGreatDoor

namespace Go.Proofs.YtcgichfanfijjaaGreatDoor
set_option maxRecDepth 100000
set_option linter.unusedVariables false
open Go.ChangeShapes Go.WideShapes Go.ChangeAt Go.RowKit

theorem own : ownKnob Tryz.prog.godebug = none := by kernel_rfl
theorem laidOut : laidOutB Tryz.prog = true := by kernel_rfl
theorem gShp : Tryz.prog.globalNamed "flowquery/syntax.shapes" = some 0 := by kernel_rfl
theorem gShpType : (Tryz.prog.globals[0]?).map (·.type) = some 193 := by kernel_rfl
theorem undArr : Tryz.prog.underlying 193 = some (.array 10 192) := by kernel_rfl
theorem undShape : ∃ fs : Array Field, Tryz.prog.underlying 192 = some (.struct fs) ∧ (fs.toList.map fun f => (f.type, f.offset)) = [(9, 0), (4, 1), (3, 2), (3, 3), (3, 4)] := by
  have h : (match Tryz.prog.underlying 192 with | some (.struct fs) => some (fs.toList.map fun f => (f.type, f.offset)) | _ => none) = some [(9, 0), (4, 1), (3, 2), (3, 3), (3, 4)] := by kernel_rfl
  split at h
  · next fs e => exact ⟨fs, e, Option.some.inj h⟩
  · cases h
theorem cArr : Tryz.prog.cellsOf 193 = 50 := by kernel_rfl
theorem cShape : Tryz.prog.cellsOf 192 = 5 := by kernel_rfl
theorem cStr : Tryz.prog.cellsOf 9 = 1 := by kernel_rfl
theorem cBool : Tryz.prog.cellsOf 4 = 1 := by kernel_rfl
theorem cInt : Tryz.prog.cellsOf 3 = 1 := by kernel_rfl
abbrev Sh := List UInt8 × Bool × Int × Int × Int
def dataSh (t : Sh) : DataW Unit := .agg [.lit (.string t.1), .lit (.bool t.2.1), .lit (.int .i64 t.2.2.1), .lit (.int .i64 t.2.2.2.1), .lit (.int .i64 t.2.2.2.2)]
def cellsSh (t : Sh) : List Value := [.string ⟨t.1.toArray⟩, .bool t.2.1, .int .i64 t.2.2.1, .int .i64 t.2.2.2.1, .int .i64 t.2.2.2.2]
def shpT : List Sh := [([], false, 0, 0, 0), ([], true, 0, 4, 0), ([117, 115, 101], false, 1, 4, 0), ([99, 97, 108, 108], false, 0, 0, 1), ([115, 111, 117, 114, 99, 101], true, 0, 0, 0), ([115, 105, 110, 107], false, 1, 1, 0), ([115, 97, 110, 105, 116, 105, 122, 101], true, 0, 0, 0), ([103, 111, 116, 111], false, 0, 0, 1), ([98, 114, 97, 110, 99, 104], false, 1, 1, 2), ([114, 101, 116, 117, 114, 110], false, 0, 0, 0)]
theorem shp_data : (Rows.laid_flowquery_syntax_shapes : DataW Unit) = .agg (shpT.map dataSh) := by kernel_rfl
theorem shp_cells : shpCells = shpT.flatMap cellsSh := by rfl
theorem one_of_drop {cs : List Value} {i : Nat} {v : Value} (h : (cs.drop i).take 1 = [v]) : cs[i]? = some v := by
  have := congrArg (·[0]?) h
  simpa [List.getElem?_take, List.getElem?_drop] using this
theorem shape_of {enc : TypeId × Value → Unit} {w : World} {base : Nat} {sp : Nat → Bool} {held : Bool} {fuel : Nat} {cs : List Value} {t : Sh} {p : List MemPlace}
    (h : DataW.trod enc Tryz.prog w base sp held fuel 192 cs = some (dataSh t, p)) : cs = cellsSh t := by
  obtain ⟨fs, hu, hfs⟩ := undShape
  obtain ⟨xs, n, -, hx, hl, hxl, hf⟩ := DataW.trod_struct hu h
  rw [cShape] at hl
  have hxs : xs.map (·.1) = [.lit (.string t.1), .lit (.bool t.2.1), .lit (.int .i64 t.2.2.1), .lit (.int .i64 t.2.2.2.1), .lit (.int .i64 t.2.2.2.2)] := by
    have := congrArg Prod.fst hx
    unfold dataSh at this
    simpa using this.symm
  have key : ∀ (i : Nat) (ty off : Nat), [((9 : Nat), 0), (4, 1), (3, 2), (3, 3), (3, 4)][i]? = some (ty, off) → Tryz.prog.cellsOf ty = 1 → ∀ d, (xs.map (·.1))[i]? = some d →
      ∃ q, DataW.trod enc Tryz.prog w base sp held n ty ((cs.drop off).take 1) = some (d, q) := by
    intro i ty off hi hc d hd
    have h1 := congrArg (·[i]?) hfs
    try simp only at h1
    rw [hi, List.getElem?_map] at h1
    obtain ⟨f, hf1, hf2⟩ := Option.map_eq_some_iff.1 h1
    injection hf2 with e1 e2
    have h2 := hf i f (by simpa using hf1)
    rw [e1, e2, hc] at h2
    rw [List.getElem?_map] at hd
    obtain ⟨x, hx1, hx2⟩ := Option.map_eq_some_iff.1 hd
    rw [hx1] at h2
    subst hx2
    exact ⟨x.2, h2⟩
  obtain ⟨q0, k0⟩ := key 0 9 0 rfl cStr _ (by rw [hxs]; rfl)
  obtain ⟨q1, k1⟩ := key 1 4 1 rfl cBool _ (by rw [hxs]; rfl)
  obtain ⟨q2, k2⟩ := key 2 3 2 rfl cInt _ (by rw [hxs]; rfl)
  obtain ⟨q3, k3⟩ := key 3 3 3 rfl cInt _ (by rw [hxs]; rfl)
  obtain ⟨q4, k4⟩ := key 4 3 4 rfl cInt _ (by rw [hxs]; rfl)
  obtain ⟨s, c0, d0, -⟩ := DataW.trod_string Tryz.underlying9 k0
  obtain ⟨bb, c1, d1⟩ := DataW.trod_bool Tryz.underlying4 k1
  obtain ⟨z2, c2, d2, -⟩ := DataW.trod_int Tryz.underlying3 k2
  obtain ⟨z3, c3, d3, -⟩ := DataW.trod_int Tryz.underlying3 k3
  obtain ⟨z4, c4, d4, -⟩ := DataW.trod_int Tryz.underlying3 k4
  have g0 := one_of_drop c0
  have g1 := one_of_drop c1
  have g2 := one_of_drop c2
  have g3 := one_of_drop c3
  have g4 := one_of_drop c4
  simp only [Prod.mk.injEq, DataW.lit.injEq, Lit.string.injEq, Lit.bool.injEq, Lit.int.injEq, true_and] at d0 d1 d2 d3 d4
  have es : s = ⟨t.1.toArray⟩ := ext_list (by simpa using d0.1.symm)
  have hc : cellsSh t = [.string s, .bool bb, .int .i64 z2, .int .i64 z3, .int .i64 z4] := by
    unfold cellsSh
    rw [es, d1.1, d2.1, d3.1, d4.1]
  rw [hc]
  apply List.ext_getElem?
  intro i
  match i with
  | 0 => exact g0
  | 1 => exact g1
  | 2 => exact g2
  | 3 => exact g3
  | 4 => exact g4
  | i + 5 => rw [List.getElem?_eq_none (by omega), List.getElem?_eq_none (by simp)]
theorem cells_of_shp {enc : TypeId × Value → Unit} {w : World} {base : Nat} {sp : Nat → Bool} {held : Bool} {fuel : Nat} {cs : List Value} {p : List MemPlace}
    (h : DataW.trod enc Tryz.prog w base sp held fuel 193 cs = some (.agg (shpT.map dataSh), p)) : cs = shpT.flatMap cellsSh := by
  cases fuel with
  | zero => simp [DataW.trod] at h
  | succ fuel =>
    unfold DataW.trod at h
    rw [undArr] at h
    try simp only at h
    rw [cShape, cArr] at h
    split at h
    · rename_i hl
      obtain ⟨xs, hm, hx⟩ := Option.map_eq_some_iff.1 h
      have hxs : xs.map (·.1) = shpT.map dataSh := by
        have := congrArg Prod.fst hx
        simpa using this
      have hlen : (shpT.flatMap cellsSh).length = 50 := by rw [flat_len (k := 5) (fun _ => rfl)]; rfl
      apply List.ext_getElem?
      intro j
      by_cases hj : j < 50
      · have hi : j / 5 < 10 := by omega
        obtain ⟨b, hb, hf⟩ := Lib.mapM_at hm (j / 5) (j / 5) (by simp [hi])
        have h1 := congrArg (·[j / 5]?) hxs
        simp only [List.getElem?_map, hb, Option.map_some] at h1
        have hti : shpT[j / 5]? = some (shpT[j / 5]'(by show j / 5 < 10; exact hi)) := List.getElem?_eq_getElem _
        rw [hti] at h1
        simp only [Option.map_some, Option.some.injEq] at h1
        obtain ⟨b1, b2⟩ := b
        try simp only at h1
        subst h1
        have hc := shape_of hf
        have hr : j % 5 < 5 := Nat.mod_lt _ (by omega)
        have h2 : (cellsSh (shpT[j / 5]'(by show j / 5 < 10; exact hi)))[j % 5]? = cs[j]? := by
          rw [← hc, List.getElem?_take, List.getElem?_drop, if_pos hr]
          congr 1
          omega
        cases h3 : cs[j]? with
        | none =>
          rw [List.getElem?_eq_none_iff] at h3
          omega
        | some u =>
          rw [h3] at h2
          have := flat_get (f := cellsSh) (k := 5) (fun _ => rfl) shpT hti h2
          rw [show j / 5 * 5 + j % 5 = j by omega] at this
          exact this.symm
      · rw [List.getElem?_eq_none (by omega), List.getElem?_eq_none (by omega)]
    · cases h

theorem wf_u8 {z : Int} (h : (Lit.int .u8 z).wf = true) : 0 ≤ z ∧ z < 256 := by
  have m0 : IntKind.u8.min = 0 := by decide
  have m1 : IntKind.u8.max = 255 := by decide
  simp [Lit.wf] at h
  omega
/-- The rows' list. -/
def listS1 : List (String × DataW Unit) := Rows.graphOfProgramsRow.laid
theorem shp_of {W : World} {n1 : String} {d1 : DataW Unit} {rest : List (String × DataW Unit)} (h : laidMet Tryz.prog ((n1, d1) :: rest) W) (hn : n1 = "flowquery/syntax.shapes") (hd : d1 = .agg (shpT.map dataSh)) : Shp W := by
  subst hn; subst hd
  obtain ⟨ps, ⟨g0, t0, cs0, f0, p0, q0, hg0, ht0, hv0, hd0, _, _⟩, _, _⟩ := h
  obtain rfl := Option.some.inj (gShp.symm.trans hg0)
  obtain rfl := Option.some.inj (gShpType.symm.trans ht0)
  have hc := cells_of_shp hd0
  intro j u hu
  rw [shp_cells, ← hc] at hu
  have := World.var?_cell gShp hv0 j
  rw [this]
  simpa using hu
theorem shp1 {W : World} (h : laidMetH Tryz.prog listS1 W) : Shp W := shp_of h rfl shp_data

/-- The heap that the program's own start leaves. -/
noncomputable def door (os : Os) : World := World.doorLaid Tryz.prog 400 os
theorem door_met (os : Os) (args : Array Value) : laidMet Tryz.prog listS1 ((door os).forCall (fun _ _ => 0) ⟨#[], args, []⟩).memory :=
  laidMet_of_run' 8 (by kernel_rfl) (by kernel_rfl)
theorem door_vars (os : Os) (args : Array Value) : ((door os).forCall (fun _ _ => 0) ⟨#[], args, []⟩).variablesRefB Tryz.prog = true := by kernel_rfl
theorem door_rest (os : Os) (args : Array Value) : (((door os).forCall (fun _ _ => 0) ⟨#[], args, []⟩).heap.toList.drop Tryz.prog.globals.size).take ((begin Tryz.prog (fun _ _ => 0) default).world.heap.size - Tryz.prog.globals.size) =
    (begin Tryz.prog (fun _ _ => 0) default).world.heap.toList.drop Tryz.prog.globals.size := by kernel_rfl
end Go.Proofs.YtcgichfanfijjaaGreatDoor

namespace Go.Proofs.YtcgichfanfijjaaGreatDoor.graphOfPrograms
set_option maxRecDepth 100000
open Go.ChangeShapes Go.WideShapes Go.ChangeAt Go.RowKit
open Go.ChangeMaps (open_string)
set_option linter.unusedVariables false

theorem reads (os : Os) {H : Type} (enc : TypeId × Value → H) : ∃ places, DataW.whole enc Tryz.prog ((door os).forCall (fun _ _ => 0) ⟨#[], #[.slice none 0 0], []⟩).memory Tryz.f5.params.toList Rows.graphOfProgramsSpec.vars false (#[.slice none 0 0] : Array Value).toList 8 = some ([.nil], [], places) :=
  ⟨[], by kernel_rfl⟩

theorem lifted (os : Os) (started : os.Started) (H : Type) (enc : TypeId × Value → H) (F : Stop.Interp) :
    ReturnsInHanded {} Tryz.checked os 5 .any ((OpenSpec.ofChange Rows.graphOfProgramsSpec).preRow enc Tryz.prog Tryz.f5 Rows.graphOfProgramsRow.domain false Rows.graphOfProgramsRow.laid) (((OpenSpec.ofChange Rows.graphOfProgramsSpec).at F).post enc Tryz.prog Tryz.f5 false true false false) := by
  obtain ⟨places, hx⟩ := reads os enc
  refine returnsInHanded_of_row (C := Tryz.checked) (s := OpenSpec.ofChange Rows.graphOfProgramsSpec) own started (by kernel_rfl) Tryz.func5
    (witness_row_atRef (enc := enc) (C := Tryz.checked) false (door os) #[.slice none 0 0] rfl (door_vars os _) (door_rest os _) (by kernel_rfl)
      (OpenSpec.preRow_of_cond 8 hx (by kernel_rfl) (fun k hk => by cases hk) (by kernel_rfl) (door_met os _))) ?_
  intro W base args ds gs before hval0 hW _ _ _ hL hsh _
  have hval : ∀ (j : Nat) t v, Tryz.f5.params[j]? = some t → args[j]? = some v → Value.okWide Tryz.prog W .any base t v := hval0
  have hW' := hW
  obtain ⟨p, q, hA0, hV, rfl, hfz, hnd⟩ := hW
  have hA : DataW.TrodAll enc Tryz.prog W 0 (fun _ => true) true Tryz.f5.params.toList args.toList ds p := hA0
  rw [Tryz.params5] at hA hval
  obtain ⟨v0, vs0, d0, ds0, p0, q0, hargs, rfl, rfl, h0, r0⟩ := trodAll_cons hA
  obtain ⟨rfl, rfl, rfl⟩ := trodAll_nil r0
  obtain rfl : args = #[v0] := by cases args; simp_all
  obtain ⟨rfl, rfl⟩ := trodVars_none hV
  have k0 := h0
  have lt0 : ∀ x ∈ p0, x.block < W.heap.size := by obtain ⟨m, hm⟩ := k0; exact DataW.trod_lt m _ _ _ hm
  obtain ⟨a0, n0, c0, l0, rfl, g0, m0⟩ := open_list (hval 0 22 v0 rfl rfl) h0
  clear hA0 hval0
  refine (lawGop a0 n0 c0 l0 W g0 m0 (shp1 hL)).mono fun e W' ⟨he, bel⟩ => ?_
  subst he
  exact ⟨_, rfl, _, _, _, [], _, [], hW', trodAll_mk1 (shut_bool Tryz.underlying4 _), (trodAll_cons_mk (Below.trod laidOut (by kernel_rfl) (of_decide_eq_true (by kernel_rfl)) k0 bel lt0) trodAll_mk0), rfl, bel.frame _, fun h => by cases h⟩

theorem said : Rows.GraphOfProgramsSaid :=
  OpenClaim.holds_of_cond 5 Tryz.f5 rfl rfl rfl rfl rfl rfl rfl ⟨rfl, rfl, rfl, rfl, rfl⟩ rfl rfl rfl rfl rfl (by kernel_rfl) Tryz.func5 (by kernel_rfl)
    (of_decide_eq_true (by kernel_rfl)) (by unfold Func.isWrapper; first | (rw [if_pos (by decide +kernel)]; kernel_rfl) | (rw [if_neg (by decide +kernel)]; exact ⟨rfl, rfl⟩))
    (fun os started H enc _ F => by rw [OpenClaim.pre_eq_preRow]; exact lifted os started H enc F)

theorem plain (f : FuncId) (fn : Func) (hf : Tryz.pinned.checked.prog.funcNamed "flowquery/flqlaw8.GraphOfPrograms" = some f) (hfn : Tryz.pinned.checked.prog.funcs[f]? = some fn) :
    false = Tryz.pinned.checked.prog.looks [] ∧ ∀ (j : Nat) t, fn.params[j]? = some t → Tryz.pinned.checked.prog.wantsStandIn t = false := by
  obtain rfl : f = 5 := Option.some.inj ((show Tryz.prog.funcNamed "flowquery/flqlaw8.GraphOfPrograms" = some 5 by kernel_rfl).symm.trans hf) |>.symm
  obtain rfl : fn = Tryz.f5 := (Option.some.inj (Tryz.func5.symm.trans hfn)).symm
  refine ⟨by kernel_rfl, fun j t ht => ?_⟩
  rw [Tryz.params5] at ht
  have hm : t ∈ [22] := by simpa using Array.mem_of_getElem? ht
  have hall : ([22].all fun u => !Tryz.prog.wantsStandIn u) = true := by kernel_rfl
  exact (show Tryz.prog.wantsStandIn t = false by simpa using List.all_eq_true.1 hall t hm)

theorem proved : Rows.GraphOfProgramsCardSaid :=
  Claim7.holds_tied_plain_at .later [] _ _ _ _ said (fun _ h => by cases h) (by kernel_rfl) (fun _ h => by cases h) graphOfPrograms_row_tie rfl ⟨rfl, rfl⟩ (by kernel_rfl) rfl plain (by kernel_rfl)
#print axioms proved
end Go.Proofs.YtcgichfanfijjaaGreatDoor.graphOfPrograms
