/- The reference's parser: block and function. -/
import Derived.Test.YtmbelhdkaepohaaGreatDoorRp7
import Derived.Deep.RegionLaw
import Derived.Deep.DrawnRows
namespace Go.Proofs.YtmbelhdkaepohaaGreatDoor
set_option maxRecDepth 20000
set_option linter.unusedVariables false
set_option linter.unusedSimpArgs false
open Go.ChangeShapes Go.WideShapes Go.ChangeAt Go.RowKit
attribute [local go_sem ↓] Go.wp_at_zero Go.wp_at_succ

theorem bad_word {r : Rs} (h : r.e ≠ 0) (k : ByteArray) : wordR k r = r := by
  unfold wordR isK failR
  simp [h]
theorem full_e {r : Rs} (h : r.e = 0) : (failR 7 r).e ≠ 0 := by
  unfold failR
  simp [h]
set_option maxHeartbeats 6400000 in
theorem refBlock_any (b : Nat) (A : Option Addr) (c : Nat) (L : List Tok) (σ : Rs) (w : World) (h : Rst w b A c L σ) (hs : Short L) :
    Calls Tryz.prog 53 #[.pointer (some ⟨b, 0, none⟩)] w (RetBk w b A c L (blockR σ)) := by
  have HS := hid hs
  have h0 : Hid (Bg KS w b A c L σ ⟨#[]⟩ (.slice none 0 0) [] ((w.alloc (.cells #[.string ⟨#[]⟩, .slice none 0 0] 95)).alloc (.cells #[.string ⟨#[]⟩, .slice none 0 0] 95))) := hid (Bg.start (K := KS) h)
  have HR : Hid (blockR σ = (⟨(nameR (wordR kwBlock σ)).1, (listR begR stmtR 32 (needR begR (endR (nameR (wordR kwBlock σ)).2))).1⟩, (listR begR stmtR 32 (needR begR (endR (nameR (wordR kwBlock σ)).2))).2)) := hid rfl
  clear h hs
  obtain ⟨i1, hi, hz0, hz1, hz2⟩ := info_parts info68
  have Hi := hid hi; have Hz0 := hid hz0; have Hz1 := hid hz1; have Hz2 := hid hz2
  clear hi hz0 hz1 hz2
  go_enter Tryz.func53, Tryz.ntmps53
  go_wp2_with fail
  refine (refWord_any b A c L σ kwBlock _ h0.out.st).mono ?_
  rintro e w1 ⟨rfl, h1⟩
  have H1 := hid (h0.out.call h1)
  clear h1 h0
  generalize wordR kwBlock σ = σ1 at *
  go_wp2_with fail
  refine (refName_any b A c L σ1 _ H1.out.st HS.out).mono ?_
  rintro e w2 ⟨rfl, h2⟩
  have H2 := hid (H1.out.call h2)
  have H16 := hid (H1.out.st.name16 HS.out)
  clear h2 H1
  generalize (nameR σ1).1 = y at *
  generalize (nameR σ1).2 = σ2 at *
  obtain ⟨⟨q0, q1⟩, ⟨r0, r1⟩, -, -, hz⟩ := H2.out.cells
  have H3 := hid (H2.out.name y)
  go_wp2_with fail
  generalize w2.setCell ⟨w.heap.size + 1, 0, none⟩ (.string y) = w3 at *
  clear q0 q1 r0 r1 hz H2
  refine (refEnd_any b A c L σ2 _ H3.out.st).mono ?_
  rintro e w4 ⟨rfl, h4⟩
  have H4 := hid (H3.out.call h4)
  clear h4 H3
  generalize endR σ2 = σ3 at *
  go_wp2_with fail
  refine (refBegins_any b A c L σ3 _ H4.out.st HS.out).mono ?_
  rintro e w5 ⟨rfl, hb5⟩
  have H5 := hid (H4.out.below hb5)
  clear hb5 H4
  cases hb0 : begR σ3 with
  | true =>
    have hneed : needR begR σ3 = σ3 := by unfold needR; rw [hb0]; rfl
    rw [hneed] at HR
    clear hneed hb0
    go_wp2_with fail
    go_loopw [] (fun wr => ∃ (l : List SH) (n : Nat) (σ4 : Rs) (v : Value), Hid (Bg KS w b A c L σ4 y v l wr) ∧ Hid (Lrel begR stmtR 32 σ3 (l.map SH.t) n σ4)) (fun wr => 32 + 1 - lenAt (w.heap.size + 1) wr)
    case atStart => exact ⟨[], 32, σ3, _, H5.out, Lrel.start⟩
    case round =>
      clear H5
      obtain ⟨l, n, σ4, v, H, HL⟩ := hrel
      obtain ⟨B, d, hv⟩ := own_any_slice H.out.own
      subst hv
      have hlen : l.length + n = 32 := by have := HL.out.1; simpa using this
      obtain ⟨⟨q0, q1⟩, ⟨r0, r1⟩, ⟨p0, p1⟩, ⟨s0, s1⟩, hz⟩ := H.out.cells
      have Hm := hid (lenAt_of q1)
      clear q0 r0 r1 p0 p1 s0 s1 q1 hz
      cases hb : begR σ4 with
      | false =>
        have HB := hid hb
        clear hb
        go_wp2_with fail
        refine (refBegins_any b A c L σ4 _ H.out.st HS.out).mono ?_
        rw [HB.out]
        rintro e w7 ⟨rfl, hb7⟩
        have H7 := hid (H.out.below hb7)
        clear hb7 H
        obtain ⟨⟨q0, q1⟩, ⟨r0, r1⟩, ⟨p0, p1⟩, ⟨s0, s1⟩, hz⟩ := H7.out.cells
        have hsz2 : w.heap.size < w7.heap.size := by omega
        go_wp2_with fail
        refine bodyPost_ret (v := agB ⟨y, B, l.length, d, l⟩) (by simp [results, Tryz.results53, go_sem, q0, q1, p0, p1, s0, s1, hz, hsz2, agB]) rfl ?_
        exact H7.out.doneB rfl (by omega) H16.out _ _ (by rw [HR.out, HL.out.stop HB.out])
      | true =>
        have HB := hid hb
        clear hb
        cases n with
        | zero =>
          have hl32 : l.length = 32 := by omega
          go_wp2_with fail
          refine (refBegins_any b A c L σ4 _ H.out.st HS.out).mono ?_
          rw [HB.out]
          rintro e w7 ⟨rfl, hb7⟩
          have H7 := hid (H.out.below hb7)
          clear hb7 H
          obtain ⟨⟨q0, q1⟩, ⟨r0, r1⟩, -, -, hz⟩ := H7.out.cells
          have tl : ((l.length : Int) == 32) = true := by simp; omega
          go_wp2_with fail
          clear q0 q1 r0 r1 hz
          refine (refFail_any b A c L σ4 7 _ H7.out.st).mono ?_
          rintro e w8 ⟨rfl, h8⟩
          have H8 := hid (H7.out.call h8)
          clear h8 H7
          obtain ⟨⟨q0, q1⟩, ⟨r0, r1⟩, ⟨p0, p1⟩, ⟨s0, s1⟩, hz⟩ := H8.out.cells
          have hsz2 : w.heap.size < w8.heap.size := by omega
          go_wp2_with fail
          refine bodyPost_ret (v := agB ⟨y, B, l.length, d, l⟩) (by simp [results, Tryz.results53, go_sem, q0, q1, p0, p1, s0, s1, hz, hsz2, agB, hl32]) rfl ?_
          exact H8.out.doneB rfl (by omega) H16.out _ _ (by rw [HR.out, HL.out.full HB.out])
        | succ n =>
          have hl32 : l.length < 32 := by omega
          have tl : ((l.length : Int) == 32) = false := by simp; omega
          go_wp2_with fail
          refine (refBegins_any b A c L σ4 _ H.out.st HS.out).mono ?_
          rw [HB.out]
          rintro e w7 ⟨rfl, hb7⟩
          have H7 := hid (H.out.below hb7)
          clear hb7 H
          obtain ⟨⟨q0, q1⟩, ⟨r0, r1⟩, -, -, hz⟩ := H7.out.cells
          go_wp2_with fail
          have H7d : Hid (Bg KS w b A c L σ4 y (.slice B l.length d) l w7.drew) := hid (H7.out.drewN 1)
          have HC := hid (fun w' (h' : Rst w' b A c L σ4) => refStmt_any b A c L σ4 w' h' HS.out HB.out)
          go_region_law (first
            | (go_simp
               go_at_call 74
               go_must (
               refine (HC.out _ H7d.out.st).mono ?_
               rintro e w8 ⟨x, he, hxt, hfx, h8⟩
               unfold agS at he
               subst he
               have H8 := hid (H7d.out.call h8)
               have Hx := hid (FrV.fresh (N := w.heap.size + 2) (v := .slice B l.length d) hfx (by have := H7d.out.size; omega) (fun k hk => (H7d.out.own.lt k hk).2))
               have Hxt := hid hxt
               obtain ⟨⟨q0, q1⟩, ⟨r0, r1⟩, -, -, hz⟩ := H8.out.cells
               clear hfx h8 hxt))
            | ((refine step_append_lies _ (by rfl) _ _ 93 (by rfl) (w.heap.size + 2) 101 i1 _ 4 72 Tryz.underlying93 Hi.out Hz0.out Hz1.out Hz2.out (by rfl) (by decide) (.slice B l.length d) l.length (l.flatMap shc) (by rfl) (by exact World.ownsRow.alloc H8.out.own _)
                  ⟨_, 0, none⟩ 1 1 (shc x) (by rfl) rfl (by exact four_new _ _ _ _ _ _) (one_shc x) (by decide) (by unfold maxLen; omega) (by omega) (by have := H8.out.size; rw [World.size_alloc]; omega) _ rfl ?_)
               intro g9 cap9 w9 hown9 hgr9 hat9 hlt9
               obtain ⟨⟨y0, y1, y2⟩, hT9⟩ := Bg.push (x := x) H8.out ((Below.refl _ _).alloc (Nat.le_refl _) _) (.inr Hx.out) hgr9 hown9 hat9
               have H9 := hid hT9
               clear hown9 hgr9 hat9 hlt9 hT9))
          all_goals
            clear q0 q1 r0 r1 hz
            generalize w9.setCell ⟨w.heap.size + 1, 1, none⟩ (.slice (some ⟨g9, 0, none⟩) (l.length + 1) cap9) = w10 at *
            clear y0 y1 y2
            go_wp2_with fail
            go_roundw
            case rel => exact ⟨l ++ [x], n, (stmtR σ4).2, _, H9.out, by have := HL.out.step HB.out; rw [List.map_append]; rw [← Hxt.out] at this; exact this⟩
            case measure =>
              obtain ⟨⟨q0, q1⟩, -⟩ := H9.out.cells
              rw [Hm.out, lenAt_of q1]
              omega
  | false =>
    have hneed : needR begR σ3 = failR 4 σ3 := by unfold needR; rw [hb0]; rfl
    rw [hneed] at HR
    clear hneed hb0
    go_wp2_with fail
    refine (refFail_any b A c L σ3 4 _ H5.out.st).mono ?_
    rintro e w6 ⟨rfl, h6⟩
    have H6 := hid (H5.out.call h6)
    clear h6 H5
    generalize failR 4 σ3 = σ3 at *
    go_wp2_with fail
    go_loopw [] (fun wr => ∃ (l : List SH) (n : Nat) (σ4 : Rs) (v : Value), Hid (Bg KS w b A c L σ4 y v l wr) ∧ Hid (Lrel begR stmtR 32 σ3 (l.map SH.t) n σ4)) (fun wr => 32 + 1 - lenAt (w.heap.size + 1) wr)
    case atStart => exact ⟨[], 32, σ3, _, H6.out, Lrel.start⟩
    case round =>
      clear H6
      obtain ⟨l, n, σ4, v, H, HL⟩ := hrel
      obtain ⟨B, d, hv⟩ := own_any_slice H.out.own
      subst hv
      have hlen : l.length + n = 32 := by have := HL.out.1; simpa using this
      obtain ⟨⟨q0, q1⟩, ⟨r0, r1⟩, ⟨p0, p1⟩, ⟨s0, s1⟩, hz⟩ := H.out.cells
      have Hm := hid (lenAt_of q1)
      clear q0 r0 r1 p0 p1 s0 s1 q1 hz
      cases hb : begR σ4 with
      | false =>
        have HB := hid hb
        clear hb
        go_wp2_with fail
        refine (refBegins_any b A c L σ4 _ H.out.st HS.out).mono ?_
        rw [HB.out]
        rintro e w7 ⟨rfl, hb7⟩
        have H7 := hid (H.out.below hb7)
        clear hb7 H
        obtain ⟨⟨q0, q1⟩, ⟨r0, r1⟩, ⟨p0, p1⟩, ⟨s0, s1⟩, hz⟩ := H7.out.cells
        have hsz2 : w.heap.size < w7.heap.size := by omega
        go_wp2_with fail
        refine bodyPost_ret (v := agB ⟨y, B, l.length, d, l⟩) (by simp [results, Tryz.results53, go_sem, q0, q1, p0, p1, s0, s1, hz, hsz2, agB]) rfl ?_
        exact H7.out.doneB rfl (by omega) H16.out _ _ (by rw [HR.out, HL.out.stop HB.out])
      | true =>
        have HB := hid hb
        clear hb
        cases n with
        | zero =>
          have hl32 : l.length = 32 := by omega
          go_wp2_with fail
          refine (refBegins_any b A c L σ4 _ H.out.st HS.out).mono ?_
          rw [HB.out]
          rintro e w7 ⟨rfl, hb7⟩
          have H7 := hid (H.out.below hb7)
          clear hb7 H
          obtain ⟨⟨q0, q1⟩, ⟨r0, r1⟩, -, -, hz⟩ := H7.out.cells
          have tl : ((l.length : Int) == 32) = true := by simp; omega
          go_wp2_with fail
          clear q0 q1 r0 r1 hz
          refine (refFail_any b A c L σ4 7 _ H7.out.st).mono ?_
          rintro e w8 ⟨rfl, h8⟩
          have H8 := hid (H7.out.call h8)
          clear h8 H7
          obtain ⟨⟨q0, q1⟩, ⟨r0, r1⟩, ⟨p0, p1⟩, ⟨s0, s1⟩, hz⟩ := H8.out.cells
          have hsz2 : w.heap.size < w8.heap.size := by omega
          go_wp2_with fail
          refine bodyPost_ret (v := agB ⟨y, B, l.length, d, l⟩) (by simp [results, Tryz.results53, go_sem, q0, q1, p0, p1, s0, s1, hz, hsz2, agB, hl32]) rfl ?_
          exact H8.out.doneB rfl (by omega) H16.out _ _ (by rw [HR.out, HL.out.full HB.out])
        | succ n =>
          have hl32 : l.length < 32 := by omega
          have tl : ((l.length : Int) == 32) = false := by simp; omega
          go_wp2_with fail
          refine (refBegins_any b A c L σ4 _ H.out.st HS.out).mono ?_
          rw [HB.out]
          rintro e w7 ⟨rfl, hb7⟩
          have H7 := hid (H.out.below hb7)
          clear hb7 H
          obtain ⟨⟨q0, q1⟩, ⟨r0, r1⟩, -, -, hz⟩ := H7.out.cells
          go_wp2_with fail
          have H7d : Hid (Bg KS w b A c L σ4 y (.slice B l.length d) l w7.drew) := hid (H7.out.drewN 1)
          have HC := hid (fun w' (h' : Rst w' b A c L σ4) => refStmt_any b A c L σ4 w' h' HS.out HB.out)
          go_region_law (first
            | (go_simp
               go_at_call 74
               go_must (
               refine (HC.out _ H7d.out.st).mono ?_
               rintro e w8 ⟨x, he, hxt, hfx, h8⟩
               unfold agS at he
               subst he
               have H8 := hid (H7d.out.call h8)
               have Hx := hid (FrV.fresh (N := w.heap.size + 2) (v := .slice B l.length d) hfx (by have := H7d.out.size; omega) (fun k hk => (H7d.out.own.lt k hk).2))
               have Hxt := hid hxt
               obtain ⟨⟨q0, q1⟩, ⟨r0, r1⟩, -, -, hz⟩ := H8.out.cells
               clear hfx h8 hxt))
            | ((refine step_append_lies _ (by rfl) _ _ 93 (by rfl) (w.heap.size + 2) 101 i1 _ 4 72 Tryz.underlying93 Hi.out Hz0.out Hz1.out Hz2.out (by rfl) (by decide) (.slice B l.length d) l.length (l.flatMap shc) (by rfl) (by exact World.ownsRow.alloc H8.out.own _)
                  ⟨_, 0, none⟩ 1 1 (shc x) (by rfl) rfl (by exact four_new _ _ _ _ _ _) (one_shc x) (by decide) (by unfold maxLen; omega) (by omega) (by have := H8.out.size; rw [World.size_alloc]; omega) _ rfl ?_)
               intro g9 cap9 w9 hown9 hgr9 hat9 hlt9
               obtain ⟨⟨y0, y1, y2⟩, hT9⟩ := Bg.push (x := x) H8.out ((Below.refl _ _).alloc (Nat.le_refl _) _) (.inr Hx.out) hgr9 hown9 hat9
               have H9 := hid hT9
               clear hown9 hgr9 hat9 hlt9 hT9))
          all_goals
            clear q0 q1 r0 r1 hz
            generalize w9.setCell ⟨w.heap.size + 1, 1, none⟩ (.slice (some ⟨g9, 0, none⟩) (l.length + 1) cap9) = w10 at *
            clear y0 y1 y2
            go_wp2_with fail
            go_roundw
            case rel => exact ⟨l ++ [x], n, (stmtR σ4).2, _, H9.out, by have := HL.out.step HB.out; rw [List.map_append]; rw [← Hxt.out] at this; exact this⟩
            case measure =>
              obtain ⟨⟨q0, q1⟩, -⟩ := H9.out.cells
              rw [Hm.out, lenAt_of q1]
              omega
set_option maxHeartbeats 6400000 in
theorem refFunc_any (b : Nat) (A : Option Addr) (c : Nat) (L : List Tok) (σ : Rs) (w : World) (h : Rst w b A c L σ) (hs : Short L) :
    Calls Tryz.prog 39 #[.pointer (some ⟨b, 0, none⟩)] w (RetFn w b A c L (funcR σ)) := by
  have HS := hid hs
  have h0 : Hid (Bg KB w b A c L σ ⟨#[]⟩ (.slice none 0 0) [] ((w.alloc (.cells #[.string ⟨#[]⟩, .slice none 0 0] 75)).alloc (.cells #[.string ⟨#[]⟩, .slice none 0 0] 75))) := hid (Bg.start (K := KB) h)
  have HR : Hid (funcR σ = (⟨(nameR (wordR kwFunc σ)).1, (listR (isK kwBlock) blockR 16 (needR (isK kwBlock) (endR (nameR (wordR kwFunc σ)).2))).1⟩, endR (wordR kwEnd (listR (isK kwBlock) blockR 16 (needR (isK kwBlock) (endR (nameR (wordR kwFunc σ)).2))).2))) := hid rfl
  clear h hs
  obtain ⟨i1, hi, hz0, hz1, hz2⟩ := info_parts info66
  have Hi := hid hi; have Hz0 := hid hz0; have Hz1 := hid hz1; have Hz2 := hid hz2
  clear hi hz0 hz1 hz2
  go_enter Tryz.func39, Tryz.ntmps39
  go_wp2_with fail
  refine (refWord_any b A c L σ kwFunc _ h0.out.st).mono ?_
  rintro e w1 ⟨rfl, h1⟩
  have H1 := hid (h0.out.call h1)
  clear h1 h0
  generalize wordR kwFunc σ = σ1 at *
  go_wp2_with fail
  refine (refName_any b A c L σ1 _ H1.out.st HS.out).mono ?_
  rintro e w2 ⟨rfl, h2⟩
  have H2 := hid (H1.out.call h2)
  have H16 := hid (H1.out.st.name16 HS.out)
  clear h2 H1
  generalize (nameR σ1).1 = y at *
  generalize (nameR σ1).2 = σ2 at *
  obtain ⟨⟨q0, q1⟩, ⟨r0, r1⟩, -, -, hz⟩ := H2.out.cells
  have H3 := hid (H2.out.name y)
  go_wp2_with fail
  generalize w2.setCell ⟨w.heap.size + 1, 0, none⟩ (.string y) = w3 at *
  clear q0 q1 r0 r1 hz H2
  refine (refEnd_any b A c L σ2 _ H3.out.st).mono ?_
  rintro e w4 ⟨rfl, h4⟩
  have H4 := hid (H3.out.call h4)
  clear h4 H3
  generalize endR σ2 = σ3 at *
  go_wp2_with fail
  refine (refIs_any b A c L σ3 kwBlock _ H4.out.st).mono ?_
  rintro e w5 ⟨rfl, hb5⟩
  have H5 := hid (H4.out.below hb5)
  clear hb5 H4
  cases hb0 : isK kwBlock σ3 with
  | true =>
    have hneed : needR (isK kwBlock) σ3 = σ3 := by unfold needR; rw [hb0]; rfl
    rw [hneed] at HR
    clear hneed hb0
    go_wp2_with fail
    go_loopw [] (fun wr => ∃ (l : List BH) (n : Nat) (σ4 : Rs) (v : Value), Hid (Bg KB w b A c L σ4 y v l wr) ∧ Hid (Lrel (isK kwBlock) blockR 16 σ3 (l.map BH.b) n σ4)) (fun wr => 16 + 1 - lenAt (w.heap.size + 1) wr)
    case atStart => exact ⟨[], 16, σ3, _, H5.out, Lrel.start⟩
    case round =>
      clear H5
      obtain ⟨l, n, σ4, v, H, HL⟩ := hrel
      obtain ⟨B, d, hv⟩ := own_any_slice H.out.own
      subst hv
      have hlen : l.length + n = 16 := by have := HL.out.1; simpa using this
      obtain ⟨⟨q0, q1⟩, ⟨r0, r1⟩, ⟨p0, p1⟩, ⟨s0, s1⟩, hz⟩ := H.out.cells
      have Hm := hid (lenAt_of q1)
      clear q0 r0 r1 p0 p1 s0 s1 q1 hz
      cases hb : isK kwBlock σ4 with
      | false =>
        have HB := hid hb
        clear hb
        go_wp2_with fail
        refine (refIs_any b A c L σ4 kwBlock _ H.out.st).mono ?_
        rw [HB.out]
        rintro e w7 ⟨rfl, hb7⟩
        have H7 := hid (H.out.below hb7)
        clear hb7 H
        go_wp2_with fail
        refine (refWord_any b A c L σ4 kwEnd _ H7.out.st).mono ?_
        rintro e w8 ⟨rfl, h8⟩
        have H8 := hid (H7.out.call h8)
        clear h8 H7
        go_wp2_with fail
        refine (refEnd_any b A c L _ _ H8.out.st).mono ?_
        rintro e w9 ⟨rfl, h9⟩
        have H9 := hid (H8.out.call h9)
        clear h9 H8
        obtain ⟨⟨q0, q1⟩, ⟨r0, r1⟩, ⟨p0, p1⟩, ⟨s0, s1⟩, hz⟩ := H9.out.cells
        have hsz2 : w.heap.size < w9.heap.size := by omega
        go_wp2_with fail
        refine bodyPost_ret (v := agF ⟨y, B, l.length, d, l⟩) (by simp [results, Tryz.results39, go_sem, q0, q1, p0, p1, s0, s1, hz, hsz2, agF]) rfl ?_
        exact H9.out.doneF rfl (by omega) H16.out _ _ (by rw [HR.out, HL.out.stop HB.out])
      | true =>
        have HB := hid hb
        clear hb
        cases n with
        | zero =>
          have hl32 : l.length = 16 := by omega
          go_wp2_with fail
          refine (refIs_any b A c L σ4 kwBlock _ H.out.st).mono ?_
          rw [HB.out]
          rintro e w7 ⟨rfl, hb7⟩
          have H7 := hid (H.out.below hb7)
          clear hb7 H
          obtain ⟨⟨q0, q1⟩, ⟨r0, r1⟩, -, -, hz⟩ := H7.out.cells
          have tl : ((l.length : Int) == 16) = true := by simp; omega
          go_wp2_with fail
          clear q0 q1 r0 r1 hz
          refine (refFail_any b A c L σ4 7 _ H7.out.st).mono ?_
          rintro e w8 ⟨rfl, h8⟩
          have H8 := hid (H7.out.call h8)
          clear h8 H7
          obtain ⟨⟨q0, q1⟩, ⟨r0, r1⟩, ⟨p0, p1⟩, ⟨s0, s1⟩, hz⟩ := H8.out.cells
          have hsz2 : w.heap.size < w8.heap.size := by omega
          go_wp2_with fail
          refine bodyPost_ret (v := agF ⟨y, B, l.length, d, l⟩) (by simp [results, Tryz.results39, go_sem, q0, q1, p0, p1, s0, s1, hz, hsz2, agF, hl32]) rfl ?_
          exact H8.out.doneF rfl (by omega) H16.out _ _ (by rw [HR.out, HL.out.full HB.out, bad_word (full_e (isK_ne HB.out).1), bad_end (full_e (isK_ne HB.out).1)])
        | succ n =>
          have hl32 : l.length < 16 := by omega
          have tl : ((l.length : Int) == 16) = false := by simp; omega
          go_wp2_with fail
          refine (refIs_any b A c L σ4 kwBlock _ H.out.st).mono ?_
          rw [HB.out]
          rintro e w7 ⟨rfl, hb7⟩
          have H7 := hid (H.out.below hb7)
          clear hb7 H
          obtain ⟨⟨q0, q1⟩, ⟨r0, r1⟩, -, -, hz⟩ := H7.out.cells
          go_wp2_with fail
          have H7d : Hid (Bg KB w b A c L σ4 y (.slice B l.length d) l w7.drew) := hid (H7.out.drewN 1)
          have HC := hid (fun w' (h' : Rst w' b A c L σ4) => refBlock_any b A c L σ4 w' h' HS.out)
          go_region_law (first
            | (go_simp
               go_at_call 53
               go_must (
               refine (HC.out _ H7d.out.st).mono ?_
               rintro e w8 ⟨x, he, hxt, hfx, h8⟩
               unfold agB at he
               subst he
               have H8 := hid (H7d.out.call h8)
               have Hx := hid (FrV.fresh (N := w.heap.size + 2) (v := .slice B l.length d) hfx (by have := H7d.out.size; omega) (fun k hk => (H7d.out.own.lt k hk).2))
               have Hxt := hid hxt
               obtain ⟨⟨q0, q1⟩, ⟨r0, r1⟩, -, -, hz⟩ := H8.out.cells
               clear hfx h8 hxt))
            | ((refine step_append_lies _ (by rfl) _ _ 73 (by rfl) (w.heap.size + 2) 95 i1 _ 2 40 Tryz.underlying73 Hi.out Hz0.out Hz1.out Hz2.out (by rfl) (by decide) (.slice B l.length d) l.length (l.flatMap bhc) (by rfl) (by exact World.ownsRow.alloc H8.out.own _)
                  ⟨_, 0, none⟩ 1 1 (bhc x) (by rfl) rfl (by exact two_new _ _ _ _) (one_two _ _ _ _) (by decide) (by unfold maxLen; omega) (by omega) (by have := H8.out.size; rw [World.size_alloc]; omega) _ rfl ?_)
               intro g9 cap9 w9 hown9 hgr9 hat9 hlt9
               obtain ⟨⟨y0, y1, y2⟩, hT9⟩ := Bg.push (x := x) H8.out ((Below.refl _ _).alloc (Nat.le_refl _) _) (.inr Hx.out) hgr9 hown9 hat9
               have H9 := hid hT9
               clear hown9 hgr9 hat9 hlt9 hT9))
          all_goals
            clear q0 q1 r0 r1 hz
            generalize w9.setCell ⟨w.heap.size + 1, 1, none⟩ (.slice (some ⟨g9, 0, none⟩) (l.length + 1) cap9) = w10 at *
            clear y0 y1 y2
            go_wp2_with fail
            go_roundw
            case rel => exact ⟨l ++ [x], n, (blockR σ4).2, _, H9.out, by have := HL.out.step HB.out; rw [List.map_append]; rw [← Hxt.out] at this; exact this⟩
            case measure =>
              obtain ⟨⟨q0, q1⟩, -⟩ := H9.out.cells
              rw [Hm.out, lenAt_of q1]
              omega
  | false =>
    have hneed : needR (isK kwBlock) σ3 = failR 4 σ3 := by unfold needR; rw [hb0]; rfl
    rw [hneed] at HR
    clear hneed hb0
    go_wp2_with fail
    refine (refFail_any b A c L σ3 4 _ H5.out.st).mono ?_
    rintro e w6 ⟨rfl, h6⟩
    have H6 := hid (H5.out.call h6)
    clear h6 H5
    generalize failR 4 σ3 = σ3 at *
    go_wp2_with fail
    go_loopw [] (fun wr => ∃ (l : List BH) (n : Nat) (σ4 : Rs) (v : Value), Hid (Bg KB w b A c L σ4 y v l wr) ∧ Hid (Lrel (isK kwBlock) blockR 16 σ3 (l.map BH.b) n σ4)) (fun wr => 16 + 1 - lenAt (w.heap.size + 1) wr)
    case atStart => exact ⟨[], 16, σ3, _, H6.out, Lrel.start⟩
    case round =>
      clear H6
      obtain ⟨l, n, σ4, v, H, HL⟩ := hrel
      obtain ⟨B, d, hv⟩ := own_any_slice H.out.own
      subst hv
      have hlen : l.length + n = 16 := by have := HL.out.1; simpa using this
      obtain ⟨⟨q0, q1⟩, ⟨r0, r1⟩, ⟨p0, p1⟩, ⟨s0, s1⟩, hz⟩ := H.out.cells
      have Hm := hid (lenAt_of q1)
      clear q0 r0 r1 p0 p1 s0 s1 q1 hz
      cases hb : isK kwBlock σ4 with
      | false =>
        have HB := hid hb
        clear hb
        go_wp2_with fail
        refine (refIs_any b A c L σ4 kwBlock _ H.out.st).mono ?_
        rw [HB.out]
        rintro e w7 ⟨rfl, hb7⟩
        have H7 := hid (H.out.below hb7)
        clear hb7 H
        go_wp2_with fail
        refine (refWord_any b A c L σ4 kwEnd _ H7.out.st).mono ?_
        rintro e w8 ⟨rfl, h8⟩
        have H8 := hid (H7.out.call h8)
        clear h8 H7
        go_wp2_with fail
        refine (refEnd_any b A c L _ _ H8.out.st).mono ?_
        rintro e w9 ⟨rfl, h9⟩
        have H9 := hid (H8.out.call h9)
        clear h9 H8
        obtain ⟨⟨q0, q1⟩, ⟨r0, r1⟩, ⟨p0, p1⟩, ⟨s0, s1⟩, hz⟩ := H9.out.cells
        have hsz2 : w.heap.size < w9.heap.size := by omega
        go_wp2_with fail
        refine bodyPost_ret (v := agF ⟨y, B, l.length, d, l⟩) (by simp [results, Tryz.results39, go_sem, q0, q1, p0, p1, s0, s1, hz, hsz2, agF]) rfl ?_
        exact H9.out.doneF rfl (by omega) H16.out _ _ (by rw [HR.out, HL.out.stop HB.out])
      | true =>
        have HB := hid hb
        clear hb
        cases n with
        | zero =>
          have hl32 : l.length = 16 := by omega
          go_wp2_with fail
          refine (refIs_any b A c L σ4 kwBlock _ H.out.st).mono ?_
          rw [HB.out]
          rintro e w7 ⟨rfl, hb7⟩
          have H7 := hid (H.out.below hb7)
          clear hb7 H
          obtain ⟨⟨q0, q1⟩, ⟨r0, r1⟩, -, -, hz⟩ := H7.out.cells
          have tl : ((l.length : Int) == 16) = true := by simp; omega
          go_wp2_with fail
          clear q0 q1 r0 r1 hz
          refine (refFail_any b A c L σ4 7 _ H7.out.st).mono ?_
          rintro e w8 ⟨rfl, h8⟩
          have H8 := hid (H7.out.call h8)
          clear h8 H7
          obtain ⟨⟨q0, q1⟩, ⟨r0, r1⟩, ⟨p0, p1⟩, ⟨s0, s1⟩, hz⟩ := H8.out.cells
          have hsz2 : w.heap.size < w8.heap.size := by omega
          go_wp2_with fail
          refine bodyPost_ret (v := agF ⟨y, B, l.length, d, l⟩) (by simp [results, Tryz.results39, go_sem, q0, q1, p0, p1, s0, s1, hz, hsz2, agF, hl32]) rfl ?_
          exact H8.out.doneF rfl (by omega) H16.out _ _ (by rw [HR.out, HL.out.full HB.out, bad_word (full_e (isK_ne HB.out).1), bad_end (full_e (isK_ne HB.out).1)])
        | succ n =>
          have hl32 : l.length < 16 := by omega
          have tl : ((l.length : Int) == 16) = false := by simp; omega
          go_wp2_with fail
          refine (refIs_any b A c L σ4 kwBlock _ H.out.st).mono ?_
          rw [HB.out]
          rintro e w7 ⟨rfl, hb7⟩
          have H7 := hid (H.out.below hb7)
          clear hb7 H
          obtain ⟨⟨q0, q1⟩, ⟨r0, r1⟩, -, -, hz⟩ := H7.out.cells
          go_wp2_with fail
          have H7d : Hid (Bg KB w b A c L σ4 y (.slice B l.length d) l w7.drew) := hid (H7.out.drewN 1)
          have HC := hid (fun w' (h' : Rst w' b A c L σ4) => refBlock_any b A c L σ4 w' h' HS.out)
          go_region_law (first
            | (go_simp
               go_at_call 53
               go_must (
               refine (HC.out _ H7d.out.st).mono ?_
               rintro e w8 ⟨x, he, hxt, hfx, h8⟩
               unfold agB at he
               subst he
               have H8 := hid (H7d.out.call h8)
               have Hx := hid (FrV.fresh (N := w.heap.size + 2) (v := .slice B l.length d) hfx (by have := H7d.out.size; omega) (fun k hk => (H7d.out.own.lt k hk).2))
               have Hxt := hid hxt
               obtain ⟨⟨q0, q1⟩, ⟨r0, r1⟩, -, -, hz⟩ := H8.out.cells
               clear hfx h8 hxt))
            | ((refine step_append_lies _ (by rfl) _ _ 73 (by rfl) (w.heap.size + 2) 95 i1 _ 2 40 Tryz.underlying73 Hi.out Hz0.out Hz1.out Hz2.out (by rfl) (by decide) (.slice B l.length d) l.length (l.flatMap bhc) (by rfl) (by exact World.ownsRow.alloc H8.out.own _)
                  ⟨_, 0, none⟩ 1 1 (bhc x) (by rfl) rfl (by exact two_new _ _ _ _) (one_two _ _ _ _) (by decide) (by unfold maxLen; omega) (by omega) (by have := H8.out.size; rw [World.size_alloc]; omega) _ rfl ?_)
               intro g9 cap9 w9 hown9 hgr9 hat9 hlt9
               obtain ⟨⟨y0, y1, y2⟩, hT9⟩ := Bg.push (x := x) H8.out ((Below.refl _ _).alloc (Nat.le_refl _) _) (.inr Hx.out) hgr9 hown9 hat9
               have H9 := hid hT9
               clear hown9 hgr9 hat9 hlt9 hT9))
          all_goals
            clear q0 q1 r0 r1 hz
            generalize w9.setCell ⟨w.heap.size + 1, 1, none⟩ (.slice (some ⟨g9, 0, none⟩) (l.length + 1) cap9) = w10 at *
            clear y0 y1 y2
            go_wp2_with fail
            go_roundw
            case rel => exact ⟨l ++ [x], n, (blockR σ4).2, _, H9.out, by have := HL.out.step HB.out; rw [List.map_append]; rw [← Hxt.out] at this; exact this⟩
            case measure =>
              obtain ⟨⟨q0, q1⟩, -⟩ := H9.out.cells
              rw [Hm.out, lenAt_of q1]
              omega
end Go.Proofs.YtmbelhdkaepohaaGreatDoor
