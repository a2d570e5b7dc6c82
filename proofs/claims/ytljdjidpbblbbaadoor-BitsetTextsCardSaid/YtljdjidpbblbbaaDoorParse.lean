/- The reference's Parse returns the set that has this text, or the error that there is none. -/
import Derived.Test.YtljdjidpbblbbaaDoorReading
namespace Go.Proofs.YtljdjidpbblbbaaDoor
set_option maxRecDepth 10000
open Go.ChangeShapes Go.WideShapes Go.ChangeAt Go.RowKit
theorem loop_eq (s : ByteArray) (k i : Nat) (r : List UInt8) (hk : s.size - i = k) : ByteArray.toList.loop s i r = r.reverse ++ s.data.toList.drop i := by
  have hsz : s.data.toList.length = s.size := by rw [Array.length_toList]; rfl
  induction k generalizing i r with
  | zero =>
    unfold ByteArray.toList.loop
    rw [if_neg (by omega), List.drop_of_length_le (by omega)]; simp
  | succ k ih =>
    unfold ByteArray.toList.loop
    rw [if_pos (by omega), ih _ _ (by omega)]
    have hi : i < s.data.toList.length := by omega
    rw [List.drop_eq_getElem_cons hi]
    have : s.get! i = s.data.toList[i] := by
      show s.data[i]! = _
      rw [getElem!_pos s.data i (by simpa using hi)]
      simp
    rw [this]; simp
theorem toList_data (s : ByteArray) : s.toList = s.data.toList := by
  unfold ByteArray.toList; rw [loop_eq s _ 0 [] rfl]; simp
theorem neq_str_no (l : List UInt8) (s : ByteArray) (h : l ≠ s.data.toList) (w : World) : (binOp BinOp.neq 9 (str l) (.string s)).run Tryd.prog w = .ok (.bool true) w := by
  unfold str
  simp [go_sem]
  rw [toList_data]
  exact h
theorem neq_str_yes (l : List UInt8) (s : ByteArray) (h : l = s.data.toList) (w : World) : (binOp BinOp.neq 9 (str l) (.string s)).run Tryd.prog w = .ok (.bool false) w := by
  unfold str
  subst h
  simp [go_sem]
theorem guard_neq (l : List UInt8) (s : ByteArray) (x y : Operand) (w : World) : (eqGuard BinOp.neq 9 x y (str l) (.string s)).run Tryd.prog w = .ok () w := by
  unfold str
  simp [go_sem]
theorem byte_is (s : ByteArray) (p : Nat) (h : p < s.size) (c : Nat) (hc : c < 256) : ((s[p]'h).toNat : Int) = c ↔ s.data.toList.getD p 0 = UInt8.ofNat c := by
  rw [byte_getD s p h]
  constructor
  · intro e; apply UInt8.toNat_inj.1; rw [UInt8.toNat_ofNat']; omega
  · intro e; rw [e, UInt8.toNat_ofNat']; omega
theorem numRes_pos {l : List UInt8} {p n i : Nat} (h : NumRes l p n i true) : p < i ∧ i ≤ l.length := by
  obtain ⟨k, h1, h2, -, -, ⟨-, h3, -, h4, -⟩ | ⟨-, -, h3, -⟩⟩ := h
  · omega
  · exact absurd h3 (by simp)

set_option maxHeartbeats 1600000 in
theorem refParse_any (s : ByteArray) (w : World) (hs : s.size ≤ 100000) :
    Calls Tryd.prog 62 #[.string s] w fun e w' => ∃ r, ParseR s.data.toList r ∧ RetErr w r e w' := by
  have hsl : s.data.toList.length = s.size := by rw [Array.length_toList]; rfl
  obtain ⟨i0, hi, hz0, hz1, hz2⟩ := info_parts info3
  have Hsl := hid hsl; have Hi := hid hi; have Hz0 := hid hz0; have Hz1 := hid hz1; have Hz2 := hid hz2
  clear hsl hi hz0 hz1 hz2
  have hinv : Gathering w 0 none 0 0 (.slice none 0 0) [] (w.alloc (.cells #[.int .i64 0, .slice none 0 0] 25)) :=
    ⟨Box.new _ _ _ _ _, World.ownsRow_nil _ _ _ _, (Below.refl _ _).alloc (Nat.le_refl _) _⟩
  have Hinv := hid hinv
  clear hinv
  go_enter Tryd.func62, Tryd.ntmps62
  go_wp2_with fail
  go_loopw [4, 5] (fun v a wr => ∃ (p : Nat) (L : List Int), p ≤ s.size ∧ L.length ≤ p ∧ a = .int .i64 p ∧ Hid (Gathering w 0 none 0 0 v L wr) ∧ Hid (Reading s.data.toList L p)) (fun _ a _ => s.size - (intOf a).toNat)
  case atStart => exact ⟨0, [], by omega, by simp, rfl, Hinv, hid (reading_start _)⟩
  case round =>
    obtain ⟨p, L, hp, hL, rfl, hG, hR⟩ := hrel
    have hlen : s.data.toList.length = s.size := Hsl.out
    by_cases h1 : p < s.size
    · by_cases h2 : ((s[p]'h1).toNat : Int) = 47
      · have t2 : (((s[p]'h1).toNat : Int) != 47) = false := by simpa using h2
        have hend : Hid (s.data.toList.length ≤ p ∨ s.data.toList.getD p 0 = 47) := hid (.inr ((byte_is s p h1 47 (by omega)).1 h2))
        obtain ⟨A1, c1, rfl, hl1, hl2⟩ := own_slice hG.out.2.1
        have Hlist : Hid (IArg wr A1 L.length L) := hid ⟨hl1, rfl⟩
        have Hbl := hid hG.out.2.2
        have Hbx := hid hG.out.1
        have hmn : min (p + 1) s.data.toList.length = p + 1 := by omega
        have Hmn := hid hmn
        clear hl1 hl2 hmn hlen
        go_wp2_with fail
        refine (number_any s (p + 1) _ hs (by omega)).mono ?_
        rintro e w' ⟨n, i, ok, rfl, rfl, hnr⟩
        have hlast := parse_last hR.out hend.out (by rw [Hmn.out]; exact hnr)
        generalize hr : ofR n L = r at hlast
        have Hr := hid hr
        have Hlast := hid hlast
        clear hnr hr hlast
        go_wp2_with fail
        refine (refOf_any n A1 _ c1 L _ Hlist.out (by unfold maxLen; omega)).mono ?_
        rw [Hr.out]
        rintro e w2 ⟨A2, n2, c2, rfl, ha2, hb2⟩
        have Ha2 := hid ha2
        have Hbl2 := hid (Hbl.out.trans (hb2.mono Hbl.out.size))
        have hbx2 := Hbx.out.below hb2 Hbx.out.lt
        have Hbx2 := hid hbx2
        have hq0 := hbx2.c0
        have hq1 := hbx2.c1
        have hf0 := hbx2.f 0
        have hf1 := hbx2.f 1
        have hlt2 := hbx2.lt
        clear ha2 hb2 hbx2
        by_cases h0 : r.2.2 = 0
        · have t0 : (r.2.2 != 0) = false := by simpa using h0
          have hR1 := Hlast.out.1 h0
          have hR2 := fun h => Hlast.out.2 (.inr h)
          have HR1 := hid hR1
          have HR2 := hid hR2
          have H0 := hid h0
          clear hR1 hR2 h0
          go_wp2_with fail
          refine (refText_any r.1 A2 n2 c2 r.2.1 _ (Ha2.out.alloc _)).mono ?_
          generalize htx : textB r.1 r.2.1 = tx at *
          rintro e w3 ⟨rfl, hb3⟩
          have hbl3 := (Hbl2.out.alloc Hbl2.out.size (.cells #[.int .i64 r.1, .slice A2 n2 c2] 25)).trans (hb3.mono (by have := Hbl2.out.size; simp; omega))
          have Hbl3 := hid hbl3
          have hbx3 := (Hbx2.out.alloc (.cells #[.int .i64 r.1, .slice A2 n2 c2] 25)).below hb3 (by simp; omega)
          have hby3 := (Box.new w2 r.1 A2 n2 c2).below hb3 (by simp)
          have ha3 := (Ha2.out.alloc (.cells #[.int .i64 r.1, .slice A2 n2 c2] 25)).below hb3
          have Ha3 := hid ha3
          have Hbx3 := hid hbx3
          have hp0 := hbx3.c0
          have hp1 := hbx3.c1
          have hg0 := hbx3.f 0
          have hg1 := hbx3.f 1
          have hlt3 := hbx3.lt
          have hy0 := hby3.c0
          have hy1 := hby3.c1
          have hylt := hby3.lt
          have tg := guard_neq tx s
          clear hb3 hbl3 hbx3 hby3 ha3
          by_cases h1 : tx = s.data.toList
          · have tn := neq_str_yes tx s h1
            have hpr := HR1.out h1
            have Hpr := hid hpr
            clear h1 hpr
            go_wp2_with fail
            exact bodyPost_ret (v := .tuple #[.agg #[.int .i64 r.1, .slice A2 n2 c2], .int .i64 0]) (by simp [results, Tryd.results62, go_sem, hp0, hp1]) rfl ⟨r, Hpr.out, A2, n2, c2, by rw [H0.out], Hbx3.out.store Ha3.out _ _, (Hbl3.out.setCell (by simp) _).setCell (by simp) _⟩
          · have tn := neq_str_no tx s h1
            have hpr := HR2.out h1
            have Hpr := hid hpr
            clear h1 hpr
            go_wp2_with fail
            exact bodyPost_ret (v := .tuple #[.agg #[.int .i64 0, .slice none 0 0], .int .i64 4]) (by simp [results, Tryd.results62, go_sem, hp0, hp1]) rfl ⟨_, Hpr.out, _, _, _, rfl, Arg.nil _ _, (Hbl3.out.setCell (by simp) _).setCell (by simp) _⟩
        · have t0 : (r.2.2 != 0) = true := by simpa using h0
          have hpr := Hlast.out.2 (.inl h0)
          have Hpr := hid hpr
          clear hpr h0
          go_wp2_with fail
          exact bodyPost_ret (v := .tuple #[.agg #[.int .i64 0, .slice none 0 0], .int .i64 4]) (by simp [results, Tryd.results62, go_sem, hq0, hq1, hlt2]) rfl ⟨_, Hpr.out, _, _, _, rfl, Arg.nil _ _, ((Hbl2.out.setCell (by simp) _).setCell (by simp) _).alloc (by simpa using Hbl2.out.size) _⟩
      · have t2 : (((s[p]'h1).toNat : Int) != 47) = true := by simpa using h2
        have hne : Hid (s.data.toList.getD p 0 ≠ 47) := hid (fun e => h2 ((byte_is s p h1 47 (by omega)).2 e))
        have hq0 := hG.out.1.c0
        have hq1 := hG.out.1.c1
        have hf0 := hG.out.1.f 0
        have hf1 := hG.out.1.f 1
        clear h2
        go_wp2_with fail
        refine (number_any s p _ hs (by omega)).mono ?_
        rintro e w' ⟨n, i, ok, rfl, rfl, hnr⟩
        have Hnr := hid hnr
        cases ok with
        | false =>
          have hpr : ParseR s.data.toList (0, [], 4) := reading_bad hR.out hne.out hnr
          have Hpr := hid hpr
          clear hnr hpr
          go_wp2_with fail
          exact bodyPost_ret (v := .tuple #[.agg #[.int .i64 0, .slice none 0 0], .int .i64 4]) (by simp [results, Tryd.results62, go_sem, hq0, hq1]) rfl ⟨_, Hpr.out, _, _, _, rfl, Arg.nil _ _, (hG.out.2.2.setCell (by simp) _).setCell (by simp) _⟩
        | true =>
          have hps := numRes_pos hnr
          rw [hlen] at hps
          clear hq0 hq1 hf0 hf1 hnr
          by_cases h3 : i < s.size
          · by_cases h4 : ((s[i]'h3).toNat : Int) = 44
            · have t4 : (((s[i]'h3).toNat : Int) == 44) = true := by simpa using h4
              have hnx : Hid (Reading s.data.toList (L ++ [(n : Int)]) (i + 1)) := hid (reading_comma hR.out hne.out Hnr.out ((byte_is s i h3 44 (by omega)).1 h4))
              clear h4 hlen
              go_wp2_with (first
                | (at_builtin
                   refine wpList_append_own _ rfl _ _ 22 rfl (w.heap.size + 1) 3 i0 (.int .i64 0) 1 8 Tryd.underlying22 Hi.out Hz0.out Hz1.out Hz2.out rfl (by decide) _ _ _ rfl (hG.out.2.1.alloc _) ⟨wr.heap.size, 0, none⟩ 1 1 [.int .i64 (n : Int)] rfl rfl (new_one _ _ _) (one_int _ _) (by unfold maxLen; omega) (by omega) (by have := hG.out.1.lt; rw [World.size_alloc]; omega) ?_
                   intro v' w3 hown3 hgr3 hnil3
                   have hG3 := hid (hG.out.push hown3 hgr3)
                   clear hown3 hgr3 hnil3))
              go_roundw
              case rel => exact ⟨i + 1, L ++ [(n : Int)], by omega, by simp; omega, by go_num, hG3, hnx⟩
              case measure => simp [intOf]; omega
            · have t4 : (((s[i]'h3).toNat : Int) == 44) = false := by simpa using h4
              have hnx : Hid (Reading s.data.toList (L ++ [(n : Int)]) i) := hid (reading_next hR.out hne.out Hnr.out (.inl (fun e => h4 ((byte_is s i h3 44 (by omega)).2 e))))
              clear h4 hlen
              go_wp2_with (first
                | (at_builtin
                   refine wpList_append_own _ rfl _ _ 22 rfl (w.heap.size + 1) 3 i0 (.int .i64 0) 1 8 Tryd.underlying22 Hi.out Hz0.out Hz1.out Hz2.out rfl (by decide) _ _ _ rfl (hG.out.2.1.alloc _) ⟨wr.heap.size, 0, none⟩ 1 1 [.int .i64 (n : Int)] rfl rfl (new_one _ _ _) (one_int _ _) (by unfold maxLen; omega) (by omega) (by have := hG.out.1.lt; rw [World.size_alloc]; omega) ?_
                   intro v' w3 hown3 hgr3 hnil3
                   have hG3 := hid (hG.out.push hown3 hgr3)
                   clear hown3 hgr3 hnil3))
              go_roundw
              case rel => exact ⟨i, L ++ [(n : Int)], by omega, by simp; omega, by go_num, hG3, hnx⟩
              case measure => simp [intOf]; omega
          · have hnx : Hid (Reading s.data.toList (L ++ [(n : Int)]) i) := hid (reading_next hR.out hne.out Hnr.out (.inr (by omega)))
            clear hlen
            go_wp2_with (first
              | (at_builtin
                 refine wpList_append_own _ rfl _ _ 22 rfl (w.heap.size + 1) 3 i0 (.int .i64 0) 1 8 Tryd.underlying22 Hi.out Hz0.out Hz1.out Hz2.out rfl (by decide) _ _ _ rfl (hG.out.2.1.alloc _) ⟨wr.heap.size, 0, none⟩ 1 1 [.int .i64 (n : Int)] rfl rfl (new_one _ _ _) (one_int _ _) (by unfold maxLen; omega) (by omega) (by have := hG.out.1.lt; rw [World.size_alloc]; omega) ?_
                 intro v' w3 hown3 hgr3 hnil3
                 have hG3 := hid (hG.out.push hown3 hgr3)
                 clear hown3 hgr3 hnil3))
            go_roundw
            case rel => exact ⟨i, L ++ [(n : Int)], by omega, by simp; omega, by go_num, hG3, hnx⟩
            case measure => simp [intOf]; omega
    · have hend : Hid (s.data.toList.length ≤ p ∨ s.data.toList.getD p 0 = 47) := hid (.inl (by omega))
      have hps : p = s.size := by omega
      subst hps
      obtain ⟨A1, c1, rfl, hl1, hl2⟩ := own_slice hG.out.2.1
      have Hlist : Hid (IArg wr A1 L.length L) := hid ⟨hl1, rfl⟩
      have Hbl := hid hG.out.2.2
      have Hbx := hid hG.out.1
      have hmn : min (s.size + 1) s.data.toList.length = s.size := by omega
      have Hmn := hid hmn
      clear hl1 hl2 hmn hlen
      go_wp2_with fail
      refine (number_any s (s.size) _ hs (by omega)).mono ?_
      rintro e w' ⟨n, i, ok, rfl, rfl, hnr⟩
      have hlast := parse_last hR.out hend.out (by rw [Hmn.out]; exact hnr)
      generalize hr : ofR n L = r at hlast
      have Hr := hid hr
      have Hlast := hid hlast
      clear hnr hr hlast
      go_wp2_with fail
      refine (refOf_any n A1 _ c1 L _ Hlist.out (by unfold maxLen; omega)).mono ?_
      rw [Hr.out]
      rintro e w2 ⟨A2, n2, c2, rfl, ha2, hb2⟩
      have Ha2 := hid ha2
      have Hbl2 := hid (Hbl.out.trans (hb2.mono Hbl.out.size))
      have hbx2 := Hbx.out.below hb2 Hbx.out.lt
      have Hbx2 := hid hbx2
      have hq0 := hbx2.c0
      have hq1 := hbx2.c1
      have hf0 := hbx2.f 0
      have hf1 := hbx2.f 1
      have hlt2 := hbx2.lt
      clear ha2 hb2 hbx2
      by_cases h0 : r.2.2 = 0
      · have t0 : (r.2.2 != 0) = false := by simpa using h0
        have hR1 := Hlast.out.1 h0
        have hR2 := fun h => Hlast.out.2 (.inr h)
        have HR1 := hid hR1
        have HR2 := hid hR2
        have H0 := hid h0
        clear hR1 hR2 h0
        go_wp2_with fail
        refine (refText_any r.1 A2 n2 c2 r.2.1 _ (Ha2.out.alloc _)).mono ?_
        generalize htx : textB r.1 r.2.1 = tx at *
        rintro e w3 ⟨rfl, hb3⟩
        have hbl3 := (Hbl2.out.alloc Hbl2.out.size (.cells #[.int .i64 r.1, .slice A2 n2 c2] 25)).trans (hb3.mono (by have := Hbl2.out.size; simp; omega))
        have Hbl3 := hid hbl3
        have hbx3 := (Hbx2.out.alloc (.cells #[.int .i64 r.1, .slice A2 n2 c2] 25)).below hb3 (by simp; omega)
        have hby3 := (Box.new w2 r.1 A2 n2 c2).below hb3 (by simp)
        have ha3 := (Ha2.out.alloc (.cells #[.int .i64 r.1, .slice A2 n2 c2] 25)).below hb3
        have Ha3 := hid ha3
        have Hbx3 := hid hbx3
        have hp0 := hbx3.c0
        have hp1 := hbx3.c1
        have hg0 := hbx3.f 0
        have hg1 := hbx3.f 1
        have hlt3 := hbx3.lt
        have hy0 := hby3.c0
        have hy1 := hby3.c1
        have hylt := hby3.lt
        have tg := guard_neq tx s
        clear hb3 hbl3 hbx3 hby3 ha3
        by_cases h1 : tx = s.data.toList
        · have tn := neq_str_yes tx s h1
          have hpr := HR1.out h1
          have Hpr := hid hpr
          clear h1 hpr
          go_wp2_with fail
          exact bodyPost_ret (v := .tuple #[.agg #[.int .i64 r.1, .slice A2 n2 c2], .int .i64 0]) (by simp [results, Tryd.results62, go_sem, hp0, hp1]) rfl ⟨r, Hpr.out, A2, n2, c2, by rw [H0.out], Hbx3.out.store Ha3.out _ _, (Hbl3.out.setCell (by simp) _).setCell (by simp) _⟩
        · have tn := neq_str_no tx s h1
          have hpr := HR2.out h1
          have Hpr := hid hpr
          clear h1 hpr
          go_wp2_with fail
          exact bodyPost_ret (v := .tuple #[.agg #[.int .i64 0, .slice none 0 0], .int .i64 4]) (by simp [results, Tryd.results62, go_sem, hp0, hp1]) rfl ⟨_, Hpr.out, _, _, _, rfl, Arg.nil _ _, (Hbl3.out.setCell (by simp) _).setCell (by simp) _⟩
      · have t0 : (r.2.2 != 0) = true := by simpa using h0
        have hpr := Hlast.out.2 (.inl h0)
        have Hpr := hid hpr
        clear hpr h0
        go_wp2_with fail
        exact bodyPost_ret (v := .tuple #[.agg #[.int .i64 0, .slice none 0 0], .int .i64 4]) (by simp [results, Tryd.results62, go_sem, hq0, hq1, hlt2]) rfl ⟨_, Hpr.out, _, _, _, rfl, Arg.nil _ _, ((Hbl2.out.setCell (by simp) _).setCell (by simp) _).alloc (by simpa using Hbl2.out.size) _⟩
end Go.Proofs.YtljdjidpbblbbaaDoor
