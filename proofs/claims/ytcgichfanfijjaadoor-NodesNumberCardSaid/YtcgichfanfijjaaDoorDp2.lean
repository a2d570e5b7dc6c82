/- The package's parser: word, name, end, operation, begins. -/
import Derived.Test.YtcgichfanfijjaaDoorDp1
namespace Go.Proofs.YtcgichfanfijjaaDoor
set_option maxRecDepth 20000
set_option linter.unusedVariables false
set_option linter.unusedSimpArgs false
open Go.ChangeShapes Go.WideShapes Go.ChangeAt Go.RowKit
attribute [local go_sem] fieldTok0 fieldTok1 fieldTok2 fieldTok3

theorem Dst.ne_of_text {w : World} {b : Nat} {σ : Ds} (h : Dst w b σ) {k : ByteArray} (hk : k ≠ noB) (he : eqB (nxt σ.l).text k = true) : σ.l ≠ [] := by
  intro e
  rw [e] at he
  rw [show (nxt []).text = noB from rfl, eqB_no2 hk] at he
  cases he
theorem ne_of_name {l : List Tok} (he : nameB (nxt l).text = true) : l ≠ [] := by
  rintro rfl
  rw [show (nxt []).text = noB from rfl, nameB_no] at he
  cases he
theorem ne_of_end {l : List Tok} (he : ((nxt l).kind == 3) = true) : l ≠ [] := by
  rintro rfl
  rw [show (nxt []).kind = 0 from rfl] at he
  cases he
theorem Dst.text16 {w : World} {b : Nat} {σ : Ds} (h : Dst w b σ) : (nxt σ.l).text.size ≤ 16 := by
  rcases h.toks.nxt with e | e
  · rw [e]; decide
  · exact tokOk_size e
theorem Dst.take16 {w : World} {b : Nat} {σ : Ds} (h : Dst w b σ) (bb : Bool) : (takeS bb σ).1.size ≤ 16 := by
  cases bb with
  | true => exact h.text16
  | false => show noB.size ≤ 16; decide
theorem Dst.name16 {w : World} {b : Nat} {σ : Ds} (h : Dst w b σ) : (nameS σ).1.size ≤ 16 := h.take16 _
set_option maxHeartbeats 1600000 in
theorem devWord_any (b : Nat) (σ : Ds) (k : ByteArray) (hk : k ≠ noB) (w : World) (h : Dst w b σ) :
    Calls Tryd.prog 141 #[.pointer (some ⟨b, 0, none⟩), .string k] w fun e w' => e = .returned (.tuple #[]) ∧ DTo w b (wordS k σ) w' := by
  have H := hid h
  have Hne := hid (fun he => h.ne_of_text hk he)
  clear h hk
  have Hr := hid (show wordS k σ = (takeS (eqB (nxt σ.l).text k) σ).2 from rfl)
  have hb : eqB (nxt σ.l).text k = ((nxt σ.l).text.toList == k.toList) := rfl
  go_enter Tryd.func141, Tryd.ntmps141
  go_wp2_with fail
  refine (devNext_any b σ _ H.out).mono ?_
  rintro e w1 ⟨rfl, hb1⟩
  have H1 := hid (H.out.below hb1 H.out.lt)
  have HB1 := hid hb1
  clear hb1
  unfold agT
  generalize (nxt σ.l).text = tx at *
  rw [hb] at Hr Hne
  clear hb
  cases he : (tx.toList == k.toList) with
  | true =>
    have Hn2 := hid (Hne.out he)
    rw [he] at Hr
    clear Hne
    go_wp2_with fail
    refine (devTake_any b σ true _ H1.out (fun _ => Hn2.out)).mono ?_
    rintro e w2 ⟨rfl, h2⟩
    have H2 := hid h2
    clear h2
    go_wp2_with fail
    refine bodyPost_end (v := .tuple #[]) (by simp [results, Tryd.results141]) rfl ⟨rfl, ?_⟩
    rw [Hr.out]; exact .belowl HB1.out H2.out
  | false =>
    rw [he] at Hr
    clear Hne
    go_wp2_with fail
    refine (devTake_any b σ false _ H1.out (fun h => by cases h)).mono ?_
    rintro e w2 ⟨rfl, h2⟩
    have H2 := hid h2
    clear h2
    go_wp2_with fail
    refine bodyPost_end (v := .tuple #[]) (by simp [results, Tryd.results141]) rfl ⟨rfl, ?_⟩
    rw [Hr.out]; exact .belowl HB1.out H2.out
set_option maxHeartbeats 1600000 in
theorem devEnd_any (b : Nat) (σ : Ds) (w : World) (h : Dst w b σ) :
    Calls Tryd.prog 143 #[.pointer (some ⟨b, 0, none⟩)] w fun e w' => e = .returned (.tuple #[]) ∧ DTo w b (endS σ) w' := by
  have H := hid h
  clear h
  have Hne := hid (fun he => @ne_of_end σ.l he)
  have Hr := hid (show endS σ = (takeS ((nxt σ.l).kind == 3) σ).2 from rfl)
  go_enter Tryd.func143, Tryd.ntmps143
  go_wp2_with fail
  refine (devNext_any b σ _ H.out).mono ?_
  rintro e w1 ⟨rfl, hb1⟩
  have H1 := hid (H.out.below hb1 H.out.lt)
  have HB1 := hid hb1
  clear hb1
  unfold agT
  generalize (nxt σ.l).kind = kd at *
  cases he : (kd == 3) with
  | true =>
    have Hn2 := hid (Hne.out he)
    rw [he] at Hr
    clear Hne
    go_wp2_with fail
    refine (devTake_any b σ true _ H1.out (fun _ => Hn2.out)).mono ?_
    rintro e w2 ⟨rfl, h2⟩
    have H2 := hid h2
    clear h2
    go_wp2_with fail
    refine bodyPost_end (v := .tuple #[]) (by simp [results, Tryd.results143]) rfl ⟨rfl, ?_⟩
    rw [Hr.out]; exact .belowl HB1.out H2.out
  | false =>
    rw [he] at Hr
    clear Hne
    go_wp2_with fail
    refine (devTake_any b σ false _ H1.out (fun h => by cases h)).mono ?_
    rintro e w2 ⟨rfl, h2⟩
    have H2 := hid h2
    clear h2
    go_wp2_with fail
    refine bodyPost_end (v := .tuple #[]) (by simp [results, Tryd.results143]) rfl ⟨rfl, ?_⟩
    rw [Hr.out]; exact .belowl HB1.out H2.out
set_option maxHeartbeats 1600000 in
theorem devName_any (b : Nat) (σ : Ds) (w : World) (h : Dst w b σ) :
    Calls Tryd.prog 142 #[.pointer (some ⟨b, 0, none⟩)] w fun e w' => e = .returned (.string (nameS σ).1) ∧ DTo w b (nameS σ).2 w' := by
  have H := hid h
  have h16 := h.text16
  clear h
  have Hne := hid (fun he => @ne_of_name σ.l he)
  have Hr := hid (show nameS σ = takeS (nameB (nxt σ.l).text) σ from rfl)
  go_enter Tryd.func142, Tryd.ntmps142
  go_wp2_with fail
  refine (devNext_any b σ _ H.out).mono ?_
  rintro e w1 ⟨rfl, hb1⟩
  have H1 := hid (H.out.below hb1 H.out.lt)
  have HB1 := hid hb1
  clear hb1
  unfold agT
  generalize (nxt σ.l).text = tx at *
  go_wp2_with fail
  refine (devIsName_any tx _ (by unfold maxLen; omega)).mono ?_
  rintro e w' ⟨rfl, rfl⟩
  cases he : nameB tx with
  | true =>
    have Hn2 := hid (Hne.out he)
    rw [he] at Hr
    clear Hne
    go_wp2_with fail
    refine (devTake_any b σ true _ H1.out (fun _ => Hn2.out)).mono ?_
    rintro e w2 ⟨rfl, h2⟩
    have H2 := hid h2
    clear h2
    go_wp2
    go_ret
    rw [Hr.out]; exact ⟨rfl, .belowl HB1.out H2.out⟩
  | false =>
    rw [he] at Hr
    clear Hne
    go_wp2_with fail
    refine (devTake_any b σ false _ H1.out (fun h => by cases h)).mono ?_
    rintro e w2 ⟨rfl, h2⟩
    have H2 := hid h2
    clear h2
    go_wp2
    go_ret
    rw [Hr.out]; exact ⟨rfl, .belowl HB1.out H2.out⟩

def kwOf : Nat → ByteArray
  | 2 => kwUse
  | 3 => kwCall
  | 4 => kwSource
  | 5 => kwSink
  | 6 => kwSanitize
  | 7 => kwGoto
  | 8 => kwBranch
  | 9 => kwReturn
  | _ => noB
theorem opW_hit {x : ByteArray} {k : Nat} (h2 : 2 ≤ k) (h9 : k ≤ 9) (hn : nameB x = false) (hb : ∀ j, 2 ≤ j → j < k → eqB (kwOf j) x = false) (hk : eqB (kwOf k) x = true) : opW x = (k : Int) := by
  unfold opW
  rw [hn]
  rcases (by omega : k = 2 ∨ k = 3 ∨ k = 4 ∨ k = 5 ∨ k = 6 ∨ k = 7 ∨ k = 8 ∨ k = 9) with rfl | rfl | rfl | rfl | rfl | rfl | rfl | rfl
  all_goals
    have e := fun j h1 h2 => hb j h1 h2
    have e2 := e 2 (by omega); have e3 := e 3 (by omega); have e4 := e 4 (by omega); have e5 := e 5 (by omega); have e6 := e 6 (by omega); have e7 := e 7 (by omega); have e8 := e 8 (by omega)
    simp [kwOf] at e2 e3 e4 e5 e6 e7 e8 hk
    simp [*]
theorem opW_miss {x : ByteArray} (hn : nameB x = false) (hb : ∀ j, 2 ≤ j → j < 10 → eqB (kwOf j) x = false) : opW x = 0 := by
  unfold opW
  rw [hn]
  have e2 := hb 2 (by omega) (by omega); have e3 := hb 3 (by omega) (by omega); have e4 := hb 4 (by omega) (by omega); have e5 := hb 5 (by omega) (by omega); have e6 := hb 6 (by omega) (by omega); have e7 := hb 7 (by omega) (by omega); have e8 := hb 8 (by omega) (by omega); have e9 := hb 9 (by omega) (by omega)
  simp [kwOf] at e2 e3 e4 e5 e6 e7 e8 e9
  simp [*]
theorem Shp.key {w : World} (h : Shp w) {k : Nat} (h2 : 2 ≤ k) (h9 : k ≤ 9) : w.cell? ⟨0, k * 5, none⟩ = some (.string (kwOf k)) := by
  refine h _ _ ?_
  rcases (by omega : k = 2 ∨ k = 3 ∨ k = 4 ∨ k = 5 ∨ k = 6 ∨ k = 7 ∨ k = 8 ∨ k = 9) with rfl | rfl | rfl | rfl | rfl | rfl | rfl | rfl <;> rfl
set_option maxHeartbeats 1600000 in
theorem devOperation_any (x : ByteArray) (w : World) (hx : x.size ≤ 16) (hs : Shp w) :
    Calls Tryd.prog 187 #[.string x] w fun e w' => e = .returned (.int .i64 (opW x)) ∧ w = w' := by
  have hn0 := hid (devIsName_any x w (by unfold maxLen; omega))
  have Hs := hid hs
  clear hs
  cases hn : nameB x with
  | true =>
    have Hr := hid (opW_name hn)
    have HN := hid hn
    clear hn
    go_enter Tryd.func187, Tryd.ntmps187
    go_wp2_with fail
    refine hn0.out.mono ?_
    rw [HN.out]
    rintro e w' ⟨rfl, rfl⟩
    go_wp2
    go_ret
    exact ⟨ret_int Hr.out.symm, rfl⟩
  | false =>
    have HN := hid hn
    clear hn
    go_enter Tryd.func187, Tryd.ntmps187
    go_wp2_with fail
    refine hn0.out.mono ?_
    rw [HN.out]
    rintro e w' ⟨rfl, rfl⟩
    go_wp2_with fail
    go_loop [3] (fun i => ∃ k : Nat, 2 ≤ k ∧ k ≤ 10 ∧ i = .int .i64 k ∧ Hid (∀ j, 2 ≤ j → j < k → eqB (kwOf j) x = false)) (fun i => 10 - (intOf i).toNat)
    case atStart => exact ⟨2, by omega, by omega, rfl, hid (fun j h1 h2 => by omega)⟩
    case round =>
      obtain ⟨k, hk2, hk10, rfl, hJ⟩ := hrel
      by_cases hlt : k ≤ 9
      · have hc := Hs.out.key hk2 hlt
        have heq : eqB (kwOf k) x = ((kwOf k).toList == x.toList) := rfl
        generalize hkw : kwOf k = kk at *
        have Hkw := hid hkw
        clear hkw
        cases he : (kk.toList == x.toList) with
        | true =>
          have Hr := hid (opW_hit hk2 hlt HN.out hJ.out (by rw [Hkw.out, heq, he]))
          clear heq
          go_wp2_with fail
          go_ret
          exact ⟨ret_int Hr.out.symm, rfl⟩
        | false =>
          have hJ2 := hid (show ∀ j, 2 ≤ j → j < k + 1 → eqB (kwOf j) x = false from fun j h1 h2 => by
            by_cases e : j = k
            · subst e; rw [Hkw.out, heq, he]
            · exact hJ.out j h1 (by omega))
          clear heq
          go_wp2_with fail
          go_round
          case rel => exact ⟨k + 1, by omega, by omega, by go_num, hJ2⟩
          case measure => simp [intOf]; omega
      · have hk : k = 10 := by omega
        subst hk
        have Hr := hid (opW_miss HN.out hJ.out)
        go_wp2_with fail
        go_ret
        exact ⟨ret_int Hr.out.symm, rfl⟩
theorem devBegF_any (x : ByteArray) (w : World) : Calls Tryd.prog 101 #[.string x] w fun e w' => e = .returned (.bool (begF x)) ∧ w = w' := by
  have hb : begF x = (x.toList == [102, 117, 110, 99]) := by unfold begF eqB; rw [toList_data kwFunc]; rfl
  have HB := hid hb
  clear hb
  go_enter Tryd.func101, Tryd.ntmps101
  go_wp2_with fail
  go_ret
  exact ⟨ret_bool HB.out.symm, rfl⟩
theorem devBegB_any (x : ByteArray) (w : World) : Calls Tryd.prog 145 #[.string x] w fun e w' => e = .returned (.bool (begB x)) ∧ w = w' := by
  have hb : begB x = (x.toList == [98, 108, 111, 99, 107]) := by unfold begB eqB; rw [toList_data kwBlock]; rfl
  have HB := hid hb
  clear hb
  go_enter Tryd.func145, Tryd.ntmps145
  go_wp2_with fail
  go_ret
  exact ⟨ret_bool HB.out.symm, rfl⟩
theorem devBegS_any (x : ByteArray) (w : World) (hx : x.size ≤ 16) (hs : Shp w) : Calls Tryd.prog 176 #[.string x] w fun e w' => e = .returned (.bool (begS x)) ∧ w = w' := by
  have hb : begS x = (opW x != 0) := rfl
  have HB := hid hb
  have HC := hid (devOperation_any x w hx hs)
  clear hb hs
  generalize opW x = o at *
  cases ho : (o != 0)
  all_goals
    rw [ho] at HB
    go_enter Tryd.func176, Tryd.ntmps176
    go_wp2_with fail
    refine HC.out.mono ?_
    rintro e w' ⟨rfl, rfl⟩
    go_wp2_with fail
    go_ret
    exact ⟨ret_bool HB.out.symm, rfl⟩
end Go.Proofs.YtcgichfanfijjaaDoor
