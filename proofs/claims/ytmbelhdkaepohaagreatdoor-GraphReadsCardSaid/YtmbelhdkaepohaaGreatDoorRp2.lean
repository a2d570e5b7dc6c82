/- The reference's parser: begins, names, more. -/
import Derived.Test.YtmbelhdkaepohaaGreatDoorRp1
import Derived.Test.YtmbelhdkaepohaaGreatDoorLns
namespace Go.Proofs.YtmbelhdkaepohaaGreatDoor
set_option maxRecDepth 20000
set_option linter.unusedVariables false
set_option linter.unusedSimpArgs false
open Go.ChangeShapes Go.WideShapes Go.ChangeAt Go.RowKit

def k8 : List ByteArray := [kwUse, kwCall, kwSource, kwSink, kwSanitize, kwGoto, kwBranch, kwReturn]
def strs8 : Array Value := (k8.map Value.string).toArray
theorem begR_any (σ : Rs) : begR σ = (k8.any (fun k => isK k σ) || isN σ) := by unfold begR k8; simp [Bool.or_assoc]
theorem k8_at {j : Nat} (h : j < 8) : ∃ x, k8[j]? = some x ∧ x ∈ k8 := ⟨k8[j]'h, List.getElem?_eq_getElem _, List.getElem_mem _⟩
theorem strs8_at {w : World} {g t j : Nat} {x : ByteArray} (h : Fb w g strs8 t) (hx : k8[j]? = some x) : w.cell? ⟨g, j, none⟩ = some (.string x) := by
  rw [h.cell]
  unfold strs8
  simp [hx]
set_option maxHeartbeats 1600000 in
theorem refBegins_any (b : Nat) (A : Option Addr) (c : Nat) (L : List Tok) (σ : Rs) (w : World) (h : Rst w b A c L σ) (hs : Short L) :
    Calls Tryz.prog 73 #[.pointer (some ⟨b, 0, none⟩)] w fun e w' => e = .returned (.bool (begR σ)) ∧ Below w.heap.size w w' := by
  have H := hid h
  have HS := hid hs
  clear h hs
  go_enter Tryz.func73, Tryz.ntmps73
  go_wp2_with fail
  have hfb : Fb _ _ strs8 9 := Fb.new w #[.string ⟨#[117, 115, 101]⟩, .string ⟨#[99, 97, 108, 108]⟩, .string ⟨#[115, 111, 117, 114, 99, 101]⟩, .string ⟨#[115, 105, 110, 107]⟩, .string ⟨#[115, 97, 110, 105, 116, 105, 122, 101]⟩, .string ⟨#[103, 111, 116, 111]⟩, .string ⟨#[98, 114, 97, 110, 99, 104]⟩, .string ⟨#[114, 101, 116, 117, 114, 110]⟩] 9
  have hbl := (Below.refl w.heap.size w).alloc (Nat.le_refl _) (.cells #[.string ⟨#[117, 115, 101]⟩, .string ⟨#[99, 97, 108, 108]⟩, .string ⟨#[115, 111, 117, 114, 99, 101]⟩, .string ⟨#[115, 105, 110, 107]⟩, .string ⟨#[115, 97, 110, 105, 116, 105, 122, 101]⟩, .string ⟨#[103, 111, 116, 111]⟩, .string ⟨#[98, 114, 97, 110, 99, 104]⟩, .string ⟨#[114, 101, 116, 117, 114, 110]⟩] 9)
  generalize w.alloc (.cells #[.string ⟨#[117, 115, 101]⟩, .string ⟨#[99, 97, 108, 108]⟩, .string ⟨#[115, 111, 117, 114, 99, 101]⟩, .string ⟨#[115, 105, 110, 107]⟩, .string ⟨#[115, 97, 110, 105, 116, 105, 122, 101]⟩, .string ⟨#[103, 111, 116, 111]⟩, .string ⟨#[98, 114, 97, 110, 99, 104]⟩, .string ⟨#[114, 101, 116, 117, 114, 110]⟩] 9) = w1 at *
  have H1 := hid (H.out.below hbl H.out.lt)
  have Hfb := hid hfb; have Hbl := hid hbl
  clear hfb hbl
  generalize hg : w.heap.size = g at *
  have Hg := hid hg
  clear hg
  go_loopw [4] (fun i wr => ∃ k : Nat, k ≤ 8 ∧ i = .int .i64 k ∧ Hid (∀ (j : Nat) (x : ByteArray), k8[j]? = some x → j < k → isK x σ = false) ∧ Hid (Below w1.heap.size w1 wr)) (fun i _ => 8 - (intOf i).toNat)
  case atStart => exact ⟨0, by omega, rfl, hid (fun j x _ h => by omega), Below.refl _ _⟩
  case round =>
    obtain ⟨j, hj, rfl, hJ, hB⟩ := hrel
    have HR := hid (H1.out.below hB.out H1.out.lt)
    by_cases hlj : j < 8
    · obtain ⟨x, hx, hmem⟩ := k8_at hlj
      have hc : wr.cell? ⟨g, j, none⟩ = some (.string x) := strs8_at (Hfb.out.below hB.out Hfb.out.lt) hx
      have Hx := hid hx; have Hmem := hid hmem
      clear hx hmem
      cases he : isK x σ with
      | true =>
        have Hn := hid (show begR σ = true by
          rw [begR_any, Bool.or_eq_true, List.any_eq_true]
          exact .inl ⟨x, Hmem.out, he⟩)
        have HE := hid he
        clear he
        go_wp2_with fail
        refine (refIs_any b A c L σ x _ HR.out).mono ?_
        rw [HE.out]
        rintro e w2 ⟨rfl, hb2⟩
        have HB2 := hid (below_step hB.out hb2)
        clear hb2
        go_wp2
        go_ret
        exact ⟨ret_bool Hn.out.symm, by first | exact Hbl.out.trans (HB2.out.mono (by have h1 := Hbl.out.size; have h2 := Hg.out; omega)) | (rw [Hg.out]; exact Hbl.out.trans (HB2.out.mono (by have h1 := Hbl.out.size; have h2 := Hg.out; omega)))⟩
      | false =>
        have hJ2 := hid (show ∀ (j' : Nat) (x' : ByteArray), k8[j']? = some x' → j' < j + 1 → isK x' σ = false from fun j' x' h1 h2 => by
          by_cases e : j' = j
          · subst e; rw [Hx.out] at h1; cases h1; exact he
          · exact hJ.out j' x' h1 (by omega))
        have HE := hid he
        clear he
        go_wp2_with fail
        refine (refIs_any b A c L σ x _ HR.out).mono ?_
        rw [HE.out]
        rintro e w2 ⟨rfl, hb2⟩
        have HB2 := hid (below_step hB.out hb2)
        clear hb2
        go_wp2_with fail
        go_roundw
        case rel => exact ⟨j + 1, by omega, by go_num, hJ2, HB2.out⟩
        case measure => simp [intOf]; omega
    · have Hn := hid (show begR σ = isN σ by
        rw [begR_any]
        have : k8.any (fun k => isK k σ) = false := by
          rw [List.any_eq_false]
          intro x hx
          obtain ⟨j', hj', he⟩ := List.getElem_of_mem hx
          rw [hJ.out j' x (by rw [List.getElem?_eq_getElem hj', he]) (by have : k8.length = 8 := rfl; omega)]; simp
        rw [this]; rfl)
      go_wp2_with fail
      refine (refIsName2_any b A c L σ _ HR.out HS.out).mono ?_
      rintro e w2 ⟨rfl, hb2⟩
      have HB2 := hid (below_step hB.out hb2)
      clear hb2
      go_wp2
      go_ret
      exact ⟨ret_bool Hn.out.symm, by first | exact Hbl.out.trans (HB2.out.mono (by have h1 := Hbl.out.size; have h2 := Hg.out; omega)) | (rw [Hg.out]; exact Hbl.out.trans (HB2.out.mono (by have h1 := Hbl.out.size; have h2 := Hg.out; omega)))⟩

theorem Rst.short {w : World} {b c : Nat} {A : Option Addr} {L : List Tok} {σ : Rs} (h : Rst w b A c L σ) (hs : Short L) : (nxt σ.l).text.size ≤ 16 := by
  obtain ⟨k, h1, h2, _⟩ := h.at_
  rcases Nat.lt_or_ge k L.length with hlt | hge
  · rw [← h2, nxt_drop hlt]; exact hs _ (List.getElem_mem hlt)
  · rw [← h2, nxt_end hge]; decide
theorem Rst.name16 {w : World} {b c : Nat} {A : Option Addr} {L : List Tok} {σ : Rs} (h : Rst w b A c L σ) (hs : Short L) : (nameR σ).1.size ≤ 16 := by
  unfold nameR
  split
  · exact h.short hs
  · show noB.size ≤ 16; decide
/-- While names are read. -/
structure Nst (w0 : World) (b : Nat) (A : Option Addr) (c : Nat) (L : List Tok) (N : Nat) (σ0 σ : Rs) (out : List ByteArray) (n : Nat) (v : Value) (w : World) : Prop where
  st : RTo w0 b A c L σ w
  old : b < w0.heap.size
  own : w.ownsRow w0.heap.size 9 1 v out.length (out.map Value.string)
  len : out.length + n = N
  eq : namesL N σ0 = ((namesL n σ).1.map (out ++ ·), (namesL n σ).2)
  small : ∀ x ∈ out, x.size ≤ 16
  none_ : out = [] → v = .slice none 0 0
theorem Nst.start {w0 : World} {b c N : Nat} {A : Option Addr} {L : List Tok} {σ : Rs} (h : Rst w0 b A c L σ) : Nst w0 b A c L N σ σ [] N (.slice none 0 0) w0 :=
  ⟨.refl h, h.lt, World.ownsRow_nil _ _ _ _, by simp, by cases h2 : namesL N σ with | mk x y => cases x <;> simp, by simp, fun _ => rfl⟩
theorem Nst.below {w0 w w' : World} {b c N n : Nat} {A : Option Addr} {L : List Tok} {σ0 σ : Rs} {out : List ByteArray} {v : Value} (h : Nst w0 b A c L N σ0 σ out n v w) (hb : Below w.heap.size w w') : Nst w0 b A c L N σ0 σ out n v w' :=
  ⟨h.st.belowr hb, h.old, own_below h.own hb, h.len, h.eq, h.small, h.none_⟩
theorem RTo.own {w w' : World} {b c base k : Nat} {ty : TypeId} {A : Option Addr} {L : List Tok} {σ : Rs} {v : Value} {n : Nat} {xs : List Value} (h : w.ownsRow base ty k v n xs) (hr : RTo w b A c L σ w') (hb : b < base) : w'.ownsRow base ty k v n xs :=
  h.kept hr.2 (by
    cases e : v.ownBlock with
    | none => exact .inl rfl
    | some g => exact .inr (by intro e2; have := own_row h hb; rw [e] at this; exact this e2.symm))
/-- A name more. -/
theorem Nst.push {w0 w w2 w5 : World} {b c N n g cap : Nat} {A : Option Addr} {L : List Tok} {σ0 σ : Rs} {out : List ByteArray} {v : Value} (h : Nst w0 b A c L N σ0 σ out (n + 1) v w) (hn : isN σ = true) (hs : (nameR σ).1.size ≤ 16)
    (h2 : RTo w b A c L (nameR σ).2 w2) (o : Obj) (hown : w5.ownsRow w0.heap.size 9 1 (.slice (some ⟨g, 0, none⟩) (out.length + 1) cap) (out.length + 1) (out.map Value.string ++ [.string (nameR σ).1])) (hg : (w2.alloc o).grownBy w5 v.ownBlock) :
    Nst w0 b A c L N σ0 (nameR σ).2 (out ++ [(nameR σ).1]) n (.slice (some ⟨g, 0, none⟩) (out.length + 1) cap) w5 := by
  have hown2 := RTo.own h.own h2 h.old
  have h3 : RTo w0 b A c L (nameR σ).2 w2 := h.st.trans h2
  refine ⟨⟨(h3.1.alloc o).grown hg (fun k hk => Nat.lt_of_lt_of_le h.old (hown2.lt k hk).1), ?_⟩, h.old, by rw [List.length_append, List.map_append]; exact hown, by have := h.len; simp; omega, ?_, ?_, fun e => by simp at e⟩
  · have hz := h3.2.size
    refine ⟨hg.os.trans h3.2.os, hg.tape.trans h3.2.tape, hg.output.trans h3.2.output, Nat.le_trans hz (Nat.le_trans (by simp) hg.size), fun i hi hne => ?_⟩
    have e1 : some i ≠ v.ownBlock := own_row hown2 hi
    exact (hg.block i (by simp; omega) e1).trans ((Below.heap_alloc w2 o i (by omega)).trans (h3.2.block i hi hne))
  · have he := h.eq
    conv at he => rhs; unfold namesL
    rw [hn] at he
    rw [he]
    simp only [if_true]
    congr 1
    cases (namesL n (nameR σ).2).1 <;> simp
  · intro x hx
    rcases List.mem_append.1 hx with hx | hx
    · exact h.small x hx
    · simp at hx; subst hx; exact hs
/-- What comes of reading names. -/
def RetN (w : World) (b : Nat) (A : Option Addr) (c : Nat) (L : List Tok) (N : Nat) (σ : Rs) (e : Ending) (w' : World) : Prop :=
  ∃ (B : Option Addr) (d : Nat), e = .returned (.slice B (namesR N σ).1.length d) ∧ w'.ownsRow w.heap.size 9 1 (.slice B (namesR N σ).1.length d) (namesR N σ).1.length ((namesR N σ).1.map Value.string) ∧ (∀ x ∈ (namesR N σ).1, x.size ≤ 16) ∧ ((namesR N σ).1 = [] → B = none ∧ d = 0) ∧ RTo w b A c L (namesR N σ).2 w'
theorem Nst.stop {w0 w : World} {b c N n d : Nat} {A B : Option Addr} {L : List Tok} {σ0 σ : Rs} {out : List ByteArray} (h : Nst w0 b A c L N σ0 σ out n (.slice B out.length d) w) (hn : isN σ = false) : RetN w0 b A c L N σ0 (.returned (.slice B out.length d)) w := by
  have he : namesR N σ0 = (out, σ) := by
    unfold namesR
    rw [h.eq]
    cases n <;> (unfold namesL; rw [hn]; simp)
  unfold RetN
  rw [he]
  exact ⟨B, d, rfl, h.own, h.small, fun e => by have := h.none_ e; injection this with a1 _ a3; exact ⟨a1, a3⟩, h.st⟩
theorem Nst.full {w0 w w' : World} {b c N : Nat} {A : Option Addr} {L : List Tok} {σ0 σ : Rs} {out : List ByteArray} {v : Value} (h : Nst w0 b A c L N σ0 σ out 0 v w) (hn : isN σ = true) (h2 : RTo w b A c L (failR 7 σ) w') : RetN w0 b A c L N σ0 (.returned (.slice none 0 0)) w' := by
  have he : namesR N σ0 = ([], failR 7 σ) := by
    unfold namesR
    rw [h.eq]
    unfold namesL
    rw [hn]; simp
  unfold RetN
  rw [he]
  exact ⟨none, 0, rfl, World.ownsRow_nil _ _ _ _, by simp, fun _ => ⟨rfl, rfl⟩, h.st.trans h2⟩
def lenOf : Value → Nat
  | .slice _ n _ => n
  | _ => 0
set_option maxHeartbeats 3200000 in
theorem refNames_any (b : Nat) (A : Option Addr) (c : Nat) (L : List Tok) (σ : Rs) (w : World) (h : Rst w b A c L σ) (hs : Short L) :
    Calls Tryz.prog 95 #[.pointer (some ⟨b, 0, none⟩)] w (RetN w b A c L 4 σ) := by
  have HS := hid hs
  have Hst := hid (Nst.start (N := 4) h)
  clear h hs
  obtain ⟨i0, hi, hz0, hz1, hz2⟩ := info_parts info9
  have Hi := hid hi; have Hz0 := hid hz0; have Hz1 := hid hz1; have Hz2 := hid hz2
  clear hi hz0 hz1 hz2
  go_enter Tryz.func95, Tryz.ntmps95
  go_wp2_with fail
  go_loopw [3] (fun v wr => ∃ (out : List ByteArray) (n : Nat) (σ2 : Rs), Hid (Nst w b A c L 4 σ σ2 out n v wr)) (fun v _ => 4 - (lenOf v))
  case atStart => exact ⟨[], 4, σ, Hst.out⟩
  case round =>
    clear Hst
    obtain ⟨out, n, σ2, H⟩ := hrel
    obtain ⟨B, d, hv⟩ := own_any_slice H.out.own
    subst hv
    have hlen := H.out.len
    have hmeas : lenOf (.slice B out.length d) = out.length := rfl
    have Hmeas := hid hmeas
    clear hmeas
    cases hn : isN σ2 with
    | false =>
      have HN := hid hn
      clear hn
      go_wp2_with fail
      refine (refIsName2_any b A c L σ2 _ H.out.st.1 HS.out).mono ?_
      rw [HN.out]
      rintro e w1 ⟨rfl, hb1⟩
      have H1 := hid (H.out.below hb1)
      clear hb1
      go_wp2
      go_ret
      exact H1.out.stop HN.out
    | true =>
      have HN := hid hn
      clear hn
      cases n with
      | zero =>
        have hl4 : out.length = 4 := by omega
        have tl : ((out.length : Int) == 4) = true ∨ True := .inr trivial
        go_wp2_with fail
        refine (refIsName2_any b A c L σ2 _ H.out.st.1 HS.out).mono ?_
        rw [HN.out]
        rintro e w1 ⟨rfl, hb1⟩
        have H1 := hid (H.out.below hb1)
        clear hb1
        go_wp2_with fail
        refine (refFail_any b A c L σ2 7 _ H1.out.st.1).mono ?_
        rintro e w2 ⟨rfl, h2⟩
        have H2 := hid h2
        clear h2
        go_wp2
        go_ret
        exact H1.out.full HN.out H2.out
      | succ n =>
        have hl4 : out.length < 4 := by omega
        go_wp2_with fail
        refine (refIsName2_any b A c L σ2 _ H.out.st.1 HS.out).mono ?_
        rw [HN.out]
        rintro e w1 ⟨rfl, hb1⟩
        have H1 := hid (H.out.below hb1)
        clear hb1
        go_wp2_with fail
        refine (refName_any b A c L σ2 _ H1.out.st.1 HS.out).mono ?_
        rintro e w2 ⟨rfl, h2⟩
        have H2 := hid h2
        have H16 := hid (H1.out.st.1.name16 HS.out)
        have Hown := hid (RTo.own H1.out.own h2 H1.out.old)
        have hbase := (H1.out.st.trans h2).2.size
        clear h2
        have Hp := hid (fun (g5 cap5 : Nat) (w5 : World) hown5 hgr5 => Nst.push (g := g5) (cap := cap5) (w5 := w5) H1.out HN.out H16.out H2.out (.cells #[.string (nameR σ2).1] 9) hown5 hgr5)
        generalize (nameR σ2).1 = x at *
        generalize (nameR σ2).2 = σ3 at *
        go_wp2_with ((
          at_builtin
          refine wpList_append_lies _ rfl _ _ 99 rfl w.heap.size 9 i0 _ 1 16 Tryz.underlying99 Hi.out Hz0.out Hz1.out Hz2.out rfl (by decide) _ out.length (out.map Value.string) rfl (World.ownsRow.alloc Hown.out _) ⟨w2.heap.size, 0, none⟩ 1 1 [.string x] rfl rfl (one_str _ _ _) (one_strc _) (by omega) (by unfold maxLen; omega) (by omega) (by rw [World.size_alloc]; omega) _ rfl ?_
          intro g5 cap5 w5 hown5 hgr5 hat5 hlt5
          have H5 := hid (Hp.out g5 cap5 w5 hown5 hgr5)
          clear hown5 hgr5 hat5 hlt5))
        go_roundw
        case rel => exact ⟨_, _, _, H5.out⟩
        case measure => show 4 - (out.length + 1) < 4 - lenOf (.slice B out.length d); rw [Hmeas.out]; omega
set_option maxHeartbeats 3200000 in
theorem refMore_any (b : Nat) (A : Option Addr) (c : Nat) (L : List Tok) (σ : Rs) (w : World) (h : Rst w b A c L σ) (hs : Short L) :
    Calls Tryz.prog 94 #[.pointer (some ⟨b, 0, none⟩), .int .i64 1] w (RetN w b A c L 3 σ) := by
  have HS := hid hs
  have Hst := hid (Nst.start (N := 3) h)
  clear h hs
  obtain ⟨i0, hi, hz0, hz1, hz2⟩ := info_parts info9
  have Hi := hid hi; have Hz0 := hid hz0; have Hz1 := hid hz1; have Hz2 := hid hz2
  clear hi hz0 hz1 hz2
  go_enter Tryz.func94, Tryz.ntmps94
  go_wp2_with fail
  go_loopw [5] (fun v wr => ∃ (out : List ByteArray) (n : Nat) (σ2 : Rs), Hid (Nst w b A c L 3 σ σ2 out n v wr)) (fun v _ => 3 - (lenOf v))
  case atStart => exact ⟨[], 3, σ, Hst.out⟩
  case round =>
    clear Hst
    obtain ⟨out, n, σ2, H⟩ := hrel
    obtain ⟨B, d, hv⟩ := own_any_slice H.out.own
    subst hv
    have hlen := H.out.len
    have hmeas : lenOf (.slice B out.length d) = out.length := rfl
    have Hmeas := hid hmeas
    clear hmeas
    cases hn : isN σ2 with
    | false =>
      have HN := hid hn
      clear hn
      go_wp2_with fail
      refine (refIsName2_any b A c L σ2 _ H.out.st.1 HS.out).mono ?_
      rw [HN.out]
      rintro e w1 ⟨rfl, hb1⟩
      have H1 := hid (H.out.below hb1)
      clear hb1
      go_wp2
      go_ret
      exact H1.out.stop HN.out
    | true =>
      have HN := hid hn
      clear hn
      cases n with
      | zero =>
        have hl4 : out.length = 3 := by omega
        have tl : ((out.length : Int) == 4) = true ∨ True := .inr trivial
        go_wp2_with fail
        refine (refIsName2_any b A c L σ2 _ H.out.st.1 HS.out).mono ?_
        rw [HN.out]
        rintro e w1 ⟨rfl, hb1⟩
        have H1 := hid (H.out.below hb1)
        clear hb1
        go_wp2_with fail
        refine (refFail_any b A c L σ2 7 _ H1.out.st.1).mono ?_
        rintro e w2 ⟨rfl, h2⟩
        have H2 := hid h2
        clear h2
        go_wp2
        go_ret
        exact H1.out.full HN.out H2.out
      | succ n =>
        have hl4 : out.length < 3 := by omega
        go_wp2_with fail
        refine (refIsName2_any b A c L σ2 _ H.out.st.1 HS.out).mono ?_
        rw [HN.out]
        rintro e w1 ⟨rfl, hb1⟩
        have H1 := hid (H.out.below hb1)
        clear hb1
        go_wp2_with fail
        refine (refName_any b A c L σ2 _ H1.out.st.1 HS.out).mono ?_
        rintro e w2 ⟨rfl, h2⟩
        have H2 := hid h2
        have H16 := hid (H1.out.st.1.name16 HS.out)
        have Hown := hid (RTo.own H1.out.own h2 H1.out.old)
        have hbase := (H1.out.st.trans h2).2.size
        clear h2
        have Hp := hid (fun (g5 cap5 : Nat) (w5 : World) hown5 hgr5 => Nst.push (g := g5) (cap := cap5) (w5 := w5) H1.out HN.out H16.out H2.out (.cells #[.string (nameR σ2).1] 9) hown5 hgr5)
        generalize (nameR σ2).1 = x at *
        generalize (nameR σ2).2 = σ3 at *
        go_wp2_with ((
          at_builtin
          refine wpList_append_lies _ rfl _ _ 99 rfl w.heap.size 9 i0 _ 1 16 Tryz.underlying99 Hi.out Hz0.out Hz1.out Hz2.out rfl (by decide) _ out.length (out.map Value.string) rfl (World.ownsRow.alloc Hown.out _) ⟨w2.heap.size, 0, none⟩ 1 1 [.string x] rfl rfl (one_str _ _ _) (one_strc _) (by omega) (by unfold maxLen; omega) (by omega) (by rw [World.size_alloc]; omega) _ rfl ?_
          intro g5 cap5 w5 hown5 hgr5 hat5 hlt5
          have H5 := hid (Hp.out g5 cap5 w5 hown5 hgr5)
          clear hown5 hgr5 hat5 hlt5))
        go_roundw
        case rel => exact ⟨_, _, _, H5.out⟩
        case measure => show 3 - (out.length + 1) < 3 - lenOf (.slice B out.length d); rw [Hmeas.out]; omega
end Go.Proofs.YtmbelhdkaepohaaGreatDoor
