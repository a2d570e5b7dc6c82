/- The reference's parser: statements that begin with use, branch, or a name. -/
import Derived.Test.YtmbelhdkaepohaaGreatDoorRp4
import Derived.Laws.OwnMore
import Derived.Deep.RegionLaw
import Derived.Deep.DrawnRows
namespace Go.Proofs.YtmbelhdkaepohaaGreatDoor
set_option maxRecDepth 20000
set_option linter.unusedVariables false
set_option linter.unusedSimpArgs false
open Go.ChangeShapes Go.WideShapes Go.ChangeAt Go.RowKit
attribute [local go_sem ↓] Go.wp_at_zero Go.wp_at_succ

/-- A row beside the statement has grown, and a field is written. -/
theorem Sg.row {w0 w wa w9 : World} {b g c : Nat} {A : Option Addr} {L : List Tok} {σ : Rs} {x : SH} (h : Sg w0 b A c L σ x w) (ha : Below w.heap.size w wa) (hg : wa.grownBy w9 (some g)) (hge : w0.heap.size + 2 ≤ g) (j : Nat) (u : Value) (x' : SH)
    (hc : (#[.int .i64 x.t.op, .string x.t.d, .slice x.A x.n x.c, .slice x.B x.m x.c2] : Array Value).setIfInBounds j u = #[.int .i64 x'.t.op, .string x'.t.d, .slice x'.A x'.n x'.c, .slice x'.B x'.m x'.c2])
    (hf : Fr (w0.heap.size + 2) (TP x') w9) : Sg w0 b A c L σ x' (w9.setCell ⟨w0.heap.size + 1, j, none⟩ u) := by
  have h1 := h.below ha
  have ho := h.old
  have hz := h1.size
  refine ⟨(h1.st.grown hg (fun k hk => by injection hk with hk; omega)).far (by show b < w0.heap.size + 1; omega) u, ho, grown_set_new ?_ (by show w0.heap.size ≤ w0.heap.size + 1; omega) u, (h1.f2.grown hg (by simp; omega)).far (by show w0.heap.size ≠ w0.heap.size + 1; omega) u, ?_, hf.grown TP.go (setCell_grown _ _ _) (fun k hk => by injection hk with hk; have : w0.heap.size + 1 = k := hk; omega)⟩
  · have h2 := h1.gr
    exact ⟨hg.os.trans h2.os, hg.tape.trans h2.tape, hg.output.trans h2.output, Nat.le_trans h2.size hg.size, fun i hi hne => (hg.block i (Nat.lt_of_lt_of_le hi h2.size) (by simp; omega)).trans (h2.block i hi hne)⟩
  · have := (h1.f3.grown hg (by simp; omega)).set j u
    rw [hc] at this
    exact this
theorem own_lit1 {w : World} {base g : Nat} {y : ByteArray} (hb : base ≤ w.heap.size) (hg : w.heap.size = g) : (w.alloc (.cells #[.string y] 9)).ownsRow base 9 1 (.slice (some ⟨g, 0, none⟩) 1 1) 1 [.string y] := by
  subst hg
  exact World.ownsRow_lit w #[.string y] 1 hb (by unfold maxLen; omega) rfl
theorem size_set2 (w : World) (p q : Addr) (u v : Value) : ((w.setCell p u).setCell q v).heap.size = w.heap.size := by simp [World.setCell]
theorem size_set1 (w : World) (p : Addr) (u : Value) : (w.setCell p u).heap.size = w.heap.size := by simp [World.setCell]
theorem frs_own2 {w : World} {base N n : Nat} {A : Option Addr} {c : Nat} {l : List ByteArray} {xs : List Value} (h : w.ownsRow base 9 1 (.slice A n c) n xs) (hx : xs = l.map Value.string) (hn : n = l.length) (hN : N ≤ base) (hl : l.length ≤ 40) (hs : ∀ x ∈ l, x.size ≤ 1000) : Fr N (SP A n l) w := by
  subst hn
  subst hx
  exact frs_own h hN hl hs
theorem strs_one {l : List ByteArray} : ∀ u ∈ l.map Value.string, u.oneCell' = true := by
  intro u hu
  obtain ⟨x, _, rfl⟩ := List.mem_map.1 hu
  rfl
theorem namesR_len (n : Nat) (σ : Rs) : (namesR n σ).1.length ≤ n := by
  have key : ∀ (n : Nat) (σ : Rs) (l : List ByteArray), (namesL n σ).1 = some l → l.length ≤ n := by
    intro n
    induction n with
    | zero => intro σ l h; unfold namesL at h; split at h <;> simp at h; subst h; simp
    | succ n ih =>
      intro σ l h
      unfold namesL at h
      split at h
      · simp only [Option.map_eq_some_iff] at h
        obtain ⟨l', h1, rfl⟩ := h
        have := ih _ _ h1
        simp; omega
      · simp at h; subst h; simp
  unfold namesR
  cases h : (namesL n σ).1 with
  | none => simp
  | some l => exact key n σ l h
set_option maxHeartbeats 3200000 in
theorem refStmt_use (b : Nat) (A : Option Addr) (c : Nat) (L : List Tok) (σ : Rs) (w : World) (h : Rst w b A c L σ) (hs : Short L) (hn : isN σ = false) (hk : isK kwUse σ = true) :
    Calls Tryz.prog 74 #[.pointer (some ⟨b, 0, none⟩)] w (RetT w b A c L (stmtR σ)) := by
  have Hne := hid (isK_l hk)
  obtain ⟨l, er⟩ := σ
  have hR := (stmtR_kw hn hk).trans (opR_use _)
  have ht : (nxt l).text = kwUse := isK_text hk
  have t0 : ((nxt l).text.toList == [117, 115, 101]) = true := by rw [ht, toList_data]; decide
  have HN := hid hn; have HS := hid hs
  have h0 : Hid (Sg w b A c L ⟨l, er⟩ zSH ((w.alloc (.cells #[.int .i64 0, .string ⟨#[]⟩, .slice none 0 0, .slice none 0 0] 101)).alloc (.cells #[.int .i64 0, .string ⟨#[]⟩, .slice none 0 0, .slice none 0 0] 101))) := hid (Sg.start h)
  have HR := hid hR
  clear h hs hn hk ht hR
  go_enter Tryz.func74, Tryz.ntmps74
  go_wp2_with fail
  refine (refIsName2_any b A c L ⟨l, er⟩ _ h0.out.st HS.out).mono ?_
  rw [HN.out]
  rintro e w1 ⟨rfl, hb1⟩
  have h1 := hid (h0.out.below hb1)
  clear hb1 h0
  obtain ⟨k, a, hkl, hl, hf, rfl, ha, a0, a1⟩ := h1.out.st.next Hne.out
  have hlt := h1.out.st.lt
  have hfew := h1.out.st.few
  obtain ⟨⟨c0, c1, c2⟩, ⟨f0, f1, f2⟩⟩ := hf.three
  have Hst := hid (fun q => (h1.out.drewN q).call ((h1.out.st.drewN q).step hkl hl (hf.drewN q)))
  have hab : (a.add (k * 4)).block < w1.heap.size := by rw [add_block]; omega
  generalize (nxt l).text = tx at *
  clear hf hl a0
  go_wp2_with fail
  go_quiet (fail)
  clear h1 a1 hab
  go_wp2_with fail
  refine (refName_any b (some a) c L ⟨l.tail, er⟩ _ (Hst.out nq).st HS.out).mono ?_
  rintro e w3 ⟨rfl, h3⟩
  have H3 := hid ((Hst.out nq).call h3)
  have H16y := hid ((Hst.out nq).st.name16 HS.out)
  clear h3
  generalize (nameR ⟨l.tail, er⟩).1 = y at *
  generalize (nameR ⟨l.tail, er⟩).2 = σ2 at *
  obtain ⟨⟨q0, q1, q2, q3⟩, ⟨r0, r1, r2, r3⟩, -, -, hz⟩ := H3.out.cells
  have H4 := hid (H3.out.putOU 2 y H16y.out)
  have Hown := hid (own_lit1 (w := (w3.setCell ⟨w.heap.size + 1, 0, none⟩ (.int .i64 2)).setCell ⟨w.heap.size + 1, 2, none⟩ (.slice (some ⟨w3.heap.size, 0, none⟩) 1 1)) (base := w.heap.size + 2) (g := w3.heap.size) (y := y) (by rw [size_set2]; exact H3.out.size) (size_set2 ..))
  have hgu := H3.out.size
  clear Hst c0 c1 c2 f0 f1 f2
  go_wp2_with fail
  generalize (((w3.setCell ⟨w.heap.size + 1, 0, none⟩ (.int .i64 2)).setCell ⟨w.heap.size + 1, 2, none⟩ (.slice (some ⟨w3.heap.size, 0, none⟩) 1 1)).alloc (.cells #[.string y] 9)) = w4 at *
  generalize w3.heap.size = gu at *
  clear q0 q1 q2 q3 r0 r1 r2 r3 hz H3
  have H4d : Hid (Sg w b (some a) c L σ2 ⟨some ⟨gu, 0, none⟩, 1, 1, none, 0, 0, ⟨2, ⟨#[]⟩, [y], []⟩⟩ w4.drew) := hid (H4.out.drewN 1)
  have HM := hid (fun w' h' => refMore_any b (some a) c L σ2 w' h' HS.out)
  obtain ⟨⟨q0, q1, q2, q3⟩, ⟨r0, r1, r2, r3⟩, -, -, hz⟩ := H4.out.cells
  obtain ⟨i0, hi, hz0, hz1, hz2⟩ := info_parts info9
  have Hi := hid hi; have Hz0 := hid hz0; have Hz1 := hid hz1; have Hz2 := hid hz2
  clear hi hz0 hz1 hz2
  have hr3 := namesR_len 3 σ2
  generalize hrr : (namesR 3 σ2).1 = r at *
  have Hrr := hid hrr
  clear hrr
  have Hol := H4.out.old
  cases r with
  | nil =>
    go_region_law ((
       go_simp
       go_at_call 94
       go_must (
       refine (HM.out _ H4d.out.st).mono ?_
       rintro e w5 ⟨B, d, he, hown5, hsm5, hni5, h5⟩
       obtain ⟨e1, e2⟩ := hni5 Hrr.out
       rw [Hrr.out] at he hown5
       subst e1
       subst e2
       subst he
       clear hni5
       have H5 := hid (H4d.out.call h5)
       obtain ⟨⟨q0, q1, q2, q3⟩, ⟨r0, r1, r2, r3⟩, -, -, hz⟩ := H5.out.cells
       clear hown5 hsm5 h5)))
    all_goals
      have H6 := hid (H5.out.putU (A2 := some ⟨gu, 0, none⟩) (n2 := 1) (c2 := 1) (us2 := [y]) (fun ex he => (H5.out.fr ex he).uses))
      clear q0 q1 q2 q3 r0 r1 r2 r3 hz
      go_wp2_with fail
      refine (refEnd_any b (some a) c L (namesR 3 σ2).2 _ H6.out.st).mono ?_
      rintro e wz ⟨rfl, hz0⟩
      have HZ := hid (H6.out.call hz0)
      clear hz0
      obtain ⟨⟨p0, p1, p2, p3⟩, ⟨-, -, -, -⟩, ⟨v0, v1, v2, v3⟩, ⟨s0, s1, s2, s3⟩, hsz⟩ := HZ.out.cells
      have hsz2 : w.heap.size < wz.heap.size := by omega
      go_wp2_with fail
      refine bodyPost_ret (v := agS ⟨some ⟨gu, 0, none⟩, 1, 1, none, 0, 0, ⟨2, ⟨#[]⟩, [y], []⟩⟩) (by simp [results, Tryz.results74, go_sem, p0, p1, p2, p3, s0, s1, s2, s3, v0, v1, v2, v3, hsz, hsz2, agS]) rfl ?_
      exact HZ.out.done _ _ _ _ HR.out
  | cons z zs =>
    go_region_law (first
      | ((refine step_append_lies _ (by rfl) _ _ 99 (by rfl) (w.heap.size + 2) 9 i0 _ 1 16 Tryz.underlying99 Hi.out Hz0.out Hz1.out Hz2.out (by rfl) (by decide) (.slice (some ⟨gu, 0, none⟩) 1 1) 1 [.string y] (by rfl) (by exact Hown5.out)
            ⟨g5, 0, none⟩ (z :: zs).length _ ((z :: zs).map Value.string) (by rfl) (by simp) (by exact Hc5.out) strs_one (by simp) (by unfold maxLen; omega) (by omega) (by have := H5.out.size; omega) _ rfl ?_)
         intro g9 cap9 w9 hown9 hgr9 hat9 hlt9
         have Hown9 := hid hown9
         have Hgr9 := hid hgr9
         have k0 := hgr9.cell q0 (by show some _ ≠ some gu; simp; omega)
         have k1 := hgr9.cell q1 (by show some _ ≠ some gu; simp; omega)
         have k2 := hgr9.cell q2 (by show some _ ≠ some gu; simp; omega)
         have k3 := hgr9.cell q3 (by show some _ ≠ some gu; simp; omega)
         have j2 := (hgr9.frozen_far ⟨w.heap.size + 1, 2, none⟩ (by exact hz) (by show some _ ≠ some gu; simp; omega)).trans r2
         have hz9 : w.heap.size + 1 < w9.heap.size := Nat.lt_of_lt_of_le hz hgr9.size
         clear hown9 hgr9 hat9 hlt9)
      | (go_simp
         go_at_call 94
         go_must (
         refine (HM.out _ H4d.out.st).mono ?_
         rintro e w5 ⟨B, d, he, hown5, hsm5, -, h5⟩
         rw [Hrr.out] at he hown5 hsm5
         obtain ⟨g5, cap5, he5, hb5, hl5⟩ := hown5.form (by simp)
         injection he5 with e1 e2 e3
         subst e1
         subst e3
         subst he
         have Hc5 := hid (hown5.cells (g := g5) rfl)
         have Hsm5 := hid hsm5
         have H5 := hid (H4d.out.call h5)
         have Hown5 := hid (RTo.own (w := w4.drew) Hown.out.drew h5 (by omega))
         obtain ⟨⟨q0, q1, q2, q3⟩, ⟨r0, r1, r2, r3⟩, -, -, hz⟩ := H5.out.cells
         clear hown5 hsm5 h5 hl5)))
    all_goals
      have H6 := hid (Sg.row H5.out (Below.refl _ _) Hgr9.out hgu 2 (.slice (some ⟨g9, 0, none⟩) (1 + (z :: zs).length) cap9) ⟨some ⟨g9, 0, none⟩, 1 + (z :: zs).length, cap9, none, 0, 0, ⟨2, ⟨#[]⟩, y :: z :: zs, []⟩⟩ rfl
        (fun ex he => ⟨frs_own2 Hown9.out rfl (by simp; omega) (Nat.le_refl _) (by simp at hr3 ⊢; omega) (fun x hx => by
          rcases List.mem_cons.1 hx with hx | hx
          · subst hx; have := H16y.out; omega
          · have := Hsm5.out x hx; omega) ex he, SSafe.nil _ _ _, by show (0 : Nat) ≤ 1000; omega⟩))
      clear q0 q1 q2 q3 r0 r1 r2 r3 hz
      go_wp2_with fail
      clear k0 k1 k2 k3 j2 hz9
      refine (refEnd_any b (some a) c L (namesR 3 σ2).2 _ H6.out.st).mono ?_
      rintro e wz ⟨rfl, hz0⟩
      have HZ := hid (H6.out.call hz0)
      clear hz0
      obtain ⟨⟨p0, p1, p2, p3⟩, ⟨-, -, -, -⟩, ⟨v0, v1, v2, v3⟩, ⟨s0, s1, s2, s3⟩, hsz⟩ := HZ.out.cells
      have hsz2 : w.heap.size < wz.heap.size := by omega
      go_wp2_with fail
      refine bodyPost_ret (v := agS ⟨some ⟨g9, 0, none⟩, 1 + (z :: zs).length, cap9, none, 0, 0, ⟨2, ⟨#[]⟩, y :: z :: zs, []⟩⟩) (by simp [results, Tryz.results74, go_sem, p0, p1, p2, p3, s0, s1, s2, s3, v0, v1, v2, v3, hsz, hsz2, agS]) rfl ?_
      exact HZ.out.done _ _ _ _ HR.out
end Go.Proofs.YtmbelhdkaepohaaGreatDoor
