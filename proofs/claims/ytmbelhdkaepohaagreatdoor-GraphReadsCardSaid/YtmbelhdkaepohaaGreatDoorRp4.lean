/- The reference's parser: the statements that begin with a keyword, but for use and branch. -/
import Derived.Test.YtmbelhdkaepohaaGreatDoorRp3
namespace Go.Proofs.YtmbelhdkaepohaaGreatDoor
set_option maxRecDepth 20000
set_option linter.unusedVariables false
set_option linter.unusedSimpArgs false
open Go.ChangeShapes Go.WideShapes Go.ChangeAt Go.RowKit

theorem isK_text {σ : Rs} {k : ByteArray} (h : isK k σ = true) : (nxt σ.l).text = k := by
  unfold isK at h
  simp only [Bool.and_eq_true] at h
  exact eqB_iff.1 h.2
theorem stmtR_kw {l : List Tok} {er : Int} {k : ByteArray} (hn : isN ⟨l, er⟩ = false) (hk : isK k ⟨l, er⟩ = true) : stmtR ⟨l, er⟩ = opR k ⟨l.tail, er⟩ := by
  unfold stmtR
  rw [hn]
  show opR (nxt l).text _ = _
  rw [show (nxt l).text = k from isK_text hk]
  rfl
theorem opR_call (r : Rs) : opR kwCall r = (⟨3, ⟨#[]⟩, [], [(nameR r).1]⟩, endR (nameR r).2) := by unfold opR eqB; simp only [toList_data]; rfl
theorem opR_source (r : Rs) : opR kwSource r = (⟨4, (nameR r).1, [], []⟩, endR (nameR r).2) := by unfold opR eqB; simp only [toList_data]; rfl
theorem opR_sink (r : Rs) : opR kwSink r = (⟨5, ⟨#[]⟩, [(nameR r).1], []⟩, endR (nameR r).2) := by unfold opR eqB; simp only [toList_data]; rfl
theorem opR_sanitize (r : Rs) : opR kwSanitize r = (⟨6, (nameR r).1, [], []⟩, endR (nameR r).2) := by unfold opR eqB; simp only [toList_data]; rfl
theorem opR_goto (r : Rs) : opR kwGoto r = (⟨7, ⟨#[]⟩, [], [(nameR r).1]⟩, endR (nameR r).2) := by unfold opR eqB; simp only [toList_data]; rfl
theorem opR_return (r : Rs) : opR kwReturn r = (⟨9, ⟨#[]⟩, [], []⟩, endR r) := by unfold opR eqB; simp only [toList_data]; rfl
theorem opR_use (r : Rs) : opR kwUse r = (⟨2, ⟨#[]⟩, (nameR r).1 :: (namesR 3 (nameR r).2).1, []⟩, endR (namesR 3 (nameR r).2).2) := by unfold opR eqB; simp only [toList_data]; rfl
theorem opR_branch (r : Rs) : opR kwBranch r = (⟨8, ⟨#[]⟩, [(nameR r).1], [(nameR (nameR r).2).1, (nameR (nameR (nameR r).2).2).1]⟩, endR (nameR (nameR (nameR r).2).2).2) := by unfold opR eqB; simp only [toList_data]; rfl
/-- The texts as the walk compares them. -/
def kwTests (x : ByteArray) : List Bool := k8.map fun k => x.toList == k.data.toList
set_option maxHeartbeats 3200000 in
theorem refStmt_call (b : Nat) (A : Option Addr) (c : Nat) (L : List Tok) (σ : Rs) (w : World) (h : Rst w b A c L σ) (hs : Short L) (hn : isN σ = false) (hk : isK kwCall σ = true) :
    Calls Tryz.prog 74 #[.pointer (some ⟨b, 0, none⟩)] w (RetT w b A c L (stmtR σ)) := by
  have Hne := hid (isK_l hk)
  obtain ⟨l, er⟩ := σ
  have hR := (stmtR_kw hn hk).trans (opR_call _)
  have ht : (nxt l).text = kwCall := isK_text hk
  have t0 : ((nxt l).text.toList == [117, 115, 101]) = false := by rw [ht, toList_data]; decide
  have t1 : ((nxt l).text.toList == [99, 97, 108, 108]) = true := by rw [ht, toList_data]; decide
  have HN := hid hn; have HS := hid hs
  have h0 : Hid (Sg w b A c L ⟨l, er⟩ zSH ((w.alloc (.cells #[.int .i64 0, .string ⟨#[]⟩, .slice none 0 0, .slice none 0 0] 101)).alloc (.cells #[.int .i64 0, .string ⟨#[]⟩, .slice none 0 0, .slice none 0 0] 101))) := hid (Sg.start h)
  have HR := hid hR
  clear h hs hn hk ht hR
  go_enter Tryz.func74, Tryz.ntmps74
  go_wp2_with fail
  refine (refIsName2_any b A c L ⟨l, er⟩ _ h0.out.st HS.out).mono ?_
  rw [HN.out]
  rintro e w1 ⟨rfl, hb1⟩
  have h1 := hid (h0.out.below hb1)
  clear hb1 h0
  obtain ⟨k, a, hkl, hl, hf, rfl, ha, a0, a1⟩ := h1.out.st.next Hne.out
  have hlt := h1.out.st.lt
  have hfew := h1.out.st.few
  obtain ⟨⟨c0, c1, c2⟩, ⟨f0, f1, f2⟩⟩ := hf.three
  have Hst := hid (fun q => (h1.out.drewN q).call ((h1.out.st.drewN q).step hkl hl (hf.drewN q)))
  have hab : (a.add (k * 4)).block < w1.heap.size := by rw [add_block]; omega
  generalize (nxt l).text = tx at *
  clear hf hl a0
  go_wp2_with fail
  go_quiet (fail)
  clear h1 a1 hab
  go_wp2_with fail
  refine (refName_any b (some a) c L ⟨l.tail, er⟩ _ (Hst.out nq).st HS.out).mono ?_
  rintro e w3 ⟨rfl, h3⟩
  have H3 := hid ((Hst.out nq).call h3)
  have H16y := hid ((Hst.out nq).st.name16 HS.out)
  clear h3
  generalize (nameR ⟨l.tail, er⟩).1 = y at *
  generalize (nameR ⟨l.tail, er⟩).2 = σ2 at *
  obtain ⟨⟨q0, q1, q2, q3⟩, ⟨r0, r1, r2, r3⟩, -, -, hz⟩ := H3.out.cells
  clear Hst c0 c1 c2 f0 f1 f2
  go_wp2_with fail
  have H4 := hid (H3.out.putOT 3 y H16y.out)
  clear q0 q1 q2 q3 r0 r1 r2 r3 hz
  refine (refEnd_any b (some a) c L σ2 _ H4.out.st).mono ?_
  rintro e wz ⟨rfl, hz0⟩
  have HZ := hid (H4.out.call hz0)
  clear hz0
  obtain ⟨⟨p0, p1, p2, p3⟩, ⟨-, -, -, -⟩, ⟨v0, v1, v2, v3⟩, ⟨s0, s1, s2, s3⟩, hsz⟩ := HZ.out.cells
  have hsz2 : w.heap.size < wz.heap.size := by omega
  go_wp2_with fail
  refine bodyPost_ret (v := agS ⟨none, 0, 0, some ⟨w3.heap.size, 0, none⟩, 1, 1, ⟨3, ⟨#[]⟩, [], [y]⟩⟩) (by simp [results, Tryz.results74, go_sem, p0, p1, p2, p3, s0, s1, s2, s3, v0, v1, v2, v3, hsz, hsz2, agS]) rfl ?_
  exact HZ.out.done _ _ _ _ HR.out
set_option maxHeartbeats 3200000 in
theorem refStmt_source (b : Nat) (A : Option Addr) (c : Nat) (L : List Tok) (σ : Rs) (w : World) (h : Rst w b A c L σ) (hs : Short L) (hn : isN σ = false) (hk : isK kwSource σ = true) :
    Calls Tryz.prog 74 #[.pointer (some ⟨b, 0, none⟩)] w (RetT w b A c L (stmtR σ)) := by
  have Hne := hid (isK_l hk)
  obtain ⟨l, er⟩ := σ
  have hR := (stmtR_kw hn hk).trans (opR_source _)
  have ht : (nxt l).text = kwSource := isK_text hk
  have t0 : ((nxt l).text.toList == [117, 115, 101]) = false := by rw [ht, toList_data]; decide
  have t1 : ((nxt l).text.toList == [99, 97, 108, 108]) = false := by rw [ht, toList_data]; decide
  have t2 : ((nxt l).text.toList == [115, 111, 117, 114, 99, 101]) = true := by rw [ht, toList_data]; decide
  have HN := hid hn; have HS := hid hs
  have h0 : Hid (Sg w b A c L ⟨l, er⟩ zSH ((w.alloc (.cells #[.int .i64 0, .string ⟨#[]⟩, .slice none 0 0, .slice none 0 0] 101)).alloc (.cells #[.int .i64 0, .string ⟨#[]⟩, .slice none 0 0, .slice none 0 0] 101))) := hid (Sg.start h)
  have HR := hid hR
  clear h hs hn hk ht hR
  go_enter Tryz.func74, Tryz.ntmps74
  go_wp2_with fail
  refine (refIsName2_any b A c L ⟨l, er⟩ _ h0.out.st HS.out).mono ?_
  rw [HN.out]
  rintro e w1 ⟨rfl, hb1⟩
  have h1 := hid (h0.out.below hb1)
  clear hb1 h0
  obtain ⟨k, a, hkl, hl, hf, rfl, ha, a0, a1⟩ := h1.out.st.next Hne.out
  have hlt := h1.out.st.lt
  have hfew := h1.out.st.few
  obtain ⟨⟨c0, c1, c2⟩, ⟨f0, f1, f2⟩⟩ := hf.three
  have Hst := hid (fun q => (h1.out.drewN q).call ((h1.out.st.drewN q).step hkl hl (hf.drewN q)))
  have hab : (a.add (k * 4)).block < w1.heap.size := by rw [add_block]; omega
  generalize (nxt l).text = tx at *
  clear hf hl a0
  go_wp2_with fail
  go_quiet (fail)
  clear h1 a1 hab
  go_wp2_with fail
  refine (refName_any b (some a) c L ⟨l.tail, er⟩ _ (Hst.out nq).st HS.out).mono ?_
  rintro e w3 ⟨rfl, h3⟩
  have H3 := hid ((Hst.out nq).call h3)
  have H16y := hid ((Hst.out nq).st.name16 HS.out)
  clear h3
  generalize (nameR ⟨l.tail, er⟩).1 = y at *
  generalize (nameR ⟨l.tail, er⟩).2 = σ2 at *
  obtain ⟨⟨q0, q1, q2, q3⟩, ⟨r0, r1, r2, r3⟩, -, -, hz⟩ := H3.out.cells
  clear Hst c0 c1 c2 f0 f1 f2
  go_wp2_with fail
  have H4 := hid ((H3.out.putO 4).putD y H16y.out)
  clear q0 q1 q2 q3 r0 r1 r2 r3 hz
  refine (refEnd_any b (some a) c L σ2 _ H4.out.st).mono ?_
  rintro e wz ⟨rfl, hz0⟩
  have HZ := hid (H4.out.call hz0)
  clear hz0
  obtain ⟨⟨p0, p1, p2, p3⟩, ⟨-, -, -, -⟩, ⟨v0, v1, v2, v3⟩, ⟨s0, s1, s2, s3⟩, hsz⟩ := HZ.out.cells
  have hsz2 : w.heap.size < wz.heap.size := by omega
  go_wp2_with fail
  refine bodyPost_ret (v := agS ⟨none, 0, 0, none, 0, 0, ⟨4, y, [], []⟩⟩) (by simp [results, Tryz.results74, go_sem, p0, p1, p2, p3, s0, s1, s2, s3, v0, v1, v2, v3, hsz, hsz2, agS]) rfl ?_
  exact HZ.out.done _ _ _ _ HR.out
set_option maxHeartbeats 3200000 in
theorem refStmt_sink (b : Nat) (A : Option Addr) (c : Nat) (L : List Tok) (σ : Rs) (w : World) (h : Rst w b A c L σ) (hs : Short L) (hn : isN σ = false) (hk : isK kwSink σ = true) :
    Calls Tryz.prog 74 #[.pointer (some ⟨b, 0, none⟩)] w (RetT w b A c L (stmtR σ)) := by
  have Hne := hid (isK_l hk)
  obtain ⟨l, er⟩ := σ
  have hR := (stmtR_kw hn hk).trans (opR_sink _)
  have ht : (nxt l).text = kwSink := isK_text hk
  have t0 : ((nxt l).text.toList == [117, 115, 101]) = false := by rw [ht, toList_data]; decide
  have t1 : ((nxt l).text.toList == [99, 97, 108, 108]) = false := by rw [ht, toList_data]; decide
  have t2 : ((nxt l).text.toList == [115, 111, 117, 114, 99, 101]) = false := by rw [ht, toList_data]; decide
  have t3 : ((nxt l).text.toList == [115, 105, 110, 107]) = true := by rw [ht, toList_data]; decide
  have HN := hid hn; have HS := hid hs
  have h0 : Hid (Sg w b A c L ⟨l, er⟩ zSH ((w.alloc (.cells #[.int .i64 0, .string ⟨#[]⟩, .slice none 0 0, .slice none 0 0] 101)).alloc (.cells #[.int .i64 0, .string ⟨#[]⟩, .slice none 0 0, .slice none 0 0] 101))) := hid (Sg.start h)
  have HR := hid hR
  clear h hs hn hk ht hR
  go_enter Tryz.func74, Tryz.ntmps74
  go_wp2_with fail
  refine (refIsName2_any b A c L ⟨l, er⟩ _ h0.out.st HS.out).mono ?_
  rw [HN.out]
  rintro e w1 ⟨rfl, hb1⟩
  have h1 := hid (h0.out.below hb1)
  clear hb1 h0
  obtain ⟨k, a, hkl, hl, hf, rfl, ha, a0, a1⟩ := h1.out.st.next Hne.out
  have hlt := h1.out.st.lt
  have hfew := h1.out.st.few
  obtain ⟨⟨c0, c1, c2⟩, ⟨f0, f1, f2⟩⟩ := hf.three
  have Hst := hid (fun q => (h1.out.drewN q).call ((h1.out.st.drewN q).step hkl hl (hf.drewN q)))
  have hab : (a.add (k * 4)).block < w1.heap.size := by rw [add_block]; omega
  generalize (nxt l).text = tx at *
  clear hf hl a0
  go_wp2_with fail
  go_quiet (fail)
  clear h1 a1 hab
  go_wp2_with fail
  refine (refName_any b (some a) c L ⟨l.tail, er⟩ _ (Hst.out nq).st HS.out).mono ?_
  rintro e w3 ⟨rfl, h3⟩
  have H3 := hid ((Hst.out nq).call h3)
  have H16y := hid ((Hst.out nq).st.name16 HS.out)
  clear h3
  generalize (nameR ⟨l.tail, er⟩).1 = y at *
  generalize (nameR ⟨l.tail, er⟩).2 = σ2 at *
  obtain ⟨⟨q0, q1, q2, q3⟩, ⟨r0, r1, r2, r3⟩, -, -, hz⟩ := H3.out.cells
  clear Hst c0 c1 c2 f0 f1 f2
  go_wp2_with fail
  have H4 := hid (H3.out.putOU 5 y H16y.out)
  clear q0 q1 q2 q3 r0 r1 r2 r3 hz
  refine (refEnd_any b (some a) c L σ2 _ H4.out.st).mono ?_
  rintro e wz ⟨rfl, hz0⟩
  have HZ := hid (H4.out.call hz0)
  clear hz0
  obtain ⟨⟨p0, p1, p2, p3⟩, ⟨-, -, -, -⟩, ⟨v0, v1, v2, v3⟩, ⟨s0, s1, s2, s3⟩, hsz⟩ := HZ.out.cells
  have hsz2 : w.heap.size < wz.heap.size := by omega
  go_wp2_with fail
  refine bodyPost_ret (v := agS ⟨some ⟨w3.heap.size, 0, none⟩, 1, 1, none, 0, 0, ⟨5, ⟨#[]⟩, [y], []⟩⟩) (by simp [results, Tryz.results74, go_sem, p0, p1, p2, p3, s0, s1, s2, s3, v0, v1, v2, v3, hsz, hsz2, agS]) rfl ?_
  exact HZ.out.done _ _ _ _ HR.out
set_option maxHeartbeats 3200000 in
theorem refStmt_sanitize (b : Nat) (A : Option Addr) (c : Nat) (L : List Tok) (σ : Rs) (w : World) (h : Rst w b A c L σ) (hs : Short L) (hn : isN σ = false) (hk : isK kwSanitize σ = true) :
    Calls Tryz.prog 74 #[.pointer (some ⟨b, 0, none⟩)] w (RetT w b A c L (stmtR σ)) := by
  have Hne := hid (isK_l hk)
  obtain ⟨l, er⟩ := σ
  have hR := (stmtR_kw hn hk).trans (opR_sanitize _)
  have ht : (nxt l).text = kwSanitize := isK_text hk
  have t0 : ((nxt l).text.toList == [117, 115, 101]) = false := by rw [ht, toList_data]; decide
  have t1 : ((nxt l).text.toList == [99, 97, 108, 108]) = false := by rw [ht, toList_data]; decide
  have t2 : ((nxt l).text.toList == [115, 111, 117, 114, 99, 101]) = false := by rw [ht, toList_data]; decide
  have t3 : ((nxt l).text.toList == [115, 105, 110, 107]) = false := by rw [ht, toList_data]; decide
  have t4 : ((nxt l).text.toList == [115, 97, 110, 105, 116, 105, 122, 101]) = true := by rw [ht, toList_data]; decide
  have HN := hid hn; have HS := hid hs
  have h0 : Hid (Sg w b A c L ⟨l, er⟩ zSH ((w.alloc (.cells #[.int .i64 0, .string ⟨#[]⟩, .slice none 0 0, .slice none 0 0] 101)).alloc (.cells #[.int .i64 0, .string ⟨#[]⟩, .slice none 0 0, .slice none 0 0] 101))) := hid (Sg.start h)
  have HR := hid hR
  clear h hs hn hk ht hR
  go_enter Tryz.func74, Tryz.ntmps74
  go_wp2_with fail
  refine (refIsName2_any b A c L ⟨l, er⟩ _ h0.out.st HS.out).mono ?_
  rw [HN.out]
  rintro e w1 ⟨rfl, hb1⟩
  have h1 := hid (h0.out.below hb1)
  clear hb1 h0
  obtain ⟨k, a, hkl, hl, hf, rfl, ha, a0, a1⟩ := h1.out.st.next Hne.out
  have hlt := h1.out.st.lt
  have hfew := h1.out.st.few
  obtain ⟨⟨c0, c1, c2⟩, ⟨f0, f1, f2⟩⟩ := hf.three
  have Hst := hid (fun q => (h1.out.drewN q).call ((h1.out.st.drewN q).step hkl hl (hf.drewN q)))
  have hab : (a.add (k * 4)).block < w1.heap.size := by rw [add_block]; omega
  generalize (nxt l).text = tx at *
  clear hf hl a0
  go_wp2_with fail
  go_quiet (fail)
  clear h1 a1 hab
  go_wp2_with fail
  refine (refName_any b (some a) c L ⟨l.tail, er⟩ _ (Hst.out nq).st HS.out).mono ?_
  rintro e w3 ⟨rfl, h3⟩
  have H3 := hid ((Hst.out nq).call h3)
  have H16y := hid ((Hst.out nq).st.name16 HS.out)
  clear h3
  generalize (nameR ⟨l.tail, er⟩).1 = y at *
  generalize (nameR ⟨l.tail, er⟩).2 = σ2 at *
  obtain ⟨⟨q0, q1, q2, q3⟩, ⟨r0, r1, r2, r3⟩, -, -, hz⟩ := H3.out.cells
  clear Hst c0 c1 c2 f0 f1 f2
  go_wp2_with fail
  have H4 := hid ((H3.out.putO 6).putD y H16y.out)
  clear q0 q1 q2 q3 r0 r1 r2 r3 hz
  refine (refEnd_any b (some a) c L σ2 _ H4.out.st).mono ?_
  rintro e wz ⟨rfl, hz0⟩
  have HZ := hid (H4.out.call hz0)
  clear hz0
  obtain ⟨⟨p0, p1, p2, p3⟩, ⟨-, -, -, -⟩, ⟨v0, v1, v2, v3⟩, ⟨s0, s1, s2, s3⟩, hsz⟩ := HZ.out.cells
  have hsz2 : w.heap.size < wz.heap.size := by omega
  go_wp2_with fail
  refine bodyPost_ret (v := agS ⟨none, 0, 0, none, 0, 0, ⟨6, y, [], []⟩⟩) (by simp [results, Tryz.results74, go_sem, p0, p1, p2, p3, s0, s1, s2, s3, v0, v1, v2, v3, hsz, hsz2, agS]) rfl ?_
  exact HZ.out.done _ _ _ _ HR.out
set_option maxHeartbeats 3200000 in
theorem refStmt_goto (b : Nat) (A : Option Addr) (c : Nat) (L : List Tok) (σ : Rs) (w : World) (h : Rst w b A c L σ) (hs : Short L) (hn : isN σ = false) (hk : isK kwGoto σ = true) :
    Calls Tryz.prog 74 #[.pointer (some ⟨b, 0, none⟩)] w (RetT w b A c L (stmtR σ)) := by
  have Hne := hid (isK_l hk)
  obtain ⟨l, er⟩ := σ
  have hR := (stmtR_kw hn hk).trans (opR_goto _)
  have ht : (nxt l).text = kwGoto := isK_text hk
  have t0 : ((nxt l).text.toList == [117, 115, 101]) = false := by rw [ht, toList_data]; decide
  have t1 : ((nxt l).text.toList == [99, 97, 108, 108]) = false := by rw [ht, toList_data]; decide
  have t2 : ((nxt l).text.toList == [115, 111, 117, 114, 99, 101]) = false := by rw [ht, toList_data]; decide
  have t3 : ((nxt l).text.toList == [115, 105, 110, 107]) = false := by rw [ht, toList_data]; decide
  have t4 : ((nxt l).text.toList == [115, 97, 110, 105, 116, 105, 122, 101]) = false := by rw [ht, toList_data]; decide
  have t5 : ((nxt l).text.toList == [103, 111, 116, 111]) = true := by rw [ht, toList_data]; decide
  have HN := hid hn; have HS := hid hs
  have h0 : Hid (Sg w b A c L ⟨l, er⟩ zSH ((w.alloc (.cells #[.int .i64 0, .string ⟨#[]⟩, .slice none 0 0, .slice none 0 0] 101)).alloc (.cells #[.int .i64 0, .string ⟨#[]⟩, .slice none 0 0, .slice none 0 0] 101))) := hid (Sg.start h)
  have HR := hid hR
  clear h hs hn hk ht hR
  go_enter Tryz.func74, Tryz.ntmps74
  go_wp2_with fail
  refine (refIsName2_any b A c L ⟨l, er⟩ _ h0.out.st HS.out).mono ?_
  rw [HN.out]
  rintro e w1 ⟨rfl, hb1⟩
  have h1 := hid (h0.out.below hb1)
  clear hb1 h0
  obtain ⟨k, a, hkl, hl, hf, rfl, ha, a0, a1⟩ := h1.out.st.next Hne.out
  have hlt := h1.out.st.lt
  have hfew := h1.out.st.few
  obtain ⟨⟨c0, c1, c2⟩, ⟨f0, f1, f2⟩⟩ := hf.three
  have Hst := hid (fun q => (h1.out.drewN q).call ((h1.out.st.drewN q).step hkl hl (hf.drewN q)))
  have hab : (a.add (k * 4)).block < w1.heap.size := by rw [add_block]; omega
  generalize (nxt l).text = tx at *
  clear hf hl a0
  go_wp2_with fail
  go_quiet (fail)
  clear h1 a1 hab
  go_wp2_with fail
  refine (refName_any b (some a) c L ⟨l.tail, er⟩ _ (Hst.out nq).st HS.out).mono ?_
  rintro e w3 ⟨rfl, h3⟩
  have H3 := hid ((Hst.out nq).call h3)
  have H16y := hid ((Hst.out nq).st.name16 HS.out)
  clear h3
  generalize (nameR ⟨l.tail, er⟩).1 = y at *
  generalize (nameR ⟨l.tail, er⟩).2 = σ2 at *
  obtain ⟨⟨q0, q1, q2, q3⟩, ⟨r0, r1, r2, r3⟩, -, -, hz⟩ := H3.out.cells
  clear Hst c0 c1 c2 f0 f1 f2
  go_wp2_with fail
  have H4 := hid (H3.out.putOT 7 y H16y.out)
  clear q0 q1 q2 q3 r0 r1 r2 r3 hz
  refine (refEnd_any b (some a) c L σ2 _ H4.out.st).mono ?_
  rintro e wz ⟨rfl, hz0⟩
  have HZ := hid (H4.out.call hz0)
  clear hz0
  obtain ⟨⟨p0, p1, p2, p3⟩, ⟨-, -, -, -⟩, ⟨v0, v1, v2, v3⟩, ⟨s0, s1, s2, s3⟩, hsz⟩ := HZ.out.cells
  have hsz2 : w.heap.size < wz.heap.size := by omega
  go_wp2_with fail
  refine bodyPost_ret (v := agS ⟨none, 0, 0, some ⟨w3.heap.size, 0, none⟩, 1, 1, ⟨7, ⟨#[]⟩, [], [y]⟩⟩) (by simp [results, Tryz.results74, go_sem, p0, p1, p2, p3, s0, s1, s2, s3, v0, v1, v2, v3, hsz, hsz2, agS]) rfl ?_
  exact HZ.out.done _ _ _ _ HR.out
set_option maxHeartbeats 3200000 in
theorem refStmt_return (b : Nat) (A : Option Addr) (c : Nat) (L : List Tok) (σ : Rs) (w : World) (h : Rst w b A c L σ) (hs : Short L) (hn : isN σ = false) (hk : isK kwReturn σ = true) :
    Calls Tryz.prog 74 #[.pointer (some ⟨b, 0, none⟩)] w (RetT w b A c L (stmtR σ)) := by
  have Hne := hid (isK_l hk)
  obtain ⟨l, er⟩ := σ
  have hR := (stmtR_kw hn hk).trans (opR_return _)
  have ht : (nxt l).text = kwReturn := isK_text hk
  have t0 : ((nxt l).text.toList == [117, 115, 101]) = false := by rw [ht, toList_data]; decide
  have t1 : ((nxt l).text.toList == [99, 97, 108, 108]) = false := by rw [ht, toList_data]; decide
  have t2 : ((nxt l).text.toList == [115, 111, 117, 114, 99, 101]) = false := by rw [ht, toList_data]; decide
  have t3 : ((nxt l).text.toList == [115, 105, 110, 107]) = false := by rw [ht, toList_data]; decide
  have t4 : ((nxt l).text.toList == [115, 97, 110, 105, 116, 105, 122, 101]) = false := by rw [ht, toList_data]; decide
  have t5 : ((nxt l).text.toList == [103, 111, 116, 111]) = false := by rw [ht, toList_data]; decide
  have t6 : ((nxt l).text.toList == [98, 114, 97, 110, 99, 104]) = false := by rw [ht, toList_data]; decide
  have t7 : ((nxt l).text.toList == [114, 101, 116, 117, 114, 110]) = true := by rw [ht, toList_data]; decide
  have HN := hid hn; have HS := hid hs
  have h0 : Hid (Sg w b A c L ⟨l, er⟩ zSH ((w.alloc (.cells #[.int .i64 0, .string ⟨#[]⟩, .slice none 0 0, .slice none 0 0] 101)).alloc (.cells #[.int .i64 0, .string ⟨#[]⟩, .slice none 0 0, .slice none 0 0] 101))) := hid (Sg.start h)
  have HR := hid hR
  clear h hs hn hk ht hR
  go_enter Tryz.func74, Tryz.ntmps74
  go_wp2_with fail
  refine (refIsName2_any b A c L ⟨l, er⟩ _ h0.out.st HS.out).mono ?_
  rw [HN.out]
  rintro e w1 ⟨rfl, hb1⟩
  have h1 := hid (h0.out.below hb1)
  clear hb1 h0
  obtain ⟨k, a, hkl, hl, hf, rfl, ha, a0, a1⟩ := h1.out.st.next Hne.out
  have hlt := h1.out.st.lt
  have hfew := h1.out.st.few
  obtain ⟨⟨c0, c1, c2⟩, ⟨f0, f1, f2⟩⟩ := hf.three
  have Hst := hid (fun q => (h1.out.drewN q).call ((h1.out.st.drewN q).step hkl hl (hf.drewN q)))
  have hab : (a.add (k * 4)).block < w1.heap.size := by rw [add_block]; omega
  generalize (nxt l).text = tx at *
  clear hf hl a0
  go_wp2_with fail
  go_quiet (fail)
  clear h1 a1 hab
  obtain ⟨⟨q0, q1, q2, q3⟩, ⟨r0, r1, r2, r3⟩, -, -, hz⟩ := (Hst.out nq).cells
  have H4 := hid ((Hst.out nq).putO 9)
  go_wp2_with fail
  clear q0 q1 q2 q3 r0 r1 r2 r3 hz Hst
  refine (refEnd_any b (some a) c L ⟨l.tail, er⟩ _ H4.out.st).mono ?_
  rintro e wz ⟨rfl, hz0⟩
  have HZ := hid (H4.out.call hz0)
  clear hz0
  obtain ⟨⟨p0, p1, p2, p3⟩, ⟨-, -, -, -⟩, ⟨v0, v1, v2, v3⟩, ⟨s0, s1, s2, s3⟩, hsz⟩ := HZ.out.cells
  have hsz2 : w.heap.size < wz.heap.size := by omega
  go_wp2_with fail
  refine bodyPost_ret (v := agS ⟨none, 0, 0, none, 0, 0, ⟨9, ⟨#[]⟩, [], []⟩⟩) (by simp [results, Tryz.results74, go_sem, p0, p1, p2, p3, s0, s1, s2, s3, v0, v1, v2, v3, hsz, hsz2, agS]) rfl ?_
  exact HZ.out.done _ _ _ _ HR.out
end Go.Proofs.YtmbelhdkaepohaaGreatDoor
