/- Statements, blocks, functions and programs on the two machines; what the package parses is what the reference parses. Plain mathematics. -/
import Derived.Test.YtmbelhdkaepohaaGreatDoorPmq
namespace Go.Proofs.YtmbelhdkaepohaaGreatDoor
set_option maxRecDepth 20000
set_option linter.unusedVariables false
set_option linter.unusedSimpArgs false
open Go.ChangeShapes Go.WideShapes Go.ChangeAt Go.RowKit

theorem eqB_comm (a b : ByteArray) : eqB a b = eqB b a := by unfold eqB; exact Bool.beq_comm
theorem nameB_kw {k : ByteArray} (h : kwB k = true) : nameB k = false := by unfold nameB; rw [h]; simp
theorem kw_list : ∀ k ∈ [kwUse, kwCall, kwSource, kwSink, kwSanitize, kwGoto, kwBranch, kwReturn, kwFunc, kwBlock, kwEnd], k ≠ kwEq ∧ k ≠ noB ∧ nameB k = false := by
  intro k hk
  simp only [List.mem_cons, List.not_mem_nil, or_false] at hk
  rcases hk with rfl | rfl | rfl | rfl | rfl | rfl | rfl | rfl | rfl | rfl | rfl <;>
    exact ⟨ne_of_data (by decide), ne_of_data (by decide), nameB_kw (by unfold kwB; simp only [toList_data]; decide)⟩
theorem kwu : kwUse ≠ kwEq ∧ kwUse ≠ noB ∧ nameB kwUse = false := kw_list _ (by simp)
theorem kwc3 : kwCall ≠ kwEq ∧ kwCall ≠ noB ∧ nameB kwCall = false := kw_list _ (by simp)
theorem kws4 : kwSource ≠ kwEq ∧ kwSource ≠ noB ∧ nameB kwSource = false := kw_list _ (by simp)
theorem kws5 : kwSink ≠ kwEq ∧ kwSink ≠ noB ∧ nameB kwSink = false := kw_list _ (by simp)
theorem kws6 : kwSanitize ≠ kwEq ∧ kwSanitize ≠ noB ∧ nameB kwSanitize = false := kw_list _ (by simp)
theorem kwg7 : kwGoto ≠ kwEq ∧ kwGoto ≠ noB ∧ nameB kwGoto = false := kw_list _ (by simp)
theorem kwb8 : kwBranch ≠ kwEq ∧ kwBranch ≠ noB ∧ nameB kwBranch = false := kw_list _ (by simp)
theorem kwr9 : kwReturn ≠ kwEq ∧ kwReturn ≠ noB ∧ nameB kwReturn = false := kw_list _ (by simp)
theorem kwf : kwFunc ≠ kwEq ∧ kwFunc ≠ noB ∧ nameB kwFunc = false := kw_list _ (by simp)
theorem kwbl : kwBlock ≠ kwEq ∧ kwBlock ≠ noB ∧ nameB kwBlock = false := kw_list _ (by simp)
theorem kwen : kwEnd ≠ kwEq ∧ kwEnd ≠ noB ∧ nameB kwEnd = false := kw_list _ (by simp)
theorem opW_use : opW kwUse = 2 := by unfold opW; rw [kwu.2.2]; unfold eqB; simp only [toList_data]; rfl
theorem opW_call : opW kwCall = 3 := by unfold opW; rw [kwc3.2.2]; unfold eqB; simp only [toList_data]; rfl
theorem opW_source : opW kwSource = 4 := by unfold opW; rw [kws4.2.2]; unfold eqB; simp only [toList_data]; rfl
theorem opW_sink : opW kwSink = 5 := by unfold opW; rw [kws5.2.2]; unfold eqB; simp only [toList_data]; rfl
theorem opW_sanitize : opW kwSanitize = 6 := by unfold opW; rw [kws6.2.2]; unfold eqB; simp only [toList_data]; rfl
theorem opW_goto : opW kwGoto = 7 := by unfold opW; rw [kwg7.2.2]; unfold eqB; simp only [toList_data]; rfl
theorem opW_branch : opW kwBranch = 8 := by unfold opW; rw [kwb8.2.2]; unfold eqB; simp only [toList_data]; rfl
theorem opW_return : opW kwReturn = 9 := by unfold opW; rw [kwr9.2.2]; unfold eqB; simp only [toList_data]; rfl
theorem opW_no : opW noB = 0 := by unfold opW; rw [nameB_no]; unfold eqB; simp only [toList_data]; rfl
theorem opW_name {x : ByteArray} (h : nameB x = true) : opW x = 1 := by unfold opW; rw [if_pos h]

theorem begS_eq (x : ByteArray) : begS x = (eqB x kwUse || eqB x kwCall || eqB x kwSource || eqB x kwSink || eqB x kwSanitize || eqB x kwGoto || eqB x kwBranch || eqB x kwReturn || nameB x) := by
  unfold begS opW
  rw [eqB_comm x kwUse, eqB_comm x kwCall, eqB_comm x kwSource, eqB_comm x kwSink, eqB_comm x kwSanitize, eqB_comm x kwGoto, eqB_comm x kwBranch, eqB_comm x kwReturn]
  generalize eqB kwUse x = a2
  generalize eqB kwCall x = a3
  generalize eqB kwSource x = a4
  generalize eqB kwSink x = a5
  generalize eqB kwSanitize x = a6
  generalize eqB kwGoto x = a7
  generalize eqB kwBranch x = a8
  generalize eqB kwReturn x = a9
  generalize nameB x = a1
  cases a1 <;> cases a2 <;> cases a3 <;> cases a4 <;> cases a5 <;> cases a6 <;> cases a7 <;> cases a8 <;> cases a9 <;> rfl
theorem sim_begS (d : Ds) (r : Rs) (h : Sim d r) : begS (nxt d.l).text = begR r := by
  unfold begR
  rw [begS_eq, sim_isK h kwu.1 kwu.2.1, sim_isK h kwc3.1 kwc3.2.1, sim_isK h kws4.1 kws4.2.1, sim_isK h kws5.1 kws5.2.1, sim_isK h kws6.1 kws6.2.1, sim_isK h kwg7.1 kwg7.2.1, sim_isK h kwb8.1 kwb8.2.1, sim_isK h kwr9.1 kwr9.2.1, sim_isN h]

theorem bad_names {r : Rs} (h : r.e ≠ 0) (n : Nat) : namesR n r = ([], r) := by
  have hn : isN r = false := by unfold isN; simp [h]
  unfold namesR
  cases n <;> (unfold namesL; rw [hn]; rfl)
theorem bad_end {r : Rs} (h : r.e ≠ 0) : endR r = r := by
  unfold endR isD failR
  simp [h]
theorem sim_e {d : Ds} {r : Rs} (h : Sim d r) : d.e = r.e := by cases h <;> rfl
theorem R2.then_end {α β : Type} {d : Ds} {p : α × Ds} {q : α × Rs} (h : R2 d p q) (mk : α → β) : R2 d (mk p.1, endS p.2) (mk q.1, endR q.2) := by
  have he := sim_end h.1
  exact ⟨he.1, fun h0 => ⟨(h.2 (he.2 h0)).1, by show mk p.1 = mk q.1; rw [(h.2 (he.2 h0)).2]⟩⟩
theorem sim_use {d : Ds} {r : Rs} (h : Sim d r) : R2 d (someS nameB nameS 4 d) ((nameR r).1 :: (namesR 3 (nameR r).2).1, (namesR 3 (nameR r).2).2) := by
  have h1 := sim_name h
  have hn := sim_isN h
  unfold someS
  cases hb : isN r with
  | true =>
    rw [hb] at hn
    have h2 := sim_names 3 _ _ h1.1
    have hl : listS nameB nameS 4 d = ((nameS d).1 :: (listS nameB nameS 3 (nameS d).2).1, (listS nameB nameS 3 (nameS d).2).2) := by
      conv => lhs; unfold listS
      rw [hn]; rfl
    rw [hl]
    exact ⟨h2.1, fun h0 => by
      obtain ⟨h3, h4⟩ := h2.2 h0
      obtain ⟨h5, h6⟩ := h1.2 h3
      exact ⟨h5, by show _ :: _ = _ :: _; rw [h6, h4]⟩⟩
  | false =>
    rw [hb] at hn
    have hl : listS nameB nameS 4 d = ([], d) := by unfold listS; rw [hn]; rfl
    have hf := sim_fail h (e := 4) (by omega)
    have hr : nameR r = (noB, failR 4 r) := by unfold nameR; rw [hb]; rfl
    rw [hl, hr]
    have he : (failR 4 r).e ≠ 0 := by rw [← sim_e hf.1]; exact hf.2
    show R2 d ([], failS 4 d) _
    simp only
    rw [bad_names he]
    exact ⟨hf.1, fun h0 => absurd h0 hf.2⟩
theorem sim_assign {d : Ds} {r : Rs} (h : Sim d r) (x : ByteArray) :
    R2 d ((⟨1, x, (listS nameB nameS 4 (wordS kwEq d)).1, []⟩ : Stm), endS (listS nameB nameS 4 (wordS kwEq d)).2)
      (if isD 2 r then ((⟨1, x, (namesR 4 (stepR r)).1, []⟩ : Stm), endR (namesR 4 (stepR r)).2) else (⟨1, x, [], []⟩, failR 4 r)) := by
  have h1 := sim_eq h
  cases hb : isD 2 r with
  | true =>
    rw [hb] at h1
    have h2 := sim_names 4 _ _ h1.1
    have h3 := h2.then_end (fun us => (⟨1, x, us, []⟩ : Stm))
    exact ⟨h3.1, fun h0 => ⟨h1.2 (h3.2 h0).1, (h3.2 h0).2⟩⟩
  | false =>
    rw [hb] at h1
    have hf := sim_fail h (e := 4) (by omega)
    have he : (failR 4 r).e ≠ 0 := by rw [← sim_e hf.1]; exact hf.2
    have h2 := sim_names 4 _ _ h1.1
    have h3 := h2.then_end (fun us => (⟨1, x, us, []⟩ : Stm))
    simp only [Bool.false_eq_true, if_false] at h1 h2 h3 ⊢
    rw [bad_names he] at h3
    simp only at h3
    rw [bad_end he] at h3
    exact ⟨h3.1, fun h0 => absurd (sim_e h3.1 ▸ h0) he⟩
theorem sim_op {d : Ds} {r : Rs} (h : Sim d r) (o : Int) (k : ByteArray) (hok : (o = 2 ∧ k = kwUse) ∨ (o = 3 ∧ k = kwCall) ∨ (o = 4 ∧ k = kwSource) ∨ (o = 5 ∧ k = kwSink) ∨ (o = 6 ∧ k = kwSanitize) ∨ (o = 7 ∧ k = kwGoto) ∨ (o = 8 ∧ k = kwBranch) ∨ (o = 9 ∧ k = kwReturn)) :
    R2 d ((opS o k d).1, endS (opS o k d).2) (opR k r) := by
  have h1 := sim_name h
  rcases hok with ⟨rfl, rfl⟩ | ⟨rfl, rfl⟩ | ⟨rfl, rfl⟩ | ⟨rfl, rfl⟩ | ⟨rfl, rfl⟩ | ⟨rfl, rfl⟩ | ⟨rfl, rfl⟩ | ⟨rfl, rfl⟩
  · have e : opR kwUse r = (⟨2, noB, (nameR r).1 :: (namesR 3 (nameR r).2).1, []⟩, endR (namesR 3 (nameR r).2).2) := by unfold opR eqB; simp only [toList_data]; rfl
    rw [e]
    exact (sim_use h).then_end (fun us => (⟨2, noB, us, []⟩ : Stm))
  · have e : opR kwCall r = (⟨3, noB, [], [(nameR r).1]⟩, endR (nameR r).2) := by unfold opR eqB; simp only [toList_data]; rfl
    rw [e]
    exact h1.then_end (fun x => (⟨3, noB, [], [x]⟩ : Stm))
  · have e : opR kwSource r = (⟨4, (nameR r).1, [], []⟩, endR (nameR r).2) := by unfold opR eqB; simp only [toList_data]; rfl
    rw [e]
    exact h1.then_end (fun x => (⟨4, x, [], []⟩ : Stm))
  · have e : opR kwSink r = (⟨5, noB, [(nameR r).1], []⟩, endR (nameR r).2) := by unfold opR eqB; simp only [toList_data]; rfl
    rw [e]
    exact h1.then_end (fun x => (⟨5, noB, [x], []⟩ : Stm))
  · have e : opR kwSanitize r = (⟨6, (nameR r).1, [], []⟩, endR (nameR r).2) := by unfold opR eqB; simp only [toList_data]; rfl
    rw [e]
    exact h1.then_end (fun x => (⟨6, x, [], []⟩ : Stm))
  · have e : opR kwGoto r = (⟨7, noB, [], [(nameR r).1]⟩, endR (nameR r).2) := by unfold opR eqB; simp only [toList_data]; rfl
    rw [e]
    exact h1.then_end (fun x => (⟨7, noB, [], [x]⟩ : Stm))
  · have e : opR kwBranch r = (⟨8, noB, [(nameR r).1], [(nameR (nameR r).2).1, (nameR (nameR (nameR r).2).2).1]⟩, endR (nameR (nameR (nameR r).2).2).2) := by unfold opR eqB; simp only [toList_data]; rfl
    rw [e]
    have h2 := sim_name h1.1
    have h3 := sim_name h2.1
    have h4 := sim_end h3.1
    exact ⟨h4.1, fun h0 => by
      obtain ⟨a1, a2⟩ := h3.2 (h4.2 h0)
      obtain ⟨b1, b2⟩ := h2.2 a1
      obtain ⟨c1, c2⟩ := h1.2 b1
      refine ⟨c1, ?_⟩
      show (⟨8, noB, [(nameS d).1], [(nameS (nameS d).2).1, (nameS (nameS (nameS d).2).2).1]⟩ : Stm) = _
      rw [a2, b2, c2]⟩
  · have e : opR kwReturn r = (⟨9, noB, [], []⟩, endR r) := by unfold opR eqB; simp only [toList_data]; rfl
    rw [e]
    have h4 := sim_end h
    exact ⟨h4.1, fun h0 => ⟨h4.2 h0, rfl⟩⟩
theorem opR_no (r : Rs) : opR noB r = (if isD 2 (nameR r).2 then (⟨1, (nameR r).1, (namesR 4 (stepR (nameR r).2)).1, []⟩, endR (namesR 4 (stepR (nameR r).2)).2) else (⟨1, (nameR r).1, [], []⟩, failR 4 (nameR r).2)) := by
  unfold opR
  rw [eqB_no2 kwu.2.1, eqB_no2 kwc3.2.1, eqB_no2 kws4.2.1, eqB_no2 kws5.2.1, eqB_no2 kws6.2.1, eqB_no2 kwg7.2.1, eqB_no2 kwb8.2.1, eqB_no2 kwr9.2.1]
  rfl
theorem sim_stmt (d : Ds) (r : Rs) (h : Sim d r) (hb : begR r = true) : R2 d (stmtS d) (stmtR r) := by
  have hbs := sim_begS d r h
  rw [hb] at hbs
  have hN := sim_isN h
  have hK : ∀ k, k ≠ kwEq → k ≠ noB → eqB (nxt d.l).text k = isK k r := fun k h1 h2 => sim_isK h h1 h2
  unfold stmtS stmtR
  rw [hbs]
  cases hn : isN r with
  | true =>
    rw [hn] at hN
    have h1 := sim_name h
    have e1 : nameS d = ((nxt d.l).text, ⟨d.l.tail, d.line, d.col, d.e⟩) := by unfold nameS takeS; rw [hN]; rfl
    rw [e1] at h1
    have h2 := sim_assign h1.1 (nxt d.l).text
    show R2 d ((opS (opW (nxt d.l).text) (nxt d.l).text _).1, endS (opS (opW (nxt d.l).text) (nxt d.l).text _).2) (opR noB r)
    rw [opW_name hN, opR_no]
    refine ⟨?_, ?_⟩
    · have := h2.1
      revert this
      cases isD 2 (nameR r).2 <;> exact fun h => h
    · intro h0
      obtain ⟨a, b⟩ := h2.2 h0
      obtain ⟨c, d'⟩ := h1.2 a
      refine ⟨c, ?_⟩
      have d'' : (nxt d.l).text = (nameR r).1 := d'
      show (⟨1, (nxt d.l).text, _, []⟩ : Stm) = _
      rw [← d'']
      have b' := b
      revert b'
      cases isD 2 (nameR r).2 <;> exact fun h => h
  | false =>
    rw [hn] at hN
    have hkw : ∃ o k, ((o = 2 ∧ k = kwUse) ∨ (o = 3 ∧ k = kwCall) ∨ (o = 4 ∧ k = kwSource) ∨ (o = 5 ∧ k = kwSink) ∨ (o = 6 ∧ k = kwSanitize) ∨ (o = 7 ∧ k = kwGoto) ∨ (o = 8 ∧ k = kwBranch) ∨ (o = (9 : Int) ∧ k = kwReturn)) ∧ (nxt d.l).text = k ∧ opW k = o ∧ isK k r = true := by
      unfold begR at hb
      rw [hn] at hb
      simp only [Bool.or_false, Bool.or_eq_true] at hb
      rcases hb with ((((((hb | hb) | hb) | hb) | hb) | hb) | hb) | hb
      · exact ⟨2, kwUse, by simp, eqB_iff.1 (by rw [hK _ kwu.1 kwu.2.1]; exact hb), opW_use, hb⟩
      · exact ⟨3, kwCall, by simp, eqB_iff.1 (by rw [hK _ kwc3.1 kwc3.2.1]; exact hb), opW_call, hb⟩
      · exact ⟨4, kwSource, by simp, eqB_iff.1 (by rw [hK _ kws4.1 kws4.2.1]; exact hb), opW_source, hb⟩
      · exact ⟨5, kwSink, by simp, eqB_iff.1 (by rw [hK _ kws5.1 kws5.2.1]; exact hb), opW_sink, hb⟩
      · exact ⟨6, kwSanitize, by simp, eqB_iff.1 (by rw [hK _ kws6.1 kws6.2.1]; exact hb), opW_sanitize, hb⟩
      · exact ⟨7, kwGoto, by simp, eqB_iff.1 (by rw [hK _ kwg7.1 kwg7.2.1]; exact hb), opW_goto, hb⟩
      · exact ⟨8, kwBranch, by simp, eqB_iff.1 (by rw [hK _ kwb8.1 kwb8.2.1]; exact hb), opW_branch, hb⟩
      · exact ⟨9, kwReturn, by simp, eqB_iff.1 (by rw [hK _ kwr9.1 kwr9.2.1]; exact hb), opW_return, hb⟩
    obtain ⟨o, k, hok, ht, ho, hk⟩ := hkw
    have h1 := sim_take h (b := true) (fun _ => isK_ne hk)
    have ht2 : (nxt r.l).text = k := by
      have := hk
      unfold isK at this
      simp only [Bool.and_eq_true] at this
      exact eqB_iff.1 this.2
    have h2 := sim_op h1.1 o k hok
    show R2 d ((opS (opW (nxt d.l).text) (nxt d.l).text _).1, endS (opS (opW (nxt d.l).text) (nxt d.l).text _).2) (opR (nxt r.l).text (stepR r))
    rw [ht, ho, ht2]
    exact ⟨h2.1, fun h0 => ⟨(h1.2 (h2.2 h0).1).1, (h2.2 h0).2⟩⟩
theorem R1.trans {d p : Ds} {q : Rs} {α : Type} {x : α × Ds} {y : α × Rs} (h : R1 d p q) (h2 : R2 p x y) : R2 d x y := ⟨h2.1, fun h0 => ⟨h.2 (h2.2 h0).1, (h2.2 h0).2⟩⟩
theorem begS_no : begS noB = false := by unfold begS; rw [opW_no]; rfl
theorem begF_no : begF noB = false := eqB_no2 kwf.2.1
theorem begB_no : begB noB = false := eqB_no2 kwbl.2.1
theorem sim_block (d : Ds) (r : Rs) (h : Sim d r) : R2 d (blockS d) (blockR r) := by
  have h1 := sim_word h kwbl.1 kwbl.2.1
  have h2 := sim_name h1.1
  have h3 := sim_end h2.1
  have h4 := sim_some sim_begS sim_stmt begS_no 32 (by omega) h3.1
  unfold blockS blockR
  exact ⟨h4.1, fun h0 => by
    obtain ⟨a, b⟩ := h4.2 h0
    obtain ⟨c, e⟩ := h2.2 (h3.2 a)
    exact ⟨h1.2 c, by show (⟨_, _⟩ : Blk) = ⟨_, _⟩; rw [e, b]⟩⟩
theorem sim_func (d : Ds) (r : Rs) (h : Sim d r) : R2 d (funcS d) (funcR r) := by
  have h1 := sim_word h kwf.1 kwf.2.1
  have h2 := sim_name h1.1
  have h3 := sim_end h2.1
  have h4 := sim_some (b := begB) (b' := isK kwBlock) (fun d r h => sim_isK h kwbl.1 kwbl.2.1) (fun d r h _ => sim_block d r h) begB_no 16 (by omega) h3.1
  have h5 := sim_word h4.1 kwen.1 kwen.2.1
  have h6 := sim_end h5.1
  unfold funcS funcR
  exact ⟨h6.1, fun h0 => by
    obtain ⟨a, b⟩ := h4.2 (h5.2 (h6.2 h0))
    obtain ⟨c, e⟩ := h2.2 (h3.2 a)
    exact ⟨h1.2 c, by show (⟨_, _⟩ : Fnc) = ⟨_, _⟩; rw [e, b]⟩⟩
theorem sim_prog (d : Ds) (r : Rs) (h : Sim d r) : R2 d (progS d) (progR r) := by
  have h4 := sim_some (b := begF) (b' := isK kwFunc) (fun d r h => sim_isK h kwf.1 kwf.2.1) (fun d r h _ => sim_func d r h) begF_no 8 (by omega) h
  unfold progS progR
  obtain ⟨hs, hv⟩ := h4
  generalize someS begF funcS 8 d = p at *
  generalize listR (isK kwFunc) funcR 8 (needR (isK kwFunc) r) = q at *
  obtain ⟨p1, p2⟩ := p
  obtain ⟨q1, q2⟩ := q
  simp only at hs hv ⊢
  cases hs with
  | ok l hl =>
    cases l with
    | nil => exact ⟨.ok [] hl, hv⟩
    | cons t l => exact ⟨.bad (t :: l) 4 (by omega) hl, fun h0 => absurd h0 (by show ¬ (4 : Int) = 0; omega)⟩
  | bad l e he hl =>
    have h1 : (e == 0) = false := by simpa using he
    simp only [h1]
    exact ⟨.bad l e he hl, hv⟩
theorem parse_same (s : ByteArray) : parseS s = parseR s := by
  unfold parseS parseR
  cases h : (scanR s).2.2.2 == 0 with
  | false => rfl
  | true =>
    have h1 := sim_prog _ _ (Sim.ok (scanR s).1 (scan_tok s))
    simp only [if_true]
    revert h1
    generalize progS ⟨(scanR s).1, 0, 0, 0⟩ = p
    generalize progR ⟨(scanR s).1, 0⟩ = q
    obtain ⟨p1, p2⟩ := p
    obtain ⟨q1, q2⟩ := q
    rintro ⟨hs, hv⟩
    simp only at hs hv ⊢
    cases hs with
    | ok l hl => simp only [beq_self_eq_true, if_true]; rw [(hv rfl).2]
    | bad l e he hl =>
      have h2 : (e == 0) = false := by simpa using he
      simp only [h2]
      rfl
end Go.Proofs.YtmbelhdkaepohaaGreatDoor
