/- The reference's stmtOK, where all names are names. -/
import Derived.Test.YtfapgnbnfhpicaaGreatDoorSok
namespace Go.Proofs.YtfapgnbnfhpicaaGreatDoor
set_option maxRecDepth 20000
set_option linter.unusedVariables false
open Go.ChangeShapes Go.WideShapes Go.ChangeAt Go.RowKit

def okP (o : Int) (v e : Bool) (u t : Int) : Bool :=
  if o = 1 then v && t == 0
  else if o = 2 then e && (decide (1 ≤ u) && t == 0)
  else if o = 5 then e && (u == 1 && t == 0)
  else if o = 3 ∨ o = 7 then e && (u == 0 && t == 1)
  else if o = 4 ∨ o = 6 then v && (u == 0 && t == 0)
  else if o = 8 then e && (u == 1 && t == 2)
  else if o = 9 then e && (u == 0 && t == 0)
  else false
theorem empty_list (d : ByteArray) : (d.toList == ([] : List UInt8)) = decide (d = ⟨#[]⟩) := by
  rw [toList_data]
  by_cases h : d = ⟨#[]⟩
  · subst h; rfl
  · rw [decide_eq_false h, beq_eq_false_iff_ne]
    intro h2
    exact h (ext_list h2)
set_option maxHeartbeats 6400000 in
theorem stmtOK_yes (o : Int) (d : ByteArray) (A : Option Addr) (n c : Nat) (B : Option Addr) (m c2 : Nat) (t : Stm) (w : World) (h : StArg w o d A n B m t) (hy : namesB t.us 0 4 = true) (hn : namesB t.ts 0 2 = true) :
    Calls Tryz.prog 94 #[.agg #[.int .i64 o, .string d, .slice A n c, .slice B m c2]] w fun e w' => e = .returned (.bool (okP t.op (nameB t.d) (decide (t.d = ⟨#[]⟩)) n m)) ∧ Below w.heap.size w w' := by
  obtain ⟨hU, hT, rfl, rfl, hd⟩ := h
  obtain ⟨o, d, us, ts⟩ := t
  have HU := hid (fun w' (hb : Below w.heap.size w w') => namesOK_any A n c us 0 4 w' (hU.below hb))
  have HT := hid (fun w' (hb : Below w.heap.size w w') => namesOK_any B m c2 ts 0 2 w' (hT.below hb))
  have HB := hid (fun o => (Below.refl w.heap.size w).alloc (Nat.le_refl _) o)
  simp only at *
  have HN := hid hn
  have HY := hid hy
  have Hd := hid (show d.size ≤ maxLen by unfold maxLen; omega)
  have Hf := hid (Fb.new w #[.int .i64 o, .string d, .slice A n c, .slice B m c2] 68)
  clear hU hT hn hy
  go_enter Tryz.func94, Tryz.ntmps94
  go_wp2_with fail
  refine (refIsName_any d _ Hd.out).mono ?_
  rintro e w1 ⟨rfl, hb1⟩
  have Hf1 := hid (Hf.out.below hb1 (by rw [World.size_alloc]; omega))
  have HB1 := hid (below_step (HB.out _) hb1)
  have hlt1 : w.heap.size < w1.heap.size := Hf1.out.lt
  obtain ⟨k0, k1, k2, k3⟩ := Hf1.out.four
  clear hb1 Hf
  go_wp2_with fail
  go_quiet (fail)
  have HQ1 := hid (fun q => below_drewN HB1.out q)
  go_wp2_with fail
  refine (HU.out _ (HQ1.out _)).mono ?_
  rw [HY.out]
  rintro e w2 ⟨rfl, hb2⟩
  have Hf2 := hid (Hf1.out.below (below_trans_drewN hb2) Hf1.out.lt)
  have HB2 := hid (below_step (HQ1.out _) hb2)
  obtain ⟨j0, j1, j2, j3⟩ := Hf2.out.four
  clear hb2
  go_wp2_with fail
  refine (HT.out _ HB2.out).mono ?_
  rw [HN.out]
  rintro e w3 ⟨rfl, hb3⟩
  have Hf3 := hid (Hf2.out.below hb3 Hf2.out.lt)
  have HB3 := hid (below_step HB2.out hb3)
  obtain ⟨i0, i1, i2, i3⟩ := Hf3.out.four
  have HQ3 := hid (fun q => below_drewN HB3.out q)
  clear hb3 HU HT HY HN HQ1 HB2 HB1 Hf1 Hf2 j0 j1 j2 j3 k0 k1 k2 k3
  generalize hv : nameB d = v at *
  have HV := hid hv
  clear hv
  have he1 : (d.toList == ([] : List UInt8)) = decide (d = ⟨#[]⟩) := empty_list d
  have he2 : (d.toList == (⟨#[]⟩ : ByteArray).toList) = decide (d = ⟨#[]⟩) := by rw [show ((⟨#[]⟩ : ByteArray).toList) = [] from toList_data _]; exact empty_list d
  generalize he : decide (d = ⟨#[]⟩) = ee at *
  have HE := hid he
  clear he
  by_cases h1 : o = 1
  · subst h1
    cases v <;> cases g2 : ((m : Int) == 0)
    all_goals
      go_wp2_with fail
      try go_quiet (fail)
      try go_wp2
      go_ret
      refine ⟨?_, by first | exact HB3.out | exact HQ3.out _⟩
      show Ending.returned (.bool _) = _
      rw [HV.out, HE.out]
      simp [okP, g2]
  by_cases h2 : o = 2
  · subst h2
    cases ee <;> cases g1 : decide ((1 : Int) ≤ (n : Int)) <;> cases g2 : ((m : Int) == 0)
    all_goals
      go_wp2_with fail
      try go_quiet (fail)
      try go_wp2
      go_ret
      refine ⟨?_, by first | exact HB3.out | exact HQ3.out _⟩
      show Ending.returned (.bool _) = _
      rw [HV.out, HE.out]
      simp [okP, g1, g2]
  by_cases h5 : o = 5
  · subst h5
    cases ee <;> cases g1 : ((n : Int) == 1) <;> cases g2 : ((m : Int) == 0)
    all_goals
      go_wp2_with fail
      try go_quiet (fail)
      try go_wp2
      go_ret
      refine ⟨?_, by first | exact HB3.out | exact HQ3.out _⟩
      show Ending.returned (.bool _) = _
      rw [HV.out, HE.out]
      simp [okP, g1, g2]
  by_cases h3 : o = 3
  · subst h3
    cases ee <;> cases g1 : ((n : Int) == 0) <;> cases g2 : ((m : Int) == 1)
    all_goals
      go_wp2_with fail
      try go_quiet (fail)
      try go_wp2
      go_ret
      refine ⟨?_, by first | exact HB3.out | exact HQ3.out _⟩
      show Ending.returned (.bool _) = _
      rw [HV.out, HE.out]
      simp [okP, g1, g2]
  by_cases h7 : o = 7
  · subst h7
    cases ee <;> cases g1 : ((n : Int) == 0) <;> cases g2 : ((m : Int) == 1)
    all_goals
      go_wp2_with fail
      try go_quiet (fail)
      try go_wp2
      go_ret
      refine ⟨?_, by first | exact HB3.out | exact HQ3.out _⟩
      show Ending.returned (.bool _) = _
      rw [HV.out, HE.out]
      simp [okP, g1, g2]
  by_cases h4 : o = 4
  · subst h4
    cases v <;> cases g1 : ((n : Int) == 0) <;> cases g2 : ((m : Int) == 0)
    all_goals
      go_wp2_with fail
      try go_quiet (fail)
      try go_wp2
      go_ret
      refine ⟨?_, by first | exact HB3.out | exact HQ3.out _⟩
      show Ending.returned (.bool _) = _
      rw [HV.out, HE.out]
      simp [okP, g1, g2]
  by_cases h6 : o = 6
  · subst h6
    cases v <;> cases g1 : ((n : Int) == 0) <;> cases g2 : ((m : Int) == 0)
    all_goals
      go_wp2_with fail
      try go_quiet (fail)
      try go_wp2
      go_ret
      refine ⟨?_, by first | exact HB3.out | exact HQ3.out _⟩
      show Ending.returned (.bool _) = _
      rw [HV.out, HE.out]
      simp [okP, g1, g2]
  by_cases h8 : o = 8
  · subst h8
    cases ee <;> cases g1 : ((n : Int) == 1) <;> cases g2 : ((m : Int) == 2)
    all_goals
      go_wp2_with fail
      try go_quiet (fail)
      try go_wp2
      go_ret
      refine ⟨?_, by first | exact HB3.out | exact HQ3.out _⟩
      show Ending.returned (.bool _) = _
      rw [HV.out, HE.out]
      simp [okP, g1, g2]
  by_cases h9 : o = 9
  · subst h9
    cases ee <;> cases g1 : ((n : Int) == 0) <;> cases g2 : ((m : Int) == 0)
    all_goals
      go_wp2_with fail
      try go_quiet (fail)
      try go_wp2
      go_ret
      refine ⟨?_, by first | exact HB3.out | exact HQ3.out _⟩
      show Ending.returned (.bool _) = _
      rw [HV.out, HE.out]
      simp [okP, g1, g2]
  have t1 : (o == 1) = false := by simp [h1]
  have t2 : (o == 2) = false := by simp [h2]
  have t3 : (o == 3) = false := by simp [h3]
  have t4 : (o == 4) = false := by simp [h4]
  have t5 : (o == 5) = false := by simp [h5]
  have t6 : (o == 6) = false := by simp [h6]
  have t7 : (o == 7) = false := by simp [h7]
  have t8 : (o == 8) = false := by simp [h8]
  have t9 : (o == 9) = false := by simp [h9]
  have HR := hid (show okP o v ee n m = false by simp [okP, h1, h2, h3, h4, h5, h6, h7, h8, h9])
  clear h1 h2 h3 h4 h5 h6 h7 h8 h9
  go_wp2
  go_ret
  exact ⟨by rw [HV.out, HE.out, HR.out]; rfl, HB3.out⟩
end Go.Proofs.YtfapgnbnfhpicaaGreatDoor
