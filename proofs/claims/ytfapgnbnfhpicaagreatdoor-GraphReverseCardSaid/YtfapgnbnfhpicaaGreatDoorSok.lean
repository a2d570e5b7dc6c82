/- The reference's stmtOK. -/
import Derived.Test.YtfapgnbnfhpicaaGreatDoorLin
namespace Go.Proofs.YtfapgnbnfhpicaaGreatDoor
set_option maxRecDepth 20000
set_option linter.unusedVariables false
open Go.ChangeShapes Go.WideShapes Go.ChangeAt Go.RowKit

theorem Fb.four {w : World} {g t : Nat} {a b c d : Value} (h : Fb w g #[a, b, c, d] t) :
    w.cell? ⟨g, 0, none⟩ = some a ∧ w.cell? ⟨g, 1, none⟩ = some b ∧ w.cell? ⟨g, 2, none⟩ = some c ∧ w.cell? ⟨g, 3, none⟩ = some d :=
  ⟨h.cell 0, h.cell 1, h.cell 2, h.cell 3⟩
theorem below_trans_drewN {w w' : World} {q : Nat} (h : Below (w.drewN q).heap.size (w.drewN q) w') : Below w.heap.size w w' := (below_drewN (Below.refl w.heap.size w) q).trans h
set_option maxHeartbeats 1600000 in
theorem stmtOK_no (o : Int) (d : ByteArray) (A : Option Addr) (n c : Nat) (B : Option Addr) (m c2 : Nat) (t : Stm) (w : World) (h : StArg w o d A n B m t) (hn : namesB t.us 0 4 = false) :
    Calls Tryz.prog 94 #[.agg #[.int .i64 o, .string d, .slice A n c, .slice B m c2]] w fun e w' => e = .returned (.bool false) ∧ Below w.heap.size w w' := by
  obtain ⟨hU, hT, rfl, rfl, hd⟩ := h
  obtain ⟨o, d, us, ts⟩ := t
  have HU := hid (fun w' (hb : Below w.heap.size w w') => namesOK_any A n c us 0 4 w' (hU.below hb))
  have HB := hid (fun o => (Below.refl w.heap.size w).alloc (Nat.le_refl _) o)
  simp only at *
  have HN := hid hn
  have Hd := hid (show d.size ≤ maxLen by unfold maxLen; omega)
  have Hf := hid (Fb.new w #[.int .i64 o, .string d, .slice A n c, .slice B m c2] 68)
  clear hU hT hn
  go_enter Tryz.func94, Tryz.ntmps94
  go_wp2_with fail
  refine (refIsName_any d _ Hd.out).mono ?_
  rintro e w1 ⟨rfl, hb1⟩
  have Hf1 := hid (Hf.out.below hb1 (by rw [World.size_alloc]; omega))
  have HB1 := hid (below_step (HB.out _) hb1)
  have hlt1 : w.heap.size < w1.heap.size := Hf1.out.lt
  obtain ⟨k0, k1, k2, k3⟩ := Hf1.out.four
  clear hb1 Hf
  go_wp2_with fail
  go_quiet (fail)
  have HQ1 := hid (fun q => below_drewN HB1.out q)
  go_wp2_with (go_at_call 137; refine (HU.out _ (HQ1.out _)).mono ?_; rw [HN.out]; rintro e w2 ⟨rfl, hb2⟩; have HB2 := hid (below_step (HQ1.out _) hb2); clear hb2)
  go_ret
  exact ⟨rfl, HB2.out⟩
set_option maxHeartbeats 1600000 in
theorem stmtOK_no2 (o : Int) (d : ByteArray) (A : Option Addr) (n c : Nat) (B : Option Addr) (m c2 : Nat) (t : Stm) (w : World) (h : StArg w o d A n B m t) (hy : namesB t.us 0 4 = true) (hn : namesB t.ts 0 2 = false) :
    Calls Tryz.prog 94 #[.agg #[.int .i64 o, .string d, .slice A n c, .slice B m c2]] w fun e w' => e = .returned (.bool false) ∧ Below w.heap.size w w' := by
  obtain ⟨hU, hT, rfl, rfl, hd⟩ := h
  obtain ⟨o, d, us, ts⟩ := t
  have HU := hid (fun w' (hb : Below w.heap.size w w') => namesOK_any A n c us 0 4 w' (hU.below hb))
  have HT := hid (fun w' (hb : Below w.heap.size w w') => namesOK_any B m c2 ts 0 2 w' (hT.below hb))
  have HB := hid (fun o => (Below.refl w.heap.size w).alloc (Nat.le_refl _) o)
  simp only at *
  have HN := hid hn
  have HY := hid hy
  have Hd := hid (show d.size ≤ maxLen by unfold maxLen; omega)
  have Hf := hid (Fb.new w #[.int .i64 o, .string d, .slice A n c, .slice B m c2] 68)
  clear hU hT hn hy
  go_enter Tryz.func94, Tryz.ntmps94
  go_wp2_with fail
  refine (refIsName_any d _ Hd.out).mono ?_
  rintro e w1 ⟨rfl, hb1⟩
  have Hf1 := hid (Hf.out.below hb1 (by rw [World.size_alloc]; omega))
  have HB1 := hid (below_step (HB.out _) hb1)
  have hlt1 : w.heap.size < w1.heap.size := Hf1.out.lt
  obtain ⟨k0, k1, k2, k3⟩ := Hf1.out.four
  clear hb1 Hf
  go_wp2_with fail
  go_quiet (fail)
  have HQ1 := hid (fun q => below_drewN HB1.out q)
  go_wp2_with fail
  refine (HU.out _ (HQ1.out _)).mono ?_
  rw [HY.out]
  rintro e w2 ⟨rfl, hb2⟩
  have Hf2 := hid (Hf1.out.below (below_trans_drewN hb2) Hf1.out.lt)
  have HB2 := hid (below_step (HQ1.out _) hb2)
  obtain ⟨j0, j1, j2, j3⟩ := Hf2.out.four
  clear hb2
  go_wp2_with fail
  refine (HT.out _ HB2.out).mono ?_
  rw [HN.out]
  rintro e w3 ⟨rfl, hb3⟩
  have HB3 := hid (below_step HB2.out hb3)
  clear hb3
  go_wp2
  go_ret
  exact ⟨rfl, HB3.out⟩
end Go.Proofs.YtfapgnbnfhpicaaGreatDoor
