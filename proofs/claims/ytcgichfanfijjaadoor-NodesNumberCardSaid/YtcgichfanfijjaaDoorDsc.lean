/- The package's Scan returns the tokens, or the first error, as the specification has it. -/
import Derived.Test.YtcgichfanfijjaaDoorRun
namespace Go.Proofs.YtcgichfanfijjaaDoor
set_option maxRecDepth 20000
set_option linter.unusedVariables false
open Go.ChangeShapes Go.WideShapes Go.ChangeAt Go.RowKit

/-- Tokens, as an argument: where they lie and how many they are. -/
structure TArg (w : World) (A : Option Addr) (n : Nat) (l : List Tok) : Prop where
  lies : At w w.heap.size A (tcells l)
  len : l.length = n
theorem TArg.below {w w' : World} {A : Option Addr} {n : Nat} {l : List Tok} (h : TArg w A n l) (hb : Below w.heap.size w w') : TArg w' A n l := ⟨h.lies.below hb hb.size, h.len⟩
theorem TArg.alloc {w : World} {A : Option Addr} {n : Nat} {l : List Tok} (h : TArg w A n l) (o : Obj) : TArg (w.alloc o) A n l := h.below ((Below.refl _ _).alloc (Nat.le_refl _) o)
theorem TArg.nil (w : World) : TArg w none 0 [] := ⟨At.nil, rfl⟩
/-- What a scan returns: tokens, a position, an error. -/
def RetScan (r : Res) (w : World) (e : Ending) (w' : World) : Prop :=
  ∃ (A : Option Addr) (c : Nat), e = .returned (.tuple #[.slice A r.1.length c, .int .i64 (r.2.1 : Int), .int .i64 (r.2.2.1 : Int), .int .i64 r.2.2.2]) ∧ TArg w' A r.1.length r.1 ∧ Below w.heap.size w w'

set_option maxHeartbeats 1600000 in
theorem devScan_any (s : ByteArray) (w : World) (hs : s.size ≤ maxLen) : Calls Tryd.prog 65 #[.string s] w (RetScan (scanR s) w) := by
  by_cases hlt : s.size ≤ 4096
  · have hR : scanR s = scanL s 0 1 1 [] := by unfold scanR; rw [if_pos hlt]
    have HR := hid hR
    have h0 := hid (show Scn w w.heap.size s 0 1 0 (.slice none 0 0) [] (w.alloc (.cells #[.string s, .int .i64 0, .int .i64 1, .int .i64 0, .slice none 0 0] 143)) from
      ⟨Fb.new _ _ _, World.ownsRow_nil _ _ _ _, (Below.refl _ _).alloc (Nat.le_refl _) _, Nat.le_refl _⟩)
    clear hR
    unfold maxLen at hs
    go_enter Tryd.func65, Tryd.ntmps65
    go_wp2_with fail
    refine (run_any w.heap.size s w _ h0.out hlt).mono ?_
    rintro e w1 ⟨err, i, line, col, v, l, rfl, hS, hi, ⟨hc1, hc2⟩, hl, hcase⟩
    obtain ⟨⟨c0, c1, c2, c3, c4⟩, f0, f1, f2, f3, f4⟩ := Fb.five hS.1
    rcases hcase with ⟨he, hr⟩ | ⟨he, hr⟩
    · subst he
      have HS := hid hS
      have HR2 := hid (HR.out.trans hr)
      clear hr hS HR
      go_wp2_with fail
      obtain ⟨A, c, hv⟩ := own_any_slice HS.out.2.1
      subst hv
      refine bodyPost_ret (v := .tuple #[.slice A l.length c, .int .i64 0, .int .i64 0, .int .i64 0]) (by simp [results, Tryd.results65, go_sem]) rfl ?_
      rw [HR2.out]
      exact ⟨A, c, rfl, ⟨own_at HS.out.2.1, rfl⟩, HS.out.2.2.1⟩
    · have ht : (err != 0) = true := by simpa using he
      have HS := hid hS
      have HR2 := hid (HR.out.trans hr)
      have Hcol := hid (fun q => column_any w.heap.size s i line (i + 1 - col) v (w1.drewN q) (HS.out.drewN q).1 (by omega) (by omega))
      clear hr hS HR he
      have hcc : i + 1 - (i + 1 - col) = col := by omega
      rw [hcc] at Hcol
      clear hcc
      go_wp2_with fail
      go_quiet ((go_at_call 99; first | exact Calls.quiet_of (Hcol.out _)))
      go_wp2_with fail
      refine bodyPost_ret (v := .tuple #[.slice none 0 0, .int .i64 (line : Int), .int .i64 (col : Int), .int .i64 err]) (by simp [results, Tryd.results65, go_sem]) rfl ?_
      rw [HR2.out]
      exact ⟨none, 0, rfl, TArg.nil _, below_drewN HS.out.2.2.1 _⟩
  · have hR : scanR s = ([], 0, 0, 7) := by unfold scanR; rw [if_neg hlt]
    have HR := hid hR
    clear hR
    unfold maxLen at hs
    go_enter Tryd.func65, Tryd.ntmps65
    go_wp2_with fail
    refine bodyPost_ret (v := .tuple #[.slice none 0 0, .int .i64 0, .int .i64 0, .int .i64 7]) (by simp [results, Tryd.results65, go_sem]) rfl ?_
    rw [HR.out]
    exact ⟨none, 0, rfl, TArg.nil _, Below.refl _ _⟩
end Go.Proofs.YtcgichfanfijjaaDoor
