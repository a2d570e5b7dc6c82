/- Merged texts: what YtopkmeceakjocaaGreatEliminationReducesProof leans on. -/
import Derived.Deep.QuietTactic
import Derived.BigQuiet
import Derived.Lib.SmallJoins
import Derived.ShutString
import Derived.ChangeOld
import Derived.Test.YtopkmeceakjocaaGreatErdM0a
import Derived.Test.YtopkmeceakjocaaGreatErdM0
namespace Go.Proofs.YtopkmeceakjocaaGreat
set_option maxRecDepth 20000
set_option linter.unusedVariables false
set_option linter.unusedSimpArgs false
open Go.ChangeShapes Go.WideShapes Go.ChangeAt Go.RowKit
def hasI (l : List Int) (n : Int) : Bool := l.contains n
theorem hasI_hit {l : List Int} {k : Nat} {a : Int} (h : l[k]? = some a) : hasI l a = true := by
 unfold hasI; simp; exact List.mem_of_getElem? h
theorem hasI_none {l : List Int} {n : Int} {m : Nat} (hl : l.length = m) (h : ∀ j x, j < m → l[j]? = some x → x ≠ n) : hasI l n = false := by
 unfold hasI
 simp only [List.contains_eq_mem, decide_eq_false_iff_not]
 intro hm
 obtain ⟨j, hj⟩ := List.getElem?_of_mem hm
 exact h j n (by have := (List.getElem?_eq_some_iff.1 hj).1; omega) hj rfl
theorem hasI_step {l : List Int} {k : Nat} {a n : Int} (h : ∀ j x, j < k → l[j]? = some x → x ≠ n) (ha : l[k]? = some a) (e : a ≠ n) : ∀ j x, j < k + 1 → l[j]? = some x → x ≠ n := by
 intro j x hj hx
 by_cases e2 : j = k
 · subst e2; rw [ha] at hx; exact Option.some.inj hx ▸ e
 · exact h j x (by omega) hx
set_option maxHeartbeats 1600000 in
theorem has_any (x : RH) (v : Int) (ex : List (Option Nat)) (w : World) (h : RHok w ex x) :
 Calls Tryz.prog 35 #[.slice x.A x.n x.c, .int .i64 v] w fun e w' => e = .returned (.bool (hasI x.l v)) ∧ w = w' := by
 have hn := h.few
 have HX := hid h
 have HL := hid h.len
 clear h
 obtain ⟨A, n, c, l⟩ := x
 simp only at *
 go_enter Tryz.func35, Tryz.ntmps35
 go_wp2_with fail
 go_loop [5] (fun iv => ∃ (k : Nat), k ≤ n ∧ iv = .int .i64 k ∧ Hid (∀ j x, j < k → l[j]? = some x → x ≠ v)) (fun iv => n - (intOf iv).toNat)
 case atStart => exact ⟨0, by omega, rfl, hid (fun j x h => by omega)⟩
 case round =>
  obtain ⟨k, hk, rfl, hE⟩ := hrel
  by_cases hlt : k < n
  · obtain ⟨a, ha, -⟩ := get_at HL.out hlt
    obtain ⟨ad, hA, had, hc⟩ := HX.out.cell ha
    simp only at hA
    subst hA
    have Ha := hid ha
    clear ha
    by_cases h1 : a = v
    · subst h1
      have Hr := hid (hasI_hit Ha.out)
      clear hE
      go_wp2_with fail
      go_ret
      exact ⟨ret_b Hr.out, rfl⟩
    · have Hr := hid (hasI_step hE.out Ha.out h1)
      have t1 : (a == v) = false := by simpa using h1
      clear hE h1
      go_wp2_with fail
      go_round
      case rel => exact ⟨k + 1, by omega, by go_num, Hr⟩
      case measure => simp [intOf]; omega
  · obtain rfl : k = n := by omega
    have Hr := hid (hasI_none HL.out hE.out)
    clear hE
    go_wp2_with fail
    go_ret
    exact ⟨ret_b Hr.out, rfl⟩
end Go.Proofs.YtopkmeceakjocaaGreat
namespace Go.Proofs.YtopkmeceakjocaaGreat
set_option maxRecDepth 20000
open Go.ChangeShapes Go.WideShapes Go.ChangeAt Go.RowKit
theorem new_any (A : Option Addr) (n c : Nat) (w : World) :
 Calls Tryz.prog 8 #[.slice A n c] w fun e w' => e = .returned (.pointer (some ⟨w.heap.size, 0, none⟩)) ∧ w.alloc (.cells #[.slice A n c, .int .i64 0] 80) = w' := by
 go_enter Tryz.func8, Tryz.ntmps8
 go_wp2
 go_ret
 exact ⟨rfl, rfl⟩
theorem tape_new {w : World} {A : Option Addr} {n c : Nat} {zs : List Int} (h : IArg w A n zs) (hn : n ≤ maxLen) : Tape (w.alloc (.cells #[.slice A n c, .int .i64 0] 80)) w.heap.size :=
 ⟨A, n, c, 0, zs, heap_alloc_new w _, h.len, hn, Nat.zero_le _, h.lies.keep (fun p hp => World.cell?_alloc_lt w _ p hp) (Nat.le_refl _)⟩
end Go.Proofs.YtopkmeceakjocaaGreat
namespace Go.Proofs.YtopkmeceakjocaaGreat
set_option maxRecDepth 10000
open Go.ChangeShapes Go.WideShapes Go.ChangeAt Go.RowKit Go.Joins
theorem cells3 : Tryz.prog.cellsOf 3 = 1 := by kernel_rfl
theorem cell_in {w : World} {a : Addr} {v : Value} (h : w.cell? a = some v) : a.block < w.heap.size := by
 rcases Nat.lt_or_ge a.block w.heap.size with hlt | hge
 · exact hlt
 · unfold World.cell? at h; rw [Array.getElem?_eq_none hge] at h; cases h
theorem open_list {H : Type} {enc : TypeId × Value → H} {W : World} {b0 base : Nat} {spare : Nat → Bool} {held : Bool} {v : Value} {d : DataW H} {p : List MemPlace}
 (hv : Value.okWide Tryz.prog W .any b0 22 v) (h : DataW.Trod enc Tryz.prog W base spare held 22 v d p) :
 ∃ (A : Option Addr) (n c : Nat) (l : List Int), v = .slice A n c ∧ IArg W A n l ∧ n ≤ maxLen := by
 obtain ⟨A, n, c, rfl⟩ := okWide_slice Tryz.underlying22 hv
 obtain ⟨fuel, hf⟩ := h
 rcases open_ints Tryz.underlying22 Tryz.underlying3 cells3 hf with ⟨hcs, _⟩ | ⟨x, l, c', zs, hcs, _, hl, hm, hz, _, hcell, hwz⟩
 · simp [Value.cells] at hcs
   obtain ⟨rfl, rfl, rfl⟩ := hcs
   exact ⟨none, 0, 0, [], rfl, ⟨.inl rfl, rfl⟩, by simp [maxLen]⟩
 · simp [Value.cells] at hcs
   obtain ⟨rfl, rfl, rfl⟩ := hcs
   have hle : n ≤ zs.length := by rw [hz]; split <;> omega
   refine ⟨some x, n, c, zs.take n, rfl, ⟨?_, by rw [List.length_take]; omega⟩, Nat.le_trans hl hm⟩
   by_cases h0 : n = 0
   · subst h0; exact .inl rfl
   · refine .inr ⟨x, rfl, ?_, fun j u hu => ?_⟩
     · have := cell_in (hcell 0 (by omega)); rwa [add_block] at this
     · unfold ints at hu
       rw [List.getElem?_map] at hu
       have hj : j < n := by
        rcases Nat.lt_or_ge j n with h | h
        · exact h
        · rw [List.getElem?_eq_none (by rw [List.length_take]; omega)] at hu; simp at hu
       rw [List.getElem?_take, if_pos hj, List.getElem?_eq_getElem (by omega)] at hu
       have := hcell j (by omega)
       rw [List.getD_eq_getElem?_getD, List.getElem?_eq_getElem (by omega)] at this
       rw [this]; simpa using hu
end Go.Proofs.YtopkmeceakjocaaGreat
