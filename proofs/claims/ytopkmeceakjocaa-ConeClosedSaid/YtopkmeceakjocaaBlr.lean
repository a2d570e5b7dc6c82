/- Rows of bools: slices.Index and slices.Contains of true. -/
import Derived.Test.YtopkmeceakjocaaVrw
import Derived.Test.YtopkmeceakjocaaEq2
namespace Go.Proofs.Ytopkmeceakjocaa
set_option maxRecDepth 20000
set_option linter.unusedVariables false
set_option linter.unusedSimpArgs false
open Go.ChangeShapes Go.WideShapes Go.ChangeAt Go.RowKit

/-- A block that holds bools. -/
structure BRow (w : World) (g N : Nat) (bs : List Bool) : Prop where
  fb : Fb w g (bs.map Value.bool).toArray 4
  len : bs.length = N
theorem BRow.below {w w' : World} {g N : Nat} {bs : List Bool} (h : BRow w g N bs) (hb : Below w.heap.size w w') : BRow w' g N bs := ⟨h.fb.below hb h.fb.lt, h.len⟩
theorem BRow.cell {w : World} {g N : Nat} {bs : List Bool} (h : BRow w g N bs) {k : Nat} {b : Bool} (hk : bs[k]? = some b) : w.cell? ⟨g, k, none⟩ = some (.bool b) := by
  rw [h.fb.cell]
  simp [hk]
theorem BRow.put {w : World} {g N : Nat} {bs : List Bool} (h : BRow w g N bs) (k : Nat) (b : Bool) : BRow (w.setCell ⟨g, k, none⟩ (.bool b)) g N (bs.set k b) := by
  refine ⟨?_, by rw [List.length_set]; exact h.len⟩
  have h1 := h.fb.set k (.bool b)
  have h2 : ((bs.map Value.bool).toArray.setIfInBounds k (.bool b)) = ((bs.set k b).map Value.bool).toArray := by
    rw [List.map_set]; simp
  rw [← h2]
  exact h1
theorem BRow.not_word {w : World} {g N : Nat} {bs : List Bool} (h : BRow w g N bs) {p : Addr} {x : Int} (hp : w.cell? p = some (.int .u64 x)) : p.block ≠ g := by
  rintro rfl
  have h1 := h.fb
  unfold Fb at h1
  unfold World.cell? at hp
  rw [h1] at hp
  simp only [] at hp
  split at hp
  · simp at hp
  · simp at hp
theorem BRow.arg_far {w : World} {g N : Nat} {bs : List Bool} (h : BRow w g N bs) {A : Option Addr} {n : Nat} {ws : List Nat} (ha : Arg w A n ws) : ws = [] ∨ ∀ ad, A = some ad → ad.block ≠ g := by
  cases ws with
  | nil => exact .inl rfl
  | cons x ws =>
    refine .inr fun ad e => ?_
    obtain ⟨ad', e', _, hc⟩ := ha.lies.cell (j := 0) (u := .int .u64 x) rfl
    rw [e] at e'
    obtain rfl := Option.some.inj e'
    have := h.not_word hc
    rwa [add_block] at this
/-- Writing bools leaves rows of sets alone. -/
theorem VRow.bools {w : World} {g N g' N' : Nat} {l : List ZH} {bs : List Bool} (h : VRow w g N l) (h' : BRow w g' N' bs) (hne : g ≠ g') (j : Nat) (u : Value) : VRow (w.setCell ⟨g', j, none⟩ u) g N l :=
  ⟨h.fb.far hne u, h.len, fun z hz => (h.all z hz).far (h'.arg_far (h.all z hz)) u⟩
theorem BRow.sets {w : World} {g N g' N' : Nat} {l : List ZH} {bs : List Bool} (h : BRow w g N bs) (hne : g ≠ g') (j : Nat) (u : Value) : BRow (w.setCell ⟨g', j, none⟩ u) g N bs := ⟨h.fb.far hne u, h.len⟩
theorem infoBool : (Try.prog.info? 4).map (fun i => (i.zero, i.size, i.bytes)) = some (some (.bool false), 1, 1) := by kernel_rfl
theorem run_mkbools (n : Nat) (hn : n ≤ 100000) (w : World) :
    (Instr.makeSlice 68 (.int .i64 (n : Int)) (.int .i64 (n : Int))).run Try.prog w = .ok (.slice (some ⟨w.heap.size, 0, none⟩) n n) (w.alloc (.cells ((List.replicate n false).map Value.bool).toArray 4)) := by
  obtain ⟨i, hi, hz0, hz1, hz2⟩ := info_parts infoBool
  have h := run_make (P := Try.prog) w 68 4 i (.bool false) Try.underlying68 hi hz0 .i64 .i64 n n (by omega) (by omega) (by rw [hz2]; omega) (by omega)
  rw [h, hz1]
  simp only [Int.toNat_natCast, Nat.mul_one]
  have e2 : madeCells (Value.bool false).cells n = ((List.replicate n false).map Value.bool).toArray := by
    apply Array.toList_inj.1
    rw [show (Value.bool false).cells = #[Value.bool false] from rfl, toList_madeCells_one]
    simp
  rw [e2]
theorem BRow.new (w : World) (N : Nat) : BRow (w.alloc (.cells ((List.replicate N false).map Value.bool).toArray 4)) w.heap.size N (List.replicate N false) := ⟨Fb.new w _ _, List.length_replicate⟩
set_option maxHeartbeats 1600000 in
theorem indexB_any (g N : Nat) (bs : List Bool) (w : World) (h : BRow w g N bs) (hN : N ≤ 100000) :
    Calls Try.prog 110 #[.slice (some ⟨g, 0, none⟩) N N, .bool true] w fun e w' => ∃ r : Int, e = .returned (.int .i64 r) ∧ decide (0 ≤ r) = bs.any id ∧ w = w' := by
  have HB := hid h
  clear h
  go_enter Try.func110, Try.ntmps110
  go_wp2_with fail
  go_loop [5, 8] (fun _ iv => ∃ k : Nat, k ≤ N ∧ iv = .int .i64 k ∧ Hid (∀ b ∈ bs.take k, (!b) = true)) (fun _ iv => N - (intOf iv).toNat)
  case atStart => exact ⟨0, by omega, rfl, hid (by simp)⟩
  case round =>
    obtain ⟨k, hk, rfl, hE⟩ := hrel
    by_cases hlt : k < N
    · obtain ⟨b, hb, hbm⟩ := get_at HB.out.len hlt
      have hc := HB.out.cell hb
      have hl := HB.out.fb.lt
      cases b with
      | true =>
        have Hr := hid (show decide (0 ≤ (k : Int)) = bs.any id by
          rw [List.any_eq_true.2 ⟨true, hbm, rfl⟩]; simp)
        clear hb hbm
        go_wp2_with fail
        go_ret
        exact ⟨k, rfl, Hr.out, rfl⟩
      | false =>
        have Hr := hid (all_take hE.out hb rfl)
        clear hb hbm
        go_wp2_with fail
        go_round
        case rel => exact ⟨k + 1, by omega, by go_num, Hr⟩
        case measure => simp [intOf]; omega
    · obtain rfl : k = N := by omega
      have Hr := hid (show decide ((0 : Int) ≤ -1) = bs.any id by
        have : bs.any id = false := List.any_eq_false.2 fun b hb => by
          have := hE.out b (by rw [List.take_of_length_le (by rw [HB.out.len]; exact Nat.le_refl _)]; exact hb)
          simpa using this
        rw [this]; rfl)
      go_wp2_with fail
      go_ret
      exact ⟨-1, rfl, Hr.out, rfl⟩
theorem containsB_any (g N : Nat) (bs : List Bool) (w : World) (h : BRow w g N bs) (hN : N ≤ 100000) :
    Calls Try.prog 91 #[.slice (some ⟨g, 0, none⟩) N N, .bool true] w fun e w' => e = .returned (.bool (bs.any id)) ∧ w = w' := by
  have HI := hid (indexB_any g N bs w h hN)
  clear h
  go_enter Try.func91, Try.ntmps91
  go_wp2_with fail
  refine HI.out.mono ?_
  rintro e w1 ⟨r, rfl, hr, rfl⟩
  have Hr := hid hr
  clear hr
  go_wp2_with fail
  go_ret
  exact ⟨ret_b Hr.out.symm, rfl⟩
end Go.Proofs.Ytopkmeceakjocaa
