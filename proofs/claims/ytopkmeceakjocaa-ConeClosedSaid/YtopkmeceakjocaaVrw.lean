/- A row of sets that is made and written. -/
import Derived.Test.YtopkmeceakjocaaWbm
import Derived.Test.YtopkmeceakjocaaEq4
import Derived.Test.YtopkmeceakjocaaVar
import Derived.Deep.DeepMust
namespace Go.Proofs.Ytopkmeceakjocaa
set_option maxRecDepth 20000
set_option linter.unusedVariables false
set_option linter.unusedSimpArgs false
open Go.ChangeShapes Go.WideShapes Go.ChangeAt Go.RowKit

def z0 : ZH := ⟨0, none, 0, 0, []⟩
theorem made_sets (n : Nat) : madeCells (Value.agg #[.int .i64 0, .slice none 0 0]).cells (n * 2) = ((List.replicate n z0).flatMap ZH.cs).toArray := by
  rw [show (Value.agg #[.int .i64 0, .slice none 0 0]).cells = #[Value.int .i64 0, .slice none 0 0] from rfl]
  have hl := flat_len ZH.cs_len (List.replicate n z0)
  rw [List.length_replicate] at hl
  unfold madeCells
  apply Array.ext
  · rw [Array.size_map, Array.size_range, List.size_toArray, hl]
  · intro j h1 h2
    rw [Array.getElem_map, Array.getElem_range, List.getElem_toArray]
    show (#[Value.int .i64 0, .slice none 0 0] : Array Value)[j % 2]! = _
    rw [List.size_toArray, hl] at h2
    have hi : (List.replicate n z0)[j / 2]? = some z0 := List.getElem?_replicate_of_lt (by omega)
    have hc := flat_cell ZH.cs_len hi (j := j % 2) (Nat.mod_lt _ (by decide))
    have e : j / 2 * 2 + j % 2 = j := by omega
    rw [e] at hc
    have hb : ((List.replicate n z0).flatMap ZH.cs)[j]? = some (((List.replicate n z0).flatMap ZH.cs)[j]'(by rw [hl]; exact h2)) := List.getElem?_eq_getElem _
    rw [hb] at hc
    have h4 : j % 2 < 2 := Nat.mod_lt _ (by decide)
    generalize j % 2 = i at h4 hc ⊢
    match i, h4 with
    | 0, _ => exact (Option.some.inj hc).symm
    | 1, _ => exact (Option.some.inj hc).symm
theorem infoSet : (Try.prog.info? 50).map (fun i => (i.zero, i.size, i.bytes)) = some (some (.agg #[.int .i64 0, .slice none 0 0]), 2, 32) := by kernel_rfl
theorem run_mksets (n : Nat) (hn : n ≤ 100000) (w : World) :
    (Instr.makeSlice 25 (.int .i64 (n : Int)) (.int .i64 (n : Int))).run Try.prog w = .ok (.slice (some ⟨w.heap.size, 0, none⟩) n n) (w.alloc (.cells ((List.replicate n z0).flatMap ZH.cs).toArray 50)) := by
  obtain ⟨i, hi, hz0, hz1, hz2⟩ := info_parts infoSet
  have h := run_make (P := Try.prog) w 25 50 i (.agg #[.int .i64 0, .slice none 0 0]) Try.underlying25 hi hz0 .i64 .i64 n n (by omega) (by omega) (by rw [hz2]; omega) (by omega)
  rw [h, hz1]
  simp only [Int.toNat_natCast]
  rw [made_sets]
/-- A block that holds the cells of sets, and the words of them. -/
structure VRow (w : World) (g N : Nat) (l : List ZH) : Prop where
  fb : Fb w g (l.flatMap ZH.cs).toArray 50
  len : l.length = N
  all : ∀ z ∈ l, Arg w z.A z.n z.ws
theorem VRow.below {w w' : World} {g N : Nat} {l : List ZH} (h : VRow w g N l) (hb : Below w.heap.size w w') : VRow w' g N l := ⟨h.fb.below hb h.fb.lt, h.len, fun z hz => (h.all z hz).below hb⟩
theorem VRow.lt {w : World} {g N : Nat} {l : List ZH} (h : VRow w g N l) : g < w.heap.size := h.fb.lt
/-- No cell of such a row is a word. -/
theorem flat_no_word (l : List ZH) (j : Nat) (x : Int) : (l.flatMap ZH.cs)[j]? ≠ some (.int .u64 x) := by
  intro h
  have hl := flat_len ZH.cs_len l
  have hj : j < l.length * 2 := by
    have := (List.getElem?_eq_some_iff.1 h).1
    omega
  have hi : l[j / 2]? = some (l[j / 2]'(by omega)) := List.getElem?_eq_getElem _
  have hc := flat_cell ZH.cs_len hi (j := j % 2) (Nat.mod_lt _ (by decide))
  rw [show j / 2 * 2 + j % 2 = j by omega, h] at hc
  have h4 : j % 2 < 2 := Nat.mod_lt _ (by decide)
  generalize j % 2 = i at h4 hc
  match i, h4 with
  | 0, _ => simp [ZH.cs] at hc
  | 1, _ => simp [ZH.cs] at hc
theorem VRow.not_word {w : World} {g N : Nat} {l : List ZH} (h : VRow w g N l) {p : Addr} {x : Int} (hp : w.cell? p = some (.int .u64 x)) : p.block ≠ g := by
  rintro rfl
  have h1 := h.fb
  unfold Fb at h1
  unfold World.cell? at hp
  rw [h1] at hp
  simp only [] at hp
  split at hp
  · simp at hp
  · exact flat_no_word l _ x (by simpa using hp)
theorem VRow.arg_far {w : World} {g N : Nat} {l : List ZH} (h : VRow w g N l) {A : Option Addr} {n : Nat} {ws : List Nat} (ha : Arg w A n ws) : ws = [] ∨ ∀ ad, A = some ad → ad.block ≠ g := by
  cases ws with
  | nil => exact .inl rfl
  | cons x ws =>
    refine .inr fun ad e => ?_
    obtain ⟨ad', e', _, hc⟩ := ha.lies.cell (j := 0) (u := .int .u64 x) rfl
    rw [e] at e'
    obtain rfl := Option.some.inj e'
    have := h.not_word hc
    rwa [add_block] at this
/-- Writing into the row's block leaves all words alone. -/
theorem VRow.arg_set {w : World} {g N : Nat} {l : List ZH} (h : VRow w g N l) {A : Option Addr} {n : Nat} {ws : List Nat} (ha : Arg w A n ws) (j : Nat) (u : Value) : Arg (w.setCell ⟨g, j, none⟩ u) A n ws := ha.far (h.arg_far ha) u
theorem flat_setV {l : List ZH} {k : Nat} (hk : k < l.length) (z : ZH) : ((l.flatMap ZH.cs).set (k * 2) (.int .i64 z.W)).set (k * 2 + 1) (.slice z.A z.n z.c) = (l.set k z).flatMap ZH.cs := by
  induction l generalizing k with
  | nil => simp at hk
  | cons y l ih =>
    cases k with
    | zero => simp [ZH.cs]
    | succ k =>
      have := ih (k := k) (by simpa using hk)
      rw [List.flatMap_cons, List.set_cons_succ, List.flatMap_cons, ← this, show (k + 1) * 2 = 2 + k * 2 by omega]
      simp [ZH.cs, show 2 + k * 2 = k * 2 + 1 + 1 by omega, show 2 + k * 2 + 1 = k * 2 + 1 + 1 + 1 by omega]
/-- An element is written. -/
theorem VRow.put {w : World} {g N : Nat} {l : List ZH} (h : VRow w g N l) {k : Nat} (hk : k < N) {z : ZH} (hz : Arg w z.A z.n z.ws) : VRow ((w.setCell ⟨g, k * 2, none⟩ (.int .i64 z.W)).setCell ⟨g, k * 2 + 1, none⟩ (.slice z.A z.n z.c)) g N (l.set k z) := by
  have e : ∀ {A : Option Addr} {n : Nat} {ws : List Nat}, Arg w A n ws → Arg ((w.setCell ⟨g, k * 2, none⟩ (.int .i64 z.W)).setCell ⟨g, k * 2 + 1, none⟩ (.slice z.A z.n z.c)) A n ws := fun ha =>
    (ha.far (p := ⟨g, k * 2, none⟩) (h.arg_far ha) _).far (p := ⟨g, k * 2 + 1, none⟩) (h.arg_far ha) _
  refine ⟨?_, by rw [List.length_set]; exact h.len, fun y hy => ?_⟩
  · have h1 := (h.fb.set (k * 2) (.int .i64 z.W)).set (k * 2 + 1) (.slice z.A z.n z.c)
    have h2 : (((l.flatMap ZH.cs).toArray.setIfInBounds (k * 2) (.int .i64 z.W)).setIfInBounds (k * 2 + 1) (.slice z.A z.n z.c)) = ((l.set k z).flatMap ZH.cs).toArray := by
      rw [← flat_setV (by rw [h.len]; exact hk) z]
      simp
    rw [← h2]
    exact h1
  · rcases List.mem_or_eq_of_mem_set hy with hy | rfl
    · exact e (h.all y hy)
    · exact e hz
/-- Another row is written. -/
theorem VRow.other {w : World} {g N g' N' : Nat} {l l' : List ZH} (h : VRow w g N l) (h' : VRow w g' N' l') (hne : g ≠ g') (j : Nat) (u : Value) : VRow (w.setCell ⟨g', j, none⟩ u) g N l :=
  ⟨h.fb.far hne u, h.len, fun z hz => h'.arg_set (h.all z hz) j u⟩
theorem VRow.zl {w : World} {g N : Nat} {l : List ZH} (h : VRow w g N l) (hN : N ≤ 100000) : ZLok w [] ⟨some ⟨g, 0, none⟩, N, N, l⟩ :=
  ⟨EAt.fb h.fb (by simp) (fun j u hu => by simpa using hu), h.len, by show N ≤ _; omega, fun z hz => ⟨by
    rcases (h.all z hz).lies with e | ⟨ad, e, hb, hc⟩
    · exact .inl e
    · exact .inr ⟨ad, e, ⟨hb, by simp⟩, hc⟩, (h.all z hz).len, (h.all z hz).ok⟩⟩
theorem VRow.cells {w : World} {g N : Nat} {l : List ZH} (h : VRow w g N l) {k : Nat} {z : ZH} (hk : l[k]? = some z) : w.cell? ⟨g, k * 2, none⟩ = some (.int .i64 z.W) ∧ w.cell? ⟨g, k * 2 + 1, none⟩ = some (.slice z.A z.n z.c) := by
  have h0 := flat_cell ZH.cs_len hk (j := 0) (by decide)
  have h1 := flat_cell ZH.cs_len hk (j := 1) (by decide)
  rw [Nat.add_zero] at h0
  constructor
  · rw [h.fb.cell]; simpa [ZH.cs] using h0
  · rw [h.fb.cell]; simpa [ZH.cs] using h1
theorem VRow.new (w : World) (N : Nat) : VRow (w.alloc (.cells ((List.replicate N z0).flatMap ZH.cs).toArray 50)) w.heap.size N (List.replicate N z0) :=
  ⟨Fb.new w _ _, List.length_replicate, fun z hz => by
    obtain ⟨_, rfl⟩ := List.mem_replicate.1 hz
    exact Arg.nil _ _⟩
end Go.Proofs.Ytopkmeceakjocaa
