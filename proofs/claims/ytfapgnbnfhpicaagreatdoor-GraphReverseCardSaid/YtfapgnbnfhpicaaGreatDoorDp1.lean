/- The package's parser: next, fail, take, word, name, end. -/
import Derived.Test.YtfapgnbnfhpicaaGreatDoorPms
import Derived.Test.YtfapgnbnfhpicaaGreatDoorRp3
import Derived.Deep.Slices
namespace Go.Proofs.YtfapgnbnfhpicaaGreatDoor
set_option maxRecDepth 20000
set_option linter.unusedVariables false
set_option linter.unusedSimpArgs false
open Go.ChangeShapes Go.WideShapes Go.ChangeAt Go.RowKit

/-- The table of shapes: keyword, whether it defines, least and most uses, targets. -/
def shp (k : ByteArray) (d : Bool) (l m t : Int) : List Value := [.string k, .bool d, .int .i64 l, .int .i64 m, .int .i64 t]
def shpCells : List Value := shp noB false 0 0 0 ++ shp noB true 0 4 0 ++ shp kwUse false 1 4 0 ++ shp kwCall false 0 0 1 ++ shp kwSource true 0 0 0 ++ shp kwSink false 1 1 0 ++ shp kwSanitize true 0 0 0 ++ shp kwGoto false 0 0 1 ++ shp kwBranch false 1 1 2 ++ shp kwReturn false 0 0 0
def Shp (w : World) : Prop := ∀ (j : Nat) (u : Value), shpCells[j]? = some u → w.cell? ⟨1, j, none⟩ = some u
theorem Shp.keep {w w' : World} (h : Shp w) (hk : w'.heap[1]? = w.heap[1]?) : Shp w' := fun j u hu => (World.cell?_of_block hk).trans (h j u hu)
section
variable {w w' : World} {b : Nat} {σ : Ds}
end
section
variable {w w' w'' : World} {b : Nat} {σ σ' : Ds}
end
theorem Fb.fourc {w : World} {g t : Nat} {a b c d : Value} (h : Fb w g #[a, b, c, d] t) :
    (w.cell? ⟨g, 0, none⟩ = some a ∧ w.cell? ⟨g, 1, none⟩ = some b ∧ w.cell? ⟨g, 2, none⟩ = some c ∧ w.cell? ⟨g, 3, none⟩ = some d) ∧
      (w.frozen? ⟨g, 0, none⟩ = false ∧ w.frozen? ⟨g, 1, none⟩ = false ∧ w.frozen? ⟨g, 2, none⟩ = false ∧ w.frozen? ⟨g, 3, none⟩ = false) :=
  ⟨⟨h.cell 0, h.cell 1, h.cell 2, h.cell 3⟩, h.frozen 0, h.frozen 1, h.frozen 2, h.frozen 3⟩
def agT (t : Tok) : Value := .agg #[.int .i64 t.kind, .string t.text, .int .i64 (t.line : Int), .int .i64 (t.col : Int)]
theorem fieldTok0 (a b c d : Value) (w : World) : Sem.run Tryz.prog (Instr.field 120 (.agg #[a, b, c, d]) 0) w = .ok a w := by rfl
theorem fieldTok1 (a b c d : Value) (w : World) : Sem.run Tryz.prog (Instr.field 120 (.agg #[a, b, c, d]) 1) w = .ok b w := by rfl
theorem fieldTok2 (a b c d : Value) (w : World) : Sem.run Tryz.prog (Instr.field 120 (.agg #[a, b, c, d]) 2) w = .ok c w := by rfl
theorem fieldTok3 (a b c d : Value) (w : World) : Sem.run Tryz.prog (Instr.field 120 (.agg #[a, b, c, d]) 3) w = .ok d w := by rfl
attribute [local go_sem] fieldTok0 fieldTok1 fieldTok2 fieldTok3
theorem Shp.far {w : World} (h : Shp w) {p : Addr} (hp : 1 < p.block) (u : Value) : Shp (w.setCell p u) := h.keep (Below.heap_setCell w p u 1 (by omega))
theorem At.tail {w : World} {b : Nat} {a : Addr} {t : Tok} {l : List Tok} (h : At w b (some a) (tcells (t :: l))) : At w b (some (a.add 4)) (tcells l) := by
  rcases h with h | ⟨ad, e, hb, hc⟩
  · have := tcells_len (t :: l); rw [h] at this; simp at this
  · injection e with e; subst e
    refine .inr ⟨_, rfl, by rw [add_block]; exact hb, fun j u hu => ?_⟩
    have h4 : (tcells (t :: l))[4 + j]? = some u := by
      show (tcell t ++ tcells l)[4 + j]? = some u
      rw [List.getElem?_append_right (by simp [tcell])]
      simpa [tcell] using hu
    rw [Go.Deep.add_add]
    exact hc _ u h4
end Go.Proofs.YtfapgnbnfhpicaaGreatDoor
