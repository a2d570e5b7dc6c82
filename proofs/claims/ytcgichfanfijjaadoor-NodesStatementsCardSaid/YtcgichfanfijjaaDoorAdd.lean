/- The scanner's add: it appends a token, and goes on. -/
import Derived.Test.YtcgichfanfijjaaDoorDl
import Derived.Deep.RegionLaw
import Derived.StillTailTactics
namespace Go.Proofs.YtcgichfanfijjaaDoor
set_option maxRecDepth 20000
set_option linter.unusedVariables false
open Go.ChangeShapes Go.WideShapes Go.ChangeAt Go.RowKit

theorem info47 : (Tryd.prog.info? 79).map (fun i => (i.zero, i.size, i.bytes)) = some (some (.agg #[.int .i64 0, .string ByteArray.empty, .int .i64 0, .int .i64 0]), 4, 40) := by kernel_rfl
theorem four_new (w : World) (a b c d : Value) (ty : TypeId) : ∀ j u, [a, b, c, d][j]? = some u → (w.alloc (.cells #[a, b, c, d] ty)).cell? ((⟨w.heap.size, 0, none⟩ : Addr).add j) = some u := by
  intro j u h
  have hb := Fb.new w #[a, b, c, d] ty
  rw [add_of, hb.cell]
  simpa using h
theorem one_tok (t : Tok) : ∀ u ∈ tcell t, u.oneCell' = true := by
  intro u hu
  simp [tcell] at hu
  rcases hu with rfl | rfl | rfl | rfl <;> rfl

/-- A scanner at work: its block, its tokens, and that nothing below w0 has changed. -/
def Scn (w0 : World) (S : Nat) (s : ByteArray) (i line first : Nat) (v : Value) (l : List Tok) (w : World) : Prop :=
  Sb w S s i line first v ∧ w.ownsRow (S + 1) 79 4 v l.length (tcells l) ∧ Below w0.heap.size w0 w ∧ w0.heap.size ≤ S
section
variable {w0 w w' : World} {S : Nat} {s : ByteArray} {i line first : Nat} {v : Value} {l : List Tok}
theorem Scn.lt (h : Scn w0 S s i line first v l w) : S < w.heap.size := h.1.lt
theorem Scn.below (h : Scn w0 S s i line first v l w) (hb : Below w.heap.size w w') : Scn w0 S s i line first v l w' :=
  ⟨h.1.below hb h.1.lt, own_below h.2.1 hb, below_step h.2.2.1 hb, h.2.2.2⟩
theorem Scn.drewN (h : Scn w0 S s i line first v l w) (n : Nat) : Scn w0 S s i line first v l (w.drewN n) := h.below (below_drewN (Below.refl _ _) n)
theorem Scn.put (h : Scn w0 S s i line first v l w) (j : Nat) (u : Value) {i' line' first' : Nat}
    (e : (#[.string s, .int .i64 (i : Int), .int .i64 (line : Int), .int .i64 (first : Int), v] : Array Value).setIfInBounds j u = #[.string s, .int .i64 (i' : Int), .int .i64 (line' : Int), .int .i64 (first' : Int), v]) :
    Scn w0 S s i' line' first' v l (w.setCell ⟨S, j, none⟩ u) := by
  obtain ⟨h1, h2, h3, h4⟩ := h
  have hs := Fb.set h1 j u
  rw [e] at hs
  refine ⟨hs, h2.kept (setCell_grown w ⟨S, j, none⟩ u) ?_, h3.setCell (by simpa using h4) _, h4⟩
  cases hv : v.ownBlock with
  | none => exact .inl rfl
  | some k => exact .inr (by have := (h2.lt k hv).1; simp only [ne_eq, Option.some.injEq]; omega)
theorem Scn.token {t : Tok} {g cap : Nat} (h : Scn w0 S s i line first v l w) (o : Obj) (hown : w'.ownsRow (S + 1) 79 4 (.slice (some ⟨g, 0, none⟩) (l.length + 1) cap) (l.length + 1) (tcells l ++ tcell t)) (hg : (w.alloc o).grownBy w' v.ownBlock) :
    ((w'.cell? ⟨S, 4, none⟩ = some v ∧ w'.frozen? ⟨S, 4, none⟩ = false)) ∧ Scn w0 S s i line first (.slice (some ⟨g, 0, none⟩) (l.length + 1) cap) (l ++ [t]) (w'.setCell ⟨S, 4, none⟩ (.slice (some ⟨g, 0, none⟩) (l.length + 1) cap)) := by
  obtain ⟨h1, h2, h3, h4⟩ := h
  have hne : some S ≠ v.ownBlock := own_row h2 (by omega)
  have h1' : Sb w' S s i line first v := (h1.alloc o).grown hg hne
  have hb : Below w0.heap.size w0 w' := (h3.alloc h3.size o).grown hg (by have := h3.size; simp; omega) (fun k hk => by have := (h2.lt k hk).1; omega)
  refine ⟨⟨h1'.cell 4, h1'.frozen 4⟩, ?_, ?_, hb.setCell (by simpa using h4) _, h4⟩
  · have := Fb.set h1' 4 (.slice (some ⟨g, 0, none⟩) (l.length + 1) cap); exact this
  · rw [tcells_snoc, List.length_append]
    refine hown.kept (setCell_grown w' ⟨S, 4, none⟩ _) (.inr ?_)
    have := (hown.lt g rfl).1
    simp only [Value.ownBlock, ne_eq, Option.some.injEq]; omega
end

set_option maxHeartbeats 3200000 in
theorem add_any (kind : Int) (n S : Nat) (s : ByteArray) (i line first : Nat) (v : Value) (l : List Tok) (w0 w : World) (hS : Scn w0 S s i line first v l w) (hs : s.size ≤ 4096) (hn : i + n ≤ s.size) (hf : first ≤ i) (hl : l.length ≤ 8192) :
    Calls Tryd.prog 136 #[.pointer (some ⟨S, 0, none⟩), .int .i64 kind, .int .i64 (n : Int)] w fun e w' => e = .returned (.tuple #[]) ∧ ∃ v', Scn w0 S s (i + n) line first v' (l ++ [⟨kind, s.extract i (i + n), line, i + 1 - first⟩]) w' := by
  obtain ⟨i0, hi, hz0, hz1, hz2⟩ := info_parts info47
  have Hi := hid hi; have Hz0 := hid hz0; have Hz1 := hid hz1; have Hz2 := hid hz2; have HS := hid hS
  obtain ⟨⟨c0, c1, c2, c3, c4⟩, f0, f1, f2, f3, f4⟩ := Fb.five hS.1
  have hlt := hS.lt
  have hal : ∀ q o, ((w.drewN q).alloc o).cell? ⟨S, 4, none⟩ = some v := fun q o => by
    rw [World.cell?_alloc_lt (w.drewN q) o ⟨S, 4, none⟩ (by exact hlt)]; exact c4
  have hext := ext_ext s i n hn
  have hrs : n ≤ (s.extract i s.size).size := by simp [ByteArray.size_extract]; omega
  have hrest := fun q => rest_any S s i line first v (w.drewN q) (hS.drewN q).1 (by omega) (by unfold maxLen; omega)
  have hcol := fun q => column_any S s i line first v (w.drewN q) (hS.drewN q).1 hf (by omega)
  generalize s.extract i s.size = r at *
  generalize hcc : i + 1 - first = col at *
  have Hrest := hid hrest; have Hcol := hid hcol; have Hext := hid hext
  clear hi hz0 hz1 hz2 hS hrest hcol hext hcc
  go_enter Tryd.func136, Tryd.ntmps136
  go_wp2_with fail
  go_region_law (first
    | (go_simp
       go_at_call 135
       go_must (
       refine (Hrest.out _).mono ?_
       rintro e w5 ⟨rfl, q5, rfl⟩))
    | (go_simp
       go_at_call 99
       go_must (
       refine (Hcol.out _).mono ?_
       rintro e w6 ⟨rfl, q6, rfl⟩))
    | ((refine step_append_lies _ (by rfl) _ _ 69 (by rfl) (S + 1) 79 i0 _ 4 40 Tryd.underlying69 Hi.out Hz0.out Hz1.out Hz2.out (by rfl) (by decide) v l.length (tcells l) (by rfl) (by exact (HS.out.below ((below_drewN (Below.refl _ _) _).alloc (by simp) _)).2.1)
          ⟨_, 0, none⟩ 1 1 [.int .i64 kind, .string (r.extract 0 n), .int .i64 (line : Int), .int .i64 (col : Int)] (by rfl) rfl (by exact four_new _ _ _ _ _ _) (by exact one_tok ⟨kind, r.extract 0 n, line, col⟩) (by decide) (by unfold maxLen; omega) (by omega) (by simp; omega) _ rfl ?_)
       intro g9 cap9 w9 hown9 hgr9 hat9 hlt9
       obtain ⟨⟨y0, y1⟩, hT9⟩ := Scn.token (t := ⟨kind, r.extract 0 n, line, col⟩) (HS.out.drewN _) _ hown9 hgr9
       have H9 := hid hT9
       clear hown9 hgr9 hat9 hlt9 hT9))
  all_goals
    generalize w9.setCell ⟨S, 4, none⟩ (.slice (some ⟨g9, 0, none⟩) (l.length + 1) cap9) = w10 at *
    clear c0 c1 c2 c3 c4 f0 f1 f2 f3 f4 y0 y1
    obtain ⟨⟨c0, c1, c2, c3, c4⟩, f0, f1, f2, f3, f4⟩ := Fb.five H9.out.1
    go_wp2
    rw [← Hext.out]
    refine bodyPost_end (v := .tuple #[]) (by simp [results, Tryd.results136]) rfl ⟨rfl, _, H9.out.put 1 _ ?_⟩
    simp
end Go.Proofs.YtcgichfanfijjaaDoor
