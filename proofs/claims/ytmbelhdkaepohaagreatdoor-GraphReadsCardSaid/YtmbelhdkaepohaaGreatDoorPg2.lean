/- The generator's Program. -/
import Derived.Test.YtmbelhdkaepohaaGreatDoorPg1
import Derived.Test.YtmbelhdkaepohaaGreatDoorAdd
import Derived.Deep.RegionLaw
import Derived.Deep.DeepCutAuto
import Derived.Deep.DrawnRows
import Derived.StillTailTactics
namespace Go.Proofs.YtmbelhdkaepohaaGreatDoor
set_option maxRecDepth 20000
set_option linter.unusedVariables false
set_option linter.unusedSimpArgs false
open Go.ChangeShapes Go.WideShapes Go.ChangeAt Go.RowKit
attribute [local go_sem ↓] Go.wp_at_zero Go.wp_at_succ

/-- A statement of the generator's that ends a block. -/
def termS (n : Nat) (t : Stm) : Prop :=
  (t.op = 9 ∧ t.d = ⟨#[]⟩ ∧ t.us = [] ∧ t.ts = []) ∨
  (t.op = 7 ∧ t.d = ⟨#[]⟩ ∧ t.us = [] ∧ ∃ i, i < n ∧ t.ts = [f2 i]) ∨
  (t.op = 8 ∧ t.d = ⟨#[]⟩ ∧ (∃ x ∈ varsL, t.us = [x]) ∧ ∃ i j, i < n ∧ j < n ∧ t.ts = [f2 i, f2 j])
def genB (funcs n : Nat) (b : Blk) : Prop := ∃ body t, b.ss = body ++ [t] ∧ body.length ≤ 3 ∧ (∀ x ∈ body, genS funcs x) ∧ termS n t
def genBs (funcs n : Nat) (bs : List BH) : Prop := ∀ (j : Nat) (y : BH), bs[j]? = some y → blsL[j]? = some y.name ∧ genB funcs n y.b
def genF (funcs : Nat) (f : FH) : Prop := 1 ≤ f.l.length ∧ f.l.length ≤ 3 ∧ genBs funcs f.l.length f.l
def genFs (funcs : Nat) (ls : List FH) : Prop := ∀ (j : Nat) (y : FH), ls[j]? = some y → fnsL[j]? = some y.name ∧ genF funcs y
/-- A program of the generator's. -/
def genP (ls : List FH) : Prop := 1 ≤ ls.length ∧ ls.length ≤ 3 ∧ genFs ls.length ls
theorem snoc_all {α : Type} {P : Nat → α → Prop} {l : List α} {x : α} (h : ∀ (j : Nat) (y : α), l[j]? = some y → P j y) (hx : P l.length x) : ∀ (j : Nat) (y : α), (l ++ [x])[j]? = some y → P j y := by
  intro j y hy
  rcases Nat.lt_or_ge j l.length with hj | hj
  · rw [List.getElem?_append_left hj] at hy; exact h j y hy
  · rw [List.getElem?_append_right hj] at hy
    have e : j - l.length = 0 := by
      rcases Nat.eq_zero_or_pos (j - l.length) with h0 | h0
      · exact h0
      · rw [List.getElem?_eq_none (by simp; omega)] at hy; cases hy
    rw [e] at hy
    simp at hy
    subst hy
    obtain rfl : j = l.length := by omega
    exact hx
theorem genBs_snoc {N M : Nat} {bs : List BH} {x : BH} (h : genBs N M bs) (h1 : blsL[bs.length]? = some x.name) (h2 : genB N M x.b) : genBs N M (bs ++ [x]) :=
  snoc_all (P := fun (j : Nat) (y : BH) => blsL[j]? = some y.name ∧ genB N M y.b) h ⟨h1, h2⟩
theorem genFs_snoc {N : Nat} {ls : List FH} {x : FH} (h : genFs N ls) (h1 : fnsL[ls.length]? = some x.name) (h2 : genF N x) : genFs N (ls ++ [x]) :=
  snoc_all (P := fun (j : Nat) (y : FH) => fnsL[j]? = some y.name ∧ genF N y) h ⟨h1, h2⟩
def RetP (X : List (Option Nat)) (w0 : World) (T : Nat) (w : World) (e : Ending) (w' : World) : Prop :=
  ∃ x : PH, e = .returned (.agg #[.slice x.A x.n x.c]) ∧ genP x.l ∧ PHok w' X x ∧ Going w0 T w' ∧ w.grownBy w' (some T)

theorem info68 : (Tryz.prog.info? 101).map (fun i => (i.zero, i.size, i.bytes)) = some (some (.agg #[.int .i64 0, .string ⟨#[]⟩, .slice none 0 0, .slice none 0 0]), 4, 72) := by kernel_rfl
theorem info66 : (Tryz.prog.info? 95).map (fun i => (i.zero, i.size, i.bytes)) = some (some (.agg #[.string ⟨#[]⟩, .slice none 0 0]), 2, 40) := by kernel_rfl
theorem info63 : (Tryz.prog.info? 75).map (fun i => (i.zero, i.size, i.bytes)) = some (some (.agg #[.string ⟨#[]⟩, .slice none 0 0]), 2, 40) := by kernel_rfl
theorem one_shc (x : SH) : ∀ u ∈ shc x, u.oneCell' = true := by
  intro u hu
  simp [shc] at hu
  rcases hu with rfl | rfl | rfl | rfl <;> rfl
theorem one_two (a : ByteArray) (A : Option Addr) (n c : Nat) : ∀ u ∈ [Value.string a, .slice A n c], u.oneCell' = true := by
  intro u hu
  simp at hu
  rcases hu with rfl | rfl <;> rfl
theorem two_new (w : World) (a b : Value) (ty : TypeId) : ∀ j u, [a, b][j]? = some u → (w.alloc (.cells #[a, b] ty)).cell? ((⟨w.heap.size, 0, none⟩ : Addr).add j) = some u := by
  intro j u h
  have hb := Fb.new w #[a, b] ty
  rw [add_of, hb.cell]
  simpa using h
theorem pickC {w : World} {g t : Nat} {l : List ByteArray} (h : Fb w g (strC l) t) {i : Nat} {x : ByteArray} (hx : l[i]? = some x) : w.cell? ⟨g, i, none⟩ = some (.string x) := by
  rw [h.cell]; unfold strC; rw [List.getElem?_toArray, List.getElem?_map, hx]; rfl
theorem blsL_small : ∀ x ∈ blsL, x.size ≤ 1 := by decide +kernel
theorem f2_get {i : Nat} (h : i < 3) : blsL[i]? = some (f2 i) := by
  rcases (by omega : i = 0 ∨ i = 1 ∨ i = 2) with rfl | rfl | rfl <;> rfl
theorem f2_small (i : Nat) : (f2 i).size ≤ 1 := by
  unfold f2
  split
  · decide
  · split <;> decide

theorem br_gen {N M : Nat} {nb : ByteArray} {ss : List SH} {Y : SH} {x tgt : ByteArray} {q : Nat} (hss : ss.length ≤ 3) (hG : ∀ y ∈ ss, genS N y.t) (hx : x ∈ varsL) (ht : ∃ i, i < M ∧ tgt = f2 i) (hq : q < M) (hY : Y.t = ⟨8, ⟨#[]⟩, [x], [tgt, f2 q]⟩) :
    genB N M ⟨nb, (ss ++ [Y]).map SH.t⟩ ∧ (ss ++ [Y]).length ≤ 4 := by
  refine ⟨⟨ss.map SH.t, ⟨8, ⟨#[]⟩, [x], [tgt, f2 q]⟩, by simp [hY], by simpa using hss, fun z hz => by obtain ⟨y, hy, rfl⟩ := List.mem_map.1 hz; exact hG y hy, .inr (.inr ⟨rfl, rfl, ⟨x, hx, rfl⟩, ?_⟩)⟩, by simp; omega⟩
  obtain ⟨i, h1, h2⟩ := ht
  exact ⟨i, q, h1, hq, by rw [h2]⟩
theorem br_ok {wz : World} {ex : List (Option Nat)} {gx gy : Nat} {x tgt y : ByteArray} (Fx : Fb wz gx (strC [x]) 9) (Fy : Fb wz gy (strC [tgt, y]) 9) (nx : some gx ∉ ex) (ny : some gy ∉ ex) (hx : x.size ≤ 1) (ht : tgt.size ≤ 1) (hy : y.size ≤ 1) :
    SHok wz ex ⟨some ⟨gx, 0, none⟩, 1, 1, some ⟨gy, 0, none⟩, 2, 2, ⟨8, ⟨#[]⟩, [x], [tgt, y]⟩⟩ :=
  ⟨SSafe.new (m := 1) Fx nx (by simp) (by simp) (fun z hz => by simp at hz; subst hz; omega), SSafe.new (m := 2) Fy ny (by simp) (by simp) (fun z hz => by simp at hz; rcases hz with rfl | rfl <;> omega), Nat.zero_le _⟩
theorem four_new1 (w : World) (o : Obj) (a b c d : Value) (ty : TypeId) : ∀ (j : Nat) (u : Value), [a, b, c, d][j]? = some u → ((w.alloc o).alloc (.cells #[a, b, c, d] ty)).cell? ((⟨w.heap.size + 1, 0, none⟩ : Addr).add j) = some u := by
  have h := four_new (w.alloc o) a b c d ty
  rw [World.size_alloc] at h
  exact h
theorem four_new2 (w : World) (o p : Obj) (a b c d : Value) (ty : TypeId) : ∀ (j : Nat) (u : Value), [a, b, c, d][j]? = some u → (((w.alloc o).alloc p).alloc (.cells #[a, b, c, d] ty)).cell? ((⟨w.heap.size + 1 + 1, 0, none⟩ : Addr).add j) = some u := by
  have h := four_new1 (w.alloc o) p a b c d ty
  rw [World.size_alloc] at h
  exact h
theorem fb_new1 (w : World) (x : ByteArray) : Fb (w.alloc (.cells #[.string x] 9)) w.heap.size (strC [x]) 9 := Fb.new w #[.string x] 9
theorem fb_new2 (w : World) (x y : ByteArray) : Fb (w.alloc (.cells #[.string x, .string y] 9)) w.heap.size (strC [x, y]) 9 := Fb.new w #[.string x, .string y] 9

end Go.Proofs.YtmbelhdkaepohaaGreatDoor
