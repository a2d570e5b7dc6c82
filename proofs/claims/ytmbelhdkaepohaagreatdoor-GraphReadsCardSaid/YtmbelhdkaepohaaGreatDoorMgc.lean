/- Texts that the proof leans on, merged. -/
import Derived.Test.YtmbelhdkaepohaaGreatDoorMga
import Derived.Test.YtmbelhdkaepohaaGreatDoorMpp
import Derived.Test.YtmbelhdkaepohaaGreatDoorProg
import Derived.Orders
import Derived.RegionTactic
import Derived.Deep.RegionLawGrows
namespace Go.Proofs.YtmbelhdkaepohaaGreatDoor
set_option maxRecDepth 20000
set_option linter.unusedVariables false
set_option linter.unusedSimpArgs false
open Go.ChangeShapes Go.WideShapes Go.ChangeAt Go.RowKit

def exG (X : List (Option Nat)) (T b c : Nat) : List (Option Nat) := some T :: some b :: some c :: X
/-- The box d of the three rows a, b, c; the lists that b and c hold. -/
structure Gg (w0 w : World) (X : List (Option Nat)) (T N d a b c : Nat) (xs ps : List RH) (v : World) : Prop where
  go : Going w0 T v
  gr : w.grownBy v (some T)
  box : Fb v d #[.slice (some ⟨a, 0, none⟩) N N, .slice (some ⟨b, 0, none⟩) N N, .slice (some ⟨c, 0, none⟩) N N] 26
  na : Fb v a (Array.replicate (N * 4) (.int .i64 0)) 55
  sb : Fb v b (xs.map RH.v).toArray 22
  pc : Fb v c (ps.map RH.v).toArray 22
  xl : xs.length = N
  pl : ps.length = N
  xr : ∀ y ∈ xs, RHok v (exG X T b c) y ∧ y.n ≤ y.c
  pr : ∀ y ∈ ps, RHok v (exG X T b c) y ∧ y.n ≤ y.c
  rs : Fb v w.heap.size #[.slice none 0 0, .slice none 0 0, .slice none 0 0] 26
  lo : w.heap.size < a ∧ w.heap.size < b ∧ w.heap.size < c ∧ w.heap.size < d
  ne : a ≠ b ∧ a ≠ c ∧ a ≠ d ∧ b ≠ c ∧ b ≠ d ∧ c ≠ d
  tl : T < w.heap.size
section
variable {w0 w v v' : World} {X : List (Option Nat)} {T N d a b c : Nat} {xs ps : List RH}
theorem Gg.step (h : Gg w0 w X T N d a b c xs ps v) (ht : Going w0 T v') (hg : v.grownBy v' (some T)) : Gg w0 w X T N d a b c xs ps v' := by
  have h1 := h.lo
  have h2 := h.tl
  refine ⟨ht, grown_two h.gr hg, h.box.grown hg (by intro e; injection e with e; omega), h.na.grown hg (by intro e; injection e with e; omega), h.sb.grown hg (by intro e; injection e with e; omega), h.pc.grown hg (by intro e; injection e with e; omega), h.xl, h.pl, fun y hy => ⟨(h.xr y hy).1.go (Go2.same hg (.inr (by simp [exG]))), (h.xr y hy).2⟩, fun y hy => ⟨(h.pr y hy).1.go (Go2.same hg (.inr (by simp [exG]))), (h.pr y hy).2⟩, h.rs.grown hg (by intro e; injection e with e; omega), h.lo, h.ne, h.tl⟩
theorem Gg.below (h : Gg w0 w X T N d a b c xs ps v) (hb : Below v.heap.size v v') : Gg w0 w X T N d a b c xs ps v' := h.step (h.go.below hb) (grown_of_below hb _)
theorem Gg.hex (h : Gg w0 w X T N d a b c xs ps v) (hX : ∀ k, some k ∈ X → k ≤ w.heap.size) : ∀ k, some k ∈ exG X T b c → k < v.heap.size := by
  intro k hk
  unfold exG at hk
  have h1 := h.go.1.lt
  have h2 := h.sb.lt
  have h3 := h.pc.lt
  have h4 := h.rs.lt
  simp only [List.mem_cons, Option.some.injEq] at hk
  rcases hk with rfl | rfl | rfl | hk
  · exact h1
  · exact h2
  · exact h3
  · have := hX k hk; omega
theorem Gg.setS (h : Gg w0 w X T N d a b c xs ps v) (i : Nat) {y : RH} (hy : RHok v (exG X T b c) y) (hc : y.n ≤ y.c) : Gg w0 w X T N d a b c (xs.set i y) ps (v.setCell ⟨b, i, none⟩ y.v) := by
  have h1 := h.lo
  have h2 := h.tl
  have h3 := h.ne
  have h4 := h.go.2.2
  have hset := setCell_grown v ⟨b, i, none⟩ y.v
  have hmem : some b ∈ exG X T b c := by simp [exG]
  refine ⟨⟨h.go.1.keep fun k hk => Below.heap_setCell v _ _ k (by intro e; simp only at e; omega), h.go.2.1.setCell (p := ⟨b, i, none⟩) (by simp only; omega) _, h.go.2.2⟩, grown_set_new h.gr (show w.heap.size ≤ b by omega) _, h.box.grown hset (by intro e; injection e with e; simp only at e; omega), h.na.grown hset (by intro e; injection e with e; simp only at e; omega), ?_, h.pc.grown hset (by intro e; injection e with e; simp only at e; omega), by rw [List.length_set]; exact h.xl, h.pl, fun z hz => ?_, fun z hz => ⟨(h.pr z hz).1.go (Go2.same hset (.inr hmem)), (h.pr z hz).2⟩, h.rs.grown hset (by intro e; injection e with e; simp only at e; omega), h.lo, h.ne, h.tl⟩
  · have := h.sb.set i y.v
    simpa [List.map_set] using this
  · rcases List.mem_or_eq_of_mem_set hz with h5 | rfl
    · exact ⟨(h.xr z h5).1.go (Go2.same hset (.inr hmem)), (h.xr z h5).2⟩
    · exact ⟨hy.go (Go2.same hset (.inr hmem)), hc⟩
theorem Gg.setP (h : Gg w0 w X T N d a b c xs ps v) (i : Nat) {y : RH} (hy : RHok v (exG X T b c) y) (hc : y.n ≤ y.c) : Gg w0 w X T N d a b c xs (ps.set i y) (v.setCell ⟨c, i, none⟩ y.v) := by
  have h1 := h.lo
  have h2 := h.tl
  have h3 := h.ne
  have h4 := h.go.2.2
  have hset := setCell_grown v ⟨c, i, none⟩ y.v
  have hmem : some c ∈ exG X T b c := by simp [exG]
  refine ⟨⟨h.go.1.keep fun k hk => Below.heap_setCell v _ _ k (by intro e; simp only at e; omega), h.go.2.1.setCell (p := ⟨c, i, none⟩) (by simp only; omega) _, h.go.2.2⟩, grown_set_new h.gr (show w.heap.size ≤ c by omega) _, h.box.grown hset (by intro e; injection e with e; simp only at e; omega), h.na.grown hset (by intro e; injection e with e; simp only at e; omega), h.sb.grown hset (by intro e; injection e with e; simp only at e; omega), ?_, h.xl, by rw [List.length_set]; exact h.pl, fun z hz => ⟨(h.xr z hz).1.go (Go2.same hset (.inr hmem)), (h.xr z hz).2⟩, fun z hz => ?_, h.rs.grown hset (by intro e; injection e with e; simp only at e; omega), h.lo, h.ne, h.tl⟩
  · have := h.pc.set i y.v
    simpa [List.map_set] using this
  · rcases List.mem_or_eq_of_mem_set hz with h5 | rfl
    · exact ⟨(h.pr z h5).1.go (Go2.same hset (.inr hmem)), (h.pr z h5).2⟩
    · exact ⟨hy.go (Go2.same hset (.inr hmem)), hc⟩
theorem Gg.keepS (h : Gg w0 w X T N d a b c xs ps v) (i : Nat) {y : RH} (hy : RHok v (exG X T b c) y) (u : Value) : RHok (v.setCell ⟨b, i, none⟩ u) (exG X T b c) y :=
  hy.go (Go2.same (setCell_grown v ⟨b, i, none⟩ u) (.inr (by simp [exG])))
theorem Gg.keepP (h : Gg w0 w X T N d a b c xs ps v) (i : Nat) {y : RH} (hy : RHok v (exG X T b c) y) (u : Value) : RHok (v.setCell ⟨c, i, none⟩ u) (exG X T b c) y :=
  hy.go (Go2.same (setCell_grown v ⟨c, i, none⟩ u) (.inr (by simp [exG])))
theorem Gg.cellS (h : Gg w0 w X T N d a b c xs ps v) {i : Nat} {y : RH} (hi : xs[i]? = some y) : v.cell? ⟨b, i, none⟩ = some (.slice y.A y.n y.c) ∧ v.frozen? ⟨b, i, none⟩ = false := by
  refine ⟨?_, h.sb.frozen i⟩
  rw [h.sb.cell]
  simp [hi, RH.v]
theorem Gg.cellP (h : Gg w0 w X T N d a b c xs ps v) {i : Nat} {y : RH} (hi : ps[i]? = some y) : v.cell? ⟨c, i, none⟩ = some (.slice y.A y.n y.c) ∧ v.frozen? ⟨c, i, none⟩ = false := by
  refine ⟨?_, h.pc.frozen i⟩
  rw [h.pc.cell]
  simp [hi, RH.v]
/-- A valid graph came back, made by the tape. -/
def RetTg (w0 w : World) (X : List (Option Nat)) (T m : Nat) (e : Ending) (w' : World) : Prop :=
  ∃ x : GH, e = .returned x.a ∧ GHok w' X x ∧ ValG x.n x.S.v x.P.v ∧ x.S.n = x.n ∧ x.P.n = x.n ∧ x.n ≤ m + 1 ∧ Going w0 T w' ∧ w.grownBy w' (some T)
theorem Gg.done (h : Gg w0 w X T N d a b c xs ps v) (hX : ∀ k, some k ∈ X → k ≤ w.heap.size) (hN : N ≤ 1000) :
    GHok v X ⟨some ⟨a, 0, none⟩, N, N, List.replicate N nd0, ⟨some ⟨b, 0, none⟩, N, N, xs⟩, ⟨some ⟨c, 0, none⟩, N, N, ps⟩⟩ := by
  have h1 := h.lo
  have hsub : ∀ k, some k ∈ X → some k ∈ exG X T b c := fun k hk => by simp [exG, hk]
  refine ⟨EAt.fb h.na (fun hm => by have := hX a hm; omega) (fun j u hu => ?_), by simp, by show N ≤ _; omega, ⟨EAt.fb h.sb (fun hm => by have := hX b hm; omega) (fun j u hu => by simpa using hu), h.xl, by show N ≤ _; omega, fun y hy => (h.xr y hy).1.go (Go2.less v hsub)⟩, ⟨EAt.fb h.pc (fun hm => by have := hX c hm; omega) (fun j u hu => by simpa using hu), h.pl, by show N ≤ _; omega, fun y hy => (h.pr y hy).1.go (Go2.less v hsub)⟩⟩
  rw [zero_cells] at hu
  rw [← Array.getElem?_toList, Array.toList_replicate]
  exact hu
theorem Gg.ret (h : Gg w0 w (some w.heap.size :: X) T N d a b c xs ps v) (hX : ∀ k, some k ∈ X → k < w.heap.size) (hN : N ≤ 1000) (u0 u1 u2 : Value) :
    GHok (((v.setCell ⟨w.heap.size, 0, none⟩ u0).setCell ⟨w.heap.size, 1, none⟩ u1).setCell ⟨w.heap.size, 2, none⟩ u2) X ⟨some ⟨a, 0, none⟩, N, N, List.replicate N nd0, ⟨some ⟨b, 0, none⟩, N, N, xs⟩, ⟨some ⟨c, 0, none⟩, N, N, ps⟩⟩ ∧
    Going w0 T (((v.setCell ⟨w.heap.size, 0, none⟩ u0).setCell ⟨w.heap.size, 1, none⟩ u1).setCell ⟨w.heap.size, 2, none⟩ u2) ∧ w.grownBy (((v.setCell ⟨w.heap.size, 0, none⟩ u0).setCell ⟨w.heap.size, 1, none⟩ u1).setCell ⟨w.heap.size, 2, none⟩ u2) (some T) := by
  have hX2 : ∀ k, some k ∈ some w.heap.size :: X → k ≤ w.heap.size := fun k hk => by
    rcases List.mem_cons.1 hk with e | e
    · injection e with e; omega
    · have := hX k e; omega
  have hg : v.grownBy (((v.setCell ⟨w.heap.size, 0, none⟩ u0).setCell ⟨w.heap.size, 1, none⟩ u1).setCell ⟨w.heap.size, 2, none⟩ u2) (some w.heap.size) :=
    grown_two (grown_two (setCell_grown v ⟨w.heap.size, 0, none⟩ u0) (setCell_grown _ ⟨w.heap.size, 1, none⟩ u1)) (setCell_grown _ ⟨w.heap.size, 2, none⟩ u2)
  have h1 := h.tl
  have h2 := h.go.2.2
  have h3 := h.go.1.lt
  refine ⟨((h.done hX2 hN).go (Go2.same hg (.inr (by simp)))).go (Go2.less _ fun k hk => by simp [hk]), ⟨h.go.1.keep fun k hk => hg.block k (by omega) (by intro e; injection e with e; omega), h.go.2.1.grown hg h.go.2.1.size (fun k hk => by injection hk with hk; omega), h.go.2.2⟩, ?_⟩
  exact ⟨hg.os.trans h.gr.os, hg.tape.trans h.gr.tape, hg.output.trans h.gr.output, Nat.le_trans h.gr.size hg.size, fun i hi hne => (hg.block i (Nat.lt_of_lt_of_le hi h.gr.size) (by intro e; injection e with e; omega)).trans (h.gr.block i hi hne)⟩
end
end Go.Proofs.YtmbelhdkaepohaaGreatDoor

namespace Go.Proofs.YtmbelhdkaepohaaGreatDoor
set_option maxRecDepth 20000
set_option linter.unusedVariables false
set_option linter.unusedSimpArgs false
open Go.ChangeShapes Go.WideShapes Go.ChangeAt Go.RowKit
theorem fq0 (w : World) (o p q r : Array Value) (t t1 t2 t3 : Nat) : Fb ((((w.alloc (.cells o t)).alloc (.cells p t1)).alloc (.cells q t2)).alloc (.cells r t3)).drew w.heap.size o t := (((Fb.new w o t).alloc _).alloc _).alloc _
theorem fq1 (w : World) (o p q r : Array Value) (t t1 t2 t3 : Nat) : Fb ((((w.alloc (.cells o t1)).alloc (.cells p t)).alloc (.cells q t2)).alloc (.cells r t3)).drew (w.heap.size + 1) p t := by
  have h := Fb.new (w.alloc (.cells o t1)) p t
  rw [World.size_alloc] at h
  exact (h.alloc (.cells q t2)).alloc (.cells r t3)
theorem fq2 (w : World) (o p q r : Array Value) (t t1 t2 t3 : Nat) : Fb ((((w.alloc (.cells o t1)).alloc (.cells p t2)).alloc (.cells q t)).alloc (.cells r t3)).drew (w.heap.size + 1 + 1) q t := by
  have h := Fb.new ((w.alloc (.cells o t1)).alloc (.cells p t2)) q t
  rw [World.size_alloc, World.size_alloc] at h
  exact h.alloc (.cells r t3)
theorem fq3 (w : World) (o p q r : Array Value) (t t1 t2 t3 : Nat) : Fb ((((w.alloc (.cells o t1)).alloc (.cells p t2)).alloc (.cells q t3)).alloc (.cells r t)).drew (w.heap.size + 1 + 1 + 1) r t := by
  have h := Fb.new (((w.alloc (.cells o t1)).alloc (.cells p t2)).alloc (.cells q t3)) r t
  rw [World.size_alloc, World.size_alloc, World.size_alloc] at h
  exact h
theorem bq (w : World) (o p q r : Obj) : Below w.heap.size w ((((w.alloc o).alloc p).alloc q).alloc r).drew :=
  ((((((Below.refl w.heap.size w).alloc (Nat.le_refl _) o).alloc (by simp only [World.size_alloc]; omega) p).alloc (by simp only [World.size_alloc]; omega) q).alloc (by simp only [World.size_alloc]; omega) r)).drew
/-- Three new rows and a box of them. -/
structure Gr4 (w : World) (N d a b c : Nat) (v : World) : Prop where
  box : Fb v d #[.slice (some ⟨a, 0, none⟩) N N, .slice (some ⟨b, 0, none⟩) N N, .slice (some ⟨c, 0, none⟩) N N] 26
  na : Fb v a (Array.replicate (N * 4) (.int .i64 0)) 55
  sb : Fb v b (Array.replicate N (.slice none 0 0)) 22
  pc : Fb v c (Array.replicate N (.slice none 0 0)) 22
  bel : Below w.heap.size w v
  lo : w.heap.size ≤ a ∧ w.heap.size ≤ b ∧ w.heap.size ≤ c ∧ w.heap.size ≤ d
  ne : a ≠ b ∧ a ≠ c ∧ a ≠ d ∧ b ≠ c ∧ b ≠ d ∧ c ≠ d
def rh0 : RH := ⟨none, 0, 0, []⟩
theorem Gr4.start {w0 w1 w v : World} {X : List (Option Nat)} {T N d a b c : Nat} (h : Gr4 w N d a b c v) (hgo : Going w0 T w) (hg : w1.grownBy w (some T)) (ht : T < w1.heap.size) (hrs : Fb w w1.heap.size #[.slice none 0 0, .slice none 0 0, .slice none 0 0] 26) :
    Gg w0 w1 X T N d a b c (List.replicate N rh0) (List.replicate N rh0) v := by
  have h1 := h.lo
  have h2 := hg.size
  have hr : ∀ y ∈ List.replicate N rh0, RHok v (exG X T b c) y ∧ y.n ≤ y.c := fun y hy => by
    obtain ⟨-, rfl⟩ := List.mem_replicate.1 hy
    exact ⟨⟨EAt.nil _ _ _, rfl, Nat.zero_le _⟩, Nat.le_refl _⟩
  have he : ((List.replicate N rh0).map RH.v).toArray = Array.replicate N (Value.slice none 0 0) := by simp [rh0, RH.v]
  exact ⟨hgo.below h.bel, grown_two hg (grown_of_below h.bel _), h.box, h.na, by rw [he]; exact h.sb, by rw [he]; exact h.pc, by simp, by simp, hr, hr, hrs.below h.bel hrs.lt, by have := hrs.lt; omega, h.ne, ht⟩
/-- A graph of the tape, and its rows' room. -/
def RetTgc (w0 w : World) (X : List (Option Nat)) (T m : Nat) (e : Ending) (w' : World) : Prop :=
  ∃ x : GH, e = .returned x.a ∧ GHok w' X x ∧ ValG x.n x.S.v x.P.v ∧ x.S.n = x.n ∧ x.P.n = x.n ∧ x.n ≤ m + 1 ∧ Going w0 T w' ∧ w.grownBy w' (some T) ∧ (∀ y ∈ x.S.l, y.n ≤ y.c) ∧ (∀ y ∈ x.P.l, y.n ≤ y.c)
set_option maxHeartbeats 6400000 in
theorem tgraphc_any (X : List (Option Nat)) (w0 : World) (T : Nat) (m : Nat) (w : World) (h : Going w0 T w) (hX : ∀ k, some k ∈ X → k < w.heap.size) (hm : m ≤ 20) :
    Calls Tryz.prog 5 #[.pointer (some ⟨T, 0, none⟩), .int .i64 m] w (RetTgc w0 w X T m) := by
  have H1 := hid (h.alloc (.cells #[.slice none 0 0, .slice none 0 0, .slice none 0 0] 26))
  have hga := grown_of_below ((Below.refl w.heap.size w).alloc (Nat.le_refl _) (.cells #[.slice none 0 0, .slice none 0 0, .slice none 0 0] 26)) (some T)
  have HGa := hid hga
  have Hlt := hid h.1.lt
  have HBx := hid (Fb.new w #[.slice none 0 0, .slice none 0 0, .slice none 0 0] 26)
  have HX := hid (show ∀ k, some k ∈ some w.heap.size :: X → k ≤ w.heap.size from fun k hk => by
    rcases List.mem_cons.1 hk with e | e
    · injection e with e; omega
    · have := hX k e; omega)
  have HX2 := hid hX
  clear h hga hX
  go_enter Tryz.func5, Tryz.ntmps5
  go_wp2_with fail
  refine (next_any T m _ H1.out.1 (by omega)).mono ?_
  rintro e w3 ⟨r, rfl, hr0, hr1, ht, hg, -⟩
  have H3 := hid (H1.out.step ht hg)
  have HGr := hid (grown_two HGa.out hg)
  have HBx3 := hid (HBx.out.grown hg (by have := Hlt.out; intro e; injection e with e; omega))
  clear ht hg H1 HGa HBx
  obtain ⟨N, hN⟩ : ∃ N : Nat, (1 : Int) + r = (N : Int) := ⟨(1 + r).toNat, by omega⟩
  have hN1 : 1 ≤ N := by omega
  have hN2 : N ≤ 21 := by omega
  go_wp2_with fail
  have hmr := run_mkrows N (by omega)
  have hmn := run_mknodes N (by omega)
  go_cut [5] (fun x wc => ∃ d a b c : Nat, x = .pointer (some ⟨d, 0, none⟩) ∧ Hid (Gr4 w3 N d a b c wc))
  case first =>
    go_region_law (fail)
    all_goals
      go_wp2_with fail
      go_meet
      first
      | exact ⟨_, _, _, _, rfl, hid ⟨fq3 .., fq0 .., fq1 .., fq2 .., bq .., by omega, by omega⟩⟩
      | exact ⟨_, _, _, _, rfl, hid ⟨fq3 .., fq0 .., fq2 .., fq1 .., bq .., by omega, by omega⟩⟩
      | exact ⟨_, _, _, _, rfl, hid ⟨fq3 .., fq1 .., fq0 .., fq2 .., bq .., by omega, by omega⟩⟩
      | exact ⟨_, _, _, _, rfl, hid ⟨fq3 .., fq1 .., fq2 .., fq0 .., bq .., by omega, by omega⟩⟩
      | exact ⟨_, _, _, _, rfl, hid ⟨fq3 .., fq2 .., fq0 .., fq1 .., bq .., by omega, by omega⟩⟩
      | exact ⟨_, _, _, _, rfl, hid ⟨fq3 .., fq2 .., fq1 .., fq0 .., bq .., by omega, by omega⟩⟩
      | exact ⟨_, _, _, _, rfl, hid ⟨fq2 .., fq0 .., fq1 .., fq3 .., bq .., by omega, by omega⟩⟩
      | exact ⟨_, _, _, _, rfl, hid ⟨fq2 .., fq0 .., fq3 .., fq1 .., bq .., by omega, by omega⟩⟩
      | exact ⟨_, _, _, _, rfl, hid ⟨fq2 .., fq1 .., fq0 .., fq3 .., bq .., by omega, by omega⟩⟩
      | exact ⟨_, _, _, _, rfl, hid ⟨fq2 .., fq1 .., fq3 .., fq0 .., bq .., by omega, by omega⟩⟩
      | exact ⟨_, _, _, _, rfl, hid ⟨fq2 .., fq3 .., fq0 .., fq1 .., bq .., by omega, by omega⟩⟩
      | exact ⟨_, _, _, _, rfl, hid ⟨fq2 .., fq3 .., fq1 .., fq0 .., bq .., by omega, by omega⟩⟩
      | exact ⟨_, _, _, _, rfl, hid ⟨fq1 .., fq0 .., fq2 .., fq3 .., bq .., by omega, by omega⟩⟩
      | exact ⟨_, _, _, _, rfl, hid ⟨fq1 .., fq0 .., fq3 .., fq2 .., bq .., by omega, by omega⟩⟩
      | exact ⟨_, _, _, _, rfl, hid ⟨fq1 .., fq2 .., fq0 .., fq3 .., bq .., by omega, by omega⟩⟩
      | exact ⟨_, _, _, _, rfl, hid ⟨fq1 .., fq2 .., fq3 .., fq0 .., bq .., by omega, by omega⟩⟩
      | exact ⟨_, _, _, _, rfl, hid ⟨fq1 .., fq3 .., fq0 .., fq2 .., bq .., by omega, by omega⟩⟩
      | exact ⟨_, _, _, _, rfl, hid ⟨fq1 .., fq3 .., fq2 .., fq0 .., bq .., by omega, by omega⟩⟩
      | exact ⟨_, _, _, _, rfl, hid ⟨fq0 .., fq1 .., fq2 .., fq3 .., bq .., by omega, by omega⟩⟩
      | exact ⟨_, _, _, _, rfl, hid ⟨fq0 .., fq1 .., fq3 .., fq2 .., bq .., by omega, by omega⟩⟩
      | exact ⟨_, _, _, _, rfl, hid ⟨fq0 .., fq2 .., fq1 .., fq3 .., bq .., by omega, by omega⟩⟩
      | exact ⟨_, _, _, _, rfl, hid ⟨fq0 .., fq2 .., fq3 .., fq1 .., bq .., by omega, by omega⟩⟩
      | exact ⟨_, _, _, _, rfl, hid ⟨fq0 .., fq3 .., fq1 .., fq2 .., bq .., by omega, by omega⟩⟩
      | exact ⟨_, _, _, _, rfl, hid ⟨fq0 .., fq3 .., fq2 .., fq1 .., bq .., by omega, by omega⟩⟩
  case rest =>
    clear hmr hmn
    obtain ⟨d, a, b, c, rfl, HZ⟩ := hcut
    have HG := hid (HZ.out.start (X := some w.heap.size :: X) H3.out HGr.out Hlt.out HBx3.out)
    have HV := hid (show ValG N ((List.replicate N rh0).map RH.l) ((List.replicate N rh0).map RH.l) by have := ValG.none hN1 (show N ≤ 30 by omega); simpa [rh0] using this)
    clear HZ H3 HGr HBx3
    generalize List.replicate N rh0 = xs0 at HG HV
    go_wp2_with fail
    refine (next_any T (2 * (N : Int) + 1) _ HG.out.go.1 (by omega)).mono ?_
    rintro e w5 ⟨q, rfl, hq0, hq1, ht, hg, -⟩
    have HG5 := hid (HG.out.step (HG.out.go.step ht hg) hg)
    clear ht hg HG
    obtain ⟨K0, hK0⟩ : ∃ K0 : Nat, q = (K0 : Int) := ⟨q.toNat, by omega⟩
    subst hK0
    have HSc := hid (fun (xs ps : List RH) (v : World) (h : Gg w0 w (some w.heap.size :: X) T N d a b c xs ps v) => show v.cell? ⟨d, 1, none⟩ = some (.slice (some ⟨b, 0, none⟩) N N) ∧ v.cell? ⟨d, 2, none⟩ = some (.slice (some ⟨c, 0, none⟩) N N) from h.box.thr.2)
    go_wp2_with fail
    go_loopw [6, 7, 8] (fun iv _ _ wr => ∃ (k : Nat) (xs ps : List RH), k ≤ K0 ∧ iv = .int .i64 k ∧ Hid (Gg w0 w (some w.heap.size :: X) T N d a b c xs ps wr) ∧ Hid (ValG N (xs.map RH.l) (ps.map RH.l))) (fun iv _ _ _ => (intOf iv).toNat)
    case atStart => exact ⟨K0, xs0, xs0, by omega, rfl, HG5, HV⟩
    case round =>
      clear HG5 HV
      obtain ⟨k, xs, ps, hk, rfl, hGb, hV⟩ := hrel
      by_cases h0 : 0 < k
      · have HC := hid hGb.out
        clear hGb
        go_wp2_with fail
        refine (next_any T (N : Int) _ HC.out.go.1 (by omega)).mono ?_
        rintro e wa ⟨qa, rfl, ha0, ha1, ht, hg, -⟩
        have HC := hid (HC.out.step (HC.out.go.step ht hg) hg)
        clear ht hg
        go_wp2_with fail
        refine (next_any T (N : Int) _ HC.out.go.1 (by omega)).mono ?_
        rintro e wb ⟨qb, rfl, hb0, hb1, ht, hg, -⟩
        have HC := hid (HC.out.step (HC.out.go.step ht hg) hg)
        clear ht hg
        obtain ⟨a0, rfl⟩ : ∃ a0 : Nat, qa = (a0 : Int) := ⟨qa.toNat, by omega⟩
        obtain ⟨b0, rfl⟩ : ∃ b0 : Nat, qb = (b0 : Int) := ⟨qb.toNat, by omega⟩
        have haN : a0 < N := by omega
        have hbN : b0 < N := by omega
        obtain ⟨xa, hxa, hxm⟩ := get_at HC.out.xl haN
        obtain ⟨pb, hpb, hpm⟩ := get_at HC.out.pl hbN
        have hxl : (xs.map RH.l)[a0]? = some xa.l := by rw [List.getElem?_map, hxa]; rfl
        have hpl : (ps.map RH.l)[b0]? = some pb.l := by rw [List.getElem?_map, hpb]; rfl
        have hxn : xa.n ≤ N := by have h1 := (HC.out.xr xa hxm).1.len; have h2 := ris_len (hV.out.ris _ (List.mem_of_getElem? hxl)); omega
        have hpn : pb.n ≤ N := by have h1 := (HC.out.pr pb hpm).1.len; have h2 := ris_len (hV.out.pris _ (List.mem_of_getElem? hpl)); omega
        have HI1 := hid (fun (ps : List RH) (v : World) (h : Gg w0 w (some w.heap.size :: X) T N d a b c xs ps v) => insert_any xa (b0 : Int) (exG (some w.heap.size :: X) T b c) v (h.xr xa hxm).1 (h.xr xa hxm).2 (by omega) (h.hex HX.out))
        have HI2 := hid (fun (xs : List RH) (v : World) (h : Gg w0 w (some w.heap.size :: X) T N d a b c xs ps v) => insert_any pb (a0 : Int) (exG (some w.heap.size :: X) T b c) v (h.pr pb hpm).1 (h.pr pb hpm).2 (by omega) (h.hex HX.out))
        have HR1 := hid (fun (ps : List RH) (v : World) (h : Gg w0 w (some w.heap.size :: X) T N d a b c xs ps v) => h.cellS hxa)
        have HR2 := hid (fun (xs : List RH) (v : World) (h : Gg w0 w (some w.heap.size :: X) T N d a b c xs ps v) => h.cellP hpb)
        have HVl := hid (fun (y1 y2 : RH) (h1 : y1.l = insI xa.l b0) (h2 : y2.l = insI pb.l a0) => show ValG N ((xs.set a0 y1).map RH.l) ((ps.set b0 y2).map RH.l) by
          rw [List.map_set, List.map_set, h1, h2]
          have := hV.out.put (by omega) haN hbN
          rw [rw0_at hxl, rw0_at hpl] at this
          exact this)
        have HHy := hid (And.intro (And.intro ha0 ha1) (And.intro hb0 hb1))
        clear hxa hxm hpb hpm hxl hpl hxn hpn hV ha0 ha1 hb0 hb1
        obtain ⟨xA, xn, xc, xl⟩ := xa
        obtain ⟨pA, pn, pc, pl⟩ := pb
        simp only at *
        go_wp2_with fail
        refine wp_region_noPanic ?_
        have HC := hid (HC.out.below (Below.refl _ _).drew)
        refine wp_region_held_drew (S := (fun v => v.cell? ⟨d, 1, none⟩ = some (.slice (some ⟨b, 0, none⟩) N N) ∧ v.cell? ⟨d, 2, none⟩ = some (.slice (some ⟨c, 0, none⟩) N N))) (by kernel_rfl) (HSc.out _ _ _ HC.out) (fun hHeld => ?_)
        refine wpAnyH_take (i := 0) (oi := _) (v := ?_) rfl (by kernel_rfl) (by kernel_rfl) (by kernel_rfl) (fun _ _ _ h => h) (Or.inl ⟨by rfl, ?_⟩) (by assumption) ?_
        rotate_left
        · (intro w hSw; (try dsimp only at hSw); go_simp; try with_reducible rfl)
        try simp only [Act.put, List.setIfInBounds_toArray, List.set_cons_zero, List.set_cons_succ]
        refine wpAnyH_take (i := 1) (oi := _) (v := ?_) rfl (by kernel_rfl) (by kernel_rfl) (by kernel_rfl) (fun _ _ _ h => h) (Or.inl ⟨by rfl, ?_⟩) (by assumption) ?_
        rotate_left
        · (intro w hSw; (try dsimp only at hSw); go_simp; try with_reducible rfl)
        try simp only [Act.put, List.setIfInBounds_toArray, List.set_cons_zero, List.set_cons_succ]
        refine wpAnyH_take (i := 2) (oi := _) (v := ?_) rfl (by kernel_rfl) (by kernel_rfl) (by kernel_rfl) (fun _ _ _ h => h) (Or.inl ⟨by rfl, ?_⟩) (by assumption) ?_
        rotate_left
        · (intro w hSw; (try dsimp only at hSw); go_simp; try with_reducible rfl)
        try simp only [Act.put, List.setIfInBounds_toArray, List.set_cons_zero, List.set_cons_succ]
        refine wpAnyH_take (i := 3) (oi := _) (v := ?_) rfl (by kernel_rfl) (by kernel_rfl) (by kernel_rfl) (fun _ _ _ h => h) (Or.inl ⟨by rfl, ?_⟩) (by assumption) ?_
        rotate_left
        · (intro w hSw; (try dsimp only at hSw); go_simp; try with_reducible rfl)
        try simp only [Act.put, List.setIfInBounds_toArray, List.set_cons_zero, List.set_cons_succ]
        refine wpAnyH_take (i := 4) (oi := _) (v := ?_) rfl (by kernel_rfl) (by kernel_rfl) (by kernel_rfl) (fun _ _ _ h => h) (Or.inl ⟨by rfl, ?_⟩) (by assumption) ?_
        rotate_left
        · (intro w hSw; (try dsimp only at hSw); go_simp; try with_reducible rfl)
        try simp only [Act.put, List.setIfInBounds_toArray, List.set_cons_zero, List.set_cons_succ]
        refine wpAnyH_take (i := 5) (oi := _) (v := ?_) rfl (by kernel_rfl) (by kernel_rfl) (by kernel_rfl) (fun _ _ _ h => h) (Or.inl ⟨by rfl, ?_⟩) (by assumption) ?_
        rotate_left
        · (intro w hSw; (try dsimp only at hSw); go_simp; try with_reducible rfl)
        try simp only [Act.put, List.setIfInBounds_toArray, List.set_cons_zero, List.set_cons_succ]
        refine wpAnyH_take (i := 6) (oi := _) (v := ?_) rfl (by kernel_rfl) (by kernel_rfl) (by kernel_rfl) (fun _ _ _ h => h) (Or.inl ⟨by rfl, ?_⟩) (by assumption) ?_
        rotate_left
        · (intro w hSw; (try dsimp only at hSw); go_simp; try with_reducible rfl)
        try simp only [Act.put, List.setIfInBounds_toArray, List.set_cons_zero, List.set_cons_succ]
        refine wpAnyH_take (i := 7) (oi := _) (v := ?_) rfl (by kernel_rfl) (by kernel_rfl) (by kernel_rfl) (fun _ _ _ h => h) (Or.inl ⟨by rfl, ?_⟩) (by assumption) ?_
        rotate_left
        · (intro w hSw; (try dsimp only at hSw); go_simp; try with_reducible rfl)
        try simp only [Act.put, List.setIfInBounds_toArray, List.set_cons_zero, List.set_cons_succ]
        refine wpAnyH_take (i := 8) (oi := _) (v := ?_) rfl (by kernel_rfl) (by kernel_rfl) (by kernel_rfl) (fun _ _ _ h => h) (Or.inl ⟨by rfl, ?_⟩) (by assumption) ?_
        rotate_left
        · (intro w hSw; (try dsimp only at hSw); go_simp; try with_reducible rfl)
        try simp only [Act.put, List.setIfInBounds_toArray, List.set_cons_zero, List.set_cons_succ]
        refine wpAnyH_take (i := 9) (oi := _) (v := ?_) rfl (by kernel_rfl) (by kernel_rfl) (by kernel_rfl) (fun _ _ _ h => h) (Or.inl ⟨by rfl, ?_⟩) (by assumption) ?_
        rotate_left
        · (intro w hSw; (try dsimp only at hSw); go_simp; try with_reducible rfl)
        try simp only [Act.put, List.setIfInBounds_toArray, List.set_cons_zero, List.set_cons_succ]
        refine wpAnyH_take (i := 11) (oi := _) (v := ?_) rfl (by kernel_rfl) (by kernel_rfl) (by kernel_rfl) (fun _ _ _ h => h) (Or.inl ⟨by rfl, ?_⟩) (by assumption) ?_
        rotate_left
        · (intro w hSw; (try dsimp only at hSw); go_simp; try with_reducible rfl)
        try simp only [Act.put, List.setIfInBounds_toArray, List.set_cons_zero, List.set_cons_succ]
        refine wpAnyH_take (i := 13) (oi := _) (v := ?_) rfl (by kernel_rfl) (by kernel_rfl) (by kernel_rfl) (fun _ _ _ h => h) (Or.inl ⟨by rfl, ?_⟩) (by assumption) ?_
        rotate_left
        · (intro w hSw; (try dsimp only at hSw); go_simp; try with_reducible rfl)
        try simp only [Act.put, List.setIfInBounds_toArray, List.set_cons_zero, List.set_cons_succ]
        refine wpAnyH_take (i := 14) (oi := _) (v := ?_) rfl (by kernel_rfl) (by kernel_rfl) (by kernel_rfl) (fun _ _ _ h => h) (Or.inl ⟨by rfl, ?_⟩) (by assumption) ?_
        rotate_left
        · (intro w hSw; (try dsimp only at hSw); go_simp; try with_reducible rfl)
        try simp only [Act.put, List.setIfInBounds_toArray, List.set_cons_zero, List.set_cons_succ]
        refine wpAnyH_take (i := 15) (oi := _) (v := ?_) rfl (by kernel_rfl) (by kernel_rfl) (by kernel_rfl) (fun _ _ _ h => h) (Or.inl ⟨by rfl, ?_⟩) (by assumption) ?_
        rotate_left
        · (intro w hSw; (try dsimp only at hSw); go_simp; try with_reducible rfl)
        try simp only [Act.put, List.setIfInBounds_toArray, List.set_cons_zero, List.set_cons_succ]
        refine wpAnyH_take (i := 16) (oi := _) (v := ?_) rfl (by kernel_rfl) (by kernel_rfl) (by kernel_rfl) (fun _ _ _ h => h) (Or.inl ⟨by rfl, ?_⟩) (by assumption) ?_
        rotate_left
        · (intro w hSw; (try dsimp only at hSw); go_simp; try with_reducible rfl)
        try simp only [Act.put, List.setIfInBounds_toArray, List.set_cons_zero, List.set_cons_succ]
        refine wpAnyH_take (i := 18) (oi := _) (v := ?_) rfl (by kernel_rfl) (by kernel_rfl) (by kernel_rfl) (fun _ _ _ h => h) (Or.inl ⟨by rfl, ?_⟩) (by assumption) ?_
        rotate_left
        · (intro w hSw; (try dsimp only at hSw); go_simp; try with_reducible rfl)
        try simp only [Act.put, List.setIfInBounds_toArray, List.set_cons_zero, List.set_cons_succ]
        refine wpAnyH_ready (rs := [10, 17]) (by kernel_rfl) (by simp) ?_
        refine AllReadyH.cons (o := _) rfl (fun K hK => ?_) ?_
        ·
          have r1 := (HR1.out _ _ HC.out).1
          go_simp
          refine hK.out _ _ ?_ (fun hHeld => ?_)
          · ((try dsimp only); exact HSc.out _ _ _ HC.out)
          clear hK K
          try simp only [Act.put, List.setIfInBounds_toArray, List.set_cons_zero, List.set_cons_succ]
          refine wpAnyH_ready (rs := [12, 17]) (by kernel_rfl) (by simp) ?_
          refine AllReadyH.cons (o := _) rfl (fun K hK => ?_) ?_
          ·
            go_simp
            refine (HI1.out _ _ HC.out).mono ?_
            rintro e v1 ⟨y1, rfl, hyl1, hyo1, hyc1, hb1⟩
            have HC := hid (HC.out.below hb1)
            have HY1 := hid hyo1
            have HL1 := hid hyl1
            have HQ1 := hid hyc1
            clear hyl1 hyo1 hyc1 hb1
            go_wp2_with fail
            refine hK.out _ _ ?_ (fun hHeld => ?_)
            · ((try dsimp only); exact HSc.out _ _ _ HC.out)
            clear hK K
            try simp only [Act.put, List.setIfInBounds_toArray, List.set_cons_zero, List.set_cons_succ]
            refine wpAnyH_ready (rs := [17]) (by kernel_rfl) (by simp) ?_
            refine AllReadyH.cons (o := _) rfl (fun K hK => ?_) ?_
            ·
              have r2 := (HR2.out _ _ HC.out).1
              go_simp
              refine hK.out _ _ ?_ (fun hHeld => ?_)
              · ((try dsimp only); exact HSc.out _ _ _ HC.out)
              clear hK K
              try simp only [Act.put, List.setIfInBounds_toArray, List.set_cons_zero, List.set_cons_succ]
              refine wpAnyH_ready (rs := [19]) (by kernel_rfl) (by simp) ?_
              refine AllReadyH.cons (o := _) rfl (fun K hK => ?_) ?_
              ·
                go_simp
                refine (HI2.out _ _ HC.out).mono ?_
                rintro e v2 ⟨y2, rfl, hyl2, hyo2, hyc2, hb2⟩
                have HY1 := hid (HY1.out.below hb2)
                have HC := hid (HC.out.below hb2)
                have HY2 := hid hyo2
                have HL2 := hid hyl2
                have HQ2 := hid hyc2
                clear hyl2 hyo2 hyc2 hb2
                go_wp2_with fail
                refine hK.out _ _ ?_ (fun hHeld => ?_)
                · ((try dsimp only); exact HSc.out _ _ _ HC.out)
                clear hK K
                try simp only [Act.put, List.setIfInBounds_toArray, List.set_cons_zero, List.set_cons_succ]
                refine wpAnyH_take (i := 20) (oi := _) (v := ?_) rfl (by kernel_rfl) (by kernel_rfl) (by kernel_rfl) (fun _ _ _ h => h) (Or.inl ⟨by rfl, ?_⟩) (by assumption) ?_
                rotate_left
                · (intro w hSw; (try dsimp only at hSw); go_simp; try with_reducible rfl)
                try simp only [Act.put, List.setIfInBounds_toArray, List.set_cons_zero, List.set_cons_succ]
                refine wpAnyH_ready (rs := [21]) (by kernel_rfl) (by simp) ?_
                refine AllReadyH.cons (o := _) rfl (fun K hK => ?_) AllReadyH.nil
                have r1 := (HR1.out _ _ HC.out).1
                have f1 := (HR1.out _ _ HC.out).2
                have HY2 := hid (HC.out.keepS a0 HY2.out (.slice y1.A y1.n y1.c))
                have HC := hid (show Gg w0 w (some w.heap.size :: X) T N d a b c (xs.set a0 y1) ps (v2.setCell ⟨b, a0, none⟩ (.slice y1.A y1.n y1.c)) from HC.out.setS a0 HY1.out HQ1.out)
                go_simp
                refine hK.out _ _ ?_ (fun hHeld => ?_)
                · ((try dsimp only); exact HSc.out _ _ _ HC.out)
                clear hK K
                try simp only [Act.put, List.setIfInBounds_toArray, List.set_cons_zero, List.set_cons_succ]
                clear r1 f1
                generalize v2.setCell ⟨b, a0, none⟩ (.slice y1.A y1.n y1.c) = v3 at *
                refine wpAnyH_take (i := 22) (oi := _) (v := ?_) rfl (by kernel_rfl) (by kernel_rfl) (by kernel_rfl) (fun _ _ _ h => h) (Or.inl ⟨by rfl, ?_⟩) (by assumption) ?_
                rotate_left
                · (intro w hSw; (try dsimp only at hSw); go_simp; try with_reducible rfl)
                try simp only [Act.put, List.setIfInBounds_toArray, List.set_cons_zero, List.set_cons_succ]
                refine wpAnyH_ready (rs := [23]) (by kernel_rfl) (by simp) ?_
                refine AllReadyH.cons (o := _) rfl (fun K hK => ?_) AllReadyH.nil
                have r2 := (HR2.out _ _ HC.out).1
                have f2 := (HR2.out _ _ HC.out).2
                have HC := hid (show Gg w0 w (some w.heap.size :: X) T N d a b c (xs.set a0 y1) (ps.set b0 y2) (v3.setCell ⟨c, b0, none⟩ (.slice y2.A y2.n y2.c)) from HC.out.setP b0 HY2.out HQ2.out)
                go_simp
                refine hK.out _ _ ?_ (fun hHeld => ?_)
                · ((try dsimp only); exact HSc.out _ _ _ HC.out)
                clear hK K
                try simp only [Act.put, List.setIfInBounds_toArray, List.set_cons_zero, List.set_cons_succ]
                refine wpAnyH_done (by kernel_rfl) ?_ _
                refine NoPanic.normal ?_
                go_wp2_with fail
                go_roundw
                case rel => exact ⟨k - 1, xs.set a0 y1, ps.set b0 y2, by omega, by first | go_num | (congr 1; omega), HC, hid (HVl.out y1 y2 HL1.out HL2.out)⟩
                case measure => simp [intOf]; omega
              exact AllReadyH.nil
            exact AllReadyH.nil
          refine AllReadyH.cons (o := _) rfl (fun K hK => ?_) ?_
          ·
            have r2 := (HR2.out _ _ HC.out).1
            go_simp
            refine hK.out _ _ ?_ (fun hHeld => ?_)
            · ((try dsimp only); exact HSc.out _ _ _ HC.out)
            clear hK K
            try simp only [Act.put, List.setIfInBounds_toArray, List.set_cons_zero, List.set_cons_succ]
            refine wpAnyH_ready (rs := [12]) (by kernel_rfl) (by simp) ?_
            refine AllReadyH.cons (o := _) rfl (fun K hK => ?_) ?_
            ·
              go_simp
              refine (HI1.out _ _ HC.out).mono ?_
              rintro e v1 ⟨y1, rfl, hyl1, hyo1, hyc1, hb1⟩
              have HC := hid (HC.out.below hb1)
              have HY1 := hid hyo1
              have HL1 := hid hyl1
              have HQ1 := hid hyc1
              clear hyl1 hyo1 hyc1 hb1
              go_wp2_with fail
              refine hK.out _ _ ?_ (fun hHeld => ?_)
              · ((try dsimp only); exact HSc.out _ _ _ HC.out)
              clear hK K
              try simp only [Act.put, List.setIfInBounds_toArray, List.set_cons_zero, List.set_cons_succ]
              refine wpAnyH_ready (rs := [19]) (by kernel_rfl) (by simp) ?_
              refine AllReadyH.cons (o := _) rfl (fun K hK => ?_) ?_
              ·
                go_simp
                refine (HI2.out _ _ HC.out).mono ?_
                rintro e v2 ⟨y2, rfl, hyl2, hyo2, hyc2, hb2⟩
                have HY1 := hid (HY1.out.below hb2)
                have HC := hid (HC.out.below hb2)
                have HY2 := hid hyo2
                have HL2 := hid hyl2
                have HQ2 := hid hyc2
                clear hyl2 hyo2 hyc2 hb2
                go_wp2_with fail
                refine hK.out _ _ ?_ (fun hHeld => ?_)
                · ((try dsimp only); exact HSc.out _ _ _ HC.out)
                clear hK K
                try simp only [Act.put, List.setIfInBounds_toArray, List.set_cons_zero, List.set_cons_succ]
                refine wpAnyH_take (i := 20) (oi := _) (v := ?_) rfl (by kernel_rfl) (by kernel_rfl) (by kernel_rfl) (fun _ _ _ h => h) (Or.inl ⟨by rfl, ?_⟩) (by assumption) ?_
                rotate_left
                · (intro w hSw; (try dsimp only at hSw); go_simp; try with_reducible rfl)
                try simp only [Act.put, List.setIfInBounds_toArray, List.set_cons_zero, List.set_cons_succ]
                refine wpAnyH_ready (rs := [21]) (by kernel_rfl) (by simp) ?_
                refine AllReadyH.cons (o := _) rfl (fun K hK => ?_) AllReadyH.nil
                have r1 := (HR1.out _ _ HC.out).1
                have f1 := (HR1.out _ _ HC.out).2
                have HY2 := hid (HC.out.keepS a0 HY2.out (.slice y1.A y1.n y1.c))
                have HC := hid (show Gg w0 w (some w.heap.size :: X) T N d a b c (xs.set a0 y1) ps (v2.setCell ⟨b, a0, none⟩ (.slice y1.A y1.n y1.c)) from HC.out.setS a0 HY1.out HQ1.out)
                go_simp
                refine hK.out _ _ ?_ (fun hHeld => ?_)
                · ((try dsimp only); exact HSc.out _ _ _ HC.out)
                clear hK K
                try simp only [Act.put, List.setIfInBounds_toArray, List.set_cons_zero, List.set_cons_succ]
                clear r1 f1
                generalize v2.setCell ⟨b, a0, none⟩ (.slice y1.A y1.n y1.c) = v3 at *
                refine wpAnyH_take (i := 22) (oi := _) (v := ?_) rfl (by kernel_rfl) (by kernel_rfl) (by kernel_rfl) (fun _ _ _ h => h) (Or.inl ⟨by rfl, ?_⟩) (by assumption) ?_
                rotate_left
                · (intro w hSw; (try dsimp only at hSw); go_simp; try with_reducible rfl)
                try simp only [Act.put, List.setIfInBounds_toArray, List.set_cons_zero, List.set_cons_succ]
                refine wpAnyH_ready (rs := [23]) (by kernel_rfl) (by simp) ?_
                refine AllReadyH.cons (o := _) rfl (fun K hK => ?_) AllReadyH.nil
                have r2 := (HR2.out _ _ HC.out).1
                have f2 := (HR2.out _ _ HC.out).2
                have HC := hid (show Gg w0 w (some w.heap.size :: X) T N d a b c (xs.set a0 y1) (ps.set b0 y2) (v3.setCell ⟨c, b0, none⟩ (.slice y2.A y2.n y2.c)) from HC.out.setP b0 HY2.out HQ2.out)
                go_simp
                refine hK.out _ _ ?_ (fun hHeld => ?_)
                · ((try dsimp only); exact HSc.out _ _ _ HC.out)
                clear hK K
                try simp only [Act.put, List.setIfInBounds_toArray, List.set_cons_zero, List.set_cons_succ]
                refine wpAnyH_done (by kernel_rfl) ?_ _
                refine NoPanic.normal ?_
                go_wp2_with fail
                go_roundw
                case rel => exact ⟨k - 1, xs.set a0 y1, ps.set b0 y2, by omega, by first | go_num | (congr 1; omega), HC, hid (HVl.out y1 y2 HL1.out HL2.out)⟩
                case measure => simp [intOf]; omega
              exact AllReadyH.nil
            exact AllReadyH.nil
          exact AllReadyH.nil
        refine AllReadyH.cons (o := _) rfl (fun K hK => ?_) ?_
        ·
          have r2 := (HR2.out _ _ HC.out).1
          go_simp
          refine hK.out _ _ ?_ (fun hHeld => ?_)
          · ((try dsimp only); exact HSc.out _ _ _ HC.out)
          clear hK K
          try simp only [Act.put, List.setIfInBounds_toArray, List.set_cons_zero, List.set_cons_succ]
          refine wpAnyH_ready (rs := [10]) (by kernel_rfl) (by simp) ?_
          refine AllReadyH.cons (o := _) rfl (fun K hK => ?_) ?_
          ·
            have r1 := (HR1.out _ _ HC.out).1
            go_simp
            refine hK.out _ _ ?_ (fun hHeld => ?_)
            · ((try dsimp only); exact HSc.out _ _ _ HC.out)
            clear hK K
            try simp only [Act.put, List.setIfInBounds_toArray, List.set_cons_zero, List.set_cons_succ]
            refine wpAnyH_ready (rs := [12]) (by kernel_rfl) (by simp) ?_
            refine AllReadyH.cons (o := _) rfl (fun K hK => ?_) ?_
            ·
              go_simp
              refine (HI1.out _ _ HC.out).mono ?_
              rintro e v1 ⟨y1, rfl, hyl1, hyo1, hyc1, hb1⟩
              have HC := hid (HC.out.below hb1)
              have HY1 := hid hyo1
              have HL1 := hid hyl1
              have HQ1 := hid hyc1
              clear hyl1 hyo1 hyc1 hb1
              go_wp2_with fail
              refine hK.out _ _ ?_ (fun hHeld => ?_)
              · ((try dsimp only); exact HSc.out _ _ _ HC.out)
              clear hK K
              try simp only [Act.put, List.setIfInBounds_toArray, List.set_cons_zero, List.set_cons_succ]
              refine wpAnyH_ready (rs := [19]) (by kernel_rfl) (by simp) ?_
              refine AllReadyH.cons (o := _) rfl (fun K hK => ?_) ?_
              ·
                go_simp
                refine (HI2.out _ _ HC.out).mono ?_
                rintro e v2 ⟨y2, rfl, hyl2, hyo2, hyc2, hb2⟩
                have HY1 := hid (HY1.out.below hb2)
                have HC := hid (HC.out.below hb2)
                have HY2 := hid hyo2
                have HL2 := hid hyl2
                have HQ2 := hid hyc2
                clear hyl2 hyo2 hyc2 hb2
                go_wp2_with fail
                refine hK.out _ _ ?_ (fun hHeld => ?_)
                · ((try dsimp only); exact HSc.out _ _ _ HC.out)
                clear hK K
                try simp only [Act.put, List.setIfInBounds_toArray, List.set_cons_zero, List.set_cons_succ]
                refine wpAnyH_take (i := 20) (oi := _) (v := ?_) rfl (by kernel_rfl) (by kernel_rfl) (by kernel_rfl) (fun _ _ _ h => h) (Or.inl ⟨by rfl, ?_⟩) (by assumption) ?_
                rotate_left
                · (intro w hSw; (try dsimp only at hSw); go_simp; try with_reducible rfl)
                try simp only [Act.put, List.setIfInBounds_toArray, List.set_cons_zero, List.set_cons_succ]
                refine wpAnyH_ready (rs := [21]) (by kernel_rfl) (by simp) ?_
                refine AllReadyH.cons (o := _) rfl (fun K hK => ?_) AllReadyH.nil
                have r1 := (HR1.out _ _ HC.out).1
                have f1 := (HR1.out _ _ HC.out).2
                have HY2 := hid (HC.out.keepS a0 HY2.out (.slice y1.A y1.n y1.c))
                have HC := hid (show Gg w0 w (some w.heap.size :: X) T N d a b c (xs.set a0 y1) ps (v2.setCell ⟨b, a0, none⟩ (.slice y1.A y1.n y1.c)) from HC.out.setS a0 HY1.out HQ1.out)
                go_simp
                refine hK.out _ _ ?_ (fun hHeld => ?_)
                · ((try dsimp only); exact HSc.out _ _ _ HC.out)
                clear hK K
                try simp only [Act.put, List.setIfInBounds_toArray, List.set_cons_zero, List.set_cons_succ]
                clear r1 f1
                generalize v2.setCell ⟨b, a0, none⟩ (.slice y1.A y1.n y1.c) = v3 at *
                refine wpAnyH_take (i := 22) (oi := _) (v := ?_) rfl (by kernel_rfl) (by kernel_rfl) (by kernel_rfl) (fun _ _ _ h => h) (Or.inl ⟨by rfl, ?_⟩) (by assumption) ?_
                rotate_left
                · (intro w hSw; (try dsimp only at hSw); go_simp; try with_reducible rfl)
                try simp only [Act.put, List.setIfInBounds_toArray, List.set_cons_zero, List.set_cons_succ]
                refine wpAnyH_ready (rs := [23]) (by kernel_rfl) (by simp) ?_
                refine AllReadyH.cons (o := _) rfl (fun K hK => ?_) AllReadyH.nil
                have r2 := (HR2.out _ _ HC.out).1
                have f2 := (HR2.out _ _ HC.out).2
                have HC := hid (show Gg w0 w (some w.heap.size :: X) T N d a b c (xs.set a0 y1) (ps.set b0 y2) (v3.setCell ⟨c, b0, none⟩ (.slice y2.A y2.n y2.c)) from HC.out.setP b0 HY2.out HQ2.out)
                go_simp
                refine hK.out _ _ ?_ (fun hHeld => ?_)
                · ((try dsimp only); exact HSc.out _ _ _ HC.out)
                clear hK K
                try simp only [Act.put, List.setIfInBounds_toArray, List.set_cons_zero, List.set_cons_succ]
                refine wpAnyH_done (by kernel_rfl) ?_ _
                refine NoPanic.normal ?_
                go_wp2_with fail
                go_roundw
                case rel => exact ⟨k - 1, xs.set a0 y1, ps.set b0 y2, by omega, by first | go_num | (congr 1; omega), HC, hid (HVl.out y1 y2 HL1.out HL2.out)⟩
                case measure => simp [intOf]; omega
              exact AllReadyH.nil
            exact AllReadyH.nil
          exact AllReadyH.nil
        exact AllReadyH.nil

      · obtain rfl : k = 0 := by omega
        have HF := hid hGb.out
        obtain ⟨c0, c1, c2⟩ := HF.out.box.thr
        obtain ⟨e0, e1, e2⟩ := HF.out.rs.thr
        have z0 := HF.out.rs.frozen 0
        have z1 := HF.out.rs.frozen 1
        have z2 := HF.out.rs.frozen 2
        have hl := HF.out.rs.lt
        clear hGb
        have HR := hid (HF.out.ret HX2.out (by omega) (.slice (some ⟨a, 0, none⟩) N N) (.slice (some ⟨b, 0, none⟩) N N) (.slice (some ⟨c, 0, none⟩) N N))
        go_wp2_with fail
        refine bodyPost_ret (v := .agg #[.slice (some ⟨a, 0, none⟩) N N, .slice (some ⟨b, 0, none⟩) N N, .slice (some ⟨c, 0, none⟩) N N]) (by simp [results, Tryz.results5, go_sem, e0, e1, e2, z0, z1, z2, hl]) rfl ?_
        exact ⟨⟨some ⟨a, 0, none⟩, N, N, List.replicate N nd0, ⟨some ⟨b, 0, none⟩, N, N, xs⟩, ⟨some ⟨c, 0, none⟩, N, N, ps⟩⟩, rfl, HR.out.1, hV.out, rfl, rfl, by show N ≤ m + 1; omega, HR.out.2.1, HR.out.2.2, fun y hy => (HF.out.xr y hy).2, fun y hy => (HF.out.pr y hy).2⟩
theorem tgraph_any (X : List (Option Nat)) (w0 : World) (T : Nat) (m : Nat) (w : World) (h : Going w0 T w) (hX : ∀ k, some k ∈ X → k < w.heap.size) (hm : m ≤ 20) :
    Calls Tryz.prog 5 #[.pointer (some ⟨T, 0, none⟩), .int .i64 m] w (RetTg w0 w X T m) :=
  (tgraphc_any X w0 T m w h hX hm).mono fun _ _ ⟨x, h1, h2, h3, h4, h5, h6, h7, h8, _, _⟩ => ⟨x, h1, h2, h3, h4, h5, h6, h7, h8⟩
end Go.Proofs.YtmbelhdkaepohaaGreatDoor

namespace Go.Proofs.YtmbelhdkaepohaaGreatDoor
set_option linter.unusedVariables false
set_option linter.unusedSimpArgs false

/-- The slots ds of a frame hold these values. -/
def putL : List (Option Tmp) → (Nat → Value) → Nat → Act → Act
  | [], _, _, a => a
  | d :: ds, f, k, a => putL ds f (k + 1) (a.put d (f k))
def updV (f : Nat → Value) (i : Nat) (v : Value) : Nat → Value := fun j => if j = i then v else f j
theorem updV_self (f : Nat → Value) (i : Nat) (v : Value) : updV f i v i = v := by simp [updV]
theorem updV_ne (f : Nat → Value) {i j : Nat} (v : Value) (h : j ≠ i) : updV f i v j = f j := by simp [updV, h]
theorem putL_congr : ∀ (ds : List (Option Tmp)) (f g : Nat → Value) (k : Nat) (a : Act), (∀ j, k ≤ j → f j = g j) → putL ds f k a = putL ds g k a := by
  intro ds
  induction ds with
  | nil => intro f g k a _; rfl
  | cons d ds ih => intro f g k a h; rw [putL, putL, h k (Nat.le_refl _)]; exact ih f g (k + 1) _ fun j hj => h j (by omega)
theorem put_put (a : Act) (d : Option Tmp) (u v : Value) : (a.put d u).put d v = a.put d v := by
  cases d with
  | none => rfl
  | some d => simp [Act.put]
theorem putL_put : ∀ (ds : List (Option Tmp)) (f : Nat → Value) (k : Nat) (a : Act) (d : Option Tmp) (v : Value), (∀ x ∈ ds, ∀ y, x = some y → d ≠ some y) → (putL ds f k a).put d v = putL ds f k (a.put d v) := by
  intro ds
  induction ds with
  | nil => intro f k a d v _; rfl
  | cons x ds ih =>
    intro f k a d v h
    rw [putL, putL, ih f (k + 1) _ d v fun y hy => h y (by simp [hy])]
    congr 1
    exact Act.put_comm a _ _ fun y hy => h x (by simp) y hy
theorem putL_upd : ∀ (l1 : List (Option Tmp)) (d : Option Tmp) (l2 : List (Option Tmp)) (f : Nat → Value) (k : Nat) (a : Act) (v : Value), (∀ x ∈ l2, ∀ y, x = some y → d ≠ some y) →
    (putL (l1 ++ d :: l2) f k a).put d v = putL (l1 ++ d :: l2) (updV f (k + l1.length) v) k a := by
  intro l1
  induction l1 with
  | nil =>
    intro d l2 f k a v h
    simp only [List.nil_append, putL, List.length_nil, Nat.add_zero]
    rw [putL_put l2 f (k + 1) _ d v h, put_put, updV_self]
    exact putL_congr l2 _ _ (k + 1) _ fun j hj => (updV_ne f v (by omega)).symm
  | cons x l1 ih =>
    intro d l2 f k a v h
    rw [List.cons_append, putL, putL, ih d l2 f (k + 1) _ v h, updV_ne f v (by rw [List.length_cons]; omega), List.length_cons, show k + 1 + l1.length = k + (l1.length + 1) by omega]
def slotV (a : Act) : Option Tmp → Value
  | some d => a.eval (.tmp d)
  | none => undef
theorem put_self (a : Act) (d : Option Tmp) : a.put d (slotV a d) = a := by
  cases d with
  | none => rfl
  | some d =>
    unfold Act.put slotV Act.eval
    obtain ⟨t, ds⟩ := a
    simp only
    congr 1
    apply Array.ext
    · simp
    · intro i h1 h2
      rw [Array.getElem_setIfInBounds]
      split
      · next e => subst e; simp [Array.getD, h2]
      · rfl
theorem putL_self : ∀ (ds : List (Option Tmp)) (k : Nat) (a : Act), putL ds (fun j => slotV a ((ds[j - k]?).getD none)) k a = a := by
  intro ds
  induction ds with
  | nil => intro k a; rfl
  | cons d ds ih =>
    intro k a
    rw [putL]
    simp only [Nat.sub_self, List.getElem?_cons_zero, Option.getD_some]
    rw [put_self]
    refine Eq.trans (putL_congr ds _ _ (k + 1) a fun j hj => ?_) (ih (k + 1) a)
    rw [show j - k = (j - (k + 1)) + 1 by omega, List.getElem?_cons_succ]
/-- No two operations have one slot. -/
def distB : List (Option Tmp) → Bool
  | [] => true
  | d :: ds => (ds.all fun x => x.isNone || x != d) && distB ds
theorem dist_split : ∀ (l1 : List (Option Tmp)) (d : Option Tmp) (l2 : List (Option Tmp)), distB (l1 ++ d :: l2) = true → ∀ x ∈ l2, ∀ y, x = some y → d ≠ some y := by
  intro l1
  induction l1 with
  | nil =>
    intro d l2 h x hx y hy
    simp only [List.nil_append, distB, Bool.and_eq_true, List.all_eq_true] at h
    have := h.1 x hx
    subst hy
    simp at this
    exact fun e => this e.symm
  | cons z l1 ih =>
    intro d l2 h
    simp only [List.cons_append, distB, Bool.and_eq_true] at h
    exact ih d l2 h.2
theorem putL_at {ds : List (Option Tmp)} (hd : distB ds = true) {i : Nat} {d : Option Tmp} (hi : ds[i]? = some d) (f : Nat → Value) (a : Act) (v : Value) : (putL ds f 0 a).put d v = putL ds (updV f i v) 0 a := by
  obtain ⟨h1, rfl⟩ := List.getElem?_eq_some_iff.1 hi
  have e : ds = ds.take i ++ ds[i] :: ds.drop (i + 1) := by rw [← List.drop_eq_getElem_cons h1, List.take_append_drop]
  have := putL_upd (ds.take i) ds[i] (ds.drop (i + 1)) f 0 a v (dist_split _ _ _ (by rw [← e]; exact hd))
  rw [← e, List.length_take, Nat.min_eq_left (by omega), Nat.zero_add] at this
  exact this
/-- Each operation waits for earlier ones only. -/
def backB (ops : Array Oper) : Bool := (List.range ops.size).all fun i => match ops[i]? with | some o => o.after.all fun e => !Region.binds .any e || decide (e.on < i) | none => true
/-- The operations from m on wait for all before. -/
def tailB (ops : Array Oper) (m : Nat) : Bool := (List.range ops.size).all fun i => decide (i < m) || match ops[i]? with | some o => (List.range m).all fun j => o.after.any fun e => Region.binds .any e && decide (e.on = j) | none => true
theorem backB_spec {ops : Array Oper} (h : backB ops = true) {i : Nat} {o : Oper} (ho : ops[i]? = some o) : ∀ e ∈ o.after, Region.binds .any e = true → e.on < i := by
  intro e he hb
  have := List.all_eq_true.1 h i (List.mem_range.2 (Array.getElem?_eq_some_iff.1 ho).1)
  rw [ho] at this
  simp only [Array.all_eq_true_iff_forall_mem] at this
  have := this e he
  rw [hb] at this
  simpa using this
theorem tailB_spec {ops : Array Oper} {m : Nat} (h : tailB ops m = true) {i : Nat} {o : Oper} (ho : ops[i]? = some o) (hm : m ≤ i) : ∀ j, j < m → ∃ e ∈ o.after, Region.binds .any e = true ∧ e.on = j := by
  intro j hj
  have := List.all_eq_true.1 h i (List.mem_range.2 (Array.getElem?_eq_some_iff.1 ho).1)
  rw [ho] at this
  have hn : decide (i < m) = false := by simp; omega
  rw [hn, Bool.false_or] at this
  simp only [List.all_eq_true, List.mem_range] at this
  have := this j hj
  rw [Array.any_eq_true] at this
  obtain ⟨k, hk, h2⟩ := this
  simp only [Bool.and_eq_true, decide_eq_true_eq] at h2
  exact ⟨o.after[k], Array.getElem_mem _, h2.1, h2.2⟩
theorem getD_lt {a : Array Bool} {i : Nat} (d : Bool) (h : i < a.size) : a.getD i d = a[i] := by simp [Array.getD, h]
theorem count_set : ∀ (l : List Bool) (i : Nat), l[i]? = some false → (l.set i true).count false + 1 = l.count false := by
  intro l
  induction l with
  | nil => intro i h; simp at h
  | cons b l ih =>
    intro i h
    cases i with
    | zero => simp at h; subst h; simp
    | succ i =>
      have := ih i (by simpa using h)
      rw [List.set_cons_succ, List.count_cons, List.count_cons]
      omega
section
variable {P : Program} {ops : Array Oper} {Q : Exit → Act → World → Prop}
def tailArr (n m : Nat) : Array Bool := (List.replicate m true ++ List.replicate (n - m) false).toArray
theorem tail_count (n m : Nat) : (tailArr n m).toList.count false = n - m := by simp [tailArr, List.count_append, List.count_replicate]
theorem wpAny_facts (F : Nat → Value → World → Prop) (B : World → Prop) (use : Nat → Option Nat) (R : Nat → World → World → Prop) (m : Nat) (ds : List (Option Tmp)) (a0 : Act) (hds : ops.toList.map (·.dst) = ds) (hd : distB ds = true) (hb : backB ops = true) (ht : tailB ops m = true) (hm : m ≤ ops.size)
    (hst : ∀ j w w' i v, R j w w' → i ≠ j → use i ≠ some j → F i v w → F i v w')
    (hstep : ∀ (i : Nat) (o : Oper) (f : Nat → Value) (w : World), ops[i]? = some o → i < m → B w → (∀ e ∈ o.after, Region.binds .any e = true → use e.on = none ∨ use e.on = some i → F e.on (f e.on) w) → ∀ K : Act → World → Prop, (∀ v w', B w' → R i w w' → F i v w' → K ((putL ds f 0 a0).put o.dst v) w') → wpOp P ops Q i K (putL ds f 0 a0) w)
    (hend : ∀ (f : Nat → Value) (w : World), B w → (∀ i, i < m → use i = none → F i (f i) w) → wpAny P .any ops Q (ops.size - m) (tailArr ops.size m) (putL ds f 0 a0) w) :
    ∀ (fuel : Nat) (listed : Array Bool) (f : Nat → Value) (w : World), listed.size = ops.size → (∀ i, m ≤ i → i < ops.size → listed.getD i true = false) → B w → (∀ i, listed.getD i false = true → (∀ c, use i = some c → listed.getD c false = false) → F i (f i) w) → listed.toList.count false = fuel →
      wpAny P .any ops Q fuel listed (putL ds f 0 a0) w := by
  intro fuel
  induction fuel with
  | zero =>
    intro listed f w hs htl hB hF hc
    have hall : ∀ i, i < m → listed.getD i false = true := by
      intro i hi
      have h1 : i < listed.size := by omega
      rw [getD_lt _ h1]
      cases hv : listed[i] with
      | true => rfl
      | false => exact absurd (List.count_pos_iff.2 (Array.mem_toList_iff.2 (hv ▸ Array.getElem_mem h1))) (by omega)
    have e : listed = tailArr ops.size m := by
      apply Array.ext
      · simp [tailArr]; omega
      · intro i h1 h2
        by_cases him : i < m
        · have := hall i him
          rw [getD_lt _ h1] at this
          rw [this]
          simp [tailArr, List.getElem_append, him]
        · have := htl i (by omega) (by omega)
          rw [getD_lt _ h1] at this
          rw [this]
          simp [tailArr, List.getElem_append, him]
    have hn : ops.size - m = 0 := by
      rw [e, tail_count] at hc
      exact hc
    have := hend f w hB fun i hi hu => hF i (hall i hi) (fun c hc => by rw [hu] at hc; cases hc)
    rw [hn] at this
    rw [e]; exact this
  | succ fuel ih =>
    intro listed f w hs htl hB hF hc
    by_cases hall : ∀ i, i < m → listed.getD i false = true
    · have e : listed = tailArr ops.size m := by
        apply Array.ext
        · simp [tailArr]; omega
        · intro i h1 h2
          by_cases him : i < m
          · have := hall i him
            rw [getD_lt _ h1] at this
            rw [this]
            simp [tailArr, List.getElem_append, him]
          · have := htl i (by omega) (by omega)
            rw [getD_lt _ h1] at this
            rw [this]
            simp [tailArr, List.getElem_append, him]
      have hn : ops.size - m = fuel + 1 := by
        rw [e, tail_count] at hc
        exact hc
      have := hend f w hB fun i hi hu => hF i (hall i hi) (fun c hc => by rw [hu] at hc; cases hc)
      rw [hn] at this
      rw [e]; exact this
    · have hun : ∃ i, i < m ∧ listed.getD i false = false := by
        refine Classical.byContradiction fun hno => hall fun i hi => ?_
        cases hv : listed.getD i false with
        | true => rfl
        | false => exact absurd ⟨i, hi, hv⟩ hno
      -- the first that has not come up may come up
      have hmin : ∀ n i, i ≤ n → i < m → listed.getD i false = false → ∃ j, j < m ∧ listed.getD j false = false ∧ ∀ k, k < j → listed.getD k false = true := by
        intro n
        induction n with
        | zero => intro i hi him hv; exact ⟨i, him, hv, fun k hk => by omega⟩
        | succ n ihn =>
          intro i hi him hv
          by_cases hex : ∃ k, k < i ∧ listed.getD k false = false
          · obtain ⟨k, hk, hkv⟩ := hex
            exact ihn k (by omega) (by omega) hkv
          · refine ⟨i, him, hv, fun k hk => ?_⟩
            cases hkv : listed.getD k false with
            | true => rfl
            | false => exact absurd ⟨k, hk, hkv⟩ hex
      obtain ⟨i0, hi0, hv0⟩ := hun
      obtain ⟨j0, hj0, hj1, hj2⟩ := hmin i0 i0 (Nat.le_refl _) hi0 hv0
      have hgd : ∀ i, i < ops.size → listed.getD i true = listed.getD i false := by
        intro i hi
        rw [getD_lt true (show i < listed.size by omega), getD_lt false (show i < listed.size by omega)]
      obtain ⟨oj, hoj⟩ : ∃ o, ops[j0]? = some o := ⟨_, Array.getElem?_eq_getElem (by omega)⟩
      have hrj : j0 ∈ Region.ready .any ops listed := mem_ready.2 ⟨by rw [hgd j0 (by omega)]; exact hj1, oj, hoj, fun e he hbe => hj2 _ (backB_spec hb hoj e he hbe)⟩
      refine ⟨fun h => (by rw [h] at hrj; cases hrj), fun i hi => ?_⟩
      obtain ⟨hiu, o, ho, hafter⟩ := mem_ready.1 hi
      have hin : i < ops.size := (Array.getElem?_eq_some_iff.1 ho).1
      have him : i < m := by
        rcases Nat.lt_or_ge i m with h | h
        · exact h
        · exfalso
          obtain ⟨e, he, hbe, heo⟩ := tailB_spec ht ho h j0 hj0
          have := hafter e he hbe
          rw [heo, hj1] at this
          cases this
      refine hstep i o f w ho him hB (fun e he hbe hu => hF e.on (hafter e he hbe) (fun c hc => by
        rcases hu with hu | hu
        · rw [hu] at hc; cases hc
        · rw [hu] at hc; obtain rfl := Option.some.inj hc; rw [← hgd i hin]; exact hiu)) _ fun v w' hB' hR hFi => ?_
      have hdi : ds[i]? = some o.dst := by
        rw [← hds, List.getElem?_map, Array.getElem?_toList, ho]; rfl
      rw [putL_at hd hdi]
      have hlf : listed.toList[i]? = some false := by
        rw [Array.getElem?_toList, Array.getElem?_eq_getElem (by omega)]
        rw [getD_lt _ (by omega)] at hiu
        exact congrArg some hiu
      refine ih _ _ _ (by simp [hs]) (fun k hk hk2 => ?_) hB' (fun k hk hku => ?_) ?_
      · have hk3 : k < (listed.setIfInBounds i true).size := by rw [Array.size_setIfInBounds]; omega
        rw [getD_lt _ hk3, Array.getElem_setIfInBounds, if_neg (by omega)]
        have := htl k hk hk2
        rw [getD_lt _ (by omega)] at this
        exact this
      · by_cases e : k = i
        · subst e; rw [updV_self]; exact hFi
        · rw [updV_ne f v e]
          have hki : use k ≠ some i := fun h => by
            have := hku i h
            rw [getD_lt _ (by rw [Array.size_setIfInBounds]; omega), Array.getElem_setIfInBounds_self] at this
            cases this
          refine hst i w w' k _ hR e hki (hF k ?_ fun c hc => ?_)
          · rw [getD_set_ne false (by omega)] at hk
            exact hk
          · have := hku c hc
            rw [getD_set_ne false (by intro h; exact hki (h ▸ hc))] at this
            exact this
      · have := count_set listed.toList i hlf
        rw [Array.toList_setIfInBounds]
        omega
/-- The rule. -/
theorem wp_region_facts {id : Nat} {a0 : Act} {w : World} (F : Nat → Value → World → Prop) (B : World → Prop) (use : Nat → Option Nat) (R : Nat → World → World → Prop) (K0 : Act → World → Prop) (hK0 : ∀ a w, K0 a w → Q .normal a w) (n m : Nat) (ds : List (Option Tmp)) (hn : ops.size = n) (hmix : P.follows .mixedOrders = true) (hds : ops.toList.map (·.dst) = ds) (hd : distB ds = true) (hb : backB ops = true) (ht : tailB ops m = true) (hm : m ≤ n)
    (hst : ∀ j w w' i v, R j w w' → i ≠ j → use i ≠ some j → F i v w → F i v w') (hB : B w.drew)
    (hstep : ∀ (i : Nat) (o : Oper) (f : Nat → Value) (w : World), ops[i]? = some o → i < m → B w → (∀ e ∈ o.after, Region.binds .any e = true → use e.on = none ∨ use e.on = some i → F e.on (f e.on) w) → ∀ K : Act → World → Prop, (∀ v w', B w' → R i w w' → F i v w' → K ((putL ds f 0 a0).put o.dst v) w') → wpOp P ops Q i K (putL ds f 0 a0) w)
    (hend : ∀ (Q2 : Exit → Act → World → Prop), (∀ a w, K0 a w → Q2 .normal a w) → ∀ (f : Nat → Value) (w : World), B w → (∀ i, i < m → use i = none → F i (f i) w) → wpAny P .any ops Q2 (n - m) (tailArr n m) (putL ds f 0 a0) w) :
    (Code.region id ops true).wp P Q a0 w := by
  subst hn
  refine wp_region_any hmix ?_
  have := wpAny_facts F B use R m ds a0 hds hd hb ht hm hst hstep (hend Q hK0) ops.size (Array.replicate ops.size false) (fun j => slotV a0 ((ds[j - 0]?).getD none)) w.drew (by simp)
    (fun i _ hi => by simp [Array.getD, hi]) hB (fun i hi _ => by simp [Array.getD] at hi) (by simp)
  rw [putL_self] at this
  exact this
/-- The last operation. -/
theorem tail_one {n m i : Nat} {o : Oper} {a : Act} {w : World} (hr : Region.ready .any ops (tailArr n m) = [i]) (hr2 : Region.ready .any ops ((tailArr n m).setIfInBounds i true) = []) (ho : ops[i]? = some o) {K0 : Act → World → Prop} (hq : ∀ a w, K0 a w → Q .normal a w)
    (h : ∀ K' : Act → World → Prop, (∀ a w, K0 a w → K' a w) → if Region.wanted o (yielded ops a.tmps) = true then Oper.wp P o a w K' Q else K' (a.put o.dst undef) w) : wpAny P .any ops Q 1 (tailArr n m) a w := by
  refine ⟨fun h0 => (by rw [hr] at h0; cases h0), fun j hj => ?_⟩
  rw [hr] at hj
  obtain rfl : j = i := by simpa using hj
  exact wpOp_step ho fun K' hK => h K' fun a w hk => hK a w ⟨hr2, hq a w hk⟩
theorem wpOp_of {i : Nat} {o : Oper} {K : Act → World → Prop} {a : Act} {w : World} (ho : ops[i]? = some o) (h : if Region.wanted o (yielded ops a.tmps) = true then Oper.wp P o a w K Q else K (a.put o.dst undef) w) : wpOp P ops Q i K a w := by
  unfold wpOp
  rw [ho]
  show if Region.wanted o (yielded ops a.tmps) = true then _ else _
  split
  · rename_i hw; rw [if_pos hw] at h; exact .inl h
  · rename_i hw; rw [if_neg hw] at h; exact h
/-- The last two. -/
theorem tail_two {n m i j : Nat} {o1 o2 : Oper} {a : Act} {w : World} (hr : Region.ready .any ops (tailArr n m) = [i]) (hr2 : Region.ready .any ops ((tailArr n m).setIfInBounds i true) = [j]) (hr3 : Region.ready .any ops (((tailArr n m).setIfInBounds i true).setIfInBounds j true) = [])
    (ho : ops[i]? = some o1) (ho2 : ops[j]? = some o2) {K0 : Act → World → Prop} (hq : ∀ a w, K0 a w → Q .normal a w)
    (h : if Region.wanted o1 (yielded ops a.tmps) = true then Oper.wp P o1 a w (fun a w => if Region.wanted o2 (yielded ops a.tmps) = true then Oper.wp P o2 a w K0 Q else K0 (a.put o2.dst undef) w) Q
      else (if Region.wanted o2 (yielded ops (a.put o1.dst undef).tmps) = true then Oper.wp P o2 (a.put o1.dst undef) w K0 Q else K0 ((a.put o1.dst undef).put o2.dst undef) w)) : wpAny P .any ops Q 2 (tailArr n m) a w := by
  refine ⟨fun h0 => (by rw [hr] at h0; cases h0), fun k hk => ?_⟩
  rw [hr] at hk
  obtain rfl : k = i := by simpa using hk
  refine wpOp_mono (fun a w h2 => ?_) (wpOp_of (K := fun a w => if Region.wanted o2 (yielded ops a.tmps) = true then Oper.wp P o2 a w K0 Q else K0 (a.put o2.dst undef) w) ho h)
  refine ⟨fun h0 => (by rw [hr2] at h0; cases h0), fun k hk => ?_⟩
  rw [hr2] at hk
  obtain rfl : k = j := by simpa using hk
  exact wpOp_mono (fun a w hk => ⟨hr3, hq a w hk⟩) (wpOp_of ho2 h2)
end
end Go.Proofs.YtmbelhdkaepohaaGreatDoor

namespace Go.Proofs.YtmbelhdkaepohaaGreatDoor
set_option maxRecDepth 20000
set_option linter.unusedVariables false
set_option linter.unusedSimpArgs false
open Go.ChangeShapes Go.WideShapes Go.ChangeAt Go.RowKit

/-- A graph came back, and only the tape has changed. -/
def RetSg (w0 w : World) (T : Nat) (e : Ending) (w' : World) : Prop := ∃ y : GH, e = .returned y.a ∧ GHok w' [some T] y ∧ Going w0 T w' ∧ w.grownBy w' (some T)
def exq (T G d g1 g2 : Nat) : List (Option Nat) := [some T, some (G + 1), some d, some g1, some g2]
/-- One element of an own row is set. -/
theorem own_set {w : World} {base g n c : Nat} {ty : TypeId} {xs : List Value} (h : w.ownsRow base ty 1 (.slice (some ⟨g, 0, none⟩) n c) n xs) {i : Nat} (hi : i < n) (v : Value) :
    (w.setCell ⟨g, i, none⟩ v).ownsRow base ty 1 (.slice (some ⟨g, 0, none⟩) n c) n (xs.set i v) := by
  refine ⟨by rw [List.length_set]; exact h.1, ?_⟩
  rcases h.2 with ⟨e, _⟩ | ⟨g', cap, cur, e, hb, hg, hnc, hcm, hcs, hx⟩
  · cases e
  · injection e with e1 e2 e3
    injection e1 with e1
    injection e1 with e1
    subst e1
    subst e3
    have hf : Fb w g cur ty := hg
    refine .inr ⟨g, c, cur.setIfInBounds i v, rfl, hb, hf.set i v, hnc, hcm, by simpa using hcs, ?_⟩
    rw [← hx]
    simp only [Nat.mul_one, Array.toList_setIfInBounds]
    rw [List.take_set]
theorem own_get {w : World} {base g n c : Nat} {ty : TypeId} {xs : List Value} (h : w.ownsRow base ty 1 (.slice (some ⟨g, 0, none⟩) n c) n xs) {i : Nat} {v : Value} (hi : xs[i]? = some v) :
    w.cell? ⟨g, i, none⟩ = some v ∧ w.frozen? ⟨g, i, none⟩ = false ∧ g < w.heap.size := by
  rcases h.2 with ⟨e, _⟩ | ⟨g', cap, cur, e, hb, hg, hnc, hcm, hcs, hx⟩
  · cases e
  · injection e with e1 e2 e3
    injection e1 with e1
    injection e1 with e1
    subst e1
    have hf : Fb w g cur ty := hg
    refine ⟨?_, hf.frozen i, hf.lt⟩
    rw [hf.cell i]
    rw [← hx, List.getElem?_take] at hi
    split at hi
    · simpa using hi
    · cases hi
theorem own_far' {w : World} {base : Nat} {ty : TypeId} {k n : Nat} {v : Value} {xs : List Value} (h : w.ownsRow base ty k v n xs) {p : Addr} (hp : v.ownBlock ≠ some p.block) (u : Value) : (w.setCell p u).ownsRow base ty k v n xs :=
  h.kept (setCell_grown w p u) (.inr hp)
structure Sgs (w0 w : World) (T G d n g1 c1 g2 c2 : Nat) (An : Option Addr) (mn cn : Nat) (nsl : List Nd) (sl pl : List RH) (u : World) : Prop where
  go : Going w0 T u
  gr : w.grownBy u (some T)
  box : Fb u d #[.slice An mn cn, .slice (some ⟨g1, 0, none⟩) n c1, .slice (some ⟨g2, 0, none⟩) n c2] 26
  na : EAt u (exq T G d g1 g2) An (nsl.flatMap ndc)
  nl : nsl.length = mn
  nf : mn ≤ 100000
  s1 : u.ownsRow (G + 2) 22 1 (.slice (some ⟨g1, 0, none⟩) n c1) n (sl.map RH.v)
  p2 : u.ownsRow (G + 2) 22 1 (.slice (some ⟨g2, 0, none⟩) n c2) n (pl.map RH.v)
  sr : ∀ y ∈ sl, RHok u (exq T G d g1 g2) y ∧ y.n ≤ y.c ∧ y.n ≤ 1001
  pr : ∀ y ∈ pl, RHok u (exq T G d g1 g2) y ∧ y.n ≤ y.c ∧ y.n ≤ 1001
  rs : Fb u (G + 1) #[.slice none 0 0, .slice none 0 0, .slice none 0 0] 26
  lo : T < G ∧ G + 2 ≤ d ∧ w.heap.size = G
section
variable {w0 w u u' : World} {T G d n g1 c1 g2 c2 : Nat} {An : Option Addr} {mn cn : Nat} {nsl : List Nd} {sl pl : List RH}
theorem Sgs.b1 (h : Sgs w0 w T G d n g1 c1 g2 c2 An mn cn nsl sl pl u) : G + 2 ≤ g1 ∧ g1 < u.heap.size := by
  rcases h.s1.2 with ⟨e, _⟩ | ⟨g', cap, cur, e, hb, hg, _⟩
  · cases e
  · injection e with e1 _ _
    injection e1 with e1
    injection e1 with e1
    subst e1
    exact ⟨hb, (show Fb u g1 cur _ from hg).lt⟩
theorem Sgs.b2 (h : Sgs w0 w T G d n g1 c1 g2 c2 An mn cn nsl sl pl u) : G + 2 ≤ g2 ∧ g2 < u.heap.size := by
  rcases h.p2.2 with ⟨e, _⟩ | ⟨g', cap, cur, e, hb, hg, _⟩
  · cases e
  · injection e with e1 _ _
    injection e1 with e1
    injection e1 with e1
    subst e1
    exact ⟨hb, (show Fb u g2 cur _ from hg).lt⟩
theorem Sgs.keep {row : Option Nat} (h : Sgs w0 w T G d n g1 c1 g2 c2 An mn cn nsl sl pl u) (hg : u.grownBy u' row) (hr : row = none ∨ row = some T) (hgo : Going w0 T u') : Sgs w0 w T G d n g1 c1 g2 c2 An mn cn nsl sl pl u' := by
  have h1 := h.b1
  have h2 := h.b2
  have h3 := h.lo
  have hne : ∀ k, T < k → some k ≠ row := fun k hk e => by
    rcases hr with rfl | rfl
    · cases e
    · have := Option.some.inj e; omega
  have hgo2 : Go2 u (exq T G d g1 g2) u' (exq T G d g1 g2) := Go2.same hg (by rcases hr with rfl | rfl; exact .inl rfl; exact .inr (by simp [exq]))
  refine ⟨hgo, ?_, h.box.grown hg (hne _ (by omega)), h.na.go hgo2, h.nl, h.nf, h.s1.kept hg (.inr fun e => hne g1 (by omega) e), h.p2.kept hg (.inr fun e => hne g2 (by omega) e),
    fun y hy => ⟨(h.sr y hy).1.go hgo2, (h.sr y hy).2⟩, fun y hy => ⟨(h.pr y hy).1.go hgo2, (h.pr y hy).2⟩, h.rs.grown hg (hne _ (by omega)), h3⟩
  rcases hr with rfl | rfl
  · exact grown_trans h.gr ⟨hg.os, hg.tape, hg.output, hg.size, fun k hk _ => hg.block k hk (by simp)⟩
  · exact grown_trans h.gr hg
theorem Sgs.step (h : Sgs w0 w T G d n g1 c1 g2 c2 An mn cn nsl sl pl u) (ht : Tape u' T) (hg : u.grownBy u' (some T)) : Sgs w0 w T G d n g1 c1 g2 c2 An mn cn nsl sl pl u' :=
  h.keep hg (.inr rfl) (h.go.step ht hg)
theorem Sgs.below (h : Sgs w0 w T G d n g1 c1 g2 c2 An mn cn nsl sl pl u) (hb : Below u.heap.size u u') : Sgs w0 w T G d n g1 c1 g2 c2 An mn cn nsl sl pl u' :=
  h.keep (grown_of_below hb none) (.inl rfl) (h.go.below hb)
theorem Sgs.cellS (h : Sgs w0 w T G d n g1 c1 g2 c2 An mn cn nsl sl pl u) {i : Nat} {y : RH} (hi : sl[i]? = some y) : u.cell? ⟨g1, i, none⟩ = some (.slice y.A y.n y.c) ∧ u.frozen? ⟨g1, i, none⟩ = false ∧ g1 < u.heap.size :=
  own_get h.s1 (by rw [List.getElem?_map, hi]; rfl)
theorem Sgs.cellP (h : Sgs w0 w T G d n g1 c1 g2 c2 An mn cn nsl sl pl u) {i : Nat} {y : RH} (hi : pl[i]? = some y) : u.cell? ⟨g2, i, none⟩ = some (.slice y.A y.n y.c) ∧ u.frozen? ⟨g2, i, none⟩ = false ∧ g2 < u.heap.size :=
  own_get h.p2 (by rw [List.getElem?_map, hi]; rfl)
theorem rh_far {ex : List (Option Nat)} {y : RH} (h : RHok u ex y) {p : Addr} (hp : some p.block ∈ ex) (v : Value) : RHok (u.setCell p v) ex y := h.go (Go2.same (setCell_grown u p v) (.inr hp))
/-- A row is stored in one of the lists. -/
theorem Sgs.store (h : Sgs w0 w T G d n g1 c1 g2 c2 An mn cn nsl sl pl u) {g i : Nat} (hg : g = g1 ∨ g = g2) (hi : i < n) {z : RH} (hz : RHok u (exq T G d g1 g2) z ∧ z.n ≤ z.c ∧ z.n ≤ 1001) :
    ∃ sl' pl', Sgs w0 w T G d n g1 c1 g2 c2 An mn cn nsl sl' pl' (u.setCell ⟨g, i, none⟩ (.slice z.A z.n z.c)) := by
  have h1 := h.b1
  have h2 := h.b2
  have h3 := h.lo
  have hmem : some g ∈ exq T G d g1 g2 := by rcases hg with rfl | rfl <;> simp [exq]
  have hgG : G + 2 ≤ g := by rcases hg with rfl | rfl <;> omega
  have hgo : Going w0 T (u.setCell ⟨g, i, none⟩ (.slice z.A z.n z.c)) := by
    obtain ⟨a1, a2, a3⟩ := h.go
    exact ⟨a1.keep fun k hk => Below.heap_setCell u _ _ k (by show k ≠ g; omega), a2.setCell (by show w0.heap.size ≤ g; omega) _, a3⟩
  have hgr : w.grownBy (u.setCell ⟨g, i, none⟩ (.slice z.A z.n z.c)) (some T) := by
    have hs := setCell_grown u ⟨g, i, none⟩ (.slice z.A z.n z.c)
    exact ⟨hs.os.trans h.gr.os, hs.tape.trans h.gr.tape, hs.output.trans h.gr.output, Nat.le_trans h.gr.size hs.size, fun k hk hne => (hs.block k (Nat.lt_of_lt_of_le hk h.gr.size) (by intro e; have := Option.some.inj e; simp only at this; omega)).trans (h.gr.block k hk hne)⟩
  have hall : ∀ {l : List RH}, (∀ y ∈ l, RHok u (exq T G d g1 g2) y ∧ y.n ≤ y.c ∧ y.n ≤ 1001) → ∀ y ∈ l, RHok (u.setCell ⟨g, i, none⟩ (.slice z.A z.n z.c)) (exq T G d g1 g2) y ∧ y.n ≤ y.c ∧ y.n ≤ 1001 := fun hl y hy => ⟨rh_far (hl y hy).1 hmem _, (hl y hy).2⟩
  have hset : ∀ {l : List RH}, (∀ y ∈ l, RHok u (exq T G d g1 g2) y ∧ y.n ≤ y.c ∧ y.n ≤ 1001) → ∀ y ∈ l.set i z, RHok (u.setCell ⟨g, i, none⟩ (.slice z.A z.n z.c)) (exq T G d g1 g2) y ∧ y.n ≤ y.c ∧ y.n ≤ 1001 := fun hl y hy => by
    rcases List.mem_or_eq_of_mem_set hy with hy | rfl
    · exact hall hl y hy
    · exact ⟨rh_far hz.1 hmem _, hz.2⟩
  have hbox : Fb (u.setCell ⟨g, i, none⟩ (.slice z.A z.n z.c)) d #[.slice An mn cn, .slice (some ⟨g1, 0, none⟩) n c1, .slice (some ⟨g2, 0, none⟩) n c2] 26 := by
    refine h.box.far ?_ _
    intro e
    have e : d = g := e
    rcases hg with rfl | rfl
    · exact fb_ne_own h.box h.s1 (by decide) (by rw [e]; rfl)
    · exact fb_ne_own h.box h.p2 (by decide) (by rw [e]; rfl)
  have hrs : Fb (u.setCell ⟨g, i, none⟩ (.slice z.A z.n z.c)) (G + 1) #[.slice none 0 0, .slice none 0 0, .slice none 0 0] 26 := h.rs.far (by show G + 1 ≠ g; omega) _
  have hna : EAt (u.setCell ⟨g, i, none⟩ (.slice z.A z.n z.c)) (exq T G d g1 g2) An (nsl.flatMap ndc) := h.na.go (Go2.same (setCell_grown u _ _) (.inr hmem))
  have hown : ∀ {g' c' : Nat} {l : List RH}, u.ownsRow (G + 2) 22 1 (.slice (some ⟨g', 0, none⟩) n c') n (l.map RH.v) → (∀ y ∈ l, RHok u (exq T G d g1 g2) y ∧ y.n ≤ y.c ∧ y.n ≤ 1001) →
      ∃ l' : List RH, (u.setCell ⟨g, i, none⟩ (.slice z.A z.n z.c)).ownsRow (G + 2) 22 1 (.slice (some ⟨g', 0, none⟩) n c') n (l'.map RH.v) ∧ ∀ y ∈ l', RHok (u.setCell ⟨g, i, none⟩ (.slice z.A z.n z.c)) (exq T G d g1 g2) y ∧ y.n ≤ y.c ∧ y.n ≤ 1001 := by
    intro g' c' l ho hl
    by_cases e : g' = g
    · subst e
      refine ⟨l.set i z, ?_, hset hl⟩
      rw [List.map_set]
      exact own_set ho hi _
    · exact ⟨l, own_far' ho (by intro e2; exact e (Option.some.inj e2)) _, hall hl⟩
  obtain ⟨sl', a1, a2⟩ := hown h.s1 h.sr
  obtain ⟨pl', b1, b2⟩ := hown h.p2 h.pr
  exact ⟨sl', pl', hgo, hgr, hbox, hna, h.nl, h.nf, a1, b1, a2, b2, hrs, h3⟩
/-- The nodes' field is set. -/
theorem Sgs.nodes (h : Sgs w0 w T G d n g1 c1 g2 c2 An mn cn nsl sl pl u) {An' : Option Addr} {mn' cn' : Nat} {nsl' : List Nd} (ha : EAt u (exq T G d g1 g2) An' (nsl'.flatMap ndc)) (hl : nsl'.length = mn') (hf : mn' ≤ 100000) :
    Sgs w0 w T G d n g1 c1 g2 c2 An' mn' cn' nsl' sl pl (u.setCell ⟨d, 0, none⟩ (.slice An' mn' cn')) := by
  have h1 := h.b1
  have h2 := h.b2
  have h3 := h.lo
  have hmem : some d ∈ exq T G d g1 g2 := by simp [exq]
  have hd1 : some d ≠ (Value.slice (some ⟨g1, 0, none⟩) n c1).ownBlock := fb_ne_own h.box h.s1 (by decide)
  have hd2 : some d ≠ (Value.slice (some ⟨g2, 0, none⟩) n c2).ownBlock := fb_ne_own h.box h.p2 (by decide)
  have hs := setCell_grown u ⟨d, 0, none⟩ (.slice An' mn' cn')
  have hgo2 := Go2.same (ex := exq T G d g1 g2) hs (.inr hmem)
  refine ⟨?_, ?_, h.box.set 0 _, ha.go hgo2, hl, hf, own_far' h.s1 (fun e => hd1 e.symm) _, own_far' h.p2 (fun e => hd2 e.symm) _, fun y hy => ⟨rh_far (h.sr y hy).1 hmem _, (h.sr y hy).2⟩, fun y hy => ⟨rh_far (h.pr y hy).1 hmem _, (h.pr y hy).2⟩, h.rs.far (by show G + 1 ≠ d; omega) _, h3⟩
  · obtain ⟨a1, a2, a3⟩ := h.go
    exact ⟨a1.keep fun k hk => Below.heap_setCell u _ _ k (by show k ≠ d; omega), a2.setCell (by show w0.heap.size ≤ d; omega) _, a3⟩
  · exact ⟨hs.os.trans h.gr.os, hs.tape.trans h.gr.tape, hs.output.trans h.gr.output, Nat.le_trans h.gr.size hs.size, fun k hk hne => (hs.block k (Nat.lt_of_lt_of_le hk h.gr.size) (by intro e; have := Option.some.inj e; simp only at this; omega)).trans (h.gr.block k hk hne)⟩
/-- The result's cells are set. -/
theorem Sgs.ret (h : Sgs w0 w T G d n g1 c1 g2 c2 An mn cn nsl sl pl u) (hn : n ≤ 100000) (a b c : Value) :
    RetSg w0 w T (.returned (.agg #[.slice An mn cn, .slice (some ⟨g1, 0, none⟩) n c1, .slice (some ⟨g2, 0, none⟩) n c2])) (((u.setCell ⟨G + 1, 0, none⟩ a).setCell ⟨G + 1, 1, none⟩ b).setCell ⟨G + 1, 2, none⟩ c) := by
  have h1 := h.b1
  have h2 := h.b2
  have h3 := h.lo
  have hmem : some (G + 1) ∈ exq T G d g1 g2 := by simp [exq]
  have hs : u.grownBy (((u.setCell ⟨G + 1, 0, none⟩ a).setCell ⟨G + 1, 1, none⟩ b).setCell ⟨G + 1, 2, none⟩ c) (some (G + 1)) :=
    grown_trans (grown_trans (setCell_grown u ⟨G + 1, 0, none⟩ a) (setCell_grown _ ⟨G + 1, 1, none⟩ b)) (setCell_grown _ ⟨G + 1, 2, none⟩ c)
  have hgo2 := Go2.same (ex := exq T G d g1 g2) hs (.inr hmem)
  have hless : Go2 u (exq T G d g1 g2) (((u.setCell ⟨G + 1, 0, none⟩ a).setCell ⟨G + 1, 1, none⟩ b).setCell ⟨G + 1, 2, none⟩ c) [some T] := hgo2.trans (Go2.less _ (by simp [exq]))
  have hrow : ∀ {g' c' : Nat} {l : List RH}, u.ownsRow (G + 2) 22 1 (.slice (some ⟨g', 0, none⟩) n c') n (l.map RH.v) → EAt (((u.setCell ⟨G + 1, 0, none⟩ a).setCell ⟨G + 1, 1, none⟩ b).setCell ⟨G + 1, 2, none⟩ c) [some T] (some ⟨g', 0, none⟩) (l.map RH.v) ∧ l.length = n := by
    intro g' c' l ho
    have hge : G + 2 ≤ g' := by
      rcases ho.2 with ⟨e2, _⟩ | ⟨g'', cap, cur, e2, hb, hg, _⟩
      · cases e2
      · injection e2 with e3 _ _
        injection e3 with e3
        injection e3 with e3
        omega
    refine ⟨EAt.own (ho.kept hs (.inr fun e => ?_)) (fun k hk hm => by have e : g' = k := Option.some.inj hk; simp at hm; omega), by have := ho.1; rwa [List.length_map, Nat.mul_one] at this⟩
    have e : g' = G + 1 := Option.some.inj e
    omega
  refine ⟨⟨An, mn, cn, nsl, ⟨some ⟨g1, 0, none⟩, n, c1, sl⟩, ⟨some ⟨g2, 0, none⟩, n, c2, pl⟩⟩, rfl, ⟨h.na.go hless, h.nl, by have := h.nf; show mn ≤ _; omega, ⟨(hrow h.s1).1, (hrow h.s1).2, by show n ≤ _; omega, fun y hy => (h.sr y hy).1.go hless⟩, ⟨(hrow h.p2).1, (hrow h.p2).2, by show n ≤ _; omega, fun y hy => (h.pr y hy).1.go hless⟩⟩, ?_, ?_⟩
  · obtain ⟨a1, a2, a3⟩ := h.go
    exact ⟨a1.keep fun k hk => hs.block k (by have := a1.lt; omega) (by intro e; have := Option.some.inj e; omega), a2.grown hs a2.size (fun k e => by have := Option.some.inj e; omega), a3⟩
  · exact ⟨hs.os.trans h.gr.os, hs.tape.trans h.gr.tape, hs.output.trans h.gr.output, Nat.le_trans h.gr.size hs.size, fun k hk hne => (hs.block k (Nat.lt_of_lt_of_le hk h.gr.size) (by intro e; have := Option.some.inj e; omega)).trans (h.gr.block k hk hne)⟩
end
end Go.Proofs.YtmbelhdkaepohaaGreatDoor

namespace Go.Proofs.YtmbelhdkaepohaaGreatDoor
set_option maxRecDepth 20000
set_option linter.unusedVariables false
set_option linter.unusedSimpArgs false
open Go.ChangeShapes Go.WideShapes Go.ChangeAt Go.RowKit

theorem own_base_le {w : World} {base : Nat} {ty : TypeId} {k n : Nat} {v : Value} {xs : List Value} (h : w.ownsRow base ty k v n xs) {g : Nat} (hg : v.ownBlock = some g) : base ≤ g := by
  rcases h.2 with ⟨e, _⟩ | ⟨g', cap, cur, e, hb, hgg, _⟩
  · subst e; cases hg
  · subst e; obtain rfl := Option.some.inj hg; exact hb
theorem own_ty_ne {w : World} {base : Nat} {ty ty' : TypeId} {k k' n n' : Nat} {v v' : Value} {xs xs' : List Value} (h : w.ownsRow base ty k v n xs) (h' : w.ownsRow base ty' k' v' n' xs') (ht : ty ≠ ty') {g : Nat} (hv : v.ownBlock = some g ∧ v'.ownBlock = some g) : False := by
  rcases h.2 with ⟨e, _⟩ | ⟨g1, cap, cur, e, hb, hgg, _⟩
  · subst e; cases hv.1
  · rcases h'.2 with ⟨e2, _⟩ | ⟨g2, cap2, cur2, e2, hb2, hgg2, _⟩
    · subst e2; cases hv.2
    · subst e
      subst e2
      obtain rfl := Option.some.inj hv.1
      obtain rfl := Option.some.inj hv.2
      rw [hgg] at hgg2
      injection Option.some.inj hgg2 with _ e3 _
      exact ht e3
theorem Sgs.start {w0 w w2 v : World} {T G d n g0 c0 g1 c1 g2 c2 : Nat} {A SA PA : Option Addr} {c sc pc : Nat} {ns : List Nd} {sl pl : List RH} (hG : w.heap.size = G) (hT : T < G) (hb2 : Below G w w2) (hb : Below w2.heap.size w2 v) (hd : w2.heap.size ≤ d)
    (h0 : v.ownsRow w2.heap.size 55 4 (.slice (some ⟨g0, 0, none⟩) n c0) n (ns.flatMap ndc)) (h1 : v.ownsRow w2.heap.size 22 1 (.slice (some ⟨g1, 0, none⟩) n c1) n (sl.map RH.v)) (h2 : v.ownsRow w2.heap.size 22 1 (.slice (some ⟨g2, 0, none⟩) n c2) n (pl.map RH.v))
    (hD : Fb v d #[.slice none 0 0, .slice none 0 0, .slice none 0 0] 26) (hR : Fb w2 (G + 1) #[.slice none 0 0, .slice none 0 0, .slice none 0 0] 26) (hgo : Going w0 T w) (hx : GHok w [some T] ⟨A, n, c, ns, ⟨SA, n, sc, sl⟩, ⟨PA, n, pc, pl⟩⟩) (hn : n ≤ 100000)
    (hsc : ∀ y ∈ sl, y.n ≤ y.c ∧ y.n ≤ 1000) (hpc : ∀ y ∈ pl, y.n ≤ y.c ∧ y.n ≤ 1000) :
    Sgs w0 w T G d n g1 c1 g2 c2 (some ⟨g0, 0, none⟩) n c0 ns sl pl (((v.setCell ⟨d, 0, none⟩ (.slice (some ⟨g0, 0, none⟩) n c0)).setCell ⟨d, 1, none⟩ (.slice (some ⟨g1, 0, none⟩) n c1)).setCell ⟨d, 2, none⟩ (.slice (some ⟨g2, 0, none⟩) n c2)) := by
  subst hG
  have h2G : w.heap.size + 2 ≤ w2.heap.size := by have := hR.lt; omega
  have hbv : Below w.heap.size w v := hb2.trans (hb.mono (by omega))
  have hbu : Below w.heap.size w (((v.setCell ⟨d, 0, none⟩ (.slice (some ⟨g0, 0, none⟩) n c0)).setCell ⟨d, 1, none⟩ (.slice (some ⟨g1, 0, none⟩) n c1)).setCell ⟨d, 2, none⟩ (.slice (some ⟨g2, 0, none⟩) n c2)) :=
    ((hbv.setCell (by show w.heap.size ≤ d; omega) _).setCell (by show w.heap.size ≤ d; omega) _).setCell (by show w.heap.size ≤ d; omega) _
  have hs : v.grownBy (((v.setCell ⟨d, 0, none⟩ (.slice (some ⟨g0, 0, none⟩) n c0)).setCell ⟨d, 1, none⟩ (.slice (some ⟨g1, 0, none⟩) n c1)).setCell ⟨d, 2, none⟩ (.slice (some ⟨g2, 0, none⟩) n c2)) (some d) :=
    grown_trans (grown_trans (setCell_grown v ⟨d, 0, none⟩ _) (setCell_grown _ ⟨d, 1, none⟩ _)) (setCell_grown _ ⟨d, 2, none⟩ _)
  have k0 := (own_mono1 h0 h2G).kept hs (.inr fun e => fb_ne_own hD h0 (by decide) e.symm)
  have k1 := (own_mono1 h1 h2G).kept hs (.inr fun e => fb_ne_own hD h1 (by decide) e.symm)
  have k2 := (own_mono1 h2 h2G).kept hs (.inr fun e => fb_ne_own hD h2 (by decide) e.symm)
  have e1 : w.heap.size + 2 ≤ g1 := own_base_le k1 rfl
  have e2 : w.heap.size + 2 ≤ g2 := own_base_le k2 rfl
  have e0 : w.heap.size + 2 ≤ g0 := own_base_le k0 rfl
  have hgo2 : Go2 w [some T] (((v.setCell ⟨d, 0, none⟩ (.slice (some ⟨g0, 0, none⟩) n c0)).setCell ⟨d, 1, none⟩ (.slice (some ⟨g1, 0, none⟩) n c1)).setCell ⟨d, 2, none⟩ (.slice (some ⟨g2, 0, none⟩) n c2)) (exq T w.heap.size d g1 g2) := by
    intro k hk
    refine ⟨hbu.block k hk.1, Nat.lt_of_lt_of_le hk.1 hbu.size, fun hm => ?_⟩
    have hkl := hk.1
    have hkT : k ≠ T := fun e => hk.2 (by simp [e])
    simp [exq] at hm
    omega
  refine ⟨hgo.below hbu, grown_of_below hbu _, ((hD.set 0 _).set 1 _).set 2 _, EAt.own k0 (fun g hg hm => ?_), hx.len, hn, k1, k2, fun y hy => ⟨(hx.s.all y hy).go hgo2, (hsc y hy).1, by have := (hsc y hy).2; omega⟩, fun y hy => ⟨(hx.p.all y hy).go hgo2, (hpc y hy).1, by have := (hpc y hy).2; omega⟩, ?_, hT, by omega, rfl⟩
  · obtain rfl : g0 = g := Option.some.inj hg
    have n1 : g0 ≠ g1 := fun e => own_ty_ne k0 k1 (by decide) (g := g0) ⟨rfl, by rw [e]; rfl⟩
    have n2 : g0 ≠ g2 := fun e => own_ty_ne k0 k2 (by decide) (g := g0) ⟨rfl, by rw [e]; rfl⟩
    have n3 : g0 ≠ d := fun e => fb_ne_own hD h0 (by decide) (by rw [← e]; rfl)
    simp [exq] at hm
    omega
  · exact ((((hR.below hb hR.lt).far (by show w.heap.size + 1 ≠ d; omega) _).far (by show w.heap.size + 1 ≠ d; omega) _).far (by show w.heap.size + 1 ≠ d; omega) _)
/-- A fact that stands when new memory is made. -/
def Stb (p : Value → World → Prop) : Prop := ∀ v w w', Below w.heap.size w w' → p v w → p v w'
def Fe (v : Value) (w : World) : Prop := ∃ g : Nat, v = .slice (some ⟨g, 0, none⟩) 0 0
def Fo (N : Nat) (ty : TypeId) (k n : Nat) (xs : List Value) (v : Value) (w : World) : Prop := ∃ g c : Nat, v = .slice (some ⟨g, 0, none⟩) n c ∧ w.ownsRow N ty k v n xs
def Fv (u : Value) (v : Value) (w : World) : Prop := v = u
theorem Fe.stb : Stb Fe := fun v w w' hb h => h
theorem Fv.stb (u : Value) : Stb (Fv u) := fun v w w' hb h => h
theorem Fo.stb (N : Nat) (ty : TypeId) (k n : Nat) (xs : List Value) : Stb (Fo N ty k n xs) := fun v w w' hb ⟨g, c, e, h⟩ => ⟨g, c, e, own_below h hb⟩
theorem below_none {w w' : World} (h : w.grownBy w' none) : Below w.heap.size w w' := (Below.refl w.heap.size w).grown h (Nat.le_refl _) (by simp)
/-- The rows' cells and their whole. -/
def Fg3 (N n : Nat) (ns ss ps : List Value) (v : Value) (w : World) : Prop :=
  ∃ v0 v1 v2 : Value, v = .agg #[v0, v1, v2] ∧ Fo N 55 4 n ns v0 w ∧ Fo N 22 1 n ss v1 w ∧ Fo N 22 1 n ps v2 w
theorem Fg3.stb (N n : Nat) (ns ss ps : List Value) : Stb (Fg3 N n ns ss ps) := fun v w w' hb ⟨a, b, c, e, h0, h1, h2⟩ => ⟨a, b, c, e, Fo.stb _ _ _ _ _ _ _ _ hb h0, Fo.stb _ _ _ _ _ _ _ _ hb h1, Fo.stb _ _ _ _ _ _ _ _ hb h2⟩
def Fd3 (N : Nat) (v : Value) (w : World) : Prop := ∃ d : Nat, v = .pointer (some ⟨d, 0, none⟩) ∧ N ≤ d ∧ Fb w d #[.slice none 0 0, .slice none 0 0, .slice none 0 0] 26
theorem Fd3.stb (N : Nat) : Stb (Fd3 N) := fun v w w' hb ⟨d, e, h, hf⟩ => ⟨d, e, h, hf.below hb hf.lt⟩
def factsG (N B n : Nat) (A0 A1 A2 : Option Addr) (c0 c1 c2 : Nat) (ns ss ps : List Value) : List (Value → World → Prop) :=
  [Fe, Fv (.pointer (some ⟨B, 0, none⟩)), Fv (.slice A0 n c0), Fo N 55 4 n ns, Fe, Fv (.pointer (some ⟨B, 1, none⟩)), Fv (.slice A1 n c1), Fo N 22 1 n ss, Fe, Fv (.pointer (some ⟨B, 2, none⟩)), Fv (.slice A2 n c2), Fo N 22 1 n ps, Fg3 N n ns ss ps, Fd3 N]
theorem factsG_stb (N B n : Nat) (A0 A1 A2 : Option Addr) (c0 c1 c2 : Nat) (ns ss ps : List Value) : ∀ i v w w', Below w.heap.size w w' → (factsG N B n A0 A1 A2 c0 c1 c2 ns ss ps).getD i (fun _ _ => True) v w → (factsG N B n A0 A1 A2 c0 c1 c2 ns ss ps).getD i (fun _ _ => True) v w' := by
  intro i v w w' hb
  match i with
  | 0 => exact Fe.stb v w w' hb
  | 1 => exact Fv.stb _ v w w' hb
  | 2 => exact Fv.stb _ v w w' hb
  | 3 => exact Fo.stb _ _ _ _ _ v w w' hb
  | 4 => exact Fe.stb v w w' hb
  | 5 => exact Fv.stb _ v w w' hb
  | 6 => exact Fv.stb _ v w w' hb
  | 7 => exact Fo.stb _ _ _ _ _ v w w' hb
  | 8 => exact Fe.stb v w w' hb
  | 9 => exact Fv.stb _ v w w' hb
  | 10 => exact Fv.stb _ v w w' hb
  | 11 => exact Fo.stb _ _ _ _ _ v w w' hb
  | 12 => exact Fg3.stb _ _ _ _ _ v w w' hb
  | 13 => exact Fd3.stb _ v w w' hb
  | i + 14 => exact fun _ => trivial
theorem nd_flat_len (l : List Nd) : (l.flatMap ndc).length = 4 * l.length := by
  induction l with
  | nil => rfl
  | cons x l ih => rw [List.flatMap_cons, List.length_append, ih, ndc_len, List.length_cons]; omega
theorem one_flat (l : List Nd) : ∀ u ∈ l.flatMap ndc, u.oneCell' = true := by
  intro u hu
  obtain ⟨x, hx, hu⟩ := List.mem_flatMap.1 hu
  exact one_ndc x u hu
theorem one_rhv (l : List RH) : ∀ u ∈ l.map RH.v, u.oneCell' = true := by
  intro u hu
  obtain ⟨x, hx, rfl⟩ := List.mem_map.1 hu
  rfl
theorem fix1 (f : Nat → Value) (i : Nat) (c : Value) (h : f i = c) : ∃ g, f = updV g i c := ⟨f, funext fun j => by unfold updV; split <;> simp_all⟩
end Go.Proofs.YtmbelhdkaepohaaGreatDoor

namespace Go.Proofs.YtmbelhdkaepohaaGreatDoor
set_option maxRecDepth 20000
set_option linter.unusedVariables false
set_option linter.unusedSimpArgs false
open Go.ChangeShapes Go.WideShapes Go.ChangeAt Go.RowKit

/-- What Next gives. -/
def Fnx (b : Nat) (v : Value) (w : World) : Prop := ∃ r : Int, v = .int .i64 r ∧ 0 ≤ r ∧ r < b
def Frw (ex : List (Option Nat)) (v : Value) (w : World) : Prop := ∃ z : RH, v = .slice z.A z.n z.c ∧ RHok w ex z ∧ z.n ≤ z.c ∧ z.n ≤ 1001
theorem Frw.stb {T G d g1 g2 : Nat} {v : Value} {w u : World} (hg : w.grownBy u (some T)) (h : Frw (exq T G d g1 g2) v w) : Frw (exq T G d g1 g2) v u := by
  obtain ⟨z, e, h1, h2⟩ := h
  exact ⟨z, e, h1.go (Go2.same hg (.inr (by simp [exq]))), h2⟩
theorem insI_len : ∀ (l : List Int) (r : Int), (insI l r).length ≤ l.length + 1 := by
  intro l
  induction l with
  | nil => intro r; simp [insI]
  | cons a l ih =>
    intro r
    unfold insI
    split
    · have := ih r; simp; omega
    · split
      · simp
      · simp
theorem exq_lt {w0 w u : World} {T G d n g1 c1 g2 c2 : Nat} {An : Option Addr} {mn cn : Nat} {nsl : List Nd} {sl pl : List RH} (h : Sgs w0 w T G d n g1 c1 g2 c2 An mn cn nsl sl pl u) : ∀ k, some k ∈ exq T G d g1 g2 → k < u.heap.size := by
  intro k hk
  have h1 := h.b1
  have h2 := h.b2
  have h3 := h.lo
  have h4 := h.box.lt
  simp [exq] at hk
  omega
theorem nd_tail {w : World} {ex : List (Option Nat)} {g : Nat} {ns : List Nd} (h : EAt w ex (some ⟨g, 0, none⟩) (ns.flatMap ndc)) : EAt w ex (some ⟨g, 4, none⟩) ((ns.drop 1).flatMap ndc) := by
  cases ns with
  | nil => exact .inl rfl
  | cons x l =>
    rcases h with h | ⟨ad, e, hs, hc⟩
    · rw [List.flatMap_cons] at h
      have := congrArg List.length h
      rw [List.length_append, ndc_len] at this
      simp at this
    · obtain rfl := Option.some.inj e
      refine .inr ⟨_, rfl, hs, fun j u hj => ?_⟩
      have := hc (4 + j) u (by rw [List.flatMap_cons, List.getElem?_append_right (by rw [ndc_len]; omega), ndc_len, Nat.add_sub_cancel_left]; exact hj)
      rw [add_of] at this
      rw [show (⟨g, 4, none⟩ : Addr).add j = ⟨g, 4 + j, none⟩ from by rw [show (⟨g, 4, none⟩ : Addr) = (⟨g, 0, none⟩ : Addr).add 4 from (add_of g 4).symm, Go.Deep.add_add, add_of]]
      exact this
def facts0 (T G d g0 c0 g1 c1 g2 pn i : Nat) (y : RH) : List (Value → World → Prop) :=
  [Fv (.pointer (some ⟨d, 1, none⟩)), Fv (.slice (some ⟨g1, 0, none⟩) pn c1), Fv (.int .i64 (i : Int)), Fv (.pointer (some ⟨d, 1, none⟩)), Fv (.slice (some ⟨g1, 0, none⟩) pn c1), Fv (.int .i64 (i : Int)), Fv (.pointer (some ⟨g1, i, none⟩)), Fv (.slice y.A y.n y.c), Fv (.pointer (some ⟨T, 0, none⟩)), Fv (.pointer (some ⟨d, 0, none⟩)), Fv (.slice (some ⟨g0, 0, none⟩) pn c0), Fv (.int .i64 (pn : Int)), Fv (.int .i64 ((pn : Int) + 1)), Fnx (pn + 2), Frw (exq T G d g1 g2)]
theorem facts0_stb (T G d g0 c0 g1 c1 g2 pn i : Nat) (y : RH) : ∀ j v w w', w.grownBy w' (some T) → (facts0 T G d g0 c0 g1 c1 g2 pn i y).getD j (fun _ _ => True) v w → (facts0 T G d g0 c0 g1 c1 g2 pn i y).getD j (fun _ _ => True) v w' := by
  intro j v w w' hb
  match j with
  | 0 => exact fun h => h
  | 1 => exact fun h => h
  | 2 => exact fun h => h
  | 3 => exact fun h => h
  | 4 => exact fun h => h
  | 5 => exact fun h => h
  | 6 => exact fun h => h
  | 7 => exact fun h => h
  | 8 => exact fun h => h
  | 9 => exact fun h => h
  | 10 => exact fun h => h
  | 11 => exact fun h => h
  | 12 => exact fun h => h
  | 13 => exact fun h => h
  | 14 => exact fun h => Frw.stb hb h
  | j + 15 => exact fun _ => trivial
/-- A number. -/
def Fin1 (v : Value) (w : World) : Prop := ∃ r : Int, v = .int .i64 r
def Fl1 (N : Nat) (v : Value) (w : World) : Prop := ∃ (g : Nat) (r : Int), v = .slice (some ⟨g, 0, none⟩) 1 1 ∧ N ≤ g ∧ Fb w g #[.int .i64 r] 3
def Frr (N n : Nat) (xs : List Value) (v : Value) (w : World) : Prop := (n = 0 ∧ ∃ g : Nat, v = .slice (some ⟨g, 0, none⟩) 0 0) ∨ ∃ g c : Nat, v = .slice (some ⟨g, 0, none⟩) n c ∧ w.ownsRow N 3 1 (.slice (some ⟨g, 0, none⟩) n c) n xs
theorem Fl1.stb {N T : Nat} (hT : T < N) {v : Value} {w u : World} (hg : w.grownBy u (some T)) (h : Fl1 N v w) : Fl1 N v u := by
  obtain ⟨g, r, e, h1, h2⟩ := h
  exact ⟨g, r, e, h1, h2.grown hg (fun e => by have := Option.some.inj e; omega)⟩
theorem Frr.stb {N T n : Nat} {xs : List Value} (hT : T < N) {v : Value} {w u : World} (hg : w.grownBy u (some T)) (h : Frr N n xs v w) : Frr N n xs v u := by
  rcases h with h | ⟨g, c, e, h⟩
  · exact .inl h
  · exact .inr ⟨g, c, e, h.kept hg (.inr fun e => by have := own_base_le h e; omega)⟩
theorem grow_own {u v w' : World} {T N : Nat} {row : Option Nat} (hN : u.heap.size = N) (h1 : u.grownBy v (some T)) (h2 : v.grownBy w' row) (hr : ∀ g, row = some g → N ≤ g) : u.grownBy w' (some T) :=
  ⟨h2.os.trans h1.os, h2.tape.trans h1.tape, h2.output.trans h1.output, Nat.le_trans h1.size h2.size, fun k hk hne => (h2.block k (Nat.lt_of_lt_of_le hk h1.size) (fun e => by have := hr k e.symm; omega)).trans (h1.block k hk hne)⟩
theorem going_own {w0 v w' : World} {T N : Nat} {row : Option Nat} (h : Going w0 T v) (h2 : v.grownBy w' row) (hr : ∀ g, row = some g → N ≤ g) (hT : T < N) (hw0 : w0.heap.size ≤ N) : Going w0 T w' := by
  obtain ⟨a1, a2, a3⟩ := h
  exact ⟨a1.keep fun k hk => h2.block k (by have := a1.lt; omega) (fun e => by have := hr k e.symm; omega), a2.grown h2 a2.size (fun k e => by have := hr k e; omega), a3⟩
theorem frw_own {w' : World} {N g n c : Nat} {l : List Int} {ex : List (Option Nat)} (hown : w'.ownsRow N 3 1 (.slice (some ⟨g, 0, none⟩) n c) n (ints l)) (hn : n ≤ 1001) (hex : ∀ k, some k ∈ ex → k < N) : Frw ex (.slice (some ⟨g, 0, none⟩) n c) w' :=
  ⟨⟨some ⟨g, 0, none⟩, n, c, l⟩, rfl, ⟨EAt.own hown (fun g' hg' hm => by have h1 := own_base_le hown hg'; have := hex g' hm; omega), by have := hown.1; rw [Nat.mul_one] at this; simpa [ints] using this, by show n ≤ _; omega⟩, own_capn hown, hn⟩
def use1 (i : Nat) : Option Nat := if i = 9 ∨ i = 16 then some 17 else none
def SgR (T : Nat) (j : Nat) (v u : World) : Prop := j = 17 ∨ v.grownBy u (some T)
def facts1 (T G d g0 c0 g1 g2 c2 pn i N : Nat) (p : RH) : List (Value → World → Prop) :=
  [Fv (.pointer (some ⟨d, 2, none⟩)), Fv (.slice (some ⟨g2, 0, none⟩) pn c2), Fv (.int .i64 (i : Int)), Fe, Fv (.pointer (some ⟨d, 2, none⟩)), Fv (.slice (some ⟨g2, 0, none⟩) pn c2), Fv (.int .i64 (i : Int)), Fv (.pointer (some ⟨g2, i, none⟩)), Fv (.slice p.A p.n p.c), Frr N p.n (ints p.l), Fv (.pointer (some ⟨T, 0, none⟩)), Fv (.pointer (some ⟨d, 0, none⟩)), Fv (.slice (some ⟨g0, 0, none⟩) pn c0), Fv (.int .i64 (pn : Int)), Fnx pn, Fin1, Fl1 N, Frw (exq T G d g1 g2)]
theorem facts1_stb (T G d g0 c0 g1 g2 c2 pn i N : Nat) (p : RH) (hT : T < N) : ∀ jj j v w w', SgR T jj w w' → j ≠ jj → use1 j ≠ some jj → (facts1 T G d g0 c0 g1 g2 c2 pn i N p).getD j (fun _ _ => True) v w → (facts1 T G d g0 c0 g1 g2 c2 pn i N p).getD j (fun _ _ => True) v w' := by
  intro jj j v w w' hb hne hu
  match j with
  | 0 => exact fun h => h
  | 1 => exact fun h => h
  | 2 => exact fun h => h
  | 3 => exact fun h => h
  | 4 => exact fun h => h
  | 5 => exact fun h => h
  | 6 => exact fun h => h
  | 7 => exact fun h => h
  | 8 => exact fun h => h
  | 10 => exact fun h => h
  | 11 => exact fun h => h
  | 12 => exact fun h => h
  | 13 => exact fun h => h
  | 14 => exact fun h => h
  | 15 => exact fun h => h
  | 9 => exact fun h => hb.elim (fun e => absurd (by rw [e]; rfl) hu) fun hg => Frr.stb hT hg h
  | 16 => exact fun h => hb.elim (fun e => absurd (by rw [e]; rfl) hu) fun hg => Fl1.stb hT hg h
  | 17 => exact fun h => hb.elim (fun e => absurd e.symm hne) fun hg => Frw.stb hg h
  | j + 18 => exact fun _ => trivial
set_option maxHeartbeats 6400000 in
theorem spoilG_any (T : Nat) (x : GH) (w0 w : World) (h : Going w0 T w) (hx : GHok w [some T] x) (hn1 : 1 ≤ x.n) (hn2 : x.n ≤ 100000) (hS : x.S.n = x.n) (hP : x.P.n = x.n) (hSc : ∀ y ∈ x.S.l, y.n ≤ y.c ∧ y.n ≤ 1000) (hPc : ∀ y ∈ x.P.l, y.n ≤ y.c ∧ y.n ≤ 1000) :
    Calls Tryz.prog 8 #[.pointer (some ⟨T, 0, none⟩), x.a] w (RetSg w0 w T) := by
  obtain ⟨i1, hi, hz0, hz1, hz2⟩ := info_parts info22
  obtain ⟨i3, hk, hx0, hx1, hx2⟩ := info_parts info3
  have Hk := hid hk; have Hx0i := hid hx0; have Hx1i := hid hx1; have Hx2i := hid hx2
  clear hk hx0 hx1 hx2
  obtain ⟨i2, hj, hy0, hy1, hy2⟩ := info_parts info50
  have Hi := hid hi; have Hz0 := hid hz0; have Hz1 := hid hz1; have Hz2 := hid hz2
  have Hj := hid hj; have Hy0 := hid hy0; have Hy1 := hid hy1; have Hy2 := hid hy2
  clear hi hz0 hz1 hz2 hj hy0 hy1 hy2
  have HBx := hid ((Fb.new w #[.slice x.A x.n x.c, .slice x.S.A x.S.n x.S.c, .slice x.P.A x.P.n x.P.c] 26).alloc (.cells #[.slice none 0 0, .slice none 0 0, .slice none 0 0] 26))
  have HRs := hid (show Fb ((w.alloc (.cells #[.slice x.A x.n x.c, .slice x.S.A x.S.n x.S.c, .slice x.P.A x.P.n x.P.c] 26)).alloc (.cells #[.slice none 0 0, .slice none 0 0, .slice none 0 0] 26)) (w.heap.size + 1) #[.slice none 0 0, .slice none 0 0, .slice none 0 0] 26 by
    have := Fb.new (w.alloc (.cells #[.slice x.A x.n x.c, .slice x.S.A x.S.n x.S.c, .slice x.P.A x.P.n x.P.c] 26)) #[.slice none 0 0, .slice none 0 0, .slice none 0 0] 26
    rwa [World.size_alloc] at this)
  have hb2 := ((Below.refl w.heap.size w).alloc (Nat.le_refl _) (.cells #[.slice x.A x.n x.c, .slice x.S.A x.S.n x.S.c, .slice x.P.A x.P.n x.P.c] 26)).alloc (by rw [World.size_alloc]; omega) (.cells #[.slice none 0 0, .slice none 0 0, .slice none 0 0] 26)
  have HGo := hid (h.below hb2)
  have HB2 := hid hb2
  have HX := hid (hx.below hb2)
  have Hx0 := hid hx
  have Hgo0 := hid h
  have hGw : w.heap.size = w.heap.size := rfl
  have hTl := h.1.lt
  have HSc := hid hSc
  have HPc := hid hPc
  clear h hx hb2 hSc hPc
  unfold GH.a
  obtain ⟨A, n, c, ns, ⟨SA, sn, sc, sl⟩, ⟨PA, pn, pc, pl⟩⟩ := x
  simp only at *
  subst hS
  subst hP
  go_enter Tryz.func8, Tryz.ntmps8
  go_wp2_with fail
  generalize (w.alloc (.cells #[.slice A pn c, .slice SA pn sc, .slice PA pn pc] 26)).alloc (.cells #[.slice none 0 0, .slice none 0 0, .slice none 0 0] 26) = w2 at *
  have hG : ∃ G, w.heap.size = G := ⟨_, rfl⟩
  obtain ⟨G, hG⟩ := hG
  have HGe := hid hG
  rw [hG] at HBx HRs hTl HB2 ⊢
  clear hG
  obtain ⟨aN, rfl, hNb, hNc⟩ : ∃ ad, A = some ad ∧ ad.block < w2.heap.size ∧ ∀ j u, (ns.flatMap ndc)[j]? = some u → w2.cell? (ad.add j) = some u := by
    rcases HX.out.lies with h | ⟨ad, e, hs, hc⟩
    · exfalso
      have h1 := congrArg List.length h
      have h2 := HX.out.len
      simp only at h1 h2
      rw [nd_flat_len] at h1
      simp at h1; omega
    · exact ⟨ad, e, hs.1, hc⟩
  obtain ⟨aS, rfl, hSb, hScl⟩ : ∃ ad, SA = some ad ∧ ad.block < w2.heap.size ∧ ∀ j u, (sl.map RH.v)[j]? = some u → w2.cell? (ad.add j) = some u := by
    rcases HX.out.s.lies with h | ⟨ad, e, hs, hc⟩
    · exfalso
      have h1 := congrArg List.length h
      have h2 := HX.out.s.len
      simp at h1 h2; rw [h1] at h2; simp at h2; omega
    · exact ⟨ad, e, hs.1, hc⟩
  obtain ⟨aP, rfl, hPb, hPcl⟩ : ∃ ad, PA = some ad ∧ ad.block < w2.heap.size ∧ ∀ j u, (pl.map RH.v)[j]? = some u → w2.cell? (ad.add j) = some u := by
    rcases HX.out.p.lies with h | ⟨ad, e, hs, hc⟩
    · exfalso
      have h1 := congrArg List.length h
      have h2 := HX.out.p.len
      simp at h1 h2; rw [h1] at h2; simp at h2; omega
    · exact ⟨ad, e, hs.1, hc⟩
  have HN := hid (show (ns.flatMap ndc).length = pn * 4 by rw [nd_flat_len, show ns.length = pn from HX.out.len, Nat.mul_comm])
  have HNB := hid hNb; have HNC := hid hNc; have HN1 := hid (show ∀ u ∈ ns.flatMap ndc, u.oneCell' = true from one_flat ns)
  have HS0 := hid (show (sl.map RH.v).length = pn * 1 by rw [List.length_map, show sl.length = pn from HX.out.s.len, Nat.mul_one])
  have HSB := hid hSb; have HSC := hid hScl; have HS1 := hid (show ∀ u ∈ sl.map RH.v, u.oneCell' = true from one_rhv sl)
  have HP := hid (show (pl.map RH.v).length = pn * 1 by rw [List.length_map, show pl.length = pn from HX.out.p.len, Nat.mul_one])
  have HPB := hid hPb; have HPC := hid hPcl; have HP1 := hid (show ∀ u ∈ pl.map RH.v, u.oneCell' = true from one_rhv pl)
  clear hNb hNc hSb hScl hPb hPcl
  have HB0 := hid (show Below w2.heap.size w2 w2.drew from (Below.refl _ _).drew)
  rename_i Kx hKx
  refine wp_region_facts (fun i => (factsG w2.heap.size G pn (some aN) (some aS) (some aP) c sc pc (ns.flatMap ndc) (sl.map RH.v) (pl.map RH.v)).getD i (fun _ _ => True)) (fun v => Below w2.heap.size w2 v) (fun _ => none) (fun _ v u => Below v.heap.size v u) Kx (fun _ _ h => h) 15 14
    [some 7, some 8, some 9, some 10, some 11, some 12, some 13, some 14, some 15, some 16, some 17, some 18, some 19, some 5, none] (by kernel_rfl) (by kernel_rfl) (by kernel_rfl) (by kernel_rfl) (by kernel_rfl) (by kernel_rfl) (by decide)
    (fun _ v u i z hb _ _ hF => factsG_stb _ _ _ _ _ _ _ _ _ _ _ _ i z v u hb hF) HB0.out ?_ ?_
  · intro i o f v ho hi hB hpre K hK
    have HBv := hid hB
    match i, ho, hpre, hK with
    | 0, ho, hpre, hK =>
      obtain rfl := Option.some.inj ho
      refine wpOp_step rfl fun K' hK' => ?_
      simp only [putL]
      go_simp
      have hz := hK' _ _ (hK (.slice (some ⟨v.heap.size, 0, none⟩) 0 0) (v.alloc (.cells #[] 55)) (HBv.out.alloc HBv.out.size _) ((Below.refl _ _).alloc (Nat.le_refl _) _) (⟨_, rfl⟩))
      refine Eq.mp (congrArg (fun a => K' a (v.alloc (.cells #[] 55))) ?_) hz
      kernel_rfl
    | 1, ho, hpre, hK =>
      obtain rfl := Option.some.inj ho
      refine wpOp_step rfl fun K' hK' => ?_
      simp only [putL]
      go_simp
      have hz := hK' _ _ (hK (.pointer (some ⟨G, 0, none⟩)) (v) (HBv.out) (Below.refl _ _) (rfl))
      refine Eq.mp (congrArg (fun a => K' a (v)) ?_) hz
      kernel_rfl
    | 2, ho, hpre, hK =>
      obtain rfl := Option.some.inj ho
      have e1 : f 1 = .pointer (some ⟨G, 0, none⟩) := hpre ⟨1, .data⟩ (by simp) rfl (.inl rfl)
      obtain ⟨f, rfl⟩ := fix1 f 1 _ e1
      refine wpOp_step rfl fun K' hK' => ?_
      have hc := (HBx.out.below HBv.out HBx.out.lt).thr
      have hl := (HBx.out.below HBv.out HBx.out.lt).lt
      clear e1
      simp only [putL, updV]
      go_simp
      have hz := hK' _ _ (hK (.slice (some aN) pn c) (v) (HBv.out) (Below.refl _ _) (rfl))
      refine Eq.mp (congrArg (fun a => K' a (v)) ?_) hz
      kernel_rfl
    | 3, ho, hpre, hK =>
      obtain rfl := Option.some.inj ho
      obtain ⟨g, e0⟩ : ∃ g : Nat, f 0 = .slice (some ⟨g, 0, none⟩) 0 0 := hpre ⟨0, .data⟩ (by simp) rfl (.inl rfl)
      have e1 : f 2 = .slice (some aN) pn c := hpre ⟨2, .data⟩ (by simp) rfl (.inl rfl)
      obtain ⟨f, rfl⟩ := fix1 f 0 _ e0
      rw [updV_ne _ _ (by decide)] at e1
      obtain ⟨f, rfl⟩ := fix1 f 2 _ e1
      refine wpOp_step rfl fun K' hK' => ?_
      clear e0 e1
      refine step_append_grows rfl (.tmp 7) (.tmp 9) 23 rfl 55 i2 _ 4 32 Tryz.underlying23 Hj.out Hy0.out Hy1.out Hy2.out rfl (by decide) (some ⟨g, 0, none⟩) 0 0 [] (by kernel_rfl) (fun h => by cases h) rfl (fun b _ j u hu => by simp at hu) aN pn c (ns.flatMap ndc) (by kernel_rfl) (HN.out) (fun j u hu => (HBv.out.cell (p := aN.add j) (by rw [add_block]; exact HNB.out)).trans (HNC.out j u hu)) HN1.out (by omega) (by unfold maxLen; omega) (by omega) ?_
      intro v' w' hown hgr
      rw [Nat.zero_add, List.nil_append] at hown
      obtain ⟨g9, c9, rfl, -, -⟩ := hown.form (by omega)
      have hbn := below_none hgr
      have hz := hK' _ _ (hK (.slice (some ⟨g9, 0, none⟩) pn c9) (w') (HBv.out.trans (hbn.mono HBv.out.size)) (hbn) (⟨_, _, rfl, own_mono1 hown HBv.out.size⟩))
      refine Eq.mp (congrArg (fun a => K' a (w')) ?_) hz
      kernel_rfl
    | 4, ho, hpre, hK =>
      obtain rfl := Option.some.inj ho
      refine wpOp_step rfl fun K' hK' => ?_
      simp only [putL]
      go_simp
      have hz := hK' _ _ (hK (.slice (some ⟨v.heap.size, 0, none⟩) 0 0) (v.alloc (.cells #[] 22)) (HBv.out.alloc HBv.out.size _) ((Below.refl _ _).alloc (Nat.le_refl _) _) (⟨_, rfl⟩))
      refine Eq.mp (congrArg (fun a => K' a (v.alloc (.cells #[] 22))) ?_) hz
      kernel_rfl
    | 5, ho, hpre, hK =>
      obtain rfl := Option.some.inj ho
      refine wpOp_step rfl fun K' hK' => ?_
      simp only [putL]
      go_simp
      have hz := hK' _ _ (hK (.pointer (some ⟨G, 1, none⟩)) (v) (HBv.out) (Below.refl _ _) (rfl))
      refine Eq.mp (congrArg (fun a => K' a (v)) ?_) hz
      kernel_rfl
    | 6, ho, hpre, hK =>
      obtain rfl := Option.some.inj ho
      have e1 : f 5 = .pointer (some ⟨G, 1, none⟩) := hpre ⟨5, .data⟩ (by simp) rfl (.inl rfl)
      obtain ⟨f, rfl⟩ := fix1 f 5 _ e1
      refine wpOp_step rfl fun K' hK' => ?_
      have hc := (HBx.out.below HBv.out HBx.out.lt).thr
      have hl := (HBx.out.below HBv.out HBx.out.lt).lt
      clear e1
      simp only [putL, updV]
      go_simp
      have hz := hK' _ _ (hK (.slice (some aS) pn sc) (v) (HBv.out) (Below.refl _ _) (rfl))
      refine Eq.mp (congrArg (fun a => K' a (v)) ?_) hz
      kernel_rfl
    | 7, ho, hpre, hK =>
      obtain rfl := Option.some.inj ho
      obtain ⟨g, e0⟩ : ∃ g : Nat, f 4 = .slice (some ⟨g, 0, none⟩) 0 0 := hpre ⟨4, .data⟩ (by simp) rfl (.inl rfl)
      have e1 : f 6 = .slice (some aS) pn sc := hpre ⟨6, .data⟩ (by simp) rfl (.inl rfl)
      obtain ⟨f, rfl⟩ := fix1 f 4 _ e0
      rw [updV_ne _ _ (by decide)] at e1
      obtain ⟨f, rfl⟩ := fix1 f 6 _ e1
      refine wpOp_step rfl fun K' hK' => ?_
      clear e0 e1
      refine step_append_grows rfl (.tmp 11) (.tmp 13) 24 rfl 22 i1 _ 1 24 Tryz.underlying24 Hi.out Hz0.out Hz1.out Hz2.out rfl (by decide) (some ⟨g, 0, none⟩) 0 0 [] (by kernel_rfl) (fun h => by cases h) rfl (fun b _ j u hu => by simp at hu) aS pn sc (sl.map RH.v) (by kernel_rfl) (HS0.out) (fun j u hu => (HBv.out.cell (p := aS.add j) (by rw [add_block]; exact HSB.out)).trans (HSC.out j u hu)) HS1.out (by omega) (by unfold maxLen; omega) (by omega) ?_
      intro v' w' hown hgr
      rw [Nat.zero_add, List.nil_append] at hown
      obtain ⟨g9, c9, rfl, -, -⟩ := hown.form (by omega)
      have hbn := below_none hgr
      have hz := hK' _ _ (hK (.slice (some ⟨g9, 0, none⟩) pn c9) (w') (HBv.out.trans (hbn.mono HBv.out.size)) (hbn) (⟨_, _, rfl, own_mono1 hown HBv.out.size⟩))
      refine Eq.mp (congrArg (fun a => K' a (w')) ?_) hz
      kernel_rfl
    | 8, ho, hpre, hK =>
      obtain rfl := Option.some.inj ho
      refine wpOp_step rfl fun K' hK' => ?_
      simp only [putL]
      go_simp
      have hz := hK' _ _ (hK (.slice (some ⟨v.heap.size, 0, none⟩) 0 0) (v.alloc (.cells #[] 22)) (HBv.out.alloc HBv.out.size _) ((Below.refl _ _).alloc (Nat.le_refl _) _) (⟨_, rfl⟩))
      refine Eq.mp (congrArg (fun a => K' a (v.alloc (.cells #[] 22))) ?_) hz
      kernel_rfl
    | 9, ho, hpre, hK =>
      obtain rfl := Option.some.inj ho
      refine wpOp_step rfl fun K' hK' => ?_
      simp only [putL]
      go_simp
      have hz := hK' _ _ (hK (.pointer (some ⟨G, 2, none⟩)) (v) (HBv.out) (Below.refl _ _) (rfl))
      refine Eq.mp (congrArg (fun a => K' a (v)) ?_) hz
      kernel_rfl
    | 10, ho, hpre, hK =>
      obtain rfl := Option.some.inj ho
      have e1 : f 9 = .pointer (some ⟨G, 2, none⟩) := hpre ⟨9, .data⟩ (by simp) rfl (.inl rfl)
      obtain ⟨f, rfl⟩ := fix1 f 9 _ e1
      refine wpOp_step rfl fun K' hK' => ?_
      have hc := (HBx.out.below HBv.out HBx.out.lt).thr
      have hl := (HBx.out.below HBv.out HBx.out.lt).lt
      clear e1
      simp only [putL, updV]
      go_simp
      have hz := hK' _ _ (hK (.slice (some aP) pn pc) (v) (HBv.out) (Below.refl _ _) (rfl))
      refine Eq.mp (congrArg (fun a => K' a (v)) ?_) hz
      kernel_rfl
    | 11, ho, hpre, hK =>
      obtain rfl := Option.some.inj ho
      obtain ⟨g, e0⟩ : ∃ g : Nat, f 8 = .slice (some ⟨g, 0, none⟩) 0 0 := hpre ⟨8, .data⟩ (by simp) rfl (.inl rfl)
      have e1 : f 10 = .slice (some aP) pn pc := hpre ⟨10, .data⟩ (by simp) rfl (.inl rfl)
      obtain ⟨f, rfl⟩ := fix1 f 8 _ e0
      rw [updV_ne _ _ (by decide)] at e1
      obtain ⟨f, rfl⟩ := fix1 f 10 _ e1
      refine wpOp_step rfl fun K' hK' => ?_
      clear e0 e1
      refine step_append_grows rfl (.tmp 15) (.tmp 17) 24 rfl 22 i1 _ 1 24 Tryz.underlying24 Hi.out Hz0.out Hz1.out Hz2.out rfl (by decide) (some ⟨g, 0, none⟩) 0 0 [] (by kernel_rfl) (fun h => by cases h) rfl (fun b _ j u hu => by simp at hu) aP pn pc (pl.map RH.v) (by kernel_rfl) (HP.out) (fun j u hu => (HBv.out.cell (p := aP.add j) (by rw [add_block]; exact HPB.out)).trans (HPC.out j u hu)) HP1.out (by omega) (by unfold maxLen; omega) (by omega) ?_
      intro v' w' hown hgr
      rw [Nat.zero_add, List.nil_append] at hown
      obtain ⟨g9, c9, rfl, -, -⟩ := hown.form (by omega)
      have hbn := below_none hgr
      have hz := hK' _ _ (hK (.slice (some ⟨g9, 0, none⟩) pn c9) (w') (HBv.out.trans (hbn.mono HBv.out.size)) (hbn) (⟨_, _, rfl, own_mono1 hown HBv.out.size⟩))
      refine Eq.mp (congrArg (fun a => K' a (w')) ?_) hz
      kernel_rfl
    | 12, ho, hpre, hK =>
      obtain rfl := Option.some.inj ho
      obtain ⟨g0, c0, e0, h0⟩ : Fo w2.heap.size 55 4 pn (ns.flatMap ndc) (f 3) v := hpre ⟨3, .data⟩ (by simp) rfl (.inl rfl)
      obtain ⟨g1, c1, e1, h1⟩ : Fo w2.heap.size 22 1 pn (sl.map RH.v) (f 7) v := hpre ⟨7, .data⟩ (by simp) rfl (.inl rfl)
      obtain ⟨g2, c2, e2, h2⟩ : Fo w2.heap.size 22 1 pn (pl.map RH.v) (f 11) v := hpre ⟨11, .data⟩ (by simp) rfl (.inl rfl)
      have H3 := hid (show Fg3 w2.heap.size pn (ns.flatMap ndc) (sl.map RH.v) (pl.map RH.v) (.agg #[.slice (some ⟨g0, 0, none⟩) pn c0, .slice (some ⟨g1, 0, none⟩) pn c1, .slice (some ⟨g2, 0, none⟩) pn c2]) v from ⟨_, _, _, rfl, ⟨g0, c0, rfl, e0 ▸ h0⟩, ⟨g1, c1, rfl, e1 ▸ h1⟩, ⟨g2, c2, rfl, e2 ▸ h2⟩⟩)
      clear h0 h1 h2
      obtain ⟨f, rfl⟩ := fix1 f 3 _ e0
      rw [updV_ne _ _ (by decide)] at e1 e2
      obtain ⟨f, rfl⟩ := fix1 f 7 _ e1
      rw [updV_ne _ _ (by decide)] at e2
      obtain ⟨f, rfl⟩ := fix1 f 11 _ e2
      refine wpOp_step rfl fun K' hK' => ?_
      clear e0 e1 e2
      simp only [putL, updV]
      go_simp
      have hz := hK' _ _ (hK (.agg #[.slice (some ⟨g0, 0, none⟩) pn c0, .slice (some ⟨g1, 0, none⟩) pn c1, .slice (some ⟨g2, 0, none⟩) pn c2]) (v) (HBv.out) (Below.refl _ _) (H3.out))
      refine Eq.mp (congrArg (fun a => K' a (v)) ?_) hz
      kernel_rfl
    | 13, ho, hpre, hK =>
      obtain rfl := Option.some.inj ho
      refine wpOp_step rfl fun K' hK' => ?_
      simp only [putL]
      go_simp
      have hz := hK' _ _ (hK (.pointer (some ⟨v.heap.size, 0, none⟩)) (v.alloc (.cells #[.slice none 0 0, .slice none 0 0, .slice none 0 0] 26)) (HBv.out.alloc HBv.out.size _) ((Below.refl _ _).alloc (Nat.le_refl _) _) (⟨_, rfl, HBv.out.size, Fb.new _ _ _⟩))
      refine Eq.mp (congrArg (fun a => K' a (v.alloc (.cells #[.slice none 0 0, .slice none 0 0, .slice none 0 0] 26))) ?_) hz
      kernel_rfl
    | i + 14, ho, hpre, hK => exact absurd hi (by omega)
  · intro Q2 hQ2 f v hB hF
    have HBv := hid hB
    obtain ⟨v0, v1, v2, e12, ⟨g0, c0, rfl, h0⟩, ⟨g1, c1, rfl, h1⟩, ⟨g2, c2, rfl, h2⟩⟩ : Fg3 w2.heap.size pn (ns.flatMap ndc) (sl.map RH.v) (pl.map RH.v) (f 12) v := hF 12 (by decide) rfl
    obtain ⟨d, e13, hd, hfd⟩ : Fd3 w2.heap.size (f 13) v := hF 13 (by decide) rfl
    obtain ⟨f, rfl⟩ := fix1 f 12 _ e12
    rw [updV_ne _ _ (by decide)] at e13
    obtain ⟨f, rfl⟩ := fix1 f 13 _ e13
    have H0 := hid h0; have H1 := hid h1; have H2 := hid h2; have HD := hid hfd
    clear hB hF e12 e13 h0 h1 h2 hfd
    show wpAny _ _ _ _ 1 (tailArr 15 14) _ _
    generalize hA : putL _ _ _ _ = aa
    refine tail_one (i := 14) ?h1 ?h2 rfl hQ2 ?h4
    case h1 => kernel_rfl
    case h2 => kernel_rfl
    intro K' hK'
    obtain ⟨d0, d1, d2⟩ := HD.out.thr
    obtain ⟨z0, z1, z2⟩ := HD.out.thrz
    have hdl := HD.out.lt
    simp only [putL, updV] at hA
    rw [← hA]
    clear hA
    go_simp
    refine hK' _ _ ?_
    have HS := hid (show Sgs w0 w T G d pn g1 c1 g2 c2 (some ⟨g0, 0, none⟩) pn c0 ns sl pl (((v.setCell ⟨d, 0, none⟩ (.slice (some ⟨g0, 0, none⟩) pn c0)).setCell ⟨d, 1, none⟩ (.slice (some ⟨g1, 0, none⟩) pn c1)).setCell ⟨d, 2, none⟩ (.slice (some ⟨g2, 0, none⟩) pn c2)) from
      Sgs.start HGe.out hTl (HB2.out) HBv.out hd H0.out H1.out H2.out HD.out HRs.out Hgo0.out Hx0.out hn2 HSc.out HPc.out)
    have hcap := own_capn H0.out
    clear HGo HBx HRs Hi Hz0 Hz1 Hz2 Hj Hy0 Hy1 Hy2 HB2 HX Hx0 Hgo0 HN HNB HNC HN1 HS0 HSB HSC HS1 HP HPB HPC HP1 HB0 H0 H1 H2 HD d0 d1 d2 z0 z1 z2 hdl HBv hd
    refine hKx _ _ ?_
    clear hKx
    generalize ((v.setCell ⟨d, 0, none⟩ (.slice (some ⟨g0, 0, none⟩) pn c0)).setCell ⟨d, 1, none⟩ (.slice (some ⟨g1, 0, none⟩) pn c1)).setCell ⟨d, 2, none⟩ (.slice (some ⟨g2, 0, none⟩) pn c2) = u1 at HS ⊢
    generalize f 0 = q0
    generalize f 1 = q1
    generalize f 2 = q2
    generalize f 3 = q3
    generalize f 4 = q4
    generalize f 5 = q5
    generalize f 6 = q6
    generalize f 7 = q7
    generalize f 8 = q8
    generalize f 9 = q9
    generalize f 10 = q10
    generalize f 11 = q11
    obtain ⟨b0, b1, b2⟩ := HS.out.box.thr
    have hbl := HS.out.box.lt
    go_wp2_with fail
    clear b0 b1 b2 hbl
    refine (next_any T (pn : Int) _ HS.out.go.1 (by omega)).mono ?_
    rintro e u2 ⟨r, rfl, hr0, hr1, ht, hg, -⟩
    have HS := hid (HS.out.step ht hg)
    obtain ⟨i, rfl⟩ : ∃ i : Nat, r = (i : Int) := ⟨r.toNat, by omega⟩
    have hin : i < pn := by omega
    clear ht hg hr0 hr1
    go_wp2_with fail
    refine (next_any T 4 _ HS.out.go.1 (by omega)).mono ?_
    rintro e u3 ⟨r2, rfl, hr0, hr1, ht, hg, -⟩
    have HS := hid (HS.out.step ht hg)
    have hcase : r2 = 0 ∨ r2 = 1 ∨ r2 = 2 ∨ r2 = 3 := by omega
    have hinI : (i : Int) < (pn : Int) := by omega
    have hi0 : (0 : Int) ≤ (i : Int) := by omega
    clear ht hg hr0 hr1
    have HSl := hid (show sl.length = pn by have := HS.out.s1.1; rwa [List.length_map, Nat.mul_one] at this)
    have HPl := hid (show pl.length = pn by have := HS.out.p2.1; rwa [List.length_map, Nat.mul_one] at this)
    obtain ⟨y, hy, hym⟩ := get_at HSl.out hin
    obtain ⟨p, hp, hpm⟩ := get_at HPl.out hin
    have HY := hid hy
    have HYm := hid hym
    have HP' := hid hp
    have HPm := hid hpm
    clear hy hym hp hpm
    rcases hcase with rfl | rfl | rfl | rfl
    · go_upto_region 6 with fail
      rename_i Kx hKx
      refine wp_region_facts (fun j => (facts0 T G d g0 c0 g1 c1 g2 pn i y).getD j (fun _ _ => True)) (fun v => Sgs w0 w T G d pn g1 c1 g2 c2 (some ⟨g0, 0, none⟩) pn c0 ns sl pl v) (fun _ => none) (fun _ v u => v.grownBy u (some T)) Kx (fun _ _ h => h) 17 15
        [some 33, some 34, some 35, some 36, some 37, some 38, some 39, some 40, some 41, some 42, some 43, some 44, some 45, some 46, some 47, some 48, none] (by kernel_rfl) (by kernel_rfl) (by kernel_rfl) (by kernel_rfl) (by kernel_rfl) (by kernel_rfl) (by decide)
        (fun _ v u j x hb _ _ hF => facts0_stb T G d g0 c0 g1 c1 g2 pn i y j x v u hb hF) (HS.out.below (Below.refl _ _).drew) ?_ ?_
      · intro j o f v ho hi hB hpre K hK
        have HB := hid hB
        match j, ho, hpre, hK with
        | 0, ho, hpre, hK =>
          obtain rfl := Option.some.inj ho
          refine wpOp_step rfl fun K' hK' => ?_
          simp only [putL, updV]
          go_simp
          have hz := hK' _ _ (hK (.pointer (some ⟨d, 1, none⟩)) (v) (HB.out) (grown_of_below (Below.refl _ _) _) (rfl))
          refine Eq.mp (congrArg (fun a => K' a (v)) ?_) hz
          kernel_rfl
        | 1, ho, hpre, hK =>
          obtain rfl := Option.some.inj ho
          have e0 : f 0 = .pointer (some ⟨d, 1, none⟩) := hpre ⟨0, .data⟩ (by simp) rfl (.inl rfl)
          obtain ⟨f, rfl⟩ := fix1 f 0 _ e0
          clear e0
          refine wpOp_step rfl fun K' hK' => ?_
          have hc := HB.out.box.thr
          have hbl := HB.out.box.lt
          simp only [putL, updV]
          go_simp
          have hz := hK' _ _ (hK (.slice (some ⟨g1, 0, none⟩) pn c1) (v) (HB.out) (grown_of_below (Below.refl _ _) _) (rfl))
          refine Eq.mp (congrArg (fun a => K' a (v)) ?_) hz
          kernel_rfl
        | 2, ho, hpre, hK =>
          obtain rfl := Option.some.inj ho
          refine wpOp_step rfl fun K' hK' => ?_
          simp only [putL, updV]
          go_simp
          have hz := hK' _ _ (hK (.int .i64 (i : Int)) (v) (HB.out) (grown_of_below (Below.refl _ _) _) (rfl))
          refine Eq.mp (congrArg (fun a => K' a (v)) ?_) hz
          kernel_rfl
        | 3, ho, hpre, hK =>
          obtain rfl := Option.some.inj ho
          refine wpOp_step rfl fun K' hK' => ?_
          simp only [putL, updV]
          go_simp
          have hz := hK' _ _ (hK (.pointer (some ⟨d, 1, none⟩)) (v) (HB.out) (grown_of_below (Below.refl _ _) _) (rfl))
          refine Eq.mp (congrArg (fun a => K' a (v)) ?_) hz
          kernel_rfl
        | 4, ho, hpre, hK =>
          obtain rfl := Option.some.inj ho
          have e0 : f 3 = .pointer (some ⟨d, 1, none⟩) := hpre ⟨3, .data⟩ (by simp) rfl (.inl rfl)
          obtain ⟨f, rfl⟩ := fix1 f 3 _ e0
          clear e0
          refine wpOp_step rfl fun K' hK' => ?_
          have hc := HB.out.box.thr
          have hbl := HB.out.box.lt
          simp only [putL, updV]
          go_simp
          have hz := hK' _ _ (hK (.slice (some ⟨g1, 0, none⟩) pn c1) (v) (HB.out) (grown_of_below (Below.refl _ _) _) (rfl))
          refine Eq.mp (congrArg (fun a => K' a (v)) ?_) hz
          kernel_rfl
        | 5, ho, hpre, hK =>
          obtain rfl := Option.some.inj ho
          refine wpOp_step rfl fun K' hK' => ?_
          simp only [putL, updV]
          go_simp
          have hz := hK' _ _ (hK (.int .i64 (i : Int)) (v) (HB.out) (grown_of_below (Below.refl _ _) _) (rfl))
          refine Eq.mp (congrArg (fun a => K' a (v)) ?_) hz
          kernel_rfl
        | 6, ho, hpre, hK =>
          obtain rfl := Option.some.inj ho
          have e0 : f 4 = .slice (some ⟨g1, 0, none⟩) pn c1 := hpre ⟨4, .data⟩ (by simp) rfl (.inl rfl)
          have e1 : f 5 = .int .i64 (i : Int) := hpre ⟨5, .data⟩ (by simp) rfl (.inl rfl)
          obtain ⟨f, rfl⟩ := fix1 f 4 _ e0
          rw [updV_ne _ _ (by decide)] at e1
          obtain ⟨f, rfl⟩ := fix1 f 5 _ e1
          clear e0 e1
          refine wpOp_step rfl fun K' hK' => ?_
          simp only [putL, updV]
          go_simp
          have hz := hK' _ _ (hK (.pointer (some ⟨g1, i, none⟩)) (v) (HB.out) (grown_of_below (Below.refl _ _) _) (rfl))
          refine Eq.mp (congrArg (fun a => K' a (v)) ?_) hz
          kernel_rfl
        | 7, ho, hpre, hK =>
          obtain rfl := Option.some.inj ho
          have e0 : f 6 = .pointer (some ⟨g1, i, none⟩) := hpre ⟨6, .data⟩ (by simp) rfl (.inl rfl)
          obtain ⟨f, rfl⟩ := fix1 f 6 _ e0
          clear e0
          refine wpOp_step rfl fun K' hK' => ?_
          have hc := HB.out.cellS HY.out
          simp only [putL, updV]
          go_simp
          have hz := hK' _ _ (hK (.slice y.A y.n y.c) (v) (HB.out) (grown_of_below (Below.refl _ _) _) (rfl))
          refine Eq.mp (congrArg (fun a => K' a (v)) ?_) hz
          kernel_rfl
        | 8, ho, hpre, hK =>
          obtain rfl := Option.some.inj ho
          refine wpOp_step rfl fun K' hK' => ?_
          simp only [putL, updV]
          go_simp
          have hz := hK' _ _ (hK (.pointer (some ⟨T, 0, none⟩)) (v) (HB.out) (grown_of_below (Below.refl _ _) _) (rfl))
          refine Eq.mp (congrArg (fun a => K' a (v)) ?_) hz
          kernel_rfl
        | 9, ho, hpre, hK =>
          obtain rfl := Option.some.inj ho
          refine wpOp_step rfl fun K' hK' => ?_
          simp only [putL, updV]
          go_simp
          have hz := hK' _ _ (hK (.pointer (some ⟨d, 0, none⟩)) (v) (HB.out) (grown_of_below (Below.refl _ _) _) (rfl))
          refine Eq.mp (congrArg (fun a => K' a (v)) ?_) hz
          kernel_rfl
        | 10, ho, hpre, hK =>
          obtain rfl := Option.some.inj ho
          have e0 : f 9 = .pointer (some ⟨d, 0, none⟩) := hpre ⟨9, .data⟩ (by simp) rfl (.inl rfl)
          obtain ⟨f, rfl⟩ := fix1 f 9 _ e0
          clear e0
          refine wpOp_step rfl fun K' hK' => ?_
          have hc := HB.out.box.thr
          have hbl := HB.out.box.lt
          simp only [putL, updV]
          go_simp
          have hz := hK' _ _ (hK (.slice (some ⟨g0, 0, none⟩) pn c0) (v) (HB.out) (grown_of_below (Below.refl _ _) _) (rfl))
          refine Eq.mp (congrArg (fun a => K' a (v)) ?_) hz
          kernel_rfl
        | 11, ho, hpre, hK =>
          obtain rfl := Option.some.inj ho
          have e0 : f 10 = .slice (some ⟨g0, 0, none⟩) pn c0 := hpre ⟨10, .data⟩ (by simp) rfl (.inl rfl)
          obtain ⟨f, rfl⟩ := fix1 f 10 _ e0
          clear e0
          refine wpOp_step rfl fun K' hK' => ?_
          simp only [putL, updV]
          go_simp
          have hz := hK' _ _ (hK (.int .i64 (pn : Int)) (v) (HB.out) (grown_of_below (Below.refl _ _) _) (rfl))
          refine Eq.mp (congrArg (fun a => K' a (v)) ?_) hz
          kernel_rfl
        | 12, ho, hpre, hK =>
          obtain rfl := Option.some.inj ho
          have e0 : f 11 = .int .i64 (pn : Int) := hpre ⟨11, .data⟩ (by simp) rfl (.inl rfl)
          obtain ⟨f, rfl⟩ := fix1 f 11 _ e0
          clear e0
          refine wpOp_step rfl fun K' hK' => ?_
          have hw : IntKind.i64.wrap ((pn : Int) + 1) = (pn : Int) + 1 := IntWalk.i64_in _ (by omega)
          simp only [putL, updV]
          go_simp
          have hz := hK' _ _ (hK (.int .i64 ((pn : Int) + 1)) (v) (HB.out) (grown_of_below (Below.refl _ _) _) (rfl))
          refine Eq.mp (congrArg (fun a => K' a (v)) ?_) hz
          kernel_rfl
        | 13, ho, hpre, hK =>
          obtain rfl := Option.some.inj ho
          have e0 : f 8 = .pointer (some ⟨T, 0, none⟩) := hpre ⟨8, .data⟩ (by simp) rfl (.inl rfl)
          have e1 : f 12 = .int .i64 ((pn : Int) + 1) := hpre ⟨12, .data⟩ (by simp) rfl (.inl rfl)
          obtain ⟨f, rfl⟩ := fix1 f 8 _ e0
          rw [updV_ne _ _ (by decide)] at e1
          obtain ⟨f, rfl⟩ := fix1 f 12 _ e1
          clear e0 e1
          refine wpOp_step rfl fun K' hK' => ?_
          simp only [putL, updV]
          go_simp
          go_at_call 7
          refine (next_any T ((pn : Int) + 1) _ HB.out.go.1 (by omega)).mono ?_
          rintro e u5 ⟨r, rfl, hr0, hr1, ht, hg, -⟩
          have hB5 := HB.out.step ht hg
          have HF := hid (show Fnx (pn + 2) (.int .i64 r) u5 from ⟨r, rfl, hr0, by omega⟩)
          have hz := hK' _ _ (hK (.int .i64 r) (u5) (hB5) (hg) (HF.out))
          refine Eq.mp (congrArg (fun a => K' a (u5)) ?_) hz
          kernel_rfl
        | 14, ho, hpre, hK =>
          obtain rfl := Option.some.inj ho
          obtain ⟨r, e1, hr0, hr1⟩ : Fnx (pn + 2) (f 13) v := hpre ⟨13, .data⟩ (by simp) rfl (.inl rfl)
          have e0 : f 7 = .slice y.A y.n y.c := hpre ⟨7, .data⟩ (by simp) rfl (.inl rfl)
          obtain ⟨f, rfl⟩ := fix1 f 7 _ e0
          rw [updV_ne _ _ (by decide)] at e1
          obtain ⟨f, rfl⟩ := fix1 f 13 _ e1
          clear e0 e1
          refine wpOp_step rfl fun K' hK' => ?_
          simp only [putL, updV]
          go_simp
          go_at_call 10
          obtain ⟨hq1, hq2, hq3⟩ := HB.out.sr y HYm.out
          refine (insert_any y r (exq T G d g1 g2) _ hq1 hq2 (by omega) (exq_lt HB.out)).mono ?_
          rintro e u5 ⟨z, rfl, hzl, hzok, hzc, hb⟩
          have hB5 := HB.out.below hb
          have hzn : z.n ≤ 1001 := by have h1 := hzok.len; have h2 := insI_len y.l r; have h3 := hq1.len; have h4 := HSc.out y HYm.out; rw [hzl] at h1; omega
          have HF := hid (show Frw (exq T G d g1 g2) (.slice z.A z.n z.c) u5 from ⟨z, rfl, hzok, hzc, hzn⟩)
          have hgn := grown_of_below hb (some T)
          have hz := hK' _ _ (hK (.slice z.A z.n z.c) (u5) (hB5) (hgn) (HF.out))
          refine Eq.mp (congrArg (fun a => K' a (u5)) ?_) hz
          kernel_rfl
        | j + 15, ho, hpre, hK => exact absurd hi (by omega)
      · intro Q2 hQ2 f v hB hF
        have HB := hid hB
        obtain ⟨z, e14, hz⟩ : Frw (exq T G d g1 g2) (f 14) v := hF 14 (by decide) rfl
        have e1 : f 1 = .slice (some ⟨g1, 0, none⟩) pn c1 := hF 1 (by decide) rfl
        have e2 : f 2 = .int .i64 (i : Int) := hF 2 (by decide) rfl
        obtain ⟨f, rfl⟩ := fix1 f 14 _ e14
        rw [updV_ne _ _ (by decide)] at e1 e2
        obtain ⟨f, rfl⟩ := fix1 f 1 _ e1
        rw [updV_ne _ _ (by decide)] at e2
        obtain ⟨f, rfl⟩ := fix1 f 2 _ e2
        have HZ := hid hz
        clear hB hF e14 e1 e2 hz HS
        show wpAny _ _ _ _ 2 (tailArr 17 15) _ _
        generalize hA : putL _ _ _ _ = aa
        refine tail_two (i := 15) (j := 16) ?q1 ?q2 ?q3 rfl rfl hQ2 ?q4
        case q1 => kernel_rfl
        case q2 => kernel_rfl
        case q3 => kernel_rfl
        obtain ⟨k0, k1, k2⟩ := HB.out.cellS HY.out
        simp only [putL, updV] at hA
        rw [← hA]
        clear hA
        go_simp
        obtain ⟨sl', pl', h9⟩ := HB.out.store (.inl rfl) hin HZ.out
        have HF := hid h9
        clear h9 k0 k1 k2
        refine hKx _ _ ?_
        clear hKx
        generalize v.setCell ⟨g1, i, none⟩ (.slice z.A z.n z.c) = u5 at HF ⊢
        obtain ⟨b0, b1, b2⟩ := HF.out.box.thr
        have hbl := HF.out.box.lt
        obtain ⟨e0, e1, e2⟩ := HF.out.rs.thr
        obtain ⟨z0, z1, z2⟩ := HF.out.rs.thrz
        have hl := HF.out.rs.lt
        go_wp2_with fail
        refine bodyPost_ret (v := .agg #[.slice (some ⟨g0, 0, none⟩) pn c0, .slice (some ⟨g1, 0, none⟩) pn c1, .slice (some ⟨g2, 0, none⟩) pn c2]) (by simp [results, Tryz.results8, go_sem, e0, e1, e2, z0, z1, z2, hl]) rfl ?_
        exact HF.out.ret hn2 _ _ _
    · go_upto_region 8 with fail
      rename_i Kx hKx
      have hTN : T < u3.heap.size := HS.out.go.1.lt
      have hN0 : w0.heap.size ≤ u3.heap.size := HS.out.go.2.1.size
      refine wp_region_facts (fun j => (facts1 T G d g0 c0 g1 g2 c2 pn i u3.heap.size p).getD j (fun _ _ => True)) (fun v => Sgs w0 w T G d pn g1 c1 g2 c2 (some ⟨g0, 0, none⟩) pn c0 ns sl pl v ∧ u3.grownBy v (some T)) use1 (SgR T) Kx (fun _ _ h => h) 20 18
        [some 51, some 52, some 53, some 54, some 55, some 56, some 57, some 58, some 59, some 60, some 61, some 62, some 63, some 64, some 65, some 66, some 67, some 68, some 69, none] (by kernel_rfl) (by kernel_rfl) (by kernel_rfl) (by kernel_rfl) (by kernel_rfl) (by kernel_rfl) (by decide)
        (fun jj v u j x hb hne hu hF => facts1_stb T G d g0 c0 g1 g2 c2 pn i u3.heap.size p hTN jj j x v u hb hne hu hF) ⟨HS.out.below (Below.refl _ _).drew, grown_of_below (Below.refl _ _).drew _⟩ ?_ ?_
      · intro j o f v ho hi hB hpre K hK
        have HB := hid hB
        match j, ho, hpre, hK with
        | 0, ho, hpre, hK =>
          obtain rfl := Option.some.inj ho
          refine wpOp_step rfl fun K' hK' => ?_
          simp only [putL, updV]
          go_simp
          have hz := hK' _ _ (hK (.pointer (some ⟨d, 2, none⟩)) (v) (HB.out) (.inr (grown_of_below (Below.refl _ _) _)) (rfl))
          refine Eq.mp (congrArg (fun a => K' a (v)) ?_) hz
          kernel_rfl
        | 1, ho, hpre, hK =>
          obtain rfl := Option.some.inj ho
          have e0 : f 0 = .pointer (some ⟨d, 2, none⟩) := hpre ⟨0, .data⟩ (by simp) rfl (.inl rfl)
          obtain ⟨f, rfl⟩ := fix1 f 0 _ e0
          clear e0
          refine wpOp_step rfl fun K' hK' => ?_
          have hc := HB.out.1.box.thr
          have hbl := HB.out.1.box.lt
          simp only [putL, updV]
          go_simp
          have hz := hK' _ _ (hK (.slice (some ⟨g2, 0, none⟩) pn c2) (v) (HB.out) (.inr (grown_of_below (Below.refl _ _) _)) (rfl))
          refine Eq.mp (congrArg (fun a => K' a (v)) ?_) hz
          kernel_rfl
        | 2, ho, hpre, hK =>
          obtain rfl := Option.some.inj ho
          refine wpOp_step rfl fun K' hK' => ?_
          simp only [putL, updV]
          go_simp
          have hz := hK' _ _ (hK (.int .i64 (i : Int)) (v) (HB.out) (.inr (grown_of_below (Below.refl _ _) _)) (rfl))
          refine Eq.mp (congrArg (fun a => K' a (v)) ?_) hz
          kernel_rfl
        | 3, ho, hpre, hK =>
          obtain rfl := Option.some.inj ho
          refine wpOp_step rfl fun K' hK' => ?_
          simp only [putL, updV]
          go_simp
          have hbw := (Below.refl v.heap.size v).alloc (Nat.le_refl _) (.cells #[] 3)
          have hB5 := And.intro (HB.out.1.below hbw) (grown_trans HB.out.2 (grown_of_below hbw (some T)))
          have hz := hK' _ _ (hK (.slice (some ⟨v.heap.size, 0, none⟩) 0 0) (v.alloc (.cells #[] 3)) (hB5) (.inr (grown_of_below hbw _)) (⟨_, rfl⟩))
          refine Eq.mp (congrArg (fun a => K' a (v.alloc (.cells #[] 3))) ?_) hz
          kernel_rfl
        | 4, ho, hpre, hK =>
          obtain rfl := Option.some.inj ho
          refine wpOp_step rfl fun K' hK' => ?_
          simp only [putL, updV]
          go_simp
          have hz := hK' _ _ (hK (.pointer (some ⟨d, 2, none⟩)) (v) (HB.out) (.inr (grown_of_below (Below.refl _ _) _)) (rfl))
          refine Eq.mp (congrArg (fun a => K' a (v)) ?_) hz
          kernel_rfl
        | 5, ho, hpre, hK =>
          obtain rfl := Option.some.inj ho
          have e0 : f 4 = .pointer (some ⟨d, 2, none⟩) := hpre ⟨4, .data⟩ (by simp) rfl (.inl rfl)
          obtain ⟨f, rfl⟩ := fix1 f 4 _ e0
          clear e0
          refine wpOp_step rfl fun K' hK' => ?_
          have hc := HB.out.1.box.thr
          have hbl := HB.out.1.box.lt
          simp only [putL, updV]
          go_simp
          have hz := hK' _ _ (hK (.slice (some ⟨g2, 0, none⟩) pn c2) (v) (HB.out) (.inr (grown_of_below (Below.refl _ _) _)) (rfl))
          refine Eq.mp (congrArg (fun a => K' a (v)) ?_) hz
          kernel_rfl
        | 6, ho, hpre, hK =>
          obtain rfl := Option.some.inj ho
          refine wpOp_step rfl fun K' hK' => ?_
          simp only [putL, updV]
          go_simp
          have hz := hK' _ _ (hK (.int .i64 (i : Int)) (v) (HB.out) (.inr (grown_of_below (Below.refl _ _) _)) (rfl))
          refine Eq.mp (congrArg (fun a => K' a (v)) ?_) hz
          kernel_rfl
        | 7, ho, hpre, hK =>
          obtain rfl := Option.some.inj ho
          have e0 : f 5 = .slice (some ⟨g2, 0, none⟩) pn c2 := hpre ⟨5, .data⟩ (by simp) rfl (.inl rfl)
          have e1 : f 6 = .int .i64 (i : Int) := hpre ⟨6, .data⟩ (by simp) rfl (.inl rfl)
          obtain ⟨f, rfl⟩ := fix1 f 5 _ e0
          rw [updV_ne _ _ (by decide)] at e1
          obtain ⟨f, rfl⟩ := fix1 f 6 _ e1
          clear e0 e1
          refine wpOp_step rfl fun K' hK' => ?_
          simp only [putL, updV]
          go_simp
          have hz := hK' _ _ (hK (.pointer (some ⟨g2, i, none⟩)) (v) (HB.out) (.inr (grown_of_below (Below.refl _ _) _)) (rfl))
          refine Eq.mp (congrArg (fun a => K' a (v)) ?_) hz
          kernel_rfl
        | 8, ho, hpre, hK =>
          obtain rfl := Option.some.inj ho
          have e0 : f 7 = .pointer (some ⟨g2, i, none⟩) := hpre ⟨7, .data⟩ (by simp) rfl (.inl rfl)
          obtain ⟨f, rfl⟩ := fix1 f 7 _ e0
          clear e0
          refine wpOp_step rfl fun K' hK' => ?_
          have hc := HB.out.1.cellP HP'.out
          simp only [putL, updV]
          go_simp
          have hz := hK' _ _ (hK (.slice p.A p.n p.c) (v) (HB.out) (.inr (grown_of_below (Below.refl _ _) _)) (rfl))
          refine Eq.mp (congrArg (fun a => K' a (v)) ?_) hz
          kernel_rfl
        | 9, ho, hpre, hK =>
          obtain rfl := Option.some.inj ho
          obtain ⟨g, e0⟩ : Fe (f 3) v := hpre ⟨3, .data⟩ (by simp) rfl (.inl rfl)
          have e1 : f 8 = .slice p.A p.n p.c := hpre ⟨8, .data⟩ (by simp) rfl (.inl rfl)
          obtain ⟨hq1, hq2, hq3⟩ := HB.out.1.pr p HPm.out
          have hql := hq1.len
          have h4 := HPc.out p HPm.out
          by_cases hp0 : p.n = 0
          · have HF := fun g0' => hid (show Frr u3.heap.size p.n (ints p.l) (.slice (some ⟨g0', 0, none⟩) 0 0) v from .inl ⟨hp0, g0', rfl⟩)
            rcases hpA : p.A with _ | ad
            · rw [hp0, hpA] at e1
              obtain ⟨f, rfl⟩ := fix1 f 3 _ e0
              rw [updV_ne _ _ (by decide)] at e1
              obtain ⟨f, rfl⟩ := fix1 f 8 _ e1
              clear e0 e1 hq1 hq2 hq3 hql h4 hp0
              refine wpOp_step rfl fun K' hK' => ?_
              simp only [putL, updV]
              go_simp
              have hz := hK' _ _ (hK (.slice (some ⟨g, 0, none⟩) 0 0) v HB.out (.inr (grown_of_below (Below.refl _ _) _)) (HF g).out)
              refine Eq.mp (congrArg (fun a => K' a v) ?_) hz
              kernel_rfl
            · rw [hp0, hpA] at e1
              obtain ⟨f, rfl⟩ := fix1 f 3 _ e0
              rw [updV_ne _ _ (by decide)] at e1
              obtain ⟨f, rfl⟩ := fix1 f 8 _ e1
              clear e0 e1 hq1 hq2 hq3 hql h4 hp0
              refine wpOp_step rfl fun K' hK' => ?_
              simp only [putL, updV]
              go_simp
              have hz := hK' _ _ (hK (.slice (some ⟨g, 0, none⟩) 0 0) v HB.out (.inr (grown_of_below (Below.refl _ _) _)) (HF g).out)
              refine Eq.mp (congrArg (fun a => K' a v) ?_) hz
              kernel_rfl
          · rcases hq1.lies with h | ⟨ad, hA, hs, hc⟩
            · exact absurd (show p.n = 0 by rw [← hql]; have := congrArg List.length h; simpa [ints] using this) hp0
            · rw [hA] at e1
              obtain ⟨f, rfl⟩ := fix1 f 3 _ e0
              rw [updV_ne _ _ (by decide)] at e1
              obtain ⟨f, rfl⟩ := fix1 f 8 _ e1
              clear e0 e1
              refine wpOp_step rfl fun K' hK' => ?_
              refine step_append_grows rfl (.tmp 54) (.tmp 59) 22 rfl 3 i3 _ 1 8 Tryz.underlying22 Hk.out Hx0i.out Hx1i.out Hx2i.out rfl (by decide) (some ⟨g, 0, none⟩) 0 0 [] (by kernel_rfl) (fun h => by cases h) rfl (fun b _ j u hu => by simp at hu) ad p.n p.c (ints p.l) (by kernel_rfl) (by rw [Nat.mul_one, ← hql]; simp [ints]) hc (one_ints _) (by omega) (by unfold maxLen; omega) (by omega) ?_
              intro v' w' hown hgr
              rw [Nat.zero_add, List.nil_append] at hown
              obtain ⟨g9, c9, rfl, -, -⟩ := hown.form (by omega)
              have hbw := below_none hgr
              have hB5 := And.intro (HB.out.1.below hbw) (grown_trans HB.out.2 (grown_of_below hbw (some T)))
              have HF := hid (show Frr u3.heap.size p.n (ints p.l) (.slice (some ⟨g9, 0, none⟩) p.n c9) w' from .inr ⟨g9, c9, rfl, own_mono1 hown HB.out.2.size⟩)
              have hz := hK' _ _ (hK (.slice (some ⟨g9, 0, none⟩) p.n c9) w' hB5 (.inr (grown_of_below hbw _)) HF.out)
              refine Eq.mp (congrArg (fun a => K' a w') ?_) hz
              kernel_rfl
        | 10, ho, hpre, hK =>
          obtain rfl := Option.some.inj ho
          refine wpOp_step rfl fun K' hK' => ?_
          simp only [putL, updV]
          go_simp
          have hz := hK' _ _ (hK (.pointer (some ⟨T, 0, none⟩)) (v) (HB.out) (.inr (grown_of_below (Below.refl _ _) _)) (rfl))
          refine Eq.mp (congrArg (fun a => K' a (v)) ?_) hz
          kernel_rfl
        | 11, ho, hpre, hK =>
          obtain rfl := Option.some.inj ho
          refine wpOp_step rfl fun K' hK' => ?_
          simp only [putL, updV]
          go_simp
          have hz := hK' _ _ (hK (.pointer (some ⟨d, 0, none⟩)) (v) (HB.out) (.inr (grown_of_below (Below.refl _ _) _)) (rfl))
          refine Eq.mp (congrArg (fun a => K' a (v)) ?_) hz
          kernel_rfl
        | 12, ho, hpre, hK =>
          obtain rfl := Option.some.inj ho
          have e0 : f 11 = .pointer (some ⟨d, 0, none⟩) := hpre ⟨11, .data⟩ (by simp) rfl (.inl rfl)
          obtain ⟨f, rfl⟩ := fix1 f 11 _ e0
          clear e0
          refine wpOp_step rfl fun K' hK' => ?_
          have hc := HB.out.1.box.thr
          have hbl := HB.out.1.box.lt
          simp only [putL, updV]
          go_simp
          have hz := hK' _ _ (hK (.slice (some ⟨g0, 0, none⟩) pn c0) (v) (HB.out) (.inr (grown_of_below (Below.refl _ _) _)) (rfl))
          refine Eq.mp (congrArg (fun a => K' a (v)) ?_) hz
          kernel_rfl
        | 13, ho, hpre, hK =>
          obtain rfl := Option.some.inj ho
          have e0 : f 12 = .slice (some ⟨g0, 0, none⟩) pn c0 := hpre ⟨12, .data⟩ (by simp) rfl (.inl rfl)
          obtain ⟨f, rfl⟩ := fix1 f 12 _ e0
          clear e0
          refine wpOp_step rfl fun K' hK' => ?_
          simp only [putL, updV]
          go_simp
          have hz := hK' _ _ (hK (.int .i64 (pn : Int)) (v) (HB.out) (.inr (grown_of_below (Below.refl _ _) _)) (rfl))
          refine Eq.mp (congrArg (fun a => K' a (v)) ?_) hz
          kernel_rfl
        | 14, ho, hpre, hK =>
          obtain rfl := Option.some.inj ho
          have e0 : f 10 = .pointer (some ⟨T, 0, none⟩) := hpre ⟨10, .data⟩ (by simp) rfl (.inl rfl)
          have e1 : f 13 = .int .i64 (pn : Int) := hpre ⟨13, .data⟩ (by simp) rfl (.inl rfl)
          obtain ⟨f, rfl⟩ := fix1 f 10 _ e0
          rw [updV_ne _ _ (by decide)] at e1
          obtain ⟨f, rfl⟩ := fix1 f 13 _ e1
          clear e0 e1
          refine wpOp_step rfl fun K' hK' => ?_
          simp only [putL, updV]
          go_simp
          go_at_call 7
          refine (next_any T (pn : Int) _ HB.out.1.go.1 (by omega)).mono ?_
          rintro e u5 ⟨r, rfl, hr0, hr1, ht, hg, -⟩
          have hB5 := And.intro (HB.out.1.step ht hg) (grown_trans HB.out.2 hg)
          have HF := hid (show Fnx pn (.int .i64 r) u5 from ⟨r, rfl, hr0, by omega⟩)
          have hz := hK' _ _ (hK (.int .i64 r) (u5) (hB5) (.inr hg) (HF.out))
          refine Eq.mp (congrArg (fun a => K' a (u5)) ?_) hz
          kernel_rfl
        | 15, ho, hpre, hK =>
          obtain rfl := Option.some.inj ho
          obtain ⟨r, e1, hr0, hr1⟩ : Fnx pn (f 14) v := hpre ⟨14, .data⟩ (by simp) rfl (.inl rfl)
          obtain ⟨f, rfl⟩ := fix1 f 14 _ e1
          clear e1
          refine wpOp_step rfl fun K' hK' => ?_
          have hw : IntKind.i64.wrap (r - 1) = r - 1 := IntWalk.i64_in _ (by omega)
          simp only [putL, updV]
          go_simp
          have hz := hK' _ _ (hK (.int .i64 (r - 1)) (v) (HB.out) (.inr (grown_of_below (Below.refl _ _) _)) (⟨_, rfl⟩))
          refine Eq.mp (congrArg (fun a => K' a (v)) ?_) hz
          kernel_rfl
        | 16, ho, hpre, hK =>
          obtain rfl := Option.some.inj ho
          obtain ⟨r, e1⟩ : Fin1 (f 15) v := hpre ⟨15, .data⟩ (by simp) rfl (.inl rfl)
          obtain ⟨f, rfl⟩ := fix1 f 15 _ e1
          clear e1
          refine wpOp_step rfl fun K' hK' => ?_
          simp only [putL, updV]
          go_simp
          have hbw := (Below.refl v.heap.size v).alloc (Nat.le_refl _) (.cells #[.int .i64 r] 3)
          have hB5 := And.intro (HB.out.1.below hbw) (grown_trans HB.out.2 (grown_of_below hbw (some T)))
          have hNv := HB.out.2.size
          have hz := hK' _ _ (hK (.slice (some ⟨v.heap.size, 0, none⟩) 1 1) (v.alloc (.cells #[.int .i64 r] 3)) (hB5) (.inr (grown_of_below hbw _)) (⟨_, r, rfl, hNv, Fb.new _ _ _⟩))
          refine Eq.mp (congrArg (fun a => K' a (v.alloc (.cells #[.int .i64 r] 3))) ?_) hz
          kernel_rfl
        | 17, ho, hpre, hK =>
          obtain rfl := Option.some.inj ho
          have h9 : Frr u3.heap.size p.n (ints p.l) (f 9) v := hpre ⟨9, .data⟩ (by simp) rfl (.inr rfl)
          obtain ⟨g16, r, e1, hg16, hf16⟩ : Fl1 u3.heap.size (f 16) v := hpre ⟨16, .data⟩ (by simp) rfl (.inr rfl)
          have hcc : ∀ j u, [Value.int .i64 r][j]? = some u → v.cell? ((⟨g16, 0, none⟩ : Addr).add j) = some u := fun j u hu => World.news_of_block hf16 j u hu
          have h4 := HPc.out p HPm.out
          have hex := exq_lt HS.out
          have hNv := HB.out.2.size
          rcases h9 with ⟨hp0, g, e0⟩ | ⟨g, c9, e0, how⟩
          · obtain ⟨f, rfl⟩ := fix1 f 9 _ e0
            rw [updV_ne _ _ (by decide)] at e1
            obtain ⟨f, rfl⟩ := fix1 f 16 _ e1
            clear e0 e1
            refine wpOp_step rfl fun K' hK' => ?_
            refine step_append_grows rfl (.tmp 60) (.tmp 67) 22 rfl 3 i3 _ 1 8 Tryz.underlying22 Hk.out Hx0i.out Hx1i.out Hx2i.out rfl (by decide) (some ⟨g, 0, none⟩) 0 0 [] (by kernel_rfl) (fun h => by cases h) rfl (fun b _ j u hu => by simp at hu) ⟨g16, 0, none⟩ 1 1 [.int .i64 r] (by kernel_rfl) rfl hcc (one_int1 _) (by omega) (by unfold maxLen; omega) (by omega) ?_
            intro v' w' hown hgr
            rw [Nat.zero_add, List.nil_append] at hown
            obtain ⟨g5, c5, rfl, -, -⟩ := hown.form (by omega)
            have hbw := below_none hgr
            have hB5 := And.intro (HB.out.1.below hbw) (grown_trans HB.out.2 (grown_of_below hbw (some T)))
            have HF := hid (frw_own (l := [r]) (own_mono1 hown hNv) (by omega) hex)
            have hz := hK' _ _ (hK (.slice (some ⟨g5, 0, none⟩) 1 c5) w' hB5 (.inl rfl) HF.out)
            refine Eq.mp (congrArg (fun a => K' a w') ?_) hz
            kernel_rfl
          · obtain ⟨f, rfl⟩ := fix1 f 9 _ e0
            rw [updV_ne _ _ (by decide)] at e1
            obtain ⟨f, rfl⟩ := fix1 f 16 _ e1
            clear e0 e1
            refine wpOp_step rfl fun K' hK' => ?_
            refine step_append_lies _ rfl (.tmp 60) (.tmp 67) 22 rfl u3.heap.size 3 i3 _ 1 8 Tryz.underlying22 Hk.out Hx0i.out Hx1i.out Hx2i.out rfl (by decide) (.slice (some ⟨g, 0, none⟩) p.n c9) p.n (ints p.l) (by kernel_rfl) how ⟨g16, 0, none⟩ 1 1 [.int .i64 r] (by kernel_rfl) rfl hcc (one_int1 _) (by omega) (by unfold maxLen; omega) (by omega) hNv _ rfl ?_
            intro g5 c5 w' hown hgr _ _
            have hge : ∀ k, (Value.slice (some ⟨g, 0, none⟩) p.n c9).ownBlock = some k → u3.heap.size ≤ k := fun k hk => own_base_le how hk
            have hgr3 := grow_own rfl HB.out.2 hgr hge
            have hgo5 := going_own HB.out.1.go hgr hge hTN hN0
            have hB5 := And.intro (HS.out.keep hgr3 (.inr rfl) hgo5) hgr3
            have HF := hid (frw_own (l := p.l ++ [r]) (by rw [ints_snoc]; exact hown) (by omega) hex)
            have hz := hK' _ _ (hK (.slice (some ⟨g5, 0, none⟩) (p.n + 1) c5) w' hB5 (.inl rfl) HF.out)
            refine Eq.mp (congrArg (fun a => K' a w') ?_) hz
            kernel_rfl
        | j + 18, ho, hpre, hK => exact absurd hi (by omega)
      · intro Q2 hQ2 f v hB hF
        have HB := hid hB
        obtain ⟨z, e17, hz⟩ : Frw (exq T G d g1 g2) (f 17) v := hF 17 (by decide) rfl
        have e1 : f 1 = .slice (some ⟨g2, 0, none⟩) pn c2 := hF 1 (by decide) rfl
        have e2 : f 2 = .int .i64 (i : Int) := hF 2 (by decide) rfl
        obtain ⟨f, rfl⟩ := fix1 f 17 _ e17
        rw [updV_ne _ _ (by decide)] at e1 e2
        obtain ⟨f, rfl⟩ := fix1 f 1 _ e1
        rw [updV_ne _ _ (by decide)] at e2
        obtain ⟨f, rfl⟩ := fix1 f 2 _ e2
        have HZ := hid hz
        clear hB hF e17 e1 e2 hz HS
        show wpAny _ _ _ _ 2 (tailArr 20 18) _ _
        generalize hA : putL _ _ _ _ = aa
        refine tail_two (i := 18) (j := 19) ?r1 ?r2 ?r3 rfl rfl hQ2 ?r4
        case r1 => kernel_rfl
        case r2 => kernel_rfl
        case r3 => kernel_rfl
        obtain ⟨k0, k1, k2⟩ := HB.out.1.cellP HP'.out
        simp only [putL, updV] at hA
        rw [← hA]
        clear hA
        go_simp
        obtain ⟨sl', pl', h9⟩ := HB.out.1.store (.inr rfl) hin HZ.out
        have HF := hid h9
        clear h9 k0 k1 k2
        refine hKx _ _ ?_
        clear hKx
        generalize v.setCell ⟨g2, i, none⟩ (.slice z.A z.n z.c) = u5 at HF ⊢
        obtain ⟨b0, b1, b2⟩ := HF.out.box.thr
        have hbl := HF.out.box.lt
        obtain ⟨e0, e1, e2⟩ := HF.out.rs.thr
        obtain ⟨z0, z1, z2⟩ := HF.out.rs.thrz
        have hl := HF.out.rs.lt
        go_wp2_with fail
        refine bodyPost_ret (v := .agg #[.slice (some ⟨g0, 0, none⟩) pn c0, .slice (some ⟨g1, 0, none⟩) pn c1, .slice (some ⟨g2, 0, none⟩) pn c2]) (by simp [results, Tryz.results8, go_sem, e0, e1, e2, z0, z1, z2, hl]) rfl ?_
        exact HF.out.ret hn2 _ _ _
    · obtain ⟨b0, b1, b2⟩ := HS.out.box.thr
      obtain ⟨z0, z1, z2⟩ := HS.out.box.thrz
      have hbl := HS.out.box.lt
      by_cases hc1 : c0 = 1
      · subst hc1
        go_upto_region 11 with fail
        clear b0 b1 b2 z0 z1 z2 hbl
        have HF := hid (HS.out.nodes (An' := some ⟨g0, 0, none⟩) (mn' := 0) (cn' := 0) (nsl' := []) (.inl rfl) rfl (by omega))
        generalize u3.setCell ⟨d, 0, none⟩ (.slice (some ⟨g0, 0, none⟩) 0 0) = u5 at HF ⊢
        obtain ⟨b0, b1, b2⟩ := HF.out.box.thr
        have hbl := HF.out.box.lt
        obtain ⟨e0, e1, e2⟩ := HF.out.rs.thr
        obtain ⟨z0, z1, z2⟩ := HF.out.rs.thrz
        have hl := HF.out.rs.lt
        go_wp2_with fail
        refine bodyPost_ret (v := .agg #[.slice (some ⟨g0, 0, none⟩) 0 0, .slice (some ⟨g1, 0, none⟩) pn c1, .slice (some ⟨g2, 0, none⟩) pn c2]) (by simp [results, Tryz.results8, go_sem, e0, e1, e2, z0, z1, z2, hl]) rfl ?_
        exact HF.out.ret hn2 _ _ _
      · have hc2 : 1 < c0 := by omega
        go_upto_region 11 with fail
        clear b0 b1 b2 z0 z1 z2 hbl
        have HF := hid (HS.out.nodes (An' := some ⟨g0, 4, none⟩) (mn' := pn - 1) (cn' := c0 - 1) (nsl' := ns.drop 1) (nd_tail HS.out.na) (by rw [List.length_drop, HS.out.nl]) (by omega))
        generalize u3.setCell ⟨d, 0, none⟩ (.slice (some ⟨g0, 4, none⟩) (pn - 1) (c0 - 1)) = u5 at HF ⊢
        obtain ⟨b0, b1, b2⟩ := HF.out.box.thr
        have hbl := HF.out.box.lt
        obtain ⟨e0, e1, e2⟩ := HF.out.rs.thr
        obtain ⟨z0, z1, z2⟩ := HF.out.rs.thrz
        have hl := HF.out.rs.lt
        go_wp2_with fail
        refine bodyPost_ret (v := .agg #[.slice (some ⟨g0, 4, none⟩) (pn - 1) (c0 - 1), .slice (some ⟨g1, 0, none⟩) pn c1, .slice (some ⟨g2, 0, none⟩) pn c2]) (by simp [results, Tryz.results8, go_sem, e0, e1, e2, z0, z1, z2, hl]) rfl ?_
        exact HF.out.ret hn2 _ _ _
    · obtain ⟨b0, b1, b2⟩ := HS.out.box.thr
      have hbl := HS.out.box.lt
      obtain ⟨k0, k1, k2⟩ := HS.out.cellS HY.out
      go_upto_region 11 with fail
      clear b0 b1 b2 hbl k0 k1 k2
      obtain ⟨sl', pl', h9⟩ := HS.out.store (.inl rfl) hin (z := ⟨none, 0, 0, []⟩) ⟨⟨.inl rfl, rfl, by simp⟩, by simp, by simp⟩
      have HF := hid h9
      clear h9
      simp only at HF
      generalize u3.setCell ⟨g1, i, none⟩ (.slice none 0 0) = u5 at HF ⊢
      obtain ⟨b0, b1, b2⟩ := HF.out.box.thr
      have hbl := HF.out.box.lt
      obtain ⟨e0, e1, e2⟩ := HF.out.rs.thr
      obtain ⟨z0, z1, z2⟩ := HF.out.rs.thrz
      have hl := HF.out.rs.lt
      go_wp2_with fail
      refine bodyPost_ret (v := .agg #[.slice (some ⟨g0, 0, none⟩) pn c0, .slice (some ⟨g1, 0, none⟩) pn c1, .slice (some ⟨g2, 0, none⟩) pn c2]) (by simp [results, Tryz.results8, go_sem, e0, e1, e2, z0, z1, z2, hl]) rfl ?_
      exact HF.out.ret hn2 _ _ _
end Go.Proofs.YtmbelhdkaepohaaGreatDoor
