/- Texts that the proof leans on, merged. -/
import Derived.Test.YtadkjnjibefocaaCd
import Derived.Test.YtadkjnjibefocaaCe
namespace Go.Proofs.Ytadkjnjibefocaa
set_option maxRecDepth 20000
set_option linter.unusedVariables false
set_option linter.unusedSimpArgs false
open Go.ChangeShapes Go.WideShapes Go.ChangeAt Go.RowKit

theorem stp_tapeS {u u' : World} {T : Nat} (ht : Tape u T) (hg : u.grownBy u' (some T)) : Stp1 42 u u' := ⟨_, hg, fun g e => by obtain rfl := Option.some.inj e; exact ht.typ⟩
theorem stp_setS {u : World} {g t : Nat} {cs : Array Value} (h : Fb u g cs t) (j : Nat) (x : Value) : Stp1 t u (u.setCell ⟨g, j, none⟩ x) := ⟨some g, setCell_grown u ⟨g, j, none⟩ x, fun k e => by obtain rfl := Option.some.inj e; exact h.typ⟩
theorem ints_lenS (l : List Int) : (ints l).length = l.length := by unfold ints; rw [List.length_map]
theorem ints_oneS (l : List Int) : ∀ u ∈ ints l, u.oneCell' = true := fun u hu => by
  unfold ints at hu
  obtain ⟨x, -, rfl⟩ := List.mem_map.1 hu
  rfl
theorem ints_appS (l : List Int) (x : Int) : ints (l ++ [x]) = ints l ++ [.int .i64 x] := by unfold ints; rw [List.map_append]; rfl
theorem run_app_noneI (w : World) (C A : Option Addr) (n qr m q : Nat) (h : n ≤ qr) (hm : m = 0) (ty : TypeId) : (Builtin.append_ #[22, 22] ty #[.slice C n qr, .slice A m q]).run Try.prog w = .ok (.slice C n qr) w := by
  subst hm
  cases C with
  | none => cases A with
    | none => go_simp
    | some a => go_simp
  | some g => cases A with
    | none => go_simp
    | some a => go_simp
theorem step_nothing {ops : Array Oper} {o : Oper} {a : Act} {w : World} {K : Act → World → Prop} {Q : Exit → Act → World → Prop} {E : Prop} (hgd : o.guard = none) (s x : Operand)
    (ho : o.op = .call { callee := .builtin .append, args := #[s, x], argTypes := #[22, 22] }) (g0 : Nat) (hs : a.eval s = .slice (some ⟨g0, 0, none⟩) 0 0) (A : Option Addr) (c : Nat) (hx : a.eval x = .slice A 0 c)
    (h : K (a.put o.dst (.slice (some ⟨g0, 0, none⟩) 0 0)) w) : if Region.wanted o (yielded ops a.tmps) = true then Oper.wp Try.prog o a w K Q else E := by
  have hw : Region.wanted o (yielded ops a.tmps) = true := by simp [Region.wanted, hgd]
  rw [if_pos hw]
  have hrun := run_app_noneI w (some ⟨g0, 0, none⟩) A 0 0 0 c (Nat.le_refl _) rfl o.type
  unfold Oper.wp
  simp [execOp, ho, resolve, invoke, builtin, hs, hx, hrun, Result.andThen]
  exact h
theorem own_cap {u : World} {b ty k g n q : Nat} {xs : List Value} (h : u.ownsRow b ty k (.slice (some ⟨g, 0, none⟩) n q) n xs) : n ≤ q := by
  rcases h.2 with ⟨e, _⟩ | ⟨g', cap, cur, e, _, _, hc, _⟩
  · cases e
  · injection e with e1 e2 e3
    subst e3; exact hc
/-- All but the copy's box. -/
structure Spm (w : World) (T b : Nat) (u : World) : Prop where
  tp : Tape u T
  hT : T < w.heap.size
  gr : w.grownBy u (some T)
  rx : Fb u (w.heap.size + 1) z4 27
  hb : w.heap.size + 2 ≤ b
  lt : w.heap.size + 2 ≤ u.heap.size
section
variable {w u u' : World} {T b : Nat} {cs : Array Value}
theorem Spb.m (h : Spb w T b cs u) : Spm w T b u := ⟨h.tp, h.hT, h.gr, h.rx, h.hb, h.base⟩
theorem Spm.bb (h : Spm w T b u) (hx : Fb u b cs 27) : Spb w T b cs u := ⟨h.tp, h.hT, h.gr, h.rx, hx, h.hb⟩
theorem Spm.base (h : Spm w T b u) : w.heap.size + 2 ≤ u.heap.size := h.lt
theorem Spm.below (h : Spm w T b u) (hb : Below u.heap.size u u') : Spm w T b u' := by
  have hT := h.hT
  exact ⟨h.tp.below hb h.tp.lt, hT, grown_trans h.gr (grown_of_below hb _), h.rx.below hb h.rx.lt, h.hb, Nat.le_trans h.lt hb.size⟩
theorem Spm.other {g : Nat} (h : Spm w T b u) (hg : u.grownBy u' (some g)) (hge : w.heap.size + 2 ≤ g) : Spm w T b u' := by
  have hT := h.hT; have htl := h.tp.lt
  refine ⟨h.tp.keep fun k hk => hg.block k (by omega) (by simp; omega), hT, ?_, h.rx.grown hg (by simp; omega), h.hb, Nat.le_trans h.lt hg.size⟩
  exact ⟨hg.os.trans h.gr.os, hg.tape.trans h.gr.tape, hg.output.trans h.gr.output, Nat.le_trans h.gr.size hg.size, fun k hk hn => (hg.block k (by have := h.gr.size; omega) (by simp; omega)).trans (h.gr.block k hk hn)⟩
theorem Spm.put (h : Spm w T b u) (k : Nat) (v : Value) : Spm w T b (u.setCell ⟨b, k, none⟩ v) := h.other (grown_set u b rfl _) h.hb
end
section
variable {w u : World} {g n q : Nat}
theorem lh_of {l : List RH} (x : XRow u g 22 (l.flatMap lhc)) (hg : w.heap.size + 2 ≤ g) (hl : l.length = n) (hn : n ≤ 1000000) (ha : ∀ y ∈ l, RHok u [some (w.heap.size + 1)] y) : LHok u [some (w.heap.size + 1)] ⟨some ⟨g, 0, none⟩, n, q, l⟩ :=
  ⟨by rw [← flat_lhc]; exact x.eat (by simp; omega), hl, by show n ≤ _; omega, ha⟩
theorem fl_of {l : List FH} (x : XRow u g 51 (l.flatMap FH.cells)) (hg : w.heap.size + 2 ≤ g) (hl : l.length = n) (hn : n ≤ 1000000) (ha : ∀ y ∈ l, FHok u [some (w.heap.size + 1)] y) : FLok u [some (w.heap.size + 1)] ⟨some ⟨g, 0, none⟩, n, q, l⟩ :=
  ⟨x.eat (by simp; omega), hl, by show n ≤ _; omega, ha⟩
theorem zl_of {l : List ZH} (x : XRow u g 47 (l.flatMap ZH.cs)) (hg : w.heap.size + 2 ≤ g) (hl : l.length = n) (hn : n ≤ 1000000) (ha : ∀ y ∈ l, ZHok u [some (w.heap.size + 1)] y) : ZLok u [some (w.heap.size + 1)] ⟨some ⟨g, 0, none⟩, n, q, l⟩ :=
  ⟨x.eat (by simp; omega), hl, by show n ≤ _; omega, ha⟩
theorem all_set {α : Type} {P : α → Prop} {l : List α} (h : ∀ y ∈ l, P y) {x : α} (hx : P x) (i : Nat) : ∀ y ∈ l.set i x, P y := fun y hy => by
  rcases List.mem_or_eq_of_mem_set hy with h1 | h1
  · exact h y h1
  · rw [h1]; exact hx
end
def p1R (j : Nat) (u u' : World) : Prop := if j = 16 then Stp1 27 u u' else Below u.heap.size u u'
theorem p1R_of {j : Nat} {u u' : World} (h : Below u.heap.size u u') (h1 : j ≠ 16) : p1R j u u' := by unfold p1R; rw [if_neg h1]; exact h
theorem p1R_w {u u' : World} (h : Stp1 27 u u') : p1R 16 u u' := by unfold p1R; rw [if_pos rfl]; exact h
theorem p1R_own {j base ty k n : Nat} {x : Value} {xs : List Value} {u u' : World} (h : p1R j u u') (ho : u.ownsRow base ty k x n xs) (ht : ty ≠ 27) : u'.ownsRow base ty k x n xs := by
  unfold p1R at h
  split at h
  · exact h.own ho ht
  · exact (Stp1.below (t := 27) h).own ho ht
theorem p1R_sys {j g t : Nat} {cs : Array Value} {u u' : World} (h : p1R j u u') (h1 : j ≠ 16) (hf : Fb u g cs t) : Fb u' g cs t := by
  unfold p1R at h
  rw [if_neg h1] at h
  exact hf.below h hf.lt
def p1F (w : World) (v N dc tc bc : Nat) (adD adT adB : Addr) (lD : List RH) (lT : List FH) (lB : List ZH) : Nat → (Nat → Value) → World → Prop
  | 0, f, u => f 0 = .pointer (some ⟨w.heap.size, 0, none⟩)
  | 1, f, u => f 1 = .int .i64 (v : Int)
  | 2, f, u => ∃ g : Nat, f 2 = .slice (some ⟨g, 0, none⟩) 0 0
  | 3, f, u => f 3 = .pointer (some ⟨w.heap.size, 1, none⟩)
  | 4, f, u => f 4 = .slice (some adD) N dc
  | 5, f, u => ∃ gD qD : Nat, f 5 = .slice (some ⟨gD, 0, none⟩) N qD ∧ u.ownsRow (w.heap.size + 2) 22 1 (.slice (some ⟨gD, 0, none⟩) N qD) N (lD.flatMap lhc)
  | 6, f, u => ∃ g : Nat, f 6 = .slice (some ⟨g, 0, none⟩) 0 0
  | 7, f, u => f 7 = .pointer (some ⟨w.heap.size, 2, none⟩)
  | 8, f, u => f 8 = .slice (some adT) N tc
  | 9, f, u => ∃ gT qT : Nat, f 9 = .slice (some ⟨gT, 0, none⟩) N qT ∧ u.ownsRow (w.heap.size + 2) 51 5 (.slice (some ⟨gT, 0, none⟩) N qT) N (lT.flatMap FH.cells)
  | 10, f, u => ∃ g : Nat, f 10 = .slice (some ⟨g, 0, none⟩) 0 0
  | 11, f, u => f 11 = .pointer (some ⟨w.heap.size, 3, none⟩)
  | 12, f, u => f 12 = .slice (some adB) N bc
  | 13, f, u => ∃ gB qB : Nat, f 13 = .slice (some ⟨gB, 0, none⟩) N qB ∧ u.ownsRow (w.heap.size + 2) 47 2 (.slice (some ⟨gB, 0, none⟩) N qB) N (lB.flatMap ZH.cs)
  | 14, f, u => ∃ gD qD gT qT gB qB : Nat, f 14 = .agg #[.int .i64 (v : Int), .slice (some ⟨gD, 0, none⟩) N qD, .slice (some ⟨gT, 0, none⟩) N qT, .slice (some ⟨gB, 0, none⟩) N qB] ∧ u.ownsRow (w.heap.size + 2) 22 1 (.slice (some ⟨gD, 0, none⟩) N qD) N (lD.flatMap lhc) ∧ u.ownsRow (w.heap.size + 2) 51 5 (.slice (some ⟨gT, 0, none⟩) N qT) N (lT.flatMap FH.cells) ∧ u.ownsRow (w.heap.size + 2) 47 2 (.slice (some ⟨gB, 0, none⟩) N qB) N (lB.flatMap ZH.cs)
  | 15, f, u => ∃ b : Nat, f 15 = .pointer (some ⟨b, 0, none⟩) ∧ Fb u b #[.int .i64 0, .slice none 0 0, .slice none 0 0, .slice none 0 0] 27 ∧ w.heap.size + 2 ≤ b
  | 16, f, u => ∃ b gD qD gT qT gB qB : Nat, f 15 = .pointer (some ⟨b, 0, none⟩) ∧ Fb u b #[.int .i64 (v : Int), .slice (some ⟨gD, 0, none⟩) N qD, .slice (some ⟨gT, 0, none⟩) N qT, .slice (some ⟨gB, 0, none⟩) N qB] 27 ∧ w.heap.size + 2 ≤ b ∧ u.ownsRow (w.heap.size + 2) 22 1 (.slice (some ⟨gD, 0, none⟩) N qD) N (lD.flatMap lhc) ∧ u.ownsRow (w.heap.size + 2) 51 5 (.slice (some ⟨gT, 0, none⟩) N qT) N (lT.flatMap FH.cells) ∧ u.ownsRow (w.heap.size + 2) 47 2 (.slice (some ⟨gB, 0, none⟩) N qB) N (lB.flatMap ZH.cs)
  | _, _, _ => True
def p1U : Nat → Option Nat
  | 15 => some 16
  | _ => none
theorem p1F_st {w : World} {v N dc tc bc : Nat} {adD adT adB : Addr} {lD : List RH} {lT : List FH} {lB : List ZH} {ops : Array Oper} (hq16_15 : ∀ j, (reachL ops 5 16).contains j = false → j ≠ 15)  (jx : Nat) (vx : Value) (u u' : World) (ix : Nat) (f : Nat → Value) (hR : p1R  jx u u') (hne : ix ≠ jx) (hu : p1U ix ≠ some jx) (hc : (reachL ops 5 ix).contains jx = false) (h : p1F w v N dc tc bc adD adT adB lD lT lB ix f u) : p1F w v N dc tc bc adD adT adB lD lT lB ix (updV f jx vx) u' := by
  match ix, hne, hu, hc, h with
  | 0, hne, hu, hc, h => exact (updV_ne f vx hne).trans h
  | 1, hne, hu, hc, h => exact (updV_ne f vx hne).trans h
  | 2, hne, hu, hc, h => obtain ⟨g, hf⟩ := h; exact ⟨g, (updV_ne f vx hne).trans hf⟩
  | 3, hne, hu, hc, h => exact (updV_ne f vx hne).trans h
  | 4, hne, hu, hc, h => exact (updV_ne f vx hne).trans h
  | 5, hne, hu, hc, h => obtain ⟨gD, qD, hf, i0⟩ := h; exact ⟨gD, qD, (updV_ne f vx hne).trans hf, p1R_own hR i0 (by decide)⟩
  | 6, hne, hu, hc, h => obtain ⟨g, hf⟩ := h; exact ⟨g, (updV_ne f vx hne).trans hf⟩
  | 7, hne, hu, hc, h => exact (updV_ne f vx hne).trans h
  | 8, hne, hu, hc, h => exact (updV_ne f vx hne).trans h
  | 9, hne, hu, hc, h => obtain ⟨gT, qT, hf, i0⟩ := h; exact ⟨gT, qT, (updV_ne f vx hne).trans hf, p1R_own hR i0 (by decide)⟩
  | 10, hne, hu, hc, h => obtain ⟨g, hf⟩ := h; exact ⟨g, (updV_ne f vx hne).trans hf⟩
  | 11, hne, hu, hc, h => exact (updV_ne f vx hne).trans h
  | 12, hne, hu, hc, h => exact (updV_ne f vx hne).trans h
  | 13, hne, hu, hc, h => obtain ⟨gB, qB, hf, i0⟩ := h; exact ⟨gB, qB, (updV_ne f vx hne).trans hf, p1R_own hR i0 (by decide)⟩
  | 14, hne, hu, hc, h => obtain ⟨gD, qD, gT, qT, gB, qB, hf, i0, i1, i2⟩ := h; exact ⟨gD, qD, gT, qT, gB, qB, (updV_ne f vx hne).trans hf, p1R_own hR i0 (by decide), p1R_own hR i1 (by decide), p1R_own hR i2 (by decide)⟩
  | 15, hne, hu, hc, h => obtain ⟨b, hf, i0, i1⟩ := h; exact ⟨b, (updV_ne f vx hne).trans hf, p1R_sys hR (fun e => hu (by rw [e]; rfl)) i0, i1⟩
  | 16, hne, hu, hc, h => obtain ⟨b, gD, qD, gT, qT, gB, qB, hf, i0, i1, i2, i3, i4⟩ := h; exact ⟨b, gD, qD, gT, qT, gB, qB, (updV_ne f vx (fun e => hq16_15 jx hc e.symm)).trans hf, p1R_sys hR (fun e => hne e.symm) i0, i1, p1R_own hR i2 (by decide), p1R_own hR i3 (by decide), p1R_own hR i4 (by decide)⟩
  | ix + 17, _, _, _, _ => trivial
def paR (j : Nat) (u u' : World) : Prop := if j = 11 then Stp1 51 u u' else if j = 9 then Stp1 42 u u' else Below u.heap.size u u'
theorem paR_of {j : Nat} {u u' : World} (h : Below u.heap.size u u') (h1 : j ≠ 11) (h2 : j ≠ 9) : paR j u u' := by unfold paR; rw [if_neg h1, if_neg h2]; exact h
theorem paR_w {u u' : World} (h : Stp1 51 u u') : paR 11 u u' := by unfold paR; rw [if_pos rfl]; exact h
theorem paR_t {u u' : World} (h : Stp1 42 u u') : paR 9 u u' := by unfold paR; rw [if_neg (by decide), if_pos rfl]; exact h
theorem paR_bel {j : Nat} {u u' : World} (h : paR j u u') (h1 : j ≠ 11) (h2 : j ≠ 9) : Below u.heap.size u u' := by unfold paR at h; rwa [if_neg h1, if_neg h2] at h
theorem paR_row {j g t : Nat} {xs : List Value} {u u' : World} (h : paR j u u') (hx : XRow u g t xs) (h1 : j ≠ 11) (h2 : t ≠ 42) : XRow u' g t xs := by
  unfold paR at h
  rw [if_neg h1] at h
  split at h
  · exact hx.stp h h2
  · exact hx.below h
theorem paR_any {j g t : Nat} {xs : List Value} {u u' : World} (h : paR j u u') (hx : XRow u g t xs) (h1 : t ≠ 51) (h2 : t ≠ 42) : XRow u' g t xs := by
  unfold paR at h
  split at h
  · exact hx.stp h h1
  · split at h
    · exact hx.stp h h2
    · exact hx.below h
def paF (w : World) (T b v N gD qD gT qT gB qB i : Nat) (lD : List RH) (lT : List FH) (lB : List ZH) (ev : Value) : Nat → (Nat → Value) → World → Prop
  | 0, f, u => f 0 = .pointer (some ⟨b, 2, none⟩)
  | 1, f, u => f 1 = .slice (some ⟨gT, 0, none⟩) N qT
  | 2, f, u => f 2 = .int .i64 (i : Int)
  | 3, f, u => f 3 = .pointer (some ⟨T, 0, none⟩)
  | 4, f, u => f 4 = .pointer (some ⟨b, 2, none⟩)
  | 5, f, u => f 5 = .slice (some ⟨gT, 0, none⟩) N qT
  | 6, f, u => f 6 = .int .i64 (i : Int)
  | 7, f, u => f 7 = .pointer (some ⟨gT, i * 5, none⟩)
  | 8, f, u => f 8 = ev
  | 9, f, u => ∃ (F : FH) (b0 : Nat), f 9 = .agg #[.int .i64 F.G.W, .slice F.G.A F.G.n F.G.c, .int .i64 F.K.W, .slice F.K.A F.K.n F.K.c, .slice F.C F.k F.q] ∧ Arg u F.G.A F.G.n F.G.ws ∧ Arg u F.K.A F.K.n F.K.ws ∧ u.ownsRow b0 62 2 (.slice F.C F.k F.q) F.k (pairs F.cs) ∧ F.cs.length = F.k ∧ gT < b0 ∧ w.heap.size + 1 < b0
  | 10, f, u => f 10 = .pointer (some ⟨gT, i * 5, none⟩)
  | 11, f, u => ∃ F : FH, XRow u gT 51 ((lT.set i F).flatMap FH.cells) ∧ FHok u [some (w.heap.size + 1)] F
  | _, _, _ => True
def paU : Nat → Option Nat
  | 9 => some 11
  | _ => none
theorem paF_st {w : World} {T b v N gD qD gT qT gB qB i : Nat} {lD : List RH} {lT : List FH} {lB : List ZH} {ev : Value} {ops : Array Oper} (hq11_9 : ∀ j, (reachL ops 5 11).contains j = false → j ≠ 9)  (jx : Nat) (vx : Value) (u u' : World) (ix : Nat) (f : Nat → Value) (hR : paR  jx u u') (hne : ix ≠ jx) (hu : paU ix ≠ some jx) (hc : (reachL ops 5 ix).contains jx = false) (h : paF w T b v N gD qD gT qT gB qB i lD lT lB ev ix f u) : paF w T b v N gD qD gT qT gB qB i lD lT lB ev ix (updV f jx vx) u' := by
  match ix, hne, hu, hc, h with
  | 0, hne, hu, hc, h => exact (updV_ne f vx hne).trans h
  | 1, hne, hu, hc, h => exact (updV_ne f vx hne).trans h
  | 2, hne, hu, hc, h => exact (updV_ne f vx hne).trans h
  | 3, hne, hu, hc, h => exact (updV_ne f vx hne).trans h
  | 4, hne, hu, hc, h => exact (updV_ne f vx hne).trans h
  | 5, hne, hu, hc, h => exact (updV_ne f vx hne).trans h
  | 6, hne, hu, hc, h => exact (updV_ne f vx hne).trans h
  | 7, hne, hu, hc, h => exact (updV_ne f vx hne).trans h
  | 8, hne, hu, hc, h => exact (updV_ne f vx hne).trans h
  | 9, hne, hu, hc, h => obtain ⟨F, b0, hf, a1, a2, a3, a4, a5, a6⟩ := h; have hb := paR_bel hR (fun e => hu (by rw [e]; rfl)) (fun e => hne e.symm); exact ⟨F, b0, (updV_ne f vx hne).trans hf, a1.below hb, a2.below hb, (Stp1.below (t := 0) hb).own a3 (by decide), a4, a5, a6⟩
  | 10, hne, hu, hc, h => exact (updV_ne f vx hne).trans h
  | 11, hne, hu, hc, h => obtain ⟨F, x1, x2⟩ := h; have hb := paR_bel hR (fun e => hne e.symm) (hq11_9 jx hc); exact ⟨F, x1.below hb, x2.below hb⟩
  | ix + 12, _, _, _, _ => trivial
def pbR (j : Nat) (u u' : World) : Prop := if j = 11 then Stp1 47 u u' else if j = 9 then Stp1 42 u u' else Below u.heap.size u u'
theorem pbR_of {j : Nat} {u u' : World} (h : Below u.heap.size u u') (h1 : j ≠ 11) (h2 : j ≠ 9) : pbR j u u' := by unfold pbR; rw [if_neg h1, if_neg h2]; exact h
theorem pbR_w {u u' : World} (h : Stp1 47 u u') : pbR 11 u u' := by unfold pbR; rw [if_pos rfl]; exact h
theorem pbR_t {u u' : World} (h : Stp1 42 u u') : pbR 9 u u' := by unfold pbR; rw [if_neg (by decide), if_pos rfl]; exact h
theorem pbR_bel {j : Nat} {u u' : World} (h : pbR j u u') (h1 : j ≠ 11) (h2 : j ≠ 9) : Below u.heap.size u u' := by unfold pbR at h; rwa [if_neg h1, if_neg h2] at h
theorem pbR_row {j g t : Nat} {xs : List Value} {u u' : World} (h : pbR j u u') (hx : XRow u g t xs) (h1 : j ≠ 11) (h2 : t ≠ 42) : XRow u' g t xs := by
  unfold pbR at h
  rw [if_neg h1] at h
  split at h
  · exact hx.stp h h2
  · exact hx.below h
theorem pbR_any {j g t : Nat} {xs : List Value} {u u' : World} (h : pbR j u u') (hx : XRow u g t xs) (h1 : t ≠ 47) (h2 : t ≠ 42) : XRow u' g t xs := by
  unfold pbR at h
  split at h
  · exact hx.stp h h1
  · split at h
    · exact hx.stp h h2
    · exact hx.below h
def pbF (w : World) (T b v N gD qD gT qT gB qB i : Nat) (lD : List RH) (lT : List FH) (lB : List ZH) (ev : Value) : Nat → (Nat → Value) → World → Prop
  | 0, f, u => f 0 = .pointer (some ⟨b, 3, none⟩)
  | 1, f, u => f 1 = .slice (some ⟨gB, 0, none⟩) N qB
  | 2, f, u => f 2 = .int .i64 (i : Int)
  | 3, f, u => f 3 = .pointer (some ⟨T, 0, none⟩)
  | 4, f, u => f 4 = .pointer (some ⟨b, 3, none⟩)
  | 5, f, u => f 5 = .slice (some ⟨gB, 0, none⟩) N qB
  | 6, f, u => f 6 = .int .i64 (i : Int)
  | 7, f, u => f 7 = .pointer (some ⟨gB, i * 2, none⟩)
  | 8, f, u => f 8 = ev
  | 9, f, u => ∃ Z : ZH, f 9 = .agg #[.int .i64 Z.W, .slice Z.A Z.n Z.c] ∧ Arg u Z.A Z.n Z.ws
  | 10, f, u => f 10 = .pointer (some ⟨gB, i * 2, none⟩)
  | 11, f, u => ∃ Z : ZH, XRow u gB 47 ((lB.set i Z).flatMap ZH.cs) ∧ ZHok u [some (w.heap.size + 1)] Z
  | _, _, _ => True
def pbU : Nat → Option Nat
  | 9 => some 11
  | _ => none
theorem pbF_st {w : World} {T b v N gD qD gT qT gB qB i : Nat} {lD : List RH} {lT : List FH} {lB : List ZH} {ev : Value} {ops : Array Oper} (hq11_9 : ∀ j, (reachL ops 5 11).contains j = false → j ≠ 9)  (jx : Nat) (vx : Value) (u u' : World) (ix : Nat) (f : Nat → Value) (hR : pbR  jx u u') (hne : ix ≠ jx) (hu : pbU ix ≠ some jx) (hc : (reachL ops 5 ix).contains jx = false) (h : pbF w T b v N gD qD gT qT gB qB i lD lT lB ev ix f u) : pbF w T b v N gD qD gT qT gB qB i lD lT lB ev ix (updV f jx vx) u' := by
  match ix, hne, hu, hc, h with
  | 0, hne, hu, hc, h => exact (updV_ne f vx hne).trans h
  | 1, hne, hu, hc, h => exact (updV_ne f vx hne).trans h
  | 2, hne, hu, hc, h => exact (updV_ne f vx hne).trans h
  | 3, hne, hu, hc, h => exact (updV_ne f vx hne).trans h
  | 4, hne, hu, hc, h => exact (updV_ne f vx hne).trans h
  | 5, hne, hu, hc, h => exact (updV_ne f vx hne).trans h
  | 6, hne, hu, hc, h => exact (updV_ne f vx hne).trans h
  | 7, hne, hu, hc, h => exact (updV_ne f vx hne).trans h
  | 8, hne, hu, hc, h => exact (updV_ne f vx hne).trans h
  | 9, hne, hu, hc, h => obtain ⟨Z, hf, a1⟩ := h; have hb := pbR_bel hR (fun e => hu (by rw [e]; rfl)) (fun e => hne e.symm); exact ⟨Z, (updV_ne f vx hne).trans hf, a1.below hb⟩
  | 10, hne, hu, hc, h => exact (updV_ne f vx hne).trans h
  | 11, hne, hu, hc, h => obtain ⟨Z, x1, x2⟩ := h; have hb := pbR_bel hR (fun e => hne e.symm) (hq11_9 jx hc); exact ⟨Z, x1.below hb, x2.below hb⟩
  | ix + 12, _, _, _, _ => trivial
def pcR (j : Nat) (u u' : World) : Prop := if j = 20 then Stp1 22 u u' else if j = 15 then Stp1 42 u u' else if j = 18 then (∃ row, u.grownBy u' row ∧ ∀ g, row = some g → ∃ cs : Array Value, Fb u g cs 3 ∧ 0 < cs.size) else Below u.heap.size u u'
theorem pcR_of {j : Nat} {u u' : World} (h : Below u.heap.size u u') (h1 : j ≠ 20) (h2 : j ≠ 15) (h3 : j ≠ 18) : pcR j u u' := by unfold pcR; rw [if_neg h1, if_neg h2, if_neg h3]; exact h
theorem pcR_of3 {u u' : World} (h : Below u.heap.size u u') : pcR 18 u u' := by unfold pcR; rw [if_neg (by decide), if_neg (by decide), if_pos rfl]; exact ⟨none, grown_of_below h _, fun g e => by cases e⟩
theorem pcR_i {g : Nat} {u u' : World} (h : u.grownBy u' (some g)) (hc : ∃ cs : Array Value, Fb u g cs 3 ∧ 0 < cs.size) : pcR 18 u u' := by
  unfold pcR; rw [if_neg (by decide), if_neg (by decide), if_pos rfl]
  exact ⟨_, h, fun k e => by obtain rfl := Option.some.inj e; exact hc⟩
theorem pcR_w {u u' : World} (h : Stp1 22 u u') : pcR 20 u u' := by unfold pcR; rw [if_pos rfl]; exact h
theorem pcR_t {u u' : World} (h : Stp1 42 u u') : pcR 15 u u' := by unfold pcR; rw [if_neg (by decide), if_pos rfl]; exact h
theorem pcR_bel {j : Nat} {u u' : World} (h : pcR j u u') (h1 : j ≠ 20) (h2 : j ≠ 15) (h3 : j ≠ 18) : Below u.heap.size u u' := by unfold pcR at h; rwa [if_neg h1, if_neg h2, if_neg h3] at h
theorem pcR_nil {j g : Nat} {u u' : World} (h : pcR j u u') (hf : Fb u g #[] 3) : Fb u' g #[] 3 := by
  unfold pcR at h
  split at h
  · exact h.fb hf (by decide)
  · split at h
    · exact h.fb hf (by decide)
    · split at h
      · obtain ⟨row, h1, h2⟩ := h
        exact hf.grown h1 fun e => by
          obtain ⟨cs, h3, h4⟩ := h2 g e.symm
          have h5 : u.heap[g]? = _ := h3
          have h6 : u.heap[g]? = _ := hf
          rw [h5] at h6
          injection Option.some.inj h6 with h7
          subst h7
          simp at h4
      · exact hf.below h hf.lt
theorem pcR_18 {j : Nat} {u u' : World} (h : pcR j u u') (h3 : j ≠ 18) : Stp1 22 u u' ∨ Stp1 42 u u' := by
  unfold pcR at h
  split at h
  · exact .inl h
  · split at h
    · exact .inr h
    · first
      | exact .inl (Stp1.below h)
      | (rw [if_neg h3] at h; exact .inl (Stp1.below h))
theorem pcR_fb {j g t : Nat} {cs : Array Value} {u u' : World} (h : pcR j u u') (hf : Fb u g cs t) (h1 : t ≠ 22) (h2 : t ≠ 42) (h3 : j ≠ 18) : Fb u' g cs t := by
  rcases pcR_18 h h3 with h | h
  · exact h.fb hf h1
  · exact h.fb hf h2
theorem pcR_own {j b t k n : Nat} {x : Value} {xs : List Value} {u u' : World} (h : pcR j u u') (hf : u.ownsRow b t k x n xs) (h1 : t ≠ 22) (h2 : t ≠ 42) (h3 : j ≠ 18) : u'.ownsRow b t k x n xs := by
  rcases pcR_18 h h3 with h | h
  · exact h.own hf h1
  · exact h.own hf h2
theorem pcR_row {j g : Nat} {xs : List Value} {u u' : World} (h : pcR j u u') (hx : XRow u g 22 xs) (h1 : j ≠ 20) (_ : True) : XRow u' g 22 xs := by
  unfold pcR at h
  rw [if_neg h1] at h
  split at h
  · exact hx.stp h (by decide)
  · split at h
    · obtain ⟨row, h2, h3⟩ := h
      exact hx.grown h2 fun e => by
        obtain ⟨cs, h4, _⟩ := h3 g e.symm
        exact hx.typ.ne h4.typ (by decide) rfl
    · exact hx.below h
theorem own_size {u : World} {b g n q : Nat} {xs : List Value} (h : u.ownsRow b 3 1 (.slice (some ⟨g, 0, none⟩) n q) n xs) (hn : 0 < n) : ∃ cs : Array Value, Fb u g cs 3 ∧ 0 < cs.size := by
  have hl := h.1
  obtain ⟨cur, hf, hx⟩ := XRow.of h
  refine ⟨cur, hf, ?_⟩
  have := hx 0 _ (List.getElem?_eq_getElem (by omega))
  have := (Array.getElem?_eq_some_iff.1 this).1
  omega
def pcF (w : World) (T b v N gD qD gT qT gB qB i : Nat) (lD : List RH) (lT : List FH) (lB : List ZH) (yA : Option Addr) (yn yc : Nat) (yl : List Int) : Nat → (Nat → Value) → World → Prop
  | 0, f, u => f 0 = .pointer (some ⟨b, 1, none⟩)
  | 1, f, u => f 1 = .slice (some ⟨gD, 0, none⟩) N qD
  | 2, f, u => f 2 = .int .i64 (i : Int)
  | 3, f, u => ∃ g : Nat, f 3 = .slice (some ⟨g, 0, none⟩) 0 0 ∧ Fb u g #[] 3 ∧ w.heap.size + 2 ≤ g
  | 4, f, u => f 4 = .pointer (some ⟨b, 1, none⟩)
  | 5, f, u => f 5 = .slice (some ⟨gD, 0, none⟩) N qD
  | 6, f, u => f 6 = .int .i64 (i : Int)
  | 7, f, u => f 7 = .pointer (some ⟨gD, i, none⟩)
  | 8, f, u => f 8 = .slice yA yn yc
  | 9, f, u => ∃ g q : Nat, f 9 = .slice (some ⟨g, 0, none⟩) yn q ∧ u.ownsRow (w.heap.size + 2) 3 1 (.slice (some ⟨g, 0, none⟩) yn q) yn (ints yl) ∧ (yn = 0 → q = 0)
  | 10, f, u => f 10 = .pointer (some ⟨T, 0, none⟩)
  | 11, f, u => f 11 = .pointer (some ⟨b, 1, none⟩)
  | 12, f, u => f 12 = .slice (some ⟨gD, 0, none⟩) N qD
  | 13, f, u => f 13 = .int .i64 (N : Int)
  | 14, f, u => f 14 = .int .i64 ((N + 2 : Nat) : Int)
  | 15, f, u => ∃ r : Int, f 15 = .int .i64 r ∧ 0 ≤ r ∧ r ≤ N + 2
  | 16, f, u => ∃ r : Int, f 16 = .int .i64 r
  | 17, f, u => ∃ (r : Int) (g : Nat), f 17 = .slice (some ⟨g, 0, none⟩) 1 1 ∧ Fb u g #[.int .i64 r] 3
  | 18, f, u => ∃ (l : List Int) (g n q : Nat), f 18 = .slice (some ⟨g, 0, none⟩) n q ∧ u.ownsRow (w.heap.size + 2) 3 1 (.slice (some ⟨g, 0, none⟩) n q) n (ints l) ∧ l.length = n ∧ n ≤ yn + 1
  | 19, f, u => f 19 = .pointer (some ⟨gD, i, none⟩)
  | 20, f, u => ∃ y : RH, XRow u gD 22 ((lD.set i y).flatMap lhc) ∧ RHok u [some (w.heap.size + 1)] y
  | _, _, _ => True
def pcU : Nat → Option Nat
  | 3 => some 9
  | 9 => some 18
  | 17 => some 18
  | _ => none
theorem pcF_st {w : World} {T b v N gD qD gT qT gB qB i : Nat} {lD : List RH} {lT : List FH} {lB : List ZH} {yA : Option Addr} {yn yc : Nat} {yl : List Int} {ops : Array Oper} (hq20_15 : ∀ j, (reachL ops 5 20).contains j = false → j ≠ 15) (hq20_18 : ∀ j, (reachL ops 5 20).contains j = false → j ≠ 18)  (jx : Nat) (vx : Value) (u u' : World) (ix : Nat) (f : Nat → Value) (hR : pcR  jx u u') (hne : ix ≠ jx) (hu : pcU ix ≠ some jx) (hc : (reachL ops 5 ix).contains jx = false) (h : pcF w T b v N gD qD gT qT gB qB i lD lT lB yA yn yc yl ix f u) : pcF w T b v N gD qD gT qT gB qB i lD lT lB yA yn yc yl ix (updV f jx vx) u' := by
  match ix, hne, hu, hc, h with
  | 0, hne, hu, hc, h => exact (updV_ne f vx hne).trans h
  | 1, hne, hu, hc, h => exact (updV_ne f vx hne).trans h
  | 2, hne, hu, hc, h => exact (updV_ne f vx hne).trans h
  | 3, hne, hu, hc, h => obtain ⟨g, hf, i0, i1⟩ := h; exact ⟨g, (updV_ne f vx hne).trans hf, pcR_nil hR i0, i1⟩
  | 4, hne, hu, hc, h => exact (updV_ne f vx hne).trans h
  | 5, hne, hu, hc, h => exact (updV_ne f vx hne).trans h
  | 6, hne, hu, hc, h => exact (updV_ne f vx hne).trans h
  | 7, hne, hu, hc, h => exact (updV_ne f vx hne).trans h
  | 8, hne, hu, hc, h => exact (updV_ne f vx hne).trans h
  | 9, hne, hu, hc, h => obtain ⟨g, q, hf, i0, i1⟩ := h; exact ⟨g, q, (updV_ne f vx hne).trans hf, pcR_own hR i0 (by decide) (by decide) (fun e => hu (by rw [e]; rfl)), i1⟩
  | 10, hne, hu, hc, h => exact (updV_ne f vx hne).trans h
  | 11, hne, hu, hc, h => exact (updV_ne f vx hne).trans h
  | 12, hne, hu, hc, h => exact (updV_ne f vx hne).trans h
  | 13, hne, hu, hc, h => exact (updV_ne f vx hne).trans h
  | 14, hne, hu, hc, h => exact (updV_ne f vx hne).trans h
  | 15, hne, hu, hc, h => obtain ⟨r, hf, i0⟩ := h; exact ⟨r, (updV_ne f vx hne).trans hf, i0⟩
  | 16, hne, hu, hc, h => obtain ⟨r, hf⟩ := h; exact ⟨r, (updV_ne f vx hne).trans hf⟩
  | 17, hne, hu, hc, h => obtain ⟨r, g, hf, i0⟩ := h; exact ⟨r, g, (updV_ne f vx hne).trans hf, pcR_fb hR i0 (by decide) (by decide) (fun e => hu (by rw [e]; rfl))⟩
  | 18, hne, hu, hc, h => obtain ⟨l, g, n, q, hf, i0, i1⟩ := h; exact ⟨l, g, n, q, (updV_ne f vx hne).trans hf, pcR_own hR i0 (by decide) (by decide) (fun e => hne e.symm), i1⟩
  | 19, hne, hu, hc, h => exact (updV_ne f vx hne).trans h
  | 20, hne, hu, hc, h => obtain ⟨y, x1, x2⟩ := h; have hb := pcR_bel hR (fun e => hne e.symm) (hq20_15 jx hc) (hq20_18 jx hc); exact ⟨y, x1.below hb, x2.below hb⟩
  | ix + 21, _, _, _, _ => trivial
def pdR (j : Nat) (u u' : World) : Prop := if j = 7 then Stp1 51 u u' else if j = 9 then Stp1 27 u u' else Below u.heap.size u u'
theorem pdR_of {j : Nat} {u u' : World} (h : Below u.heap.size u u') (h1 : j ≠ 7) (h2 : j ≠ 9) : pdR j u u' := by unfold pdR; rw [if_neg h1, if_neg h2]; exact h
theorem pdR_w {u u' : World} (h : Stp1 51 u u') : pdR 7 u u' := by unfold pdR; rw [if_pos rfl]; exact h
theorem pdR_y {u u' : World} (h : Stp1 27 u u') : pdR 9 u u' := by unfold pdR; rw [if_neg (by decide), if_pos rfl]; exact h
theorem pdR_7 {j : Nat} {u u' : World} (h : pdR j u u') (h1 : j ≠ 7) : Stp1 27 u u' := by
  unfold pdR at h
  rw [if_neg h1] at h
  split at h
  · exact h
  · exact Stp1.below h
theorem pdR_9 {j : Nat} {u u' : World} (h : pdR j u u') (h1 : j ≠ 9) : Stp1 51 u u' := by
  unfold pdR at h
  split at h
  · exact h
  · first
    | exact Stp1.below h
    | (rw [if_neg h1] at h; exact Stp1.below h)
theorem pdR_fb {j g t : Nat} {cs : Array Value} {u u' : World} (h : pdR j u u') (hf : Fb u g cs t) (h1 : t ≠ 27) (h2 : j ≠ 7) : Fb u' g cs t := (pdR_7 h h2).fb hf h1
theorem pdR_own {j b t k n : Nat} {x : Value} {xs : List Value} {u u' : World} (h : pdR j u u') (hf : u.ownsRow b t k x n xs) (h1 : t ≠ 27) (h2 : j ≠ 7) : u'.ownsRow b t k x n xs := (pdR_7 h h2).own hf h1
theorem pdR_sys {j g : Nat} {cs : Array Value} {u u' : World} (h : pdR j u u') (h1 : j ≠ 9) (hf : Fb u g cs 27) : Fb u' g cs 27 := (pdR_9 h h1).fb hf (by decide)
def pdF (w : World) (T b v N gD qD gT qT gB qB : Nat) (lD : List RH) (lT : List FH) (lB : List ZH) (y : FH) : Nat → (Nat → Value) → World → Prop
  | 0, f, u => f 0 = .pointer (some ⟨b, 2, none⟩)
  | 1, f, u => f 1 = .slice (some ⟨gT, 0, none⟩) N qT
  | 2, f, u => f 2 = .pointer (some ⟨b, 2, none⟩)
  | 3, f, u => f 3 = .slice (some ⟨gT, 0, none⟩) N qT
  | 4, f, u => f 4 = .pointer (some ⟨gT, 0, none⟩)
  | 5, f, u => f 5 = .agg #[.int .i64 y.G.W, .slice y.G.A y.G.n y.G.c, .int .i64 y.K.W, .slice y.K.A y.K.n y.K.c, .slice y.C y.k y.q]
  | 6, f, u => ∃ g : Nat, f 6 = .slice (some ⟨g, 0, none⟩) 1 1 ∧ Fb u g #[.int .i64 y.G.W, .slice y.G.A y.G.n y.G.c, .int .i64 y.K.W, .slice y.K.A y.K.n y.K.c, .slice y.C y.k y.q] 51
  | 7, f, u => ∃ g q : Nat, f 7 = .slice (some ⟨g, 0, none⟩) (N + 1) q ∧ u.ownsRow (w.heap.size + 2) 51 5 (.slice (some ⟨g, 0, none⟩) (N + 1) q) (N + 1) (lT.flatMap FH.cells ++ y.cells)
  | 8, f, u => f 8 = .pointer (some ⟨b, 2, none⟩)
  | 9, f, u => ∃ g q : Nat, Fb u b #[.int .i64 (v : Int), .slice (some ⟨gD, 0, none⟩) N qD, .slice (some ⟨g, 0, none⟩) (N + 1) q, .slice (some ⟨gB, 0, none⟩) N qB] 27 ∧ u.ownsRow (w.heap.size + 2) 51 5 (.slice (some ⟨g, 0, none⟩) (N + 1) q) (N + 1) (lT.flatMap FH.cells ++ y.cells)
  | _, _, _ => True
def pdU : Nat → Option Nat
  | 6 => some 7
  | _ => none
theorem pdF_st {w : World} {T b v N gD qD gT qT gB qB : Nat} {lD : List RH} {lT : List FH} {lB : List ZH} {y : FH} {ops : Array Oper} (hq9_7 : ∀ j, (reachL ops 5 9).contains j = false → j ≠ 7)  (jx : Nat) (vx : Value) (u u' : World) (ix : Nat) (f : Nat → Value) (hR : pdR  jx u u') (hne : ix ≠ jx) (hu : pdU ix ≠ some jx) (hc : (reachL ops 5 ix).contains jx = false) (h : pdF w T b v N gD qD gT qT gB qB lD lT lB y ix f u) : pdF w T b v N gD qD gT qT gB qB lD lT lB y ix (updV f jx vx) u' := by
  match ix, hne, hu, hc, h with
  | 0, hne, hu, hc, h => exact (updV_ne f vx hne).trans h
  | 1, hne, hu, hc, h => exact (updV_ne f vx hne).trans h
  | 2, hne, hu, hc, h => exact (updV_ne f vx hne).trans h
  | 3, hne, hu, hc, h => exact (updV_ne f vx hne).trans h
  | 4, hne, hu, hc, h => exact (updV_ne f vx hne).trans h
  | 5, hne, hu, hc, h => exact (updV_ne f vx hne).trans h
  | 6, hne, hu, hc, h => obtain ⟨g, hf, i0⟩ := h; exact ⟨g, (updV_ne f vx hne).trans hf, pdR_fb hR i0 (by decide) (fun e => hu (by rw [e]; rfl))⟩
  | 7, hne, hu, hc, h => obtain ⟨g, q, hf, i0⟩ := h; exact ⟨g, q, (updV_ne f vx hne).trans hf, pdR_own hR i0 (by decide) (fun e => hne e.symm)⟩
  | 8, hne, hu, hc, h => exact (updV_ne f vx hne).trans h
  | 9, hne, hu, hc, h => obtain ⟨g, q, i0, i1⟩ := h; exact ⟨g, q, pdR_sys hR (fun e => hne e.symm) i0, pdR_own hR i1 (by decide) (hq9_7 jx hc)⟩
  | ix + 10, _, _, _, _ => trivial
set_option maxHeartbeats 25600000 in
theorem spoilSys_any (T v N dc tc bc : Nat) (adD adT adB : Addr) (lD : List RH) (lT : List FH) (lB : List ZH) (w : World) (ht : Tape w T) (hN1 : 1 ≤ N) (hN : N ≤ 100) (hv : v ≤ 4)
    (hs : SYok w [some T] ⟨(v : Int), ⟨some adD, N, dc, lD⟩, ⟨some adT, N, tc, lT⟩, ⟨some adB, N, bc, lB⟩⟩) (okD : ∀ y ∈ lD, y.n ≤ 3) (okT : ∀ y ∈ lT, gT v y) (okB : ∀ y ∈ lB, gB v y) :
    Calls Try.prog 10 #[.pointer (some ⟨T, 0, none⟩), .agg #[.int .i64 (v : Int), .slice (some adD) N dc, .slice (some adT) N tc, .slice (some adB) N bc]] w (RetSpo w T) := by
  obtain ⟨iD, hi, hz0, hz1, hz2⟩ := info_parts info22
  have HD := hid hi; have HD0 := hid hz0; have HD1 := hid hz1; have HD2 := hid hz2
  clear hi hz0 hz1 hz2
  obtain ⟨iB, hi, hz0, hz1, hz2⟩ := info_parts info41
  have HB := hid hi; have HB0 := hid hz0; have HB1 := hid hz1; have HB2 := hid hz2
  clear hi hz0 hz1 hz2
  obtain ⟨iT, hi, hz0, hz1, hz2⟩ := info_parts info70
  have HT := hid hi; have HT0 := hid hz0; have HT1 := hid hz1; have HT2 := hid hz2
  clear hi hz0 hz1 hz2
  obtain ⟨iI, hi, hz0, hz1, hz2⟩ := info_parts info3
  have HI := hid hi; have HI0 := hid hz0; have HI1 := hid hz1; have HI2 := hid hz2
  clear hi hz0 hz1 hz2
  have Hlen := hid (And.intro hs.d.len (And.intro hs.t.len hs.b.len))
  have HLD := hid (show (lD.flatMap lhc).length = N * 1 from by rw [flat_len (f := lhc) (k := 1) (fun _ => rfl)]; exact congrArg (· * 1) Hlen.out.1)
  have HLT := hid (show (lT.flatMap FH.cells).length = N * 5 from by rw [flat_len FH.cells_len]; exact congrArg (· * 5) Hlen.out.2.1)
  have HLB := hid (show (lB.flatMap ZH.cs).length = N * 2 from by rw [flat_len ZH.cs_len]; exact congrArg (· * 2) Hlen.out.2.2)
  have HCD := hid (fun (u : World) (hu : Below w.heap.size w u) => eat_cells (show EAt u [some T] (some adD) (lD.flatMap lhc) from by have := (hs.below hu).d.lies; rw [← flat_lhc] at this; exact this))
  have HCT := hid (fun (u : World) (hu : Below w.heap.size w u) => eat_cells (show EAt u [some T] (some adT) (lT.flatMap FH.cells) from (hs.below hu).t.lies))
  have HCB := hid (fun (u : World) (hu : Below w.heap.size w u) => eat_cells (show EAt u [some T] (some adB) (lB.flatMap ZH.cs) from (hs.below hu).b.lies))
  have HND := hid (show ∀ x ∈ lD.flatMap lhc, x.oneCell' = true from fun x hx => by obtain ⟨y, -, hy⟩ := List.mem_flatMap.1 hx; exact one_lhc y x hy)
  have HNT := hid (show ∀ x ∈ lT.flatMap FH.cells, x.oneCell' = true from fun x hx => by obtain ⟨y, -, hy⟩ := List.mem_flatMap.1 hx; exact one_fcells y x hy)
  have HNB := hid (show ∀ x ∈ lB.flatMap ZH.cs, x.oneCell' = true from fun x hx => by obtain ⟨y, -, hy⟩ := List.mem_flatMap.1 hx; exact one_zcs y x hy)
  have HSY := hid (fun (cs : Array Value) (b : Nat) (u : World) (hp : Spb w T b cs u) => hs.go hp.go)
  have HokD := hid okD; have HokT := hid okT; have HokB := hid okB
  have Ht := hid ht
  have hb1 := (Below.refl w.heap.size w).alloc (Nat.le_refl _) (.cells #[.int .i64 (v : Int), .slice (some adD) N dc, .slice (some adT) N tc, .slice (some adB) N bc] 27)
  have hb2 := hb1.alloc hb1.size (.cells #[.int .i64 0, .slice none 0 0, .slice none 0 0, .slice none 0 0] 27)
  have HA := hid (show SpA w #[.int .i64 (v : Int), .slice (some adD) N dc, .slice (some adT) N tc, .slice (some adB) N bc] ((w.alloc (.cells #[.int .i64 (v : Int), .slice (some adD) N dc, .slice (some adT) N tc, .slice (some adB) N bc] 27)).alloc (.cells #[.int .i64 0, .slice none 0 0, .slice none 0 0, .slice none 0 0] 27)) from
    ⟨(Fb.new w _ _).alloc _, by
      have := Fb.new (w.alloc (.cells #[.int .i64 (v : Int), .slice (some adD) N dc, .slice (some adT) N tc, .slice (some adB) N bc] 27)) #[.int .i64 0, .slice none 0 0, .slice none 0 0, .slice none 0 0] 27
      rwa [World.size_alloc] at this, hb2⟩)
  clear hb1 hb2 ht hs okD okT okB
  go_enter Try.func10, Try.ntmps10
  go_upto_region 1 with fail
  generalize (w.alloc (.cells #[.int .i64 (v : Int), .slice (some adD) N dc, .slice (some adT) N tc, .slice (some adB) N bc] 27)).alloc (.cells #[.int .i64 0, .slice none 0 0, .slice none 0 0, .slice none 0 0] 27) = w2 at *
  rename_i Kx hKx
  refine wp_region_factsI (fun _ _ => True) (p1F w v N dc tc bc adD adT adB lD lT lB) (fun u => SpA w #[.int .i64 (v : Int), .slice (some adD) N dc, .slice (some adT) N tc, .slice (some adB) N bc] u) p1U (p1R ) Kx (fun _ _ h => h) 17 17 (some 7 :: some 8 :: some 9 :: some 10 :: some 11 :: some 12 :: some 13 :: some 14 :: some 15 :: some 16 :: some 17 :: some 18 :: some 19 :: some 20 :: some 21 :: some 5 :: none :: []) (by kernel_rfl) (by kernel_rfl) (by kernel_rfl) (by kernel_rfl) (by kernel_rfl) (by kernel_rfl) (by decide)
    (p1F_st (fun j h e => by subst e; exact Bool.false_ne_true (h.symm.trans (by kernel_rfl)))) ?bs ?gb ?gs ?ar ?en
  case bs => exact HA.out.below (Below.refl _ _).drew
  case gb =>
    exact fun c => trivial
  case gs =>
    exact fun _ _ _ _ _ _ _ _ => trivial
  case ar =>
    intro j o f u ho hi hB hG hpre K hK
    match j, ho, hG, hpre, hK with
    | 0, ho, hG, hpre, hK =>
      obtain rfl := Option.some.inj ho
      refine wpOp_step rfl fun K' hK' => ?_
      simp only [putL, updV]
      go_simp
      have hz := hK' _ _ (hK (.pointer (some ⟨w.heap.size, 0, none⟩)) (u) (hB) (p1R_of (Below.refl _ _) (by decide)) (rfl))
      refine Eq.mp (congrArg (fun act => K' act (u)) ?_) hz
      kernel_rfl
    | 1, ho, hG, hpre, hK =>
      obtain rfl := Option.some.inj ho
      obtain ⟨c0, c1, c2, c3⟩ := hB.px.four
      have hlt := hB.px.lt
      have e0 : f 0 = .pointer (some ⟨w.heap.size, 0, none⟩) := hpre ⟨0, .data⟩ (by simp) rfl (.inl rfl)
      obtain ⟨f, rfl⟩ := fixG f 0 _ e0
      clear e0
      refine wpOp_step rfl fun K' hK' => ?_
      simp only [putL, updV]
      go_simp
      have hz := hK' _ _ (hK (.int .i64 (v : Int)) (u) (hB) (p1R_of (Below.refl _ _) (by decide)) (rfl))
      refine Eq.mp (congrArg (fun act => K' act (u)) ?_) hz
      kernel_rfl
    | 2, ho, hG, hpre, hK =>
      obtain rfl := Option.some.inj ho
      have hb := (Below.refl u.heap.size u).alloc (Nat.le_refl _) (.cells #[] 22)
      refine wpOp_step rfl fun K' hK' => ?_
      simp only [putL, updV]
      go_simp
      have hz := hK' _ _ (hK (.slice (some ⟨u.heap.size, 0, none⟩) 0 0) (u.alloc (.cells #[] 22)) (hB.below hb) (p1R_of hb (by decide)) (⟨_, rfl⟩))
      refine Eq.mp (congrArg (fun act => K' act (u.alloc (.cells #[] 22))) ?_) hz
      kernel_rfl
    | 3, ho, hG, hpre, hK =>
      obtain rfl := Option.some.inj ho
      refine wpOp_step rfl fun K' hK' => ?_
      simp only [putL, updV]
      go_simp
      have hz := hK' _ _ (hK (.pointer (some ⟨w.heap.size, 1, none⟩)) (u) (hB) (p1R_of (Below.refl _ _) (by decide)) (rfl))
      refine Eq.mp (congrArg (fun act => K' act (u)) ?_) hz
      kernel_rfl
    | 4, ho, hG, hpre, hK =>
      obtain rfl := Option.some.inj ho
      obtain ⟨c0, c1, c2, c3⟩ := hB.px.four
      have hlt := hB.px.lt
      have e3 : f 3 = .pointer (some ⟨w.heap.size, 1, none⟩) := hpre ⟨3, .data⟩ (by simp) rfl (.inl rfl)
      obtain ⟨f, rfl⟩ := fixG f 3 _ e3
      clear e3
      refine wpOp_step rfl fun K' hK' => ?_
      simp only [putL, updV]
      go_simp
      have hz := hK' _ _ (hK (.slice (some adD) N dc) (u) (hB) (p1R_of (Below.refl _ _) (by decide)) (rfl))
      refine Eq.mp (congrArg (fun act => K' act (u)) ?_) hz
      kernel_rfl
    | 5, ho, hG, hpre, hK =>
      obtain rfl := Option.some.inj ho
      obtain ⟨g2, e2⟩ : ∃ g : Nat, f 2 = .slice (some ⟨g, 0, none⟩) 0 0 := hpre ⟨2, .data⟩ (by simp) rfl (.inl rfl)
      have e4 : f 4 = .slice (some adD) N dc := hpre ⟨4, .data⟩ (by simp) rfl (.inl rfl)
      have hbase : w.heap.size + 2 ≤ u.heap.size := by have := hB.rx.lt; omega
      obtain ⟨f, rfl⟩ := fixG f 2 _ e2
      rw [updV_ne _ _ (by decide)] at e4
      obtain ⟨f, rfl⟩ := fixG f 4 _ e4
      clear e2 e4
      refine wpOp_step rfl fun K' hK' => ?_
      refine step_grow0 rfl (.tmp 9) (.tmp 11) 23 rfl (w.heap.size + 2) 22 iD _ 1 24 Try.underlying23 HD.out HD0.out HD1.out HD2.out rfl (by decide) g2 (by kernel_rfl) adD N dc (lD.flatMap lhc) (by kernel_rfl) HLD.out (HCD.out u hB.bel) HND.out (by omega) (by unfold maxLen; omega) (by omega) hbase ?_
      intro g9 q9 w9 hown hb
      have hz := hK' _ _ (hK (.slice (some ⟨g9, 0, none⟩) N q9) w9 (hB.below hb) (p1R_of hb (by decide)) (⟨g9, q9, rfl, hown⟩))
      refine Eq.mp (congrArg (fun act => K' act w9) ?_) hz
      kernel_rfl
    | 6, ho, hG, hpre, hK =>
      obtain rfl := Option.some.inj ho
      have hb := (Below.refl u.heap.size u).alloc (Nat.le_refl _) (.cells #[] 51)
      refine wpOp_step rfl fun K' hK' => ?_
      simp only [putL, updV]
      go_simp
      have hz := hK' _ _ (hK (.slice (some ⟨u.heap.size, 0, none⟩) 0 0) (u.alloc (.cells #[] 51)) (hB.below hb) (p1R_of hb (by decide)) (⟨_, rfl⟩))
      refine Eq.mp (congrArg (fun act => K' act (u.alloc (.cells #[] 51))) ?_) hz
      kernel_rfl
    | 7, ho, hG, hpre, hK =>
      obtain rfl := Option.some.inj ho
      refine wpOp_step rfl fun K' hK' => ?_
      simp only [putL, updV]
      go_simp
      have hz := hK' _ _ (hK (.pointer (some ⟨w.heap.size, 2, none⟩)) (u) (hB) (p1R_of (Below.refl _ _) (by decide)) (rfl))
      refine Eq.mp (congrArg (fun act => K' act (u)) ?_) hz
      kernel_rfl
    | 8, ho, hG, hpre, hK =>
      obtain rfl := Option.some.inj ho
      obtain ⟨c0, c1, c2, c3⟩ := hB.px.four
      have hlt := hB.px.lt
      have e7 : f 7 = .pointer (some ⟨w.heap.size, 2, none⟩) := hpre ⟨7, .data⟩ (by simp) rfl (.inl rfl)
      obtain ⟨f, rfl⟩ := fixG f 7 _ e7
      clear e7
      refine wpOp_step rfl fun K' hK' => ?_
      simp only [putL, updV]
      go_simp
      have hz := hK' _ _ (hK (.slice (some adT) N tc) (u) (hB) (p1R_of (Below.refl _ _) (by decide)) (rfl))
      refine Eq.mp (congrArg (fun act => K' act (u)) ?_) hz
      kernel_rfl
    | 9, ho, hG, hpre, hK =>
      obtain rfl := Option.some.inj ho
      obtain ⟨g6, e6⟩ : ∃ g : Nat, f 6 = .slice (some ⟨g, 0, none⟩) 0 0 := hpre ⟨6, .data⟩ (by simp) rfl (.inl rfl)
      have e8 : f 8 = .slice (some adT) N tc := hpre ⟨8, .data⟩ (by simp) rfl (.inl rfl)
      have hbase : w.heap.size + 2 ≤ u.heap.size := by have := hB.rx.lt; omega
      obtain ⟨f, rfl⟩ := fixG f 6 _ e6
      rw [updV_ne _ _ (by decide)] at e8
      obtain ⟨f, rfl⟩ := fixG f 8 _ e8
      clear e6 e8
      refine wpOp_step rfl fun K' hK' => ?_
      refine step_grow0 rfl (.tmp 13) (.tmp 15) 24 rfl (w.heap.size + 2) 51 iT _ 5 88 Try.underlying24 HT.out HT0.out HT1.out HT2.out rfl (by decide) g6 (by kernel_rfl) adT N tc (lT.flatMap FH.cells) (by kernel_rfl) HLT.out (HCT.out u hB.bel) HNT.out (by omega) (by unfold maxLen; omega) (by omega) hbase ?_
      intro g9 q9 w9 hown hb
      have hz := hK' _ _ (hK (.slice (some ⟨g9, 0, none⟩) N q9) w9 (hB.below hb) (p1R_of hb (by decide)) (⟨g9, q9, rfl, hown⟩))
      refine Eq.mp (congrArg (fun act => K' act w9) ?_) hz
      kernel_rfl
    | 10, ho, hG, hpre, hK =>
      obtain rfl := Option.some.inj ho
      have hb := (Below.refl u.heap.size u).alloc (Nat.le_refl _) (.cells #[] 47)
      refine wpOp_step rfl fun K' hK' => ?_
      simp only [putL, updV]
      go_simp
      have hz := hK' _ _ (hK (.slice (some ⟨u.heap.size, 0, none⟩) 0 0) (u.alloc (.cells #[] 47)) (hB.below hb) (p1R_of hb (by decide)) (⟨_, rfl⟩))
      refine Eq.mp (congrArg (fun act => K' act (u.alloc (.cells #[] 47))) ?_) hz
      kernel_rfl
    | 11, ho, hG, hpre, hK =>
      obtain rfl := Option.some.inj ho
      refine wpOp_step rfl fun K' hK' => ?_
      simp only [putL, updV]
      go_simp
      have hz := hK' _ _ (hK (.pointer (some ⟨w.heap.size, 3, none⟩)) (u) (hB) (p1R_of (Below.refl _ _) (by decide)) (rfl))
      refine Eq.mp (congrArg (fun act => K' act (u)) ?_) hz
      kernel_rfl
    | 12, ho, hG, hpre, hK =>
      obtain rfl := Option.some.inj ho
      obtain ⟨c0, c1, c2, c3⟩ := hB.px.four
      have hlt := hB.px.lt
      have e11 : f 11 = .pointer (some ⟨w.heap.size, 3, none⟩) := hpre ⟨11, .data⟩ (by simp) rfl (.inl rfl)
      obtain ⟨f, rfl⟩ := fixG f 11 _ e11
      clear e11
      refine wpOp_step rfl fun K' hK' => ?_
      simp only [putL, updV]
      go_simp
      have hz := hK' _ _ (hK (.slice (some adB) N bc) (u) (hB) (p1R_of (Below.refl _ _) (by decide)) (rfl))
      refine Eq.mp (congrArg (fun act => K' act (u)) ?_) hz
      kernel_rfl
    | 13, ho, hG, hpre, hK =>
      obtain rfl := Option.some.inj ho
      obtain ⟨g10, e10⟩ : ∃ g : Nat, f 10 = .slice (some ⟨g, 0, none⟩) 0 0 := hpre ⟨10, .data⟩ (by simp) rfl (.inl rfl)
      have e12 : f 12 = .slice (some adB) N bc := hpre ⟨12, .data⟩ (by simp) rfl (.inl rfl)
      have hbase : w.heap.size + 2 ≤ u.heap.size := by have := hB.rx.lt; omega
      obtain ⟨f, rfl⟩ := fixG f 10 _ e10
      rw [updV_ne _ _ (by decide)] at e12
      obtain ⟨f, rfl⟩ := fixG f 12 _ e12
      clear e10 e12
      refine wpOp_step rfl fun K' hK' => ?_
      refine step_grow0 rfl (.tmp 17) (.tmp 19) 25 rfl (w.heap.size + 2) 47 iB _ 2 32 Try.underlying25 HB.out HB0.out HB1.out HB2.out rfl (by decide) g10 (by kernel_rfl) adB N bc (lB.flatMap ZH.cs) (by kernel_rfl) HLB.out (HCB.out u hB.bel) HNB.out (by omega) (by unfold maxLen; omega) (by omega) hbase ?_
      intro g9 q9 w9 hown hb
      have hz := hK' _ _ (hK (.slice (some ⟨g9, 0, none⟩) N q9) w9 (hB.below hb) (p1R_of hb (by decide)) (⟨g9, q9, rfl, hown⟩))
      refine Eq.mp (congrArg (fun act => K' act w9) ?_) hz
      kernel_rfl
    | 14, ho, hG, hpre, hK =>
      obtain rfl := Option.some.inj ho
      have e1 : f 1 = .int .i64 (v : Int) := hpre ⟨1, .data⟩ (by simp) rfl (.inl rfl)
      obtain ⟨gD, qD, e5, o5⟩ : ∃ gD qD : Nat, f 5 = .slice (some ⟨gD, 0, none⟩) N qD ∧ u.ownsRow (w.heap.size + 2) 22 1 (.slice (some ⟨gD, 0, none⟩) N qD) N (lD.flatMap lhc) := hpre ⟨5, .data⟩ (by simp) rfl (.inl rfl)
      obtain ⟨gT, qT, e9, o9⟩ : ∃ gT qT : Nat, f 9 = .slice (some ⟨gT, 0, none⟩) N qT ∧ u.ownsRow (w.heap.size + 2) 51 5 (.slice (some ⟨gT, 0, none⟩) N qT) N (lT.flatMap FH.cells) := hpre ⟨9, .data⟩ (by simp) rfl (.inl rfl)
      obtain ⟨gB, qB, e13, o13⟩ : ∃ gB qB : Nat, f 13 = .slice (some ⟨gB, 0, none⟩) N qB ∧ u.ownsRow (w.heap.size + 2) 47 2 (.slice (some ⟨gB, 0, none⟩) N qB) N (lB.flatMap ZH.cs) := hpre ⟨13, .data⟩ (by simp) rfl (.inl rfl)
      obtain ⟨f, rfl⟩ := fixG f 1 _ e1
      rw [updV_ne _ _ (by decide)] at e5
      rw [updV_ne _ _ (by decide)] at e9
      rw [updV_ne _ _ (by decide)] at e13
      obtain ⟨f, rfl⟩ := fixG f 5 _ e5
      rw [updV_ne _ _ (by decide)] at e9
      rw [updV_ne _ _ (by decide)] at e13
      obtain ⟨f, rfl⟩ := fixG f 9 _ e9
      rw [updV_ne _ _ (by decide)] at e13
      obtain ⟨f, rfl⟩ := fixG f 13 _ e13
      clear e1 e5 e9 e13
      refine wpOp_step rfl fun K' hK' => ?_
      simp only [putL, updV]
      go_simp
      have hz := hK' _ _ (hK (.agg #[.int .i64 (v : Int), .slice (some ⟨gD, 0, none⟩) N qD, .slice (some ⟨gT, 0, none⟩) N qT, .slice (some ⟨gB, 0, none⟩) N qB]) (u) (hB) (p1R_of (Below.refl _ _) (by decide)) (⟨gD, qD, gT, qT, gB, qB, rfl, o5, o9, o13⟩))
      refine Eq.mp (congrArg (fun act => K' act (u)) ?_) hz
      kernel_rfl
    | 15, ho, hG, hpre, hK =>
      obtain rfl := Option.some.inj ho
      have hb := (Below.refl u.heap.size u).alloc (Nat.le_refl _) (.cells #[.int .i64 0, .slice none 0 0, .slice none 0 0, .slice none 0 0] 27)
      have hl2 := hB.rx.lt
      refine wpOp_step rfl fun K' hK' => ?_
      simp only [putL, updV]
      go_simp
      have hz := hK' _ _ (hK (.pointer (some ⟨u.heap.size, 0, none⟩)) (u.alloc (.cells #[.int .i64 0, .slice none 0 0, .slice none 0 0, .slice none 0 0] 27)) (hB.below hb) (p1R_of hb (by decide)) (⟨_, rfl, Fb.new u _ _, hl2⟩))
      refine Eq.mp (congrArg (fun act => K' act (u.alloc (.cells #[.int .i64 0, .slice none 0 0, .slice none 0 0, .slice none 0 0] 27))) ?_) hz
      kernel_rfl
    | 16, ho, hG, hpre, hK =>
      obtain rfl := Option.some.inj ho
      obtain ⟨b, e15, q0, q1⟩ : ∃ b : Nat, f 15 = .pointer (some ⟨b, 0, none⟩) ∧ Fb u b #[.int .i64 0, .slice none 0 0, .slice none 0 0, .slice none 0 0] 27 ∧ w.heap.size + 2 ≤ b := hpre ⟨15, .data⟩ (by simp) rfl (.inr rfl)
      obtain ⟨gD, qD, gT, qT, gB, qB, e14, oD, oT, oB⟩ : ∃ gD qD gT qT gB qB : Nat, f 14 = .agg #[.int .i64 (v : Int), .slice (some ⟨gD, 0, none⟩) N qD, .slice (some ⟨gT, 0, none⟩) N qT, .slice (some ⟨gB, 0, none⟩) N qB] ∧ u.ownsRow (w.heap.size + 2) 22 1 (.slice (some ⟨gD, 0, none⟩) N qD) N (lD.flatMap lhc) ∧ u.ownsRow (w.heap.size + 2) 51 5 (.slice (some ⟨gT, 0, none⟩) N qT) N (lT.flatMap FH.cells) ∧ u.ownsRow (w.heap.size + 2) 47 2 (.slice (some ⟨gB, 0, none⟩) N qB) N (lB.flatMap ZH.cs) := hpre ⟨14, .data⟩ (by simp) rfl (.inl rfl)
      obtain ⟨y0, y1, y2, y3⟩ := q0.four
      have f0 := q0.frozen 0
      have f1 := q0.frozen 1
      have f2 := q0.frozen 2
      have f3 := q0.frozen 3
      have hl := q0.lt
      have hs := four_stp q0 (.int .i64 (v : Int)) (.slice (some ⟨gD, 0, none⟩) N qD) (.slice (some ⟨gT, 0, none⟩) N qT) (.slice (some ⟨gB, 0, none⟩) N qB)
      obtain ⟨f, rfl⟩ := fixG f 15 _ e15
      rw [updV_ne _ _ (by decide)] at e14
      obtain ⟨f, rfl⟩ := fixG f 14 _ e14
      clear e15 e14
      refine wpOp_step rfl fun K' hK' => ?_
      simp only [putL, updV]
      go_simp
      have hz := hK' _ _ (hK (undef) ((((u.setCell ⟨b, 0, none⟩ (.int .i64 (v : Int))).setCell ⟨b, 1, none⟩ (.slice (some ⟨gD, 0, none⟩) N qD)).setCell ⟨b, 2, none⟩ (.slice (some ⟨gT, 0, none⟩) N qT)).setCell ⟨b, 3, none⟩ (.slice (some ⟨gB, 0, none⟩) N qB)) ((((hB.put q1 0 _).put q1 1 _).put q1 2 _).put q1 3 _) (p1R_w hs) (⟨b, gD, qD, gT, qT, gB, qB, rfl, (((q0.set 0 _).set 1 _).set 2 _).set 3 _, q1, hs.own oD (by decide), hs.own oT (by decide), hs.own oB (by decide)⟩))
      refine Eq.mp (congrArg (fun act => K' act ((((u.setCell ⟨b, 0, none⟩ (.int .i64 (v : Int))).setCell ⟨b, 1, none⟩ (.slice (some ⟨gD, 0, none⟩) N qD)).setCell ⟨b, 2, none⟩ (.slice (some ⟨gT, 0, none⟩) N qT)).setCell ⟨b, 3, none⟩ (.slice (some ⟨gB, 0, none⟩) N qB))) ?_) hz
      kernel_rfl
    | j + 17, ho, hG, hpre, hK => exact absurd hi (by omega)
  case en =>
    intro Q2 hQ2 f u hB hF
    obtain ⟨b, gD, qD, gT, qT, gB, qB, e15, q0, q1, oD, oT, oB⟩ : ∃ b gD qD gT qT gB qB : Nat, f 15 = .pointer (some ⟨b, 0, none⟩) ∧ Fb u b #[.int .i64 (v : Int), .slice (some ⟨gD, 0, none⟩) N qD, .slice (some ⟨gT, 0, none⟩) N qT, .slice (some ⟨gB, 0, none⟩) N qB] 27 ∧ w.heap.size + 2 ≤ b ∧ u.ownsRow (w.heap.size + 2) 22 1 (.slice (some ⟨gD, 0, none⟩) N qD) N (lD.flatMap lhc) ∧ u.ownsRow (w.heap.size + 2) 51 5 (.slice (some ⟨gT, 0, none⟩) N qT) N (lT.flatMap FH.cells) ∧ u.ownsRow (w.heap.size + 2) 47 2 (.slice (some ⟨gB, 0, none⟩) N qB) N (lB.flatMap ZH.cs) := hF 16 (by decide) rfl
    have HP := hid (show Spb w T b #[.int .i64 (v : Int), .slice (some ⟨gD, 0, none⟩) N qD, .slice (some ⟨gT, 0, none⟩) N qT, .slice (some ⟨gB, 0, none⟩) N qB] u from ⟨(Ht.out).below hB.bel (Ht.out).lt, (Ht.out).lt, grown_of_below hB.bel _, hB.rx, q0, q1⟩)
    have HOD := hid oD
    have HOT := hid oT
    have HOB := hid oB
    obtain ⟨f, rfl⟩ := fixG f 15 _ e15
    clear e15
    clear hF
    show wpAny _ _ _ _ 0 (tailArr 17 17) _ _
    refine ⟨by kernel_rfl, hQ2 _ _ (hKx _ _ ?_)⟩
    simp only [putL, updV]
    clear q0 q1 oD oT oB hB HA Ht
    obtain ⟨c0, c1, c2, c3⟩ := (show Fb u b #[.int .i64 (v : Int), .slice (some ⟨gD, 0, none⟩) N qD, .slice (some ⟨gT, 0, none⟩) N qT, .slice (some ⟨gB, 0, none⟩) N qB] 27 from HP.out.bx).four
    have hlt := HP.out.bx.lt
    go_wp2_with fail
    refine (next_any T N u HP.out.tp (by omega)).mono ?_
    rintro e w3 ⟨i, rfl, hi0, hi1, ht3, hg3, -⟩
    obtain ⟨i, rfl⟩ := Int.eq_ofNat_of_zero_le hi0
    have hiN : i < N := by omega
    have HP3 := hid (HP.out.step ht3 hg3)
    have HOD3 := hid (HOD.out.kept hg3 (Sg.far HOD.out (by have := HP.out.hT; omega)))
    have HOT3 := hid (HOT.out.kept hg3 (Sg.far HOT.out (by have := HP.out.hT; omega)))
    have HOB3 := hid (HOB.out.kept hg3 (Sg.far HOB.out (by have := HP.out.hT; omega)))
    clear hi0 hi1 ht3 hg3 HP HOD HOT HOB c0 c1 c2 c3 hlt HCD HCT HCB HND HNT HNB
    go_wp2_with fail
    refine (next_any T 6 w3 HP3.out.tp (by omega)).mono ?_
    rintro e w4 ⟨r, rfl, hr0, hr1, ht4, hg4, -⟩
    have HP := hid (HP3.out.step ht4 hg4)
    have HOD := hid (HOD3.out.kept hg4 (Sg.far HOD3.out (by have := HP3.out.hT; omega)))
    have HOT := hid (HOT3.out.kept hg4 (Sg.far HOT3.out (by have := HP3.out.hT; omega)))
    have HOB := hid (HOB3.out.kept hg4 (Sg.far HOB3.out (by have := HP3.out.hT; omega)))
    have HXD := hid (XRow.of HOD.out)
    have HXT := hid (XRow.of HOT.out)
    have HXB := hid (XRow.of HOB.out)
    have HgD := hid (HOD.out.lt gD rfl).1
    have HgT := hid (HOT.out.lt gT rfl).1
    have HgB := hid (HOB.out.lt gB rfl).1
    clear ht4 hg4 HP3 HOD3 HOT3 HOB3
    by_cases q0 : r = 0
    · have t0 : (r == 0) = true := by simp [q0]
      clear q0
      obtain ⟨c0, c1, c2, c3⟩ := (show Fb w4 b #[.int .i64 (v : Int), .slice (some ⟨gD, 0, none⟩) N qD, .slice (some ⟨gT, 0, none⟩) N qT, .slice (some ⟨gB, 0, none⟩) N qB] 27 from HP.out.bx).four
      have f0 := HP.out.bx.frozen 0
      have hlt := HP.out.bx.lt
      have hwr : IntKind.i64.wrap ((v : Int) + 1) = (v : Int) + 1 := IntWalk.i64_in _ (by omega)
      have hs9 := stp_setS HP.out.bx 0 (.int .i64 ((v : Int) + 1))
      have HPf := hid (show Spb w T b #[.int .i64 ((v : Int) + 1), .slice (some ⟨gD, 0, none⟩) N qD, .slice (some ⟨gT, 0, none⟩) N qT, .slice (some ⟨gB, 0, none⟩) N qB] (w4.setCell ⟨b, 0, none⟩ (.int .i64 ((v : Int) + 1))) from HP.out.put 0 _)
      have Hq := hid (show SYok (w4.setCell ⟨b, 0, none⟩ (.int .i64 ((v : Int) + 1))) [some (w.heap.size + 1)] ⟨((v : Int) + 1), ⟨some ⟨gD, 0, none⟩, N, qD, lD⟩, ⟨some ⟨gT, 0, none⟩, N, qT, lT⟩, ⟨some ⟨gB, 0, none⟩, N, qB, lB⟩⟩ from ⟨lh_of (HXD.out.stp hs9 (by decide)) HgD.out Hlen.out.1 (by omega) (HSY.out _ _ _ HPf.out).d.all, fl_of (HXT.out.stp hs9 (by decide)) HgT.out Hlen.out.2.1 (by omega) (HSY.out _ _ _ HPf.out).t.all, zl_of (HXB.out.stp hs9 (by decide)) HgB.out Hlen.out.2.2 (by omega) (HSY.out _ _ _ HPf.out).b.all⟩)
      clear hs9 HOD HOT HOB HXD HXT HXB
      obtain ⟨r0, r1, r2, r3⟩ := (show Fb w4 (w.heap.size + 1) #[.int .i64 0, .slice none 0 0, .slice none 0 0, .slice none 0 0] 27 from HP.out.rx).four
      have f5 := HP.out.rx.frozen 0
      have f6 := HP.out.rx.frozen 1
      have f7 := HP.out.rx.frozen 2
      have f8 := HP.out.rx.frozen 3
      have hlr := HP.out.rx.lt
      have hbr := HP.out.hb
      have Hfin := hid (Spb.fin (q := ⟨((v : Int) + 1), ⟨some ⟨gD, 0, none⟩, N, qD, lD⟩, ⟨some ⟨gT, 0, none⟩, N, qT, lT⟩, ⟨some ⟨gB, 0, none⟩, N, qB, lB⟩⟩) HPf.out Hq.out)
      clear HPf Hq HP
      go_wp2_with fail
      refine bodyPost_ret (v := .agg #[.int .i64 ((v : Int) + 1), .slice (some ⟨gD, 0, none⟩) N qD, .slice (some ⟨gT, 0, none⟩) N qT, .slice (some ⟨gB, 0, none⟩) N qB]) (by simp [results, Try.results10, go_sem, c0, c1, c2, c3, r0, r1, r2, r3]) rfl ?_
      exact Hfin.out
    · have t0 : (r == 0) = false := by simp [q0]
      by_cases q1 : r = 1
      · have t1 : (r == 1) = true := by simp [q1]
        clear q1
        obtain ⟨y, hy⟩ : ∃ y, lD[i]? = some y := ⟨_, List.getElem?_eq_getElem (by have : lD.length = N := Hlen.out.1; omega)⟩
        have hym := List.mem_of_getElem? hy
        have hyn := HokD.out y hym
        have Hyl := hid ((HSY.out _ _ _ HP.out).d.all y hym).len
        have Hel := hid (fun (u : World) (hx : XRow u gD 22 (lD.flatMap lhc)) => show u.cell? ⟨gD, i, none⟩ = some (.slice y.A y.n y.c) from hx.cell (by rw [flat_lhc, List.getElem?_map, hy]; rfl))
        have Hy := hid (fun (h0 : 0 < y.n) (u : World) (hp : Spb w T b #[.int .i64 (v : Int), .slice (some ⟨gD, 0, none⟩) N qD, .slice (some ⟨gT, 0, none⟩) N qT, .slice (some ⟨gB, 0, none⟩) N qB] u) => show ∃ ady, y.A = some ady ∧ ∀ j x, (ints y.l)[j]? = some x → u.cell? (ady.add j) = some x from by
          have hr := ((HSY.out _ _ _ hp).d.all y hym).lies
          obtain ⟨ad, e⟩ := eat_some hr (by rw [ints_lenS]; have : y.l.length = y.n := Hyl.out; omega)
          rw [e] at hr
          exact ⟨ad, e, eat_cells hr⟩)
        have Hil := hid (show i < (lD.flatMap lhc).length from by rw [HLD.out]; omega)
        have Hge := HgD
        have HB := hid (And.intro HP.out (And.intro HXT.out HXB.out))
        have HX := HXD
        clear hy hym HP HOD HOT HOB HXD HXT HXB
        obtain ⟨yA, yn, yc, yl⟩ := y
        simp only at *
        go_upto_region 8 with fail
        rename_i Kx hKx
        refine wp_region_factsI (fun j u => (j = 8 ∨ j = 20) → XRow u gD 22 (lD.flatMap lhc)) (pcF w T b v N gD qD gT qT gB qB i lD lT lB yA yn yc yl) (fun u => Spb w T b #[.int .i64 (v : Int), .slice (some ⟨gD, 0, none⟩) N qD, .slice (some ⟨gT, 0, none⟩) N qT, .slice (some ⟨gB, 0, none⟩) N qB] u ∧ XRow u gT 51 (lT.flatMap FH.cells) ∧ XRow u gB 47 (lB.flatMap ZH.cs)) pcU (pcR ) Kx (fun _ _ h => h) 21 21 (some 46 :: some 47 :: some 48 :: some 49 :: some 50 :: some 51 :: some 52 :: some 53 :: some 54 :: some 55 :: some 56 :: some 57 :: some 58 :: some 59 :: some 60 :: some 61 :: some 62 :: some 63 :: some 64 :: some 65 :: none :: []) (by kernel_rfl) (by kernel_rfl) (by kernel_rfl) (by kernel_rfl) (by kernel_rfl) (by kernel_rfl) (by decide)
          (pcF_st (fun j h e => by subst e; exact Bool.false_ne_true (h.symm.trans (by kernel_rfl))) (fun j h e => by subst e; exact Bool.false_ne_true (h.symm.trans (by kernel_rfl)))) ?bs ?gb ?gs ?ar ?en
        case bs => exact ⟨HB.out.1.below (Below.refl _ _).drew, HB.out.2.1.below (Below.refl _ _).drew, HB.out.2.2.below (Below.refl _ _).drew⟩
        case gb =>
          exact fun c _ => HX.out.below (Below.refl _ _).drew
        case gs =>
          intro j u u' c hR hne hnr hG hc
          refine pcR_row hR (hG hc) ?_ (by decide)
          rintro rfl
          rcases hc with rfl | rfl
          · exact Bool.false_ne_true (hnr.symm.trans (by kernel_rfl))
          · exact hne rfl
        case ar =>
          intro j o f u ho hi hB hG hpre K hK
          match j, ho, hG, hpre, hK with
          | 0, ho, hG, hpre, hK =>
            obtain rfl := Option.some.inj ho
            refine wpOp_step rfl fun K' hK' => ?_
            simp only [putL, updV]
            go_simp
            have hz := hK' _ _ (hK (.pointer (some ⟨b, 1, none⟩)) (u) (hB) (pcR_of (Below.refl _ _) (by decide) (by decide) (by decide)) (rfl))
            refine Eq.mp (congrArg (fun act => K' act (u)) ?_) hz
            kernel_rfl
          | 1, ho, hG, hpre, hK =>
            obtain rfl := Option.some.inj ho
            obtain ⟨c0, c1, c2, c3⟩ := (show Fb u b #[.int .i64 (v : Int), .slice (some ⟨gD, 0, none⟩) N qD, .slice (some ⟨gT, 0, none⟩) N qT, .slice (some ⟨gB, 0, none⟩) N qB] 27 from hB.1.bx).four
            have hlt := hB.1.bx.lt
            have e0 : f 0 = .pointer (some ⟨b, 1, none⟩) := hpre ⟨0, .data⟩ (by simp) rfl (.inl rfl)
            obtain ⟨f, rfl⟩ := fixG f 0 _ e0
            clear e0
            refine wpOp_step rfl fun K' hK' => ?_
            simp only [putL, updV]
            go_simp
            have hz := hK' _ _ (hK (.slice (some ⟨gD, 0, none⟩) N qD) (u) (hB) (pcR_of (Below.refl _ _) (by decide) (by decide) (by decide)) (rfl))
            refine Eq.mp (congrArg (fun act => K' act (u)) ?_) hz
            kernel_rfl
          | 2, ho, hG, hpre, hK =>
            obtain rfl := Option.some.inj ho
            refine wpOp_step rfl fun K' hK' => ?_
            simp only [putL, updV]
            go_simp
            have hz := hK' _ _ (hK (.int .i64 (i : Int)) (u) (hB) (pcR_of (Below.refl _ _) (by decide) (by decide) (by decide)) (rfl))
            refine Eq.mp (congrArg (fun act => K' act (u)) ?_) hz
            kernel_rfl
          | 3, ho, hG, hpre, hK =>
            obtain rfl := Option.some.inj ho
            have hb := (Below.refl u.heap.size u).alloc (Nat.le_refl _) (.cells #[] 3)
            have hbs := hB.1.base
            refine wpOp_step rfl fun K' hK' => ?_
            simp only [putL, updV]
            go_simp
            have hz := hK' _ _ (hK (.slice (some ⟨u.heap.size, 0, none⟩) 0 0) (u.alloc (.cells #[] 3)) (⟨hB.1.below hb, hB.2.1.below hb, hB.2.2.below hb⟩) (pcR_of hb (by decide) (by decide) (by decide)) (⟨_, rfl, Fb.new u _ _, by omega⟩))
            refine Eq.mp (congrArg (fun act => K' act (u.alloc (.cells #[] 3))) ?_) hz
            kernel_rfl
          | 4, ho, hG, hpre, hK =>
            obtain rfl := Option.some.inj ho
            refine wpOp_step rfl fun K' hK' => ?_
            simp only [putL, updV]
            go_simp
            have hz := hK' _ _ (hK (.pointer (some ⟨b, 1, none⟩)) (u) (hB) (pcR_of (Below.refl _ _) (by decide) (by decide) (by decide)) (rfl))
            refine Eq.mp (congrArg (fun act => K' act (u)) ?_) hz
            kernel_rfl
          | 5, ho, hG, hpre, hK =>
            obtain rfl := Option.some.inj ho
            obtain ⟨c0, c1, c2, c3⟩ := (show Fb u b #[.int .i64 (v : Int), .slice (some ⟨gD, 0, none⟩) N qD, .slice (some ⟨gT, 0, none⟩) N qT, .slice (some ⟨gB, 0, none⟩) N qB] 27 from hB.1.bx).four
            have hlt := hB.1.bx.lt
            have e4 : f 4 = .pointer (some ⟨b, 1, none⟩) := hpre ⟨4, .data⟩ (by simp) rfl (.inl rfl)
            obtain ⟨f, rfl⟩ := fixG f 4 _ e4
            clear e4
            refine wpOp_step rfl fun K' hK' => ?_
            simp only [putL, updV]
            go_simp
            have hz := hK' _ _ (hK (.slice (some ⟨gD, 0, none⟩) N qD) (u) (hB) (pcR_of (Below.refl _ _) (by decide) (by decide) (by decide)) (rfl))
            refine Eq.mp (congrArg (fun act => K' act (u)) ?_) hz
            kernel_rfl
          | 6, ho, hG, hpre, hK =>
            obtain rfl := Option.some.inj ho
            refine wpOp_step rfl fun K' hK' => ?_
            simp only [putL, updV]
            go_simp
            have hz := hK' _ _ (hK (.int .i64 (i : Int)) (u) (hB) (pcR_of (Below.refl _ _) (by decide) (by decide) (by decide)) (rfl))
            refine Eq.mp (congrArg (fun act => K' act (u)) ?_) hz
            kernel_rfl
          | 7, ho, hG, hpre, hK =>
            obtain rfl := Option.some.inj ho
            have k0 : (0 : Int) ≤ i := by omega
            have k1 : (i : Int) < N := by omega
            have k2 : (i : Int).toNat = i := by omega
            have e5 : f 5 = .slice (some ⟨gD, 0, none⟩) N qD := hpre ⟨5, .data⟩ (by simp) rfl (.inl rfl)
            have e6 : f 6 = .int .i64 (i : Int) := hpre ⟨6, .data⟩ (by simp) rfl (.inl rfl)
            obtain ⟨f, rfl⟩ := fixG f 5 _ e5
            rw [updV_ne _ _ (by decide)] at e6
            obtain ⟨f, rfl⟩ := fixG f 6 _ e6
            clear e5 e6
            refine wpOp_step rfl fun K' hK' => ?_
            simp only [putL, updV]
            go_simp
            have hz := hK' _ _ (hK (.pointer (some ⟨gD, i, none⟩)) (u) (hB) (pcR_of (Below.refl _ _) (by decide) (by decide) (by decide)) (rfl))
            refine Eq.mp (congrArg (fun act => K' act (u)) ?_) hz
            kernel_rfl
          | 8, ho, hG, hpre, hK =>
            obtain rfl := Option.some.inj ho
            have y0 := Hel.out u (hG (.inl rfl))
            have hl := (hG (.inl rfl)).lt
            have e7 : f 7 = .pointer (some ⟨gD, i, none⟩) := hpre ⟨7, .data⟩ (by simp) rfl (.inl rfl)
            obtain ⟨f, rfl⟩ := fixG f 7 _ e7
            clear e7
            refine wpOp_step rfl fun K' hK' => ?_
            simp only [putL, updV]
            go_simp
            have hz := hK' _ _ (hK (.slice yA yn yc) (u) (hB) (pcR_of (Below.refl _ _) (by decide) (by decide) (by decide)) (rfl))
            refine Eq.mp (congrArg (fun act => K' act (u)) ?_) hz
            kernel_rfl
          | 9, ho, hG, hpre, hK =>
            obtain rfl := Option.some.inj ho
            obtain ⟨g3, e3, q30, q31⟩ : ∃ g : Nat, f 3 = .slice (some ⟨g, 0, none⟩) 0 0 ∧ Fb u g #[] 3 ∧ w.heap.size + 2 ≤ g := hpre ⟨3, .data⟩ (by simp) rfl (.inr rfl)
            have e8 : f 8 = .slice yA yn yc := hpre ⟨8, .data⟩ (by simp) rfl (.inl rfl)
            have hbase : w.heap.size + 2 ≤ u.heap.size := hB.1.base
            obtain ⟨f, rfl⟩ := fixG f 3 _ e3
            rw [updV_ne _ _ (by decide)] at e8
            obtain ⟨f, rfl⟩ := fixG f 8 _ e8
            clear e3 e8
            refine wpOp_step rfl fun K' hK' => ?_
            rcases Nat.eq_zero_or_pos yn with h0 | h0
            · subst h0
              have hyl : yl = [] := List.eq_nil_of_length_eq_zero Hyl.out
              refine step_nothing rfl (.tmp 49) (.tmp 54) rfl g3 (by kernel_rfl) yA yc (by kernel_rfl) ?_
              have hz := hK' _ _ (hK (.slice (some ⟨g3, 0, none⟩) 0 0) u hB (pcR_of (Below.refl _ _) (by decide) (by decide) (by decide)) (⟨g3, 0, rfl, by rw [hyl]; exact ⟨rfl, .inr ⟨g3, 0, #[], rfl, q31, q30, Nat.le_refl _, Nat.zero_le _, rfl, rfl⟩⟩, fun _ => rfl⟩))
              refine Eq.mp (congrArg (fun act => K' act u) ?_) hz
              kernel_rfl
            · obtain ⟨ady, rfl, hcy⟩ := Hy.out h0 u hB.1
              refine step_grow0 rfl (.tmp 49) (.tmp 54) 22 rfl (w.heap.size + 2) 3 iI _ 1 8 Try.underlying22 HI.out HI0.out HI1.out HI2.out rfl (by decide) g3 (by kernel_rfl) ady yn yc (ints yl) (by kernel_rfl) (by rw [ints_lenS, Nat.mul_one]; exact Hyl.out) hcy (ints_oneS yl) h0 (by unfold maxLen; omega) (by omega) hbase ?_
              intro g9 q9 w9 hown hb
              have hz := hK' _ _ (hK (.slice (some ⟨g9, 0, none⟩) yn q9) w9 (⟨hB.1.below hb, hB.2.1.below hb, hB.2.2.below hb⟩) (pcR_of hb (by decide) (by decide) (by decide)) (⟨g9, q9, rfl, hown, fun e => by omega⟩))
              refine Eq.mp (congrArg (fun act => K' act w9) ?_) hz
              kernel_rfl
          | 10, ho, hG, hpre, hK =>
            obtain rfl := Option.some.inj ho
            refine wpOp_step rfl fun K' hK' => ?_
            simp only [putL, updV]
            go_simp
            have hz := hK' _ _ (hK (.pointer (some ⟨T, 0, none⟩)) (u) (hB) (pcR_of (Below.refl _ _) (by decide) (by decide) (by decide)) (rfl))
            refine Eq.mp (congrArg (fun act => K' act (u)) ?_) hz
            kernel_rfl
          | 11, ho, hG, hpre, hK =>
            obtain rfl := Option.some.inj ho
            refine wpOp_step rfl fun K' hK' => ?_
            simp only [putL, updV]
            go_simp
            have hz := hK' _ _ (hK (.pointer (some ⟨b, 1, none⟩)) (u) (hB) (pcR_of (Below.refl _ _) (by decide) (by decide) (by decide)) (rfl))
            refine Eq.mp (congrArg (fun act => K' act (u)) ?_) hz
            kernel_rfl
          | 12, ho, hG, hpre, hK =>
            obtain rfl := Option.some.inj ho
            obtain ⟨c0, c1, c2, c3⟩ := (show Fb u b #[.int .i64 (v : Int), .slice (some ⟨gD, 0, none⟩) N qD, .slice (some ⟨gT, 0, none⟩) N qT, .slice (some ⟨gB, 0, none⟩) N qB] 27 from hB.1.bx).four
            have hlt := hB.1.bx.lt
            have e11 : f 11 = .pointer (some ⟨b, 1, none⟩) := hpre ⟨11, .data⟩ (by simp) rfl (.inl rfl)
            obtain ⟨f, rfl⟩ := fixG f 11 _ e11
            clear e11
            refine wpOp_step rfl fun K' hK' => ?_
            simp only [putL, updV]
            go_simp
            have hz := hK' _ _ (hK (.slice (some ⟨gD, 0, none⟩) N qD) (u) (hB) (pcR_of (Below.refl _ _) (by decide) (by decide) (by decide)) (rfl))
            refine Eq.mp (congrArg (fun act => K' act (u)) ?_) hz
            kernel_rfl
          | 13, ho, hG, hpre, hK =>
            obtain rfl := Option.some.inj ho
            have e12 : f 12 = .slice (some ⟨gD, 0, none⟩) N qD := hpre ⟨12, .data⟩ (by simp) rfl (.inl rfl)
            obtain ⟨f, rfl⟩ := fixG f 12 _ e12
            clear e12
            refine wpOp_step rfl fun K' hK' => ?_
            simp only [putL, updV]
            go_simp
            have hz := hK' _ _ (hK (.int .i64 (N : Int)) (u) (hB) (pcR_of (Below.refl _ _) (by decide) (by decide) (by decide)) (rfl))
            refine Eq.mp (congrArg (fun act => K' act (u)) ?_) hz
            kernel_rfl
          | 14, ho, hG, hpre, hK =>
            obtain rfl := Option.some.inj ho
            have hwr : IntKind.i64.wrap ((N : Int) + 2) = ((N + 2 : Nat) : Int) := IntWalk.i64_in _ (by omega)
            have e13 : f 13 = .int .i64 (N : Int) := hpre ⟨13, .data⟩ (by simp) rfl (.inl rfl)
            obtain ⟨f, rfl⟩ := fixG f 13 _ e13
            clear e13
            refine wpOp_step rfl fun K' hK' => ?_
            simp only [putL, updV]
            go_simp
            have hz := hK' _ _ (hK (.int .i64 ((N + 2 : Nat) : Int)) (u) (hB) (pcR_of (Below.refl _ _) (by decide) (by decide) (by decide)) (rfl))
            refine Eq.mp (congrArg (fun act => K' act (u)) ?_) hz
            kernel_rfl
          | 15, ho, hG, hpre, hK =>
            obtain rfl := Option.some.inj ho
            have e10 : f 10 = .pointer (some ⟨T, 0, none⟩) := hpre ⟨10, .data⟩ (by simp) rfl (.inl rfl)
            have e14 : f 14 = .int .i64 ((N + 2 : Nat) : Int) := hpre ⟨14, .data⟩ (by simp) rfl (.inl rfl)
            obtain ⟨f, rfl⟩ := fixG f 10 _ e10
            rw [updV_ne _ _ (by decide)] at e14
            obtain ⟨f, rfl⟩ := fixG f 14 _ e14
            clear e10 e14
            refine wpOp_step rfl fun K' hK' => ?_
            simp only [putL, updV]
            go_simp
            go_at_call 7
            refine (next_any T ((N + 2 : Nat) : Int) u hB.1.tp (by omega)).mono ?_
            rintro e u5 ⟨r5, rfl, h50, h51, ht5, hg5, hs5⟩
            have hs6 := stp_tapeS hB.1.tp hg5
            have hz := hK' _ _ (hK (.int .i64 r5) (u5) (⟨hB.1.step ht5 hg5, hB.2.1.stp hs6 (by decide), hB.2.2.stp hs6 (by decide)⟩) (pcR_t hs6) (⟨r5, rfl, h50, by omega⟩))
            refine Eq.mp (congrArg (fun act => K' act (u5)) ?_) hz
            kernel_rfl
          | 16, ho, hG, hpre, hK =>
            obtain rfl := Option.some.inj ho
            obtain ⟨r15, e15, l15, m15⟩ : ∃ r : Int, f 15 = .int .i64 r ∧ 0 ≤ r ∧ r ≤ N + 2 := hpre ⟨15, .data⟩ (by simp) rfl (.inl rfl)
            obtain ⟨f, rfl⟩ := fixG f 15 _ e15
            clear e15
            refine wpOp_step rfl fun K' hK' => ?_
            simp only [putL, updV]
            go_simp
            have hz := hK' _ _ (hK (.int .i64 (IntKind.i64.wrap (r15 - 1))) (u) (hB) (pcR_of (Below.refl _ _) (by decide) (by decide) (by decide)) (⟨_, rfl⟩))
            refine Eq.mp (congrArg (fun act => K' act (u)) ?_) hz
            kernel_rfl
          | 17, ho, hG, hpre, hK =>
            obtain rfl := Option.some.inj ho
            have hb := fun r => (Below.refl u.heap.size u).alloc (Nat.le_refl _) (.cells #[.int .i64 r] 3)
            obtain ⟨r16, e16⟩ : ∃ r : Int, f 16 = .int .i64 r := hpre ⟨16, .data⟩ (by simp) rfl (.inl rfl)
            obtain ⟨f, rfl⟩ := fixG f 16 _ e16
            clear e16
            refine wpOp_step rfl fun K' hK' => ?_
            simp only [putL, updV]
            go_simp
            have hb := hb r16
            have hz := hK' _ _ (hK (.slice (some ⟨u.heap.size, 0, none⟩) 1 1) (u.alloc (.cells #[.int .i64 r16] 3)) (⟨hB.1.below hb, hB.2.1.below hb, hB.2.2.below hb⟩) (pcR_of hb (by decide) (by decide) (by decide)) (⟨r16, _, rfl, Fb.new u _ _⟩))
            refine Eq.mp (congrArg (fun act => K' act (u.alloc (.cells #[.int .i64 r16] 3))) ?_) hz
            kernel_rfl
          | 18, ho, hG, hpre, hK =>
            obtain rfl := Option.some.inj ho
            obtain ⟨g9, q9, e9, o9, z9⟩ : ∃ g q : Nat, f 9 = .slice (some ⟨g, 0, none⟩) yn q ∧ u.ownsRow (w.heap.size + 2) 3 1 (.slice (some ⟨g, 0, none⟩) yn q) yn (ints yl) ∧ (yn = 0 → q = 0) := hpre ⟨9, .data⟩ (by simp) rfl (.inr rfl)
            obtain ⟨r17, g17, e17, q17⟩ : ∃ (r : Int) (g : Nat), f 17 = .slice (some ⟨g, 0, none⟩) 1 1 ∧ Fb u g #[.int .i64 r] 3 := hpre ⟨17, .data⟩ (by simp) rfl (.inr rfl)
            have hbase : w.heap.size + 2 ≤ u.heap.size := hB.1.base
            obtain ⟨f, rfl⟩ := fixG f 9 _ e9
            rw [updV_ne _ _ (by decide)] at e17
            obtain ⟨f, rfl⟩ := fixG f 17 _ e17
            clear e9 e17
            refine wpOp_step rfl fun K' hK' => ?_
            rcases Nat.eq_zero_or_pos yn with h0 | h0
            · have hq := z9 h0
              subst h0
              subst hq
              refine step_grow0 rfl (.tmp 55) (.tmp 63) 22 rfl (w.heap.size + 2) 3 iI _ 1 8 Try.underlying22 HI.out HI0.out HI1.out HI2.out rfl (by decide) g9 (by kernel_rfl) ⟨g17, 0, none⟩ 1 1 [.int .i64 r17] (by kernel_rfl) rfl (fun j x hx => World.news_of_block q17 j x hx) (by simp [Value.oneCell']) (by omega) (by unfold maxLen; omega) (by omega) hbase ?_
              intro g8 q8 w8 hown hb
              have hz := hK' _ _ (hK (.slice (some ⟨g8, 0, none⟩) 1 q8) w8 (⟨hB.1.below hb, hB.2.1.below hb, hB.2.2.below hb⟩) (pcR_of3 hb) (⟨[r17], g8, 1, q8, rfl, hown, rfl, by omega⟩))
              refine Eq.mp (congrArg (fun act => K' act w8) ?_) hz
              kernel_rfl
            · refine step_append_lies _ rfl (.tmp 55) (.tmp 63) 22 rfl (w.heap.size + 2) 3 iI _ 1 8 Try.underlying22 HI.out HI0.out HI1.out HI2.out rfl (by decide) (.slice (some ⟨g9, 0, none⟩) yn q9) yn (ints yl) (by kernel_rfl) o9 ⟨g17, 0, none⟩ 1 1 [.int .i64 r17] (by kernel_rfl) rfl (fun j x hx => World.news_of_block q17 j x hx) (by simp [Value.oneCell']) (by omega) (by unfold maxLen; omega) (by omega) hbase _ rfl ?_
              intro g8 q8 w8 hown hgr hat _
              have hgr : u.grownBy w8 (some g9) := hgr
              have hty := own_typ o9 (g := g9) rfl
              have hge := (o9.lt g9 rfl).1
              have hs : Stp1 3 u w8 := ⟨_, hgr, fun k e => by obtain rfl := Option.some.inj e; exact hty⟩
              have hz := hK' _ _ (hK (.slice (some ⟨g8, 0, none⟩) (yn + 1) q8) w8 ⟨hB.1.other hgr hge (fun e => hty.ne (e ▸ hB.1.bx.typ) (by decide) rfl), hB.2.1.stp hs (by decide), hB.2.2.stp hs (by decide)⟩ (pcR_i hgr (own_size o9 h0)) (⟨yl ++ [r17], g8, yn + 1, q8, rfl, by rw [ints_appS]; exact hown, by rw [List.length_append, Hyl.out]; rfl, Nat.le_refl _⟩))
              refine Eq.mp (congrArg (fun act => K' act w8) ?_) hz
              kernel_rfl
          | 19, ho, hG, hpre, hK =>
            obtain rfl := Option.some.inj ho
            have k0 : (0 : Int) ≤ i := by omega
            have k1 : (i : Int) < N := by omega
            have k2 : (i : Int).toNat = i := by omega
            have e1 : f 1 = .slice (some ⟨gD, 0, none⟩) N qD := hpre ⟨1, .data⟩ (by simp) rfl (.inl rfl)
            have e2 : f 2 = .int .i64 (i : Int) := hpre ⟨2, .data⟩ (by simp) rfl (.inl rfl)
            obtain ⟨f, rfl⟩ := fixG f 1 _ e1
            rw [updV_ne _ _ (by decide)] at e2
            obtain ⟨f, rfl⟩ := fixG f 2 _ e2
            clear e1 e2
            refine wpOp_step rfl fun K' hK' => ?_
            simp only [putL, updV]
            go_simp
            have hz := hK' _ _ (hK (.pointer (some ⟨gD, i, none⟩)) (u) (hB) (pcR_of (Below.refl _ _) (by decide) (by decide) (by decide)) (rfl))
            refine Eq.mp (congrArg (fun act => K' act (u)) ?_) hz
            kernel_rfl
          | 20, ho, hG, hpre, hK =>
            obtain rfl := Option.some.inj ho
            have e19 : f 19 = .pointer (some ⟨gD, i, none⟩) := hpre ⟨19, .data⟩ (by simp) rfl (.inl rfl)
            obtain ⟨l8, g8, n8, q8, e18, o8, l8n, l8m⟩ : ∃ (l : List Int) (g n q : Nat), f 18 = .slice (some ⟨g, 0, none⟩) n q ∧ u.ownsRow (w.heap.size + 2) 3 1 (.slice (some ⟨g, 0, none⟩) n q) n (ints l) ∧ l.length = n ∧ n ≤ yn + 1 := hpre ⟨18, .data⟩ (by simp) rfl (.inl rfl)
            have hX := hG (.inr rfl)
            have y0 := Hel.out u hX
            have f0 := hX.frozen i
            have hl := hX.lt
            have p1 := hX.set i (.slice (some ⟨g8, 0, none⟩) n8 q8) Hil.out
            rw [show (lD.flatMap lhc).set i (.slice (some ⟨g8, 0, none⟩) n8 q8) = (lD.set i ⟨some ⟨g8, 0, none⟩, n8, q8, l8⟩).flatMap lhc from flat_setD ⟨some ⟨g8, 0, none⟩, n8, q8, l8⟩] at p1
            have hgr : u.grownBy (u.setCell ⟨gD, i, none⟩ (.slice (some ⟨g8, 0, none⟩) n8 q8)) (some gD) := grown_set u gD rfl _
            have hs : Stp1 22 u (u.setCell ⟨gD, i, none⟩ (.slice (some ⟨g8, 0, none⟩) n8 q8)) := ⟨_, hgr, fun k e => by obtain rfl := Option.some.inj e; exact hX.typ⟩
            have hB2 : Spb w T b #[.int .i64 (v : Int), .slice (some ⟨gD, 0, none⟩) N qD, .slice (some ⟨gT, 0, none⟩) N qT, .slice (some ⟨gB, 0, none⟩) N qB] (u.setCell ⟨gD, i, none⟩ (.slice (some ⟨g8, 0, none⟩) n8 q8)) ∧ XRow (u.setCell ⟨gD, i, none⟩ (.slice (some ⟨g8, 0, none⟩) n8 q8)) gT 51 (lT.flatMap FH.cells) ∧ XRow (u.setCell ⟨gD, i, none⟩ (.slice (some ⟨g8, 0, none⟩) n8 q8)) gB 47 (lB.flatMap ZH.cs) := ⟨hB.1.other hgr Hge.out (fun e => hX.typ.ne (e ▸ hB.1.bx.typ) (by decide) rfl), hB.2.1.stp hs (by decide), hB.2.2.stp hs (by decide)⟩
            have hYo : RHok (u.setCell ⟨gD, i, none⟩ (.slice (some ⟨g8, 0, none⟩) n8 q8)) [some (w.heap.size + 1)] ⟨some ⟨g8, 0, none⟩, n8, q8, l8⟩ := ⟨EAt.own (hs.own o8 (by decide)) (fun g hg hm => by have := (o8.lt g hg).1; simp at hm; omega), l8n, by show n8 ≤ 9223372036854775807; omega⟩
            obtain ⟨f, rfl⟩ := fixG f 19 _ e19
            rw [updV_ne _ _ (by decide)] at e18
            obtain ⟨f, rfl⟩ := fixG f 18 _ e18
            clear e19 e18
            refine wpOp_step rfl fun K' hK' => ?_
            simp only [putL, updV]
            go_simp
            have hz := hK' _ _ (hK (undef) (u.setCell ⟨gD, i, none⟩ (.slice (some ⟨g8, 0, none⟩) n8 q8)) hB2 (pcR_w hs) (⟨_, p1, hYo⟩))
            refine Eq.mp (congrArg (fun act => K' act (u.setCell ⟨gD, i, none⟩ (.slice (some ⟨g8, 0, none⟩) n8 q8))) ?_) hz
            kernel_rfl
          | j + 21, ho, hG, hpre, hK => exact absurd hi (by omega)
        case en =>
          intro Q2 hQ2 f u hB hF
          obtain ⟨y, x1, x2⟩ : ∃ y : RH, XRow u gD 22 ((lD.set i y).flatMap lhc) ∧ RHok u [some (w.heap.size + 1)] y := hF 20 (by decide) rfl
          have HE1 := hid hB
          have HE2 := hid x1
          have HE3 := hid x2
          clear hF
          show wpAny _ _ _ _ 0 (tailArr 21 21) _ _
          refine ⟨by kernel_rfl, hQ2 _ _ (hKx _ _ ?_)⟩
          simp only [putL, updV]
          clear x1 x2 hB HB HX
          obtain ⟨y2, HE4⟩ : ∃ y2 : RH, Hid (XRow u gD 22 ((lD.set i y2).flatMap lhc) ∧ RHok u [some (w.heap.size + 1)] y2) := ⟨_, hid ⟨HE2.out, HE3.out⟩⟩
          have HPf := hid HE1.out.1
          have Hq := hid (show SYok u [some (w.heap.size + 1)] ⟨(v : Int), ⟨some ⟨gD, 0, none⟩, N, qD, lD.set i y2⟩, ⟨some ⟨gT, 0, none⟩, N, qT, lT⟩, ⟨some ⟨gB, 0, none⟩, N, qB, lB⟩⟩ from ⟨lh_of HE4.out.1 HgD.out (by rw [List.length_set]; exact Hlen.out.1) (by omega) (all_set (HSY.out _ _ _ HPf.out).d.all HE4.out.2 i), fl_of (HE1.out.2.1) HgT.out Hlen.out.2.1 (by omega) (HSY.out _ _ _ HPf.out).t.all, zl_of (HE1.out.2.2) HgB.out Hlen.out.2.2 (by omega) (HSY.out _ _ _ HPf.out).b.all⟩)
          clear HE1 HE2 HE3 HE4
          obtain ⟨b0, b1, b2, b3⟩ := (show Fb u b #[.int .i64 (v : Int), .slice (some ⟨gD, 0, none⟩) N qD, .slice (some ⟨gT, 0, none⟩) N qT, .slice (some ⟨gB, 0, none⟩) N qB] 27 from HPf.out.bx).four
          obtain ⟨r0, r1, r2, r3⟩ := (show Fb u (w.heap.size + 1) #[.int .i64 0, .slice none 0 0, .slice none 0 0, .slice none 0 0] 27 from HPf.out.rx).four
          have f0 := HPf.out.rx.frozen 0
          have f1 := HPf.out.rx.frozen 1
          have f2 := HPf.out.rx.frozen 2
          have f3 := HPf.out.rx.frozen 3
          have hlr := HPf.out.rx.lt
          have hlb := HPf.out.bx.lt
          have Hfin := hid (Spb.fin (q := ⟨(v : Int), ⟨some ⟨gD, 0, none⟩, N, qD, lD.set i y2⟩, ⟨some ⟨gT, 0, none⟩, N, qT, lT⟩, ⟨some ⟨gB, 0, none⟩, N, qB, lB⟩⟩) HPf.out Hq.out)
          clear HPf Hq
          go_wp2_with fail
          refine bodyPost_ret (v := .agg #[.int .i64 (v : Int), .slice (some ⟨gD, 0, none⟩) N qD, .slice (some ⟨gT, 0, none⟩) N qT, .slice (some ⟨gB, 0, none⟩) N qB]) (by simp [results, Try.results10, go_sem, b0, b1, b2, b3, r0, r1, r2, r3]) rfl ?_
          exact Hfin.out
      · have t1 : (r == 1) = false := by simp [q1]
        by_cases q2 : r = 2
        · have t2 : (r == 2) = true := by simp [q2]
          clear q2
          obtain ⟨y, hy⟩ : ∃ y, lT[i]? = some y := ⟨_, List.getElem?_eq_getElem (by have : lT.length = N := Hlen.out.2.1; omega)⟩
          have hym := List.mem_of_getElem? hy
          obtain ⟨hfo, hk12, ⟨g1, hA1⟩, ⟨g2, hA2⟩, hn1, hm1⟩ := HokT.out y hym
          have hw1 := hfo.w1
          have hw2 := hfo.w2
          obtain ⟨⟨W1, A1, n1, c1, gs⟩, ⟨W2, A2, m1, d1, ks⟩, C, k, q, cs⟩ := y
          simp only at hA1 hA2 hn1 hm1 hw1 hw2 hk12
          subst hA1 hA2 hw1 hw2
          have hn50 : n1 ≤ 50 := by rw [hn1]; unfold Bs.nw; omega
          have hm50 : m1 ≤ 50 := by rw [hm1]; unfold Bs.nw; omega
          clear hn1 hm1 hfo
          have HSP := hid (fun (u : World) (hp : Spb w T b #[.int .i64 (v : Int), .slice (some ⟨gD, 0, none⟩) N qD, .slice (some ⟨gT, 0, none⟩) N qT, .slice (some ⟨gB, 0, none⟩) N qB] u) => spoilT_any T v g1 g2 n1 c1 m1 d1 k q C gs ks cs u hp.tp ((HSY.out _ _ _ hp).t.all _ hym).g.arg ((HSY.out _ _ _ hp).t.all _ hym).k.arg ((HSY.out _ _ _ hp).t.all _ hym).arg.3 hk12 (by omega) hn50 hm50)
          have Hel := hid (fun (u : World) (hx : XRow u gT 51 (lT.flatMap FH.cells)) => show u.cell? ⟨gT, i * 5, none⟩ = some (.int .i64 (v : Int)) ∧ u.cell? ⟨gT, i * 5 + 1, none⟩ = some (.slice (some ⟨g1, 0, none⟩) n1 c1) ∧ u.cell? ⟨gT, i * 5 + 2, none⟩ = some (.int .i64 (v : Int)) ∧ u.cell? ⟨gT, i * 5 + 3, none⟩ = some (.slice (some ⟨g2, 0, none⟩) m1 d1) ∧ u.cell? ⟨gT, i * 5 + 4, none⟩ = some (.slice C k q) from
            ⟨hx.cell (flat_cell FH.cells_len hy (j := 0) (by decide)), hx.cell (flat_cell FH.cells_len hy (j := 1) (by decide)), hx.cell (flat_cell FH.cells_len hy (j := 2) (by decide)), hx.cell (flat_cell FH.cells_len hy (j := 3) (by decide)), hx.cell (flat_cell FH.cells_len hy (j := 4) (by decide))⟩)
          have Hil := hid (show i < lT.length from by have : lT.length = N := Hlen.out.2.1; omega)
          have Hge := HgT
          have HB := hid (And.intro HP.out (And.intro HXD.out HXB.out))
          have HX := HXT
          clear hy hym HP HOD HOT HOB HXD HXT HXB hn50 hm50 hk12
          go_upto_region 10 with fail
          rename_i Kx hKx
          refine wp_region_factsI (fun j u => (j = 8 ∨ j = 9 ∨ j = 11) → XRow u gT 51 (lT.flatMap FH.cells)) (paF w T b v N gD qD gT qT gB qB i lD lT lB (.agg #[.int .i64 (v : Int), .slice (some ⟨g1, 0, none⟩) n1 c1, .int .i64 (v : Int), .slice (some ⟨g2, 0, none⟩) m1 d1, .slice C k q])) (fun u => Spb w T b #[.int .i64 (v : Int), .slice (some ⟨gD, 0, none⟩) N qD, .slice (some ⟨gT, 0, none⟩) N qT, .slice (some ⟨gB, 0, none⟩) N qB] u ∧ XRow u gD 22 (lD.flatMap lhc) ∧ XRow u gB 47 (lB.flatMap ZH.cs)) paU (paR ) Kx (fun _ _ h => h) 12 12 (some 68 :: some 69 :: some 70 :: some 71 :: some 72 :: some 73 :: some 74 :: some 75 :: some 76 :: some 77 :: some 78 :: none :: []) (by kernel_rfl) (by kernel_rfl) (by kernel_rfl) (by kernel_rfl) (by kernel_rfl) (by kernel_rfl) (by decide)
            (paF_st (fun j h e => by subst e; exact Bool.false_ne_true (h.symm.trans (by kernel_rfl)))) ?bs ?gb ?gs ?ar ?en
          case bs => exact ⟨HB.out.1.below (Below.refl _ _).drew, HB.out.2.1.below (Below.refl _ _).drew, HB.out.2.2.below (Below.refl _ _).drew⟩
          case gb =>
            exact fun c _ => HX.out.below (Below.refl _ _).drew
          case gs =>
            intro j u u' c hR hne hnr hG hc
            refine paR_row hR (hG hc) ?_ (by decide)
            rintro rfl
            rcases hc with rfl | rfl | rfl
            · exact Bool.false_ne_true (hnr.symm.trans (by kernel_rfl))
            · exact Bool.false_ne_true (hnr.symm.trans (by kernel_rfl))
            · exact hne rfl
          case ar =>
            intro j o f u ho hi hB hG hpre K hK
            match j, ho, hG, hpre, hK with
            | 0, ho, hG, hpre, hK =>
              obtain rfl := Option.some.inj ho
              refine wpOp_step rfl fun K' hK' => ?_
              simp only [putL, updV]
              go_simp
              have hz := hK' _ _ (hK (.pointer (some ⟨b, 2, none⟩)) (u) (hB) (paR_of (Below.refl _ _) (by decide) (by decide)) (rfl))
              refine Eq.mp (congrArg (fun act => K' act (u)) ?_) hz
              kernel_rfl
            | 1, ho, hG, hpre, hK =>
              obtain rfl := Option.some.inj ho
              obtain ⟨c0, c1, c2, c3⟩ := (show Fb u b #[.int .i64 (v : Int), .slice (some ⟨gD, 0, none⟩) N qD, .slice (some ⟨gT, 0, none⟩) N qT, .slice (some ⟨gB, 0, none⟩) N qB] 27 from hB.1.bx).four
              have hlt := hB.1.bx.lt
              have e0 : f 0 = .pointer (some ⟨b, 2, none⟩) := hpre ⟨0, .data⟩ (by simp) rfl (.inl rfl)
              obtain ⟨f, rfl⟩ := fixG f 0 _ e0
              clear e0
              refine wpOp_step rfl fun K' hK' => ?_
              simp only [putL, updV]
              go_simp
              have hz := hK' _ _ (hK (.slice (some ⟨gT, 0, none⟩) N qT) (u) (hB) (paR_of (Below.refl _ _) (by decide) (by decide)) (rfl))
              refine Eq.mp (congrArg (fun act => K' act (u)) ?_) hz
              kernel_rfl
            | 2, ho, hG, hpre, hK =>
              obtain rfl := Option.some.inj ho
              refine wpOp_step rfl fun K' hK' => ?_
              simp only [putL, updV]
              go_simp
              have hz := hK' _ _ (hK (.int .i64 (i : Int)) (u) (hB) (paR_of (Below.refl _ _) (by decide) (by decide)) (rfl))
              refine Eq.mp (congrArg (fun act => K' act (u)) ?_) hz
              kernel_rfl
            | 3, ho, hG, hpre, hK =>
              obtain rfl := Option.some.inj ho
              refine wpOp_step rfl fun K' hK' => ?_
              simp only [putL, updV]
              go_simp
              have hz := hK' _ _ (hK (.pointer (some ⟨T, 0, none⟩)) (u) (hB) (paR_of (Below.refl _ _) (by decide) (by decide)) (rfl))
              refine Eq.mp (congrArg (fun act => K' act (u)) ?_) hz
              kernel_rfl
            | 4, ho, hG, hpre, hK =>
              obtain rfl := Option.some.inj ho
              refine wpOp_step rfl fun K' hK' => ?_
              simp only [putL, updV]
              go_simp
              have hz := hK' _ _ (hK (.pointer (some ⟨b, 2, none⟩)) (u) (hB) (paR_of (Below.refl _ _) (by decide) (by decide)) (rfl))
              refine Eq.mp (congrArg (fun act => K' act (u)) ?_) hz
              kernel_rfl
            | 5, ho, hG, hpre, hK =>
              obtain rfl := Option.some.inj ho
              obtain ⟨c0, c1, c2, c3⟩ := (show Fb u b #[.int .i64 (v : Int), .slice (some ⟨gD, 0, none⟩) N qD, .slice (some ⟨gT, 0, none⟩) N qT, .slice (some ⟨gB, 0, none⟩) N qB] 27 from hB.1.bx).four
              have hlt := hB.1.bx.lt
              have e4 : f 4 = .pointer (some ⟨b, 2, none⟩) := hpre ⟨4, .data⟩ (by simp) rfl (.inl rfl)
              obtain ⟨f, rfl⟩ := fixG f 4 _ e4
              clear e4
              refine wpOp_step rfl fun K' hK' => ?_
              simp only [putL, updV]
              go_simp
              have hz := hK' _ _ (hK (.slice (some ⟨gT, 0, none⟩) N qT) (u) (hB) (paR_of (Below.refl _ _) (by decide) (by decide)) (rfl))
              refine Eq.mp (congrArg (fun act => K' act (u)) ?_) hz
              kernel_rfl
            | 6, ho, hG, hpre, hK =>
              obtain rfl := Option.some.inj ho
              refine wpOp_step rfl fun K' hK' => ?_
              simp only [putL, updV]
              go_simp
              have hz := hK' _ _ (hK (.int .i64 (i : Int)) (u) (hB) (paR_of (Below.refl _ _) (by decide) (by decide)) (rfl))
              refine Eq.mp (congrArg (fun act => K' act (u)) ?_) hz
              kernel_rfl
            | 7, ho, hG, hpre, hK =>
              obtain rfl := Option.some.inj ho
              have k0 : (0 : Int) ≤ i := by omega
              have k1 : (i : Int) < N := by omega
              have k2 : (i : Int).toNat = i := by omega
              have e5 : f 5 = .slice (some ⟨gT, 0, none⟩) N qT := hpre ⟨5, .data⟩ (by simp) rfl (.inl rfl)
              have e6 : f 6 = .int .i64 (i : Int) := hpre ⟨6, .data⟩ (by simp) rfl (.inl rfl)
              obtain ⟨f, rfl⟩ := fixG f 5 _ e5
              rw [updV_ne _ _ (by decide)] at e6
              obtain ⟨f, rfl⟩ := fixG f 6 _ e6
              clear e5 e6
              refine wpOp_step rfl fun K' hK' => ?_
              simp only [putL, updV]
              go_simp
              have hz := hK' _ _ (hK (.pointer (some ⟨gT, i * 5, none⟩)) (u) (hB) (paR_of (Below.refl _ _) (by decide) (by decide)) (rfl))
              refine Eq.mp (congrArg (fun act => K' act (u)) ?_) hz
              kernel_rfl
            | 8, ho, hG, hpre, hK =>
              obtain rfl := Option.some.inj ho
              obtain ⟨y0, y1, y2, y3, y4⟩ := Hel.out u (hG (.inl rfl))
              have hl := (hG (.inl rfl)).lt
              have e7 : f 7 = .pointer (some ⟨gT, i * 5, none⟩) := hpre ⟨7, .data⟩ (by simp) rfl (.inl rfl)
              obtain ⟨f, rfl⟩ := fixG f 7 _ e7
              clear e7
              refine wpOp_step rfl fun K' hK' => ?_
              simp only [putL, updV]
              go_simp
              have hz := hK' _ _ (hK ((.agg #[.int .i64 (v : Int), .slice (some ⟨g1, 0, none⟩) n1 c1, .int .i64 (v : Int), .slice (some ⟨g2, 0, none⟩) m1 d1, .slice C k q])) (u) (hB) (paR_of (Below.refl _ _) (by decide) (by decide)) (rfl))
              refine Eq.mp (congrArg (fun act => K' act (u)) ?_) hz
              kernel_rfl
            | 9, ho, hG, hpre, hK =>
              obtain rfl := Option.some.inj ho
              have hgT := (hG (.inr (.inl rfl))).lt
              have hbs := hB.1.base
              have e3 : f 3 = .pointer (some ⟨T, 0, none⟩) := hpre ⟨3, .data⟩ (by simp) rfl (.inl rfl)
              have e8 : f 8 = (.agg #[.int .i64 (v : Int), .slice (some ⟨g1, 0, none⟩) n1 c1, .int .i64 (v : Int), .slice (some ⟨g2, 0, none⟩) m1 d1, .slice C k q]) := hpre ⟨8, .data⟩ (by simp) rfl (.inl rfl)
              obtain ⟨f, rfl⟩ := fixG f 3 _ e3
              rw [updV_ne _ _ (by decide)] at e8
              obtain ⟨f, rfl⟩ := fixG f 8 _ e8
              clear e3 e8
              refine wpOp_step rfl fun K' hK' => ?_
              simp only [putL, updV]
              go_simp
              go_at_call 26
              refine (HSP.out u hB.1).mono ?_
              rintro e u5 ⟨W', V', A', n', c', B', m', d', C', k', q', gs', ks', cs', rfl, hF, ht5, hg5, ho5⟩
              have hs5 := stp_tapeS hB.1.tp hg5
              have hz := hK' _ _ (hK (.agg #[.int .i64 W', .slice A' n' c', .int .i64 V', .slice B' m' d', .slice C' k' q']) (u5) (⟨hB.1.step ht5 hg5, hB.2.1.stp hs5 (by decide), hB.2.2.stp hs5 (by decide)⟩) (paR_t hs5) (⟨⟨⟨W', A', n', c', gs'⟩, ⟨V', B', m', d', ks'⟩, C', k', q', cs'⟩, _, rfl, hF.1, hF.2, ho5, hF.3.len, by omega, by omega⟩))
              refine Eq.mp (congrArg (fun act => K' act (u5)) ?_) hz
              kernel_rfl
            | 10, ho, hG, hpre, hK =>
              obtain rfl := Option.some.inj ho
              have k0 : (0 : Int) ≤ i := by omega
              have k1 : (i : Int) < N := by omega
              have k2 : (i : Int).toNat = i := by omega
              have e1 : f 1 = .slice (some ⟨gT, 0, none⟩) N qT := hpre ⟨1, .data⟩ (by simp) rfl (.inl rfl)
              have e2 : f 2 = .int .i64 (i : Int) := hpre ⟨2, .data⟩ (by simp) rfl (.inl rfl)
              obtain ⟨f, rfl⟩ := fixG f 1 _ e1
              rw [updV_ne _ _ (by decide)] at e2
              obtain ⟨f, rfl⟩ := fixG f 2 _ e2
              clear e1 e2
              refine wpOp_step rfl fun K' hK' => ?_
              simp only [putL, updV]
              go_simp
              have hz := hK' _ _ (hK (.pointer (some ⟨gT, i * 5, none⟩)) (u) (hB) (paR_of (Below.refl _ _) (by decide) (by decide)) (rfl))
              refine Eq.mp (congrArg (fun act => K' act (u)) ?_) hz
              kernel_rfl
            | 11, ho, hG, hpre, hK =>
              obtain rfl := Option.some.inj ho
              have e10 : f 10 = .pointer (some ⟨gT, i * 5, none⟩) := hpre ⟨10, .data⟩ (by simp) rfl (.inl rfl)
              obtain ⟨F, b0, e9, a1, a2, a3, a4, a5, a6⟩ : ∃ (F : FH) (b0 : Nat), f 9 = .agg #[.int .i64 F.G.W, .slice F.G.A F.G.n F.G.c, .int .i64 F.K.W, .slice F.K.A F.K.n F.K.c, .slice F.C F.k F.q] ∧ Arg u F.G.A F.G.n F.G.ws ∧ Arg u F.K.A F.K.n F.K.ws ∧ u.ownsRow b0 62 2 (.slice F.C F.k F.q) F.k (pairs F.cs) ∧ F.cs.length = F.k ∧ gT < b0 ∧ w.heap.size + 1 < b0 := hpre ⟨9, .data⟩ (by simp) rfl (.inr rfl)
              have hX := hG (.inr (.inr rfl))
              obtain ⟨y0, y1, y2, y3, y4⟩ := Hel.out u hX
              have f0 := hX.frozen (i * 5)
              have f1 := hX.frozen (i * 5 + 1)
              have f2 := hX.frozen (i * 5 + 2)
              have f3 := hX.frozen (i * 5 + 3)
              have f4 := hX.frozen (i * 5 + 4)
              have hl := hX.lt
              obtain ⟨p1, p2⟩ := hX.puF Hil.out F
              have hgr := put5_grown u gT (i * 5) F
              have hs : Stp1 51 u (puF u gT (i * 5) F) := ⟨_, hgr, fun k e => by obtain rfl := Option.some.inj e; exact hX.typ⟩
              have hB2 : Spb w T b #[.int .i64 (v : Int), .slice (some ⟨gD, 0, none⟩) N qD, .slice (some ⟨gT, 0, none⟩) N qT, .slice (some ⟨gB, 0, none⟩) N qB] (puF u gT (i * 5) F) ∧ XRow (puF u gT (i * 5) F) gD 22 (lD.flatMap lhc) ∧ XRow (puF u gT (i * 5) F) gB 47 (lB.flatMap ZH.cs) := ⟨hB.1.other hgr Hge.out (fun e => hX.typ.ne (e ▸ hB.1.bx.typ) (by decide) rfl), hB.2.1.stp hs (by decide), hB.2.2.stp hs (by decide)⟩
              have hFo := fh_fin (w := w) (p2 _ _ _ a1) (p2 _ _ _ a2) (a3.kept hgr (own_row' a3 a5)) a4 a6 hB2.1.rx
              obtain ⟨f, rfl⟩ := fixG f 10 _ e10
              rw [updV_ne _ _ (by decide)] at e9
              obtain ⟨f, rfl⟩ := fixG f 9 _ e9
              clear e10 e9
              refine wpOp_step rfl fun K' hK' => ?_
              simp only [putL, updV]
              unfold puF at *
              go_simp
              have hz := hK' _ _ (hK (undef) (((((u.setCell ⟨gT, i * 5, none⟩ (.int .i64 F.G.W)).setCell ⟨gT, i * 5 + 1, none⟩ (.slice F.G.A F.G.n F.G.c)).setCell ⟨gT, i * 5 + 2, none⟩ (.int .i64 F.K.W)).setCell ⟨gT, i * 5 + 3, none⟩ (.slice F.K.A F.K.n F.K.c)).setCell ⟨gT, i * 5 + 4, none⟩ (.slice F.C F.k F.q)) hB2 (paR_w hs) (⟨F, p1, hFo⟩))
              refine Eq.mp (congrArg (fun act => K' act (((((u.setCell ⟨gT, i * 5, none⟩ (.int .i64 F.G.W)).setCell ⟨gT, i * 5 + 1, none⟩ (.slice F.G.A F.G.n F.G.c)).setCell ⟨gT, i * 5 + 2, none⟩ (.int .i64 F.K.W)).setCell ⟨gT, i * 5 + 3, none⟩ (.slice F.K.A F.K.n F.K.c)).setCell ⟨gT, i * 5 + 4, none⟩ (.slice F.C F.k F.q))) ?_) hz
              kernel_rfl
            | j + 12, ho, hG, hpre, hK => exact absurd hi (by omega)
          case en =>
            intro Q2 hQ2 f u hB hF
            obtain ⟨F, x1, x2⟩ : ∃ F : FH, XRow u gT 51 ((lT.set i F).flatMap FH.cells) ∧ FHok u [some (w.heap.size + 1)] F := hF 11 (by decide) rfl
            have HE1 := hid hB
            have HE2 := hid x1
            have HE3 := hid x2
            clear hF
            show wpAny _ _ _ _ 0 (tailArr 12 12) _ _
            refine ⟨by kernel_rfl, hQ2 _ _ (hKx _ _ ?_)⟩
            simp only [putL, updV]
            clear x1 x2 hB HB HX
            obtain ⟨y2, HE4⟩ : ∃ y2 : FH, Hid (XRow u gT 51 ((lT.set i y2).flatMap FH.cells) ∧ FHok u [some (w.heap.size + 1)] y2) := ⟨_, hid ⟨HE2.out, HE3.out⟩⟩
            have HPf := hid HE1.out.1
            have Hq := hid (show SYok u [some (w.heap.size + 1)] ⟨(v : Int), ⟨some ⟨gD, 0, none⟩, N, qD, lD⟩, ⟨some ⟨gT, 0, none⟩, N, qT, lT.set i y2⟩, ⟨some ⟨gB, 0, none⟩, N, qB, lB⟩⟩ from ⟨lh_of (HE1.out.2.1) HgD.out Hlen.out.1 (by omega) (HSY.out _ _ _ HPf.out).d.all, fl_of HE4.out.1 HgT.out (by rw [List.length_set]; exact Hlen.out.2.1) (by omega) (all_set (HSY.out _ _ _ HPf.out).t.all HE4.out.2 i), zl_of (HE1.out.2.2) HgB.out Hlen.out.2.2 (by omega) (HSY.out _ _ _ HPf.out).b.all⟩)
            clear HE1 HE2 HE3 HE4
            obtain ⟨b0, b1, b2, b3⟩ := (show Fb u b #[.int .i64 (v : Int), .slice (some ⟨gD, 0, none⟩) N qD, .slice (some ⟨gT, 0, none⟩) N qT, .slice (some ⟨gB, 0, none⟩) N qB] 27 from HPf.out.bx).four
            obtain ⟨r0, r1, r2, r3⟩ := (show Fb u (w.heap.size + 1) #[.int .i64 0, .slice none 0 0, .slice none 0 0, .slice none 0 0] 27 from HPf.out.rx).four
            have f0 := HPf.out.rx.frozen 0
            have f1 := HPf.out.rx.frozen 1
            have f2 := HPf.out.rx.frozen 2
            have f3 := HPf.out.rx.frozen 3
            have hlr := HPf.out.rx.lt
            have hlb := HPf.out.bx.lt
            have Hfin := hid (Spb.fin (q := ⟨(v : Int), ⟨some ⟨gD, 0, none⟩, N, qD, lD⟩, ⟨some ⟨gT, 0, none⟩, N, qT, lT.set i y2⟩, ⟨some ⟨gB, 0, none⟩, N, qB, lB⟩⟩) HPf.out Hq.out)
            clear HPf Hq
            go_wp2_with fail
            refine bodyPost_ret (v := .agg #[.int .i64 (v : Int), .slice (some ⟨gD, 0, none⟩) N qD, .slice (some ⟨gT, 0, none⟩) N qT, .slice (some ⟨gB, 0, none⟩) N qB]) (by simp [results, Try.results10, go_sem, b0, b1, b2, b3, r0, r1, r2, r3]) rfl ?_
            exact Hfin.out
        · have t2 : (r == 2) = false := by simp [q2]
          by_cases q3 : r = 3
          · have t3 : (r == 3) = true := by simp [q3]
            clear q3
            obtain ⟨y, hy⟩ : ∃ y, lB[i]? = some y := ⟨_, List.getElem?_eq_getElem (by have : lB.length = N := Hlen.out.2.2; omega)⟩
            have hym := List.mem_of_getElem? hy
            obtain ⟨hw1, hfit, ⟨g1, hA1⟩⟩ := HokB.out y hym
            have hn1 := ((HSY.out _ _ _ HP.out).b.all y hym).len
            rw [hfit.len] at hn1
            obtain ⟨W1, A1, n1, c1, ws⟩ := y
            simp only at hA1 hn1 hw1
            subst hA1 hw1
            have hn50 : n1 ≤ 50 := by rw [← hn1]; unfold Bs.nw; omega
            clear hn1 hfit
            have HSP := hid (fun (u : World) (hp : Spb w T b #[.int .i64 (v : Int), .slice (some ⟨gD, 0, none⟩) N qD, .slice (some ⟨gT, 0, none⟩) N qT, .slice (some ⟨gB, 0, none⟩) N qB] u) => spoil_any T (v : Int) ⟨g1, 0, none⟩ n1 c1 ws u hp.tp ((HSY.out _ _ _ hp).b.all _ hym).arg hn50 (by omega) (by omega))
            have Hel := hid (fun (u : World) (hx : XRow u gB 47 (lB.flatMap ZH.cs)) => show u.cell? ⟨gB, i * 2, none⟩ = some (.int .i64 (v : Int)) ∧ u.cell? ⟨gB, i * 2 + 1, none⟩ = some (.slice (some ⟨g1, 0, none⟩) n1 c1) from
              ⟨hx.cell (flat_cell ZH.cs_len hy (j := 0) (by decide)), hx.cell (flat_cell ZH.cs_len hy (j := 1) (by decide))⟩)
            have Hil := hid (show i < lB.length from by have : lB.length = N := Hlen.out.2.2; omega)
            have Hge := HgB
            have HB := hid (And.intro HP.out (And.intro HXD.out HXT.out))
            have HX := HXB
            clear hy hym HP HOD HOT HOB HXD HXT HXB hn50
            go_upto_region 12 with fail
            rename_i Kx hKx
            refine wp_region_factsI (fun j u => (j = 8 ∨ j = 11) → XRow u gB 47 (lB.flatMap ZH.cs)) (pbF w T b v N gD qD gT qT gB qB i lD lT lB (.agg #[.int .i64 (v : Int), .slice (some ⟨g1, 0, none⟩) n1 c1])) (fun u => Spb w T b #[.int .i64 (v : Int), .slice (some ⟨gD, 0, none⟩) N qD, .slice (some ⟨gT, 0, none⟩) N qT, .slice (some ⟨gB, 0, none⟩) N qB] u ∧ XRow u gD 22 (lD.flatMap lhc) ∧ XRow u gT 51 (lT.flatMap FH.cells)) pbU (pbR ) Kx (fun _ _ h => h) 12 12 (some 81 :: some 82 :: some 83 :: some 84 :: some 85 :: some 86 :: some 87 :: some 88 :: some 89 :: some 90 :: some 91 :: none :: []) (by kernel_rfl) (by kernel_rfl) (by kernel_rfl) (by kernel_rfl) (by kernel_rfl) (by kernel_rfl) (by decide)
              (pbF_st (fun j h e => by subst e; exact Bool.false_ne_true (h.symm.trans (by kernel_rfl)))) ?bs ?gb ?gs ?ar ?en
            case bs => exact ⟨HB.out.1.below (Below.refl _ _).drew, HB.out.2.1.below (Below.refl _ _).drew, HB.out.2.2.below (Below.refl _ _).drew⟩
            case gb =>
              exact fun c _ => HX.out.below (Below.refl _ _).drew
            case gs =>
              intro j u u' c hR hne hnr hG hc
              refine pbR_row hR (hG hc) ?_ (by decide)
              rintro rfl
              rcases hc with rfl | rfl
              · exact Bool.false_ne_true (hnr.symm.trans (by kernel_rfl))
              · exact hne rfl
            case ar =>
              intro j o f u ho hi hB hG hpre K hK
              match j, ho, hG, hpre, hK with
              | 0, ho, hG, hpre, hK =>
                obtain rfl := Option.some.inj ho
                refine wpOp_step rfl fun K' hK' => ?_
                simp only [putL, updV]
                go_simp
                have hz := hK' _ _ (hK (.pointer (some ⟨b, 3, none⟩)) (u) (hB) (pbR_of (Below.refl _ _) (by decide) (by decide)) (rfl))
                refine Eq.mp (congrArg (fun act => K' act (u)) ?_) hz
                kernel_rfl
              | 1, ho, hG, hpre, hK =>
                obtain rfl := Option.some.inj ho
                obtain ⟨c0, c1, c2, c3⟩ := (show Fb u b #[.int .i64 (v : Int), .slice (some ⟨gD, 0, none⟩) N qD, .slice (some ⟨gT, 0, none⟩) N qT, .slice (some ⟨gB, 0, none⟩) N qB] 27 from hB.1.bx).four
                have hlt := hB.1.bx.lt
                have e0 : f 0 = .pointer (some ⟨b, 3, none⟩) := hpre ⟨0, .data⟩ (by simp) rfl (.inl rfl)
                obtain ⟨f, rfl⟩ := fixG f 0 _ e0
                clear e0
                refine wpOp_step rfl fun K' hK' => ?_
                simp only [putL, updV]
                go_simp
                have hz := hK' _ _ (hK (.slice (some ⟨gB, 0, none⟩) N qB) (u) (hB) (pbR_of (Below.refl _ _) (by decide) (by decide)) (rfl))
                refine Eq.mp (congrArg (fun act => K' act (u)) ?_) hz
                kernel_rfl
              | 2, ho, hG, hpre, hK =>
                obtain rfl := Option.some.inj ho
                refine wpOp_step rfl fun K' hK' => ?_
                simp only [putL, updV]
                go_simp
                have hz := hK' _ _ (hK (.int .i64 (i : Int)) (u) (hB) (pbR_of (Below.refl _ _) (by decide) (by decide)) (rfl))
                refine Eq.mp (congrArg (fun act => K' act (u)) ?_) hz
                kernel_rfl
              | 3, ho, hG, hpre, hK =>
                obtain rfl := Option.some.inj ho
                refine wpOp_step rfl fun K' hK' => ?_
                simp only [putL, updV]
                go_simp
                have hz := hK' _ _ (hK (.pointer (some ⟨T, 0, none⟩)) (u) (hB) (pbR_of (Below.refl _ _) (by decide) (by decide)) (rfl))
                refine Eq.mp (congrArg (fun act => K' act (u)) ?_) hz
                kernel_rfl
              | 4, ho, hG, hpre, hK =>
                obtain rfl := Option.some.inj ho
                refine wpOp_step rfl fun K' hK' => ?_
                simp only [putL, updV]
                go_simp
                have hz := hK' _ _ (hK (.pointer (some ⟨b, 3, none⟩)) (u) (hB) (pbR_of (Below.refl _ _) (by decide) (by decide)) (rfl))
                refine Eq.mp (congrArg (fun act => K' act (u)) ?_) hz
                kernel_rfl
              | 5, ho, hG, hpre, hK =>
                obtain rfl := Option.some.inj ho
                obtain ⟨c0, c1, c2, c3⟩ := (show Fb u b #[.int .i64 (v : Int), .slice (some ⟨gD, 0, none⟩) N qD, .slice (some ⟨gT, 0, none⟩) N qT, .slice (some ⟨gB, 0, none⟩) N qB] 27 from hB.1.bx).four
                have hlt := hB.1.bx.lt
                have e4 : f 4 = .pointer (some ⟨b, 3, none⟩) := hpre ⟨4, .data⟩ (by simp) rfl (.inl rfl)
                obtain ⟨f, rfl⟩ := fixG f 4 _ e4
                clear e4
                refine wpOp_step rfl fun K' hK' => ?_
                simp only [putL, updV]
                go_simp
                have hz := hK' _ _ (hK (.slice (some ⟨gB, 0, none⟩) N qB) (u) (hB) (pbR_of (Below.refl _ _) (by decide) (by decide)) (rfl))
                refine Eq.mp (congrArg (fun act => K' act (u)) ?_) hz
                kernel_rfl
              | 6, ho, hG, hpre, hK =>
                obtain rfl := Option.some.inj ho
                refine wpOp_step rfl fun K' hK' => ?_
                simp only [putL, updV]
                go_simp
                have hz := hK' _ _ (hK (.int .i64 (i : Int)) (u) (hB) (pbR_of (Below.refl _ _) (by decide) (by decide)) (rfl))
                refine Eq.mp (congrArg (fun act => K' act (u)) ?_) hz
                kernel_rfl
              | 7, ho, hG, hpre, hK =>
                obtain rfl := Option.some.inj ho
                have k0 : (0 : Int) ≤ i := by omega
                have k1 : (i : Int) < N := by omega
                have k2 : (i : Int).toNat = i := by omega
                have e5 : f 5 = .slice (some ⟨gB, 0, none⟩) N qB := hpre ⟨5, .data⟩ (by simp) rfl (.inl rfl)
                have e6 : f 6 = .int .i64 (i : Int) := hpre ⟨6, .data⟩ (by simp) rfl (.inl rfl)
                obtain ⟨f, rfl⟩ := fixG f 5 _ e5
                rw [updV_ne _ _ (by decide)] at e6
                obtain ⟨f, rfl⟩ := fixG f 6 _ e6
                clear e5 e6
                refine wpOp_step rfl fun K' hK' => ?_
                simp only [putL, updV]
                go_simp
                have hz := hK' _ _ (hK (.pointer (some ⟨gB, i * 2, none⟩)) (u) (hB) (pbR_of (Below.refl _ _) (by decide) (by decide)) (rfl))
                refine Eq.mp (congrArg (fun act => K' act (u)) ?_) hz
                kernel_rfl
              | 8, ho, hG, hpre, hK =>
                obtain rfl := Option.some.inj ho
                obtain ⟨y0, y1⟩ := Hel.out u (hG (.inl rfl))
                have hl := (hG (.inl rfl)).lt
                have e7 : f 7 = .pointer (some ⟨gB, i * 2, none⟩) := hpre ⟨7, .data⟩ (by simp) rfl (.inl rfl)
                obtain ⟨f, rfl⟩ := fixG f 7 _ e7
                clear e7
                refine wpOp_step rfl fun K' hK' => ?_
                simp only [putL, updV]
                go_simp
                have hz := hK' _ _ (hK ((.agg #[.int .i64 (v : Int), .slice (some ⟨g1, 0, none⟩) n1 c1])) (u) (hB) (pbR_of (Below.refl _ _) (by decide) (by decide)) (rfl))
                refine Eq.mp (congrArg (fun act => K' act (u)) ?_) hz
                kernel_rfl
              | 9, ho, hG, hpre, hK =>
                obtain rfl := Option.some.inj ho
                have e3 : f 3 = .pointer (some ⟨T, 0, none⟩) := hpre ⟨3, .data⟩ (by simp) rfl (.inl rfl)
                have e8 : f 8 = (.agg #[.int .i64 (v : Int), .slice (some ⟨g1, 0, none⟩) n1 c1]) := hpre ⟨8, .data⟩ (by simp) rfl (.inl rfl)
                obtain ⟨f, rfl⟩ := fixG f 3 _ e3
                rw [updV_ne _ _ (by decide)] at e8
                obtain ⟨f, rfl⟩ := fixG f 8 _ e8
                clear e3 e8
                refine wpOp_step rfl fun K' hK' => ?_
                simp only [putL, updV]
                go_simp
                go_at_call 27
                refine (HSP.out u hB.1).mono ?_
                rintro e u5 ⟨W', ad', n', c', ws', rfl, -, hF, ht5, hg5⟩
                have hs5 := stp_tapeS hB.1.tp hg5
                have hz := hK' _ _ (hK (.agg #[.int .i64 W', .slice (some ad') n' c']) (u5) (⟨hB.1.step ht5 hg5, hB.2.1.stp hs5 (by decide), hB.2.2.stp hs5 (by decide)⟩) (pbR_t hs5) (⟨⟨W', some ad', n', c', ws'⟩, rfl, hF⟩))
                refine Eq.mp (congrArg (fun act => K' act (u5)) ?_) hz
                kernel_rfl
              | 10, ho, hG, hpre, hK =>
                obtain rfl := Option.some.inj ho
                have k0 : (0 : Int) ≤ i := by omega
                have k1 : (i : Int) < N := by omega
                have k2 : (i : Int).toNat = i := by omega
                have e1 : f 1 = .slice (some ⟨gB, 0, none⟩) N qB := hpre ⟨1, .data⟩ (by simp) rfl (.inl rfl)
                have e2 : f 2 = .int .i64 (i : Int) := hpre ⟨2, .data⟩ (by simp) rfl (.inl rfl)
                obtain ⟨f, rfl⟩ := fixG f 1 _ e1
                rw [updV_ne _ _ (by decide)] at e2
                obtain ⟨f, rfl⟩ := fixG f 2 _ e2
                clear e1 e2
                refine wpOp_step rfl fun K' hK' => ?_
                simp only [putL, updV]
                go_simp
                have hz := hK' _ _ (hK (.pointer (some ⟨gB, i * 2, none⟩)) (u) (hB) (pbR_of (Below.refl _ _) (by decide) (by decide)) (rfl))
                refine Eq.mp (congrArg (fun act => K' act (u)) ?_) hz
                kernel_rfl
              | 11, ho, hG, hpre, hK =>
                obtain rfl := Option.some.inj ho
                have e10 : f 10 = .pointer (some ⟨gB, i * 2, none⟩) := hpre ⟨10, .data⟩ (by simp) rfl (.inl rfl)
                obtain ⟨Z, e9, a1⟩ : ∃ Z : ZH, f 9 = .agg #[.int .i64 Z.W, .slice Z.A Z.n Z.c] ∧ Arg u Z.A Z.n Z.ws := hpre ⟨9, .data⟩ (by simp) rfl (.inr rfl)
                have hX := hG (.inr rfl)
                obtain ⟨y0, y1⟩ := Hel.out u hX
                have f0 := hX.frozen (i * 2)
                have f1 := hX.frozen (i * 2 + 1)
                have hl := hX.lt
                obtain ⟨p1, p2⟩ := hX.put2 Hil.out Z
                have hgr : u.grownBy ((u.setCell ⟨gB, i * 2, none⟩ (.int .i64 Z.W)).setCell ⟨gB, i * 2 + 1, none⟩ (.slice Z.A Z.n Z.c)) (some gB) := grown_trans (grown_set u gB rfl _) (grown_set _ gB rfl _)
                have hs : Stp1 47 u ((u.setCell ⟨gB, i * 2, none⟩ (.int .i64 Z.W)).setCell ⟨gB, i * 2 + 1, none⟩ (.slice Z.A Z.n Z.c)) := ⟨_, hgr, fun k e => by obtain rfl := Option.some.inj e; exact hX.typ⟩
                have hB2 : Spb w T b #[.int .i64 (v : Int), .slice (some ⟨gD, 0, none⟩) N qD, .slice (some ⟨gT, 0, none⟩) N qT, .slice (some ⟨gB, 0, none⟩) N qB] ((u.setCell ⟨gB, i * 2, none⟩ (.int .i64 Z.W)).setCell ⟨gB, i * 2 + 1, none⟩ (.slice Z.A Z.n Z.c)) ∧ XRow ((u.setCell ⟨gB, i * 2, none⟩ (.int .i64 Z.W)).setCell ⟨gB, i * 2 + 1, none⟩ (.slice Z.A Z.n Z.c)) gD 22 (lD.flatMap lhc) ∧ XRow ((u.setCell ⟨gB, i * 2, none⟩ (.int .i64 Z.W)).setCell ⟨gB, i * 2 + 1, none⟩ (.slice Z.A Z.n Z.c)) gT 51 (lT.flatMap FH.cells) := ⟨hB.1.other hgr Hge.out (fun e => hX.typ.ne (e ▸ hB.1.bx.typ) (by decide) rfl), hB.2.1.stp hs (by decide), hB.2.2.stp hs (by decide)⟩
                have hZo := zh_ex (p2 _ _ _ a1) hB2.1.rx z4_no Z.W Z.c
                obtain ⟨f, rfl⟩ := fixG f 10 _ e10
                rw [updV_ne _ _ (by decide)] at e9
                obtain ⟨f, rfl⟩ := fixG f 9 _ e9
                clear e10 e9
                refine wpOp_step rfl fun K' hK' => ?_
                simp only [putL, updV]
                go_simp
                have hz := hK' _ _ (hK (undef) ((u.setCell ⟨gB, i * 2, none⟩ (.int .i64 Z.W)).setCell ⟨gB, i * 2 + 1, none⟩ (.slice Z.A Z.n Z.c)) hB2 (pbR_w hs) (⟨Z, p1, hZo⟩))
                refine Eq.mp (congrArg (fun act => K' act ((u.setCell ⟨gB, i * 2, none⟩ (.int .i64 Z.W)).setCell ⟨gB, i * 2 + 1, none⟩ (.slice Z.A Z.n Z.c))) ?_) hz
                kernel_rfl
              | j + 12, ho, hG, hpre, hK => exact absurd hi (by omega)
            case en =>
              intro Q2 hQ2 f u hB hF
              obtain ⟨Z, x1, x2⟩ : ∃ Z : ZH, XRow u gB 47 ((lB.set i Z).flatMap ZH.cs) ∧ ZHok u [some (w.heap.size + 1)] Z := hF 11 (by decide) rfl
              have HE1 := hid hB
              have HE2 := hid x1
              have HE3 := hid x2
              clear hF
              show wpAny _ _ _ _ 0 (tailArr 12 12) _ _
              refine ⟨by kernel_rfl, hQ2 _ _ (hKx _ _ ?_)⟩
              simp only [putL, updV]
              clear x1 x2 hB HB HX
              obtain ⟨y2, HE4⟩ : ∃ y2 : ZH, Hid (XRow u gB 47 ((lB.set i y2).flatMap ZH.cs) ∧ ZHok u [some (w.heap.size + 1)] y2) := ⟨_, hid ⟨HE2.out, HE3.out⟩⟩
              have HPf := hid HE1.out.1
              have Hq := hid (show SYok u [some (w.heap.size + 1)] ⟨(v : Int), ⟨some ⟨gD, 0, none⟩, N, qD, lD⟩, ⟨some ⟨gT, 0, none⟩, N, qT, lT⟩, ⟨some ⟨gB, 0, none⟩, N, qB, lB.set i y2⟩⟩ from ⟨lh_of (HE1.out.2.1) HgD.out Hlen.out.1 (by omega) (HSY.out _ _ _ HPf.out).d.all, fl_of (HE1.out.2.2) HgT.out Hlen.out.2.1 (by omega) (HSY.out _ _ _ HPf.out).t.all, zl_of HE4.out.1 HgB.out (by rw [List.length_set]; exact Hlen.out.2.2) (by omega) (all_set (HSY.out _ _ _ HPf.out).b.all HE4.out.2 i)⟩)
              clear HE1 HE2 HE3 HE4
              obtain ⟨b0, b1, b2, b3⟩ := (show Fb u b #[.int .i64 (v : Int), .slice (some ⟨gD, 0, none⟩) N qD, .slice (some ⟨gT, 0, none⟩) N qT, .slice (some ⟨gB, 0, none⟩) N qB] 27 from HPf.out.bx).four
              obtain ⟨r0, r1, r2, r3⟩ := (show Fb u (w.heap.size + 1) #[.int .i64 0, .slice none 0 0, .slice none 0 0, .slice none 0 0] 27 from HPf.out.rx).four
              have f0 := HPf.out.rx.frozen 0
              have f1 := HPf.out.rx.frozen 1
              have f2 := HPf.out.rx.frozen 2
              have f3 := HPf.out.rx.frozen 3
              have hlr := HPf.out.rx.lt
              have hlb := HPf.out.bx.lt
              have Hfin := hid (Spb.fin (q := ⟨(v : Int), ⟨some ⟨gD, 0, none⟩, N, qD, lD⟩, ⟨some ⟨gT, 0, none⟩, N, qT, lT⟩, ⟨some ⟨gB, 0, none⟩, N, qB, lB.set i y2⟩⟩) HPf.out Hq.out)
              clear HPf Hq
              go_wp2_with fail
              refine bodyPost_ret (v := .agg #[.int .i64 (v : Int), .slice (some ⟨gD, 0, none⟩) N qD, .slice (some ⟨gT, 0, none⟩) N qT, .slice (some ⟨gB, 0, none⟩) N qB]) (by simp [results, Try.results10, go_sem, b0, b1, b2, b3, r0, r1, r2, r3]) rfl ?_
              exact Hfin.out
          · have t3 : (r == 3) = false := by simp [q3]
            by_cases q4 : r = 4
            · have t4 : (r == 4) = true := by simp [q4]
              clear q4
              obtain ⟨c0, c1, c2, c3⟩ := (show Fb w4 b #[.int .i64 (v : Int), .slice (some ⟨gD, 0, none⟩) N qD, .slice (some ⟨gT, 0, none⟩) N qT, .slice (some ⟨gB, 0, none⟩) N qB] 27 from HP.out.bx).four
              have f1 := HP.out.bx.frozen 1
              have hlt := HP.out.bx.lt
              have hqD : N ≤ qD := own_cap HOD.out
              have n1 : (1 : Int) ≤ N := by omega
              obtain ⟨y, l, hl⟩ : ∃ y l, lD = y :: l := by
                cases h : lD with
                | nil => exact absurd Hlen.out.1 (by rw [h]; show ¬ 0 = N; omega)
                | cons y l => exact ⟨y, l, rfl⟩
              by_cases hq1 : qD = 1
              · have hs9 := stp_setS HP.out.bx 1 (.slice (some ⟨gD, 0, none⟩) (N - 1) 0)
                have HPf := hid (show Spb w T b #[.int .i64 (v : Int), .slice (some ⟨gD, 0, none⟩) (N - 1) 0, .slice (some ⟨gT, 0, none⟩) N qT, .slice (some ⟨gB, 0, none⟩) N qB] (w4.setCell ⟨b, 1, none⟩ (.slice (some ⟨gD, 0, none⟩) (N - 1) 0)) from HP.out.put 1 _)
                have Hq := hid (show SYok (w4.setCell ⟨b, 1, none⟩ (.slice (some ⟨gD, 0, none⟩) (N - 1) 0)) [some (w.heap.size + 1)] ⟨(v : Int), ⟨some ⟨gD, 0, none⟩, N - 1, 0, l⟩, ⟨some ⟨gT, 0, none⟩, N, qT, lT⟩, ⟨some ⟨gB, 0, none⟩, N, qB, lB⟩⟩ from ⟨⟨by have h1 : lD.length = N := Hlen.out.1; rw [hl, List.length_cons] at h1; rw [show l = [] from List.eq_nil_of_length_eq_zero (by omega)]; exact .inl rfl, by have h1 : lD.length = N := Hlen.out.1; rw [hl, List.length_cons] at h1; show l.length = N - 1; omega, by show N - 1 ≤ _; omega, fun z hz => (HSY.out _ _ _ HPf.out).d.all z (by show z ∈ lD; rw [hl]; exact List.mem_cons_of_mem _ hz)⟩, fl_of (HXT.out.stp hs9 (by decide)) HgT.out Hlen.out.2.1 (by omega) (HSY.out _ _ _ HPf.out).t.all, zl_of (HXB.out.stp hs9 (by decide)) HgB.out Hlen.out.2.2 (by omega) (HSY.out _ _ _ HPf.out).b.all⟩)
                clear hs9 HOD HOT HOB HXD HXT HXB hl
                obtain ⟨r0, r1, r2, r3⟩ := (show Fb w4 (w.heap.size + 1) #[.int .i64 0, .slice none 0 0, .slice none 0 0, .slice none 0 0] 27 from HP.out.rx).four
                have f5 := HP.out.rx.frozen 0
                have f6 := HP.out.rx.frozen 1
                have f7 := HP.out.rx.frozen 2
                have f8 := HP.out.rx.frozen 3
                have hlr := HP.out.rx.lt
                have hbr := HP.out.hb
                have Hfin := hid (Spb.fin (q := ⟨(v : Int), ⟨some ⟨gD, 0, none⟩, N - 1, 0, l⟩, ⟨some ⟨gT, 0, none⟩, N, qT, lT⟩, ⟨some ⟨gB, 0, none⟩, N, qB, lB⟩⟩) HPf.out Hq.out)
                clear HPf Hq HP
                go_wp2_with fail
                refine bodyPost_ret (v := .agg #[.int .i64 (v : Int), .slice (some ⟨gD, 0, none⟩) (N - 1) 0, .slice (some ⟨gT, 0, none⟩) N qT, .slice (some ⟨gB, 0, none⟩) N qB]) (by simp [results, Try.results10, go_sem, c0, c1, c2, c3, r0, r1, r2, r3]) rfl ?_
                exact Hfin.out
              · have hs9 := stp_setS HP.out.bx 1 (.slice (some ⟨gD, 1, none⟩) (N - 1) (qD - 1))
                have HPf := hid (show Spb w T b #[.int .i64 (v : Int), .slice (some ⟨gD, 1, none⟩) (N - 1) (qD - 1), .slice (some ⟨gT, 0, none⟩) N qT, .slice (some ⟨gB, 0, none⟩) N qB] (w4.setCell ⟨b, 1, none⟩ (.slice (some ⟨gD, 1, none⟩) (N - 1) (qD - 1))) from HP.out.put 1 _)
                have Hq := hid (show SYok (w4.setCell ⟨b, 1, none⟩ (.slice (some ⟨gD, 1, none⟩) (N - 1) (qD - 1))) [some (w.heap.size + 1)] ⟨(v : Int), ⟨some ⟨gD, 1, none⟩, N - 1, qD - 1, l⟩, ⟨some ⟨gT, 0, none⟩, N, qT, lT⟩, ⟨some ⟨gB, 0, none⟩, N, qB, lB⟩⟩ from ⟨⟨by rw [← flat_lhc]; exact (HXD.out.stp hs9 (by decide)).eat1 (by have := HgD.out; simp; omega) (by rw [hl]; rfl), by have h1 : lD.length = N := Hlen.out.1; rw [hl, List.length_cons] at h1; show l.length = N - 1; omega, by show N - 1 ≤ _; omega, fun z hz => (HSY.out _ _ _ HPf.out).d.all z (by show z ∈ lD; rw [hl]; exact List.mem_cons_of_mem _ hz)⟩, fl_of (HXT.out.stp hs9 (by decide)) HgT.out Hlen.out.2.1 (by omega) (HSY.out _ _ _ HPf.out).t.all, zl_of (HXB.out.stp hs9 (by decide)) HgB.out Hlen.out.2.2 (by omega) (HSY.out _ _ _ HPf.out).b.all⟩)
                clear hs9 HOD HOT HOB HXD HXT HXB hl
                obtain ⟨r0, r1, r2, r3⟩ := (show Fb w4 (w.heap.size + 1) #[.int .i64 0, .slice none 0 0, .slice none 0 0, .slice none 0 0] 27 from HP.out.rx).four
                have f5 := HP.out.rx.frozen 0
                have f6 := HP.out.rx.frozen 1
                have f7 := HP.out.rx.frozen 2
                have f8 := HP.out.rx.frozen 3
                have hlr := HP.out.rx.lt
                have hbr := HP.out.hb
                have Hfin := hid (Spb.fin (q := ⟨(v : Int), ⟨some ⟨gD, 1, none⟩, N - 1, qD - 1, l⟩, ⟨some ⟨gT, 0, none⟩, N, qT, lT⟩, ⟨some ⟨gB, 0, none⟩, N, qB, lB⟩⟩) HPf.out Hq.out)
                clear HPf Hq HP
                go_wp2_with fail
                refine bodyPost_ret (v := .agg #[.int .i64 (v : Int), .slice (some ⟨gD, 1, none⟩) (N - 1) (qD - 1), .slice (some ⟨gT, 0, none⟩) N qT, .slice (some ⟨gB, 0, none⟩) N qB]) (by simp [results, Try.results10, go_sem, c0, c1, c2, c3, r0, r1, r2, r3]) rfl ?_
                exact Hfin.out
            · have t4 : (r == 4) = false := by simp [q4]
              obtain ⟨y, hy⟩ : ∃ y, lT[0]? = some y := ⟨_, List.getElem?_eq_getElem (by have : lT.length = N := Hlen.out.2.1; omega)⟩
              have hym := List.mem_of_getElem? hy
              have Hym := hid hym
              have Hel := hid (fun (u : World) (hx : XRow u gT 51 (lT.flatMap FH.cells)) => show u.cell? ⟨gT, 0, none⟩ = some (.int .i64 y.G.W) ∧ u.cell? ⟨gT, 1, none⟩ = some (.slice y.G.A y.G.n y.G.c) ∧ u.cell? ⟨gT, 2, none⟩ = some (.int .i64 y.K.W) ∧ u.cell? ⟨gT, 3, none⟩ = some (.slice y.K.A y.K.n y.K.c) ∧ u.cell? ⟨gT, 4, none⟩ = some (.slice y.C y.k y.q) from by
                have k : ∀ j, j < 5 → (lT.flatMap FH.cells)[j]? = y.cells[j]? := fun j hj => by have := flat_cell FH.cells_len hy hj; rwa [Nat.zero_mul, Nat.zero_add] at this
                exact ⟨hx.cell (k 0 (by decide)), hx.cell (k 1 (by decide)), hx.cell (k 2 (by decide)), hx.cell (k 3 (by decide)), hx.cell (k 4 (by decide))⟩)
              have HB := hid (And.intro HP.out.m (And.intro HXD.out HXB.out))
              clear hy hym HOD HOB HXD HXT HXB
              go_upto_region 4 with fail
              rename_i Kx hKx
              refine wp_region_factsI (fun j u => ((j = 1 ∨ j = 3 ∨ j = 9) → Fb u b #[.int .i64 (v : Int), .slice (some ⟨gD, 0, none⟩) N qD, .slice (some ⟨gT, 0, none⟩) N qT, .slice (some ⟨gB, 0, none⟩) N qB] 27) ∧ ((j = 5 ∨ j = 7) → u.ownsRow (w.heap.size + 2) 51 5 (.slice (some ⟨gT, 0, none⟩) N qT) N (lT.flatMap FH.cells))) (pdF w T b v N gD qD gT qT gB qB lD lT lB y) (fun u => Spm w T b u ∧ XRow u gD 22 (lD.flatMap lhc) ∧ XRow u gB 47 (lB.flatMap ZH.cs)) pdU (pdR ) Kx (fun _ _ h => h) 10 10 (some 29 :: some 30 :: some 31 :: some 32 :: some 33 :: some 34 :: some 35 :: some 36 :: some 37 :: none :: []) (by kernel_rfl) (by kernel_rfl) (by kernel_rfl) (by kernel_rfl) (by kernel_rfl) (by kernel_rfl) (by decide)
                (pdF_st (fun j h e => by subst e; exact Bool.false_ne_true (h.symm.trans (by kernel_rfl)))) ?bs ?gb ?gs ?ar ?en
              case bs => exact ⟨HB.out.1.below (Below.refl _ _).drew, HB.out.2.1.below (Below.refl _ _).drew, HB.out.2.2.below (Below.refl _ _).drew⟩
              case gb =>
                exact fun c => ⟨fun _ => HP.out.bx.below (Below.refl _ _).drew HP.out.bx.lt, fun _ => (Stp1.below (t := 0) (Below.refl _ _).drew).own HOT.out (by decide)⟩
              case gs =>
                intro j u u' c hR hne hnr hG
                refine ⟨fun hc => pdR_sys hR ?_ (hG.1 hc), fun hc => pdR_own hR (hG.2 hc) (by decide) ?_⟩
                · rintro rfl
                  rcases hc with rfl | rfl | rfl
                  · exact Bool.false_ne_true (hnr.symm.trans (by kernel_rfl))
                  · exact Bool.false_ne_true (hnr.symm.trans (by kernel_rfl))
                  · exact hne rfl
                · rintro rfl
                  rcases hc with rfl | rfl
                  · exact Bool.false_ne_true (hnr.symm.trans (by kernel_rfl))
                  · exact hne rfl
              case ar =>
                intro j o f u ho hi hB hG hpre K hK
                match j, ho, hG, hpre, hK with
                | 0, ho, hG, hpre, hK =>
                  obtain rfl := Option.some.inj ho
                  refine wpOp_step rfl fun K' hK' => ?_
                  simp only [putL, updV]
                  go_simp
                  have hz := hK' _ _ (hK (.pointer (some ⟨b, 2, none⟩)) (u) (hB) (pdR_of (Below.refl _ _) (by decide) (by decide)) (rfl))
                  refine Eq.mp (congrArg (fun act => K' act (u)) ?_) hz
                  kernel_rfl
                | 1, ho, hG, hpre, hK =>
                  obtain rfl := Option.some.inj ho
                  obtain ⟨c0, c1, c2, c3⟩ := (show Fb u b #[.int .i64 (v : Int), .slice (some ⟨gD, 0, none⟩) N qD, .slice (some ⟨gT, 0, none⟩) N qT, .slice (some ⟨gB, 0, none⟩) N qB] 27 from hG.1 (.inl rfl)).four
                  have hlt := (hG.1 (.inl rfl)).lt
                  have e0 : f 0 = .pointer (some ⟨b, 2, none⟩) := hpre ⟨0, .data⟩ (by simp) rfl (.inl rfl)
                  obtain ⟨f, rfl⟩ := fixG f 0 _ e0
                  clear e0
                  refine wpOp_step rfl fun K' hK' => ?_
                  simp only [putL, updV]
                  go_simp
                  have hz := hK' _ _ (hK (.slice (some ⟨gT, 0, none⟩) N qT) (u) (hB) (pdR_of (Below.refl _ _) (by decide) (by decide)) (rfl))
                  refine Eq.mp (congrArg (fun act => K' act (u)) ?_) hz
                  kernel_rfl
                | 2, ho, hG, hpre, hK =>
                  obtain rfl := Option.some.inj ho
                  refine wpOp_step rfl fun K' hK' => ?_
                  simp only [putL, updV]
                  go_simp
                  have hz := hK' _ _ (hK (.pointer (some ⟨b, 2, none⟩)) (u) (hB) (pdR_of (Below.refl _ _) (by decide) (by decide)) (rfl))
                  refine Eq.mp (congrArg (fun act => K' act (u)) ?_) hz
                  kernel_rfl
                | 3, ho, hG, hpre, hK =>
                  obtain rfl := Option.some.inj ho
                  obtain ⟨c0, c1, c2, c3⟩ := (show Fb u b #[.int .i64 (v : Int), .slice (some ⟨gD, 0, none⟩) N qD, .slice (some ⟨gT, 0, none⟩) N qT, .slice (some ⟨gB, 0, none⟩) N qB] 27 from hG.1 (.inr (.inl rfl))).four
                  have hlt := (hG.1 (.inr (.inl rfl))).lt
                  have e2 : f 2 = .pointer (some ⟨b, 2, none⟩) := hpre ⟨2, .data⟩ (by simp) rfl (.inl rfl)
                  obtain ⟨f, rfl⟩ := fixG f 2 _ e2
                  clear e2
                  refine wpOp_step rfl fun K' hK' => ?_
                  simp only [putL, updV]
                  go_simp
                  have hz := hK' _ _ (hK (.slice (some ⟨gT, 0, none⟩) N qT) (u) (hB) (pdR_of (Below.refl _ _) (by decide) (by decide)) (rfl))
                  refine Eq.mp (congrArg (fun act => K' act (u)) ?_) hz
                  kernel_rfl
                | 4, ho, hG, hpre, hK =>
                  obtain rfl := Option.some.inj ho
                  have k1 : 0 < N := by omega
                  have e3 : f 3 = .slice (some ⟨gT, 0, none⟩) N qT := hpre ⟨3, .data⟩ (by simp) rfl (.inl rfl)
                  obtain ⟨f, rfl⟩ := fixG f 3 _ e3
                  clear e3
                  refine wpOp_step rfl fun K' hK' => ?_
                  simp only [putL, updV]
                  go_simp
                  have hz := hK' _ _ (hK (.pointer (some ⟨gT, 0, none⟩)) (u) (hB) (pdR_of (Below.refl _ _) (by decide) (by decide)) (rfl))
                  refine Eq.mp (congrArg (fun act => K' act (u)) ?_) hz
                  kernel_rfl
                | 5, ho, hG, hpre, hK =>
                  obtain rfl := Option.some.inj ho
                  obtain ⟨y0, y1, y2, y3, y4⟩ := Hel.out u (XRow.of (hG.2 (.inl rfl)))
                  have hl := (XRow.of (hG.2 (.inl rfl))).lt
                  have e4 : f 4 = .pointer (some ⟨gT, 0, none⟩) := hpre ⟨4, .data⟩ (by simp) rfl (.inl rfl)
                  obtain ⟨f, rfl⟩ := fixG f 4 _ e4
                  clear e4
                  refine wpOp_step rfl fun K' hK' => ?_
                  simp only [putL, updV]
                  go_simp
                  have hz := hK' _ _ (hK (.agg #[.int .i64 y.G.W, .slice y.G.A y.G.n y.G.c, .int .i64 y.K.W, .slice y.K.A y.K.n y.K.c, .slice y.C y.k y.q]) (u) (hB) (pdR_of (Below.refl _ _) (by decide) (by decide)) (rfl))
                  refine Eq.mp (congrArg (fun act => K' act (u)) ?_) hz
                  kernel_rfl
                | 6, ho, hG, hpre, hK =>
                  obtain rfl := Option.some.inj ho
                  have hb := (Below.refl u.heap.size u).alloc (Nat.le_refl _) (.cells #[.int .i64 y.G.W, .slice y.G.A y.G.n y.G.c, .int .i64 y.K.W, .slice y.K.A y.K.n y.K.c, .slice y.C y.k y.q] 51)
                  have e5 : f 5 = .agg #[.int .i64 y.G.W, .slice y.G.A y.G.n y.G.c, .int .i64 y.K.W, .slice y.K.A y.K.n y.K.c, .slice y.C y.k y.q] := hpre ⟨5, .data⟩ (by simp) rfl (.inl rfl)
                  obtain ⟨f, rfl⟩ := fixG f 5 _ e5
                  clear e5
                  refine wpOp_step rfl fun K' hK' => ?_
                  simp only [putL, updV]
                  go_simp
                  have hz := hK' _ _ (hK (.slice (some ⟨u.heap.size, 0, none⟩) 1 1) (u.alloc (.cells #[.int .i64 y.G.W, .slice y.G.A y.G.n y.G.c, .int .i64 y.K.W, .slice y.K.A y.K.n y.K.c, .slice y.C y.k y.q] 51)) (⟨hB.1.below hb, hB.2.1.below hb, hB.2.2.below hb⟩) (pdR_of hb (by decide) (by decide)) (⟨_, rfl, Fb.new u _ _⟩))
                  refine Eq.mp (congrArg (fun act => K' act (u.alloc (.cells #[.int .i64 y.G.W, .slice y.G.A y.G.n y.G.c, .int .i64 y.K.W, .slice y.K.A y.K.n y.K.c, .slice y.C y.k y.q] 51))) ?_) hz
                  kernel_rfl
                | 7, ho, hG, hpre, hK =>
                  obtain rfl := Option.some.inj ho
                  have e1 : f 1 = .slice (some ⟨gT, 0, none⟩) N qT := hpre ⟨1, .data⟩ (by simp) rfl (.inl rfl)
                  obtain ⟨g6, e6, q6⟩ : ∃ g : Nat, f 6 = .slice (some ⟨g, 0, none⟩) 1 1 ∧ Fb u g #[.int .i64 y.G.W, .slice y.G.A y.G.n y.G.c, .int .i64 y.K.W, .slice y.K.A y.K.n y.K.c, .slice y.C y.k y.q] 51 := hpre ⟨6, .data⟩ (by simp) rfl (.inr rfl)
                  have hbase : w.heap.size + 2 ≤ u.heap.size := hB.1.base
                  have ho := hG.2 (.inr rfl)
                  obtain ⟨f, rfl⟩ := fixG f 1 _ e1
                  rw [updV_ne _ _ (by decide)] at e6
                  obtain ⟨f, rfl⟩ := fixG f 6 _ e6
                  clear e1 e6
                  refine wpOp_step rfl fun K' hK' => ?_
                  refine step_append_lies _ rfl (.tmp 30) (.tmp 35) 24 rfl (w.heap.size + 2) 51 iT _ 5 88 Try.underlying24 HT.out HT0.out HT1.out HT2.out rfl (by decide) (.slice (some ⟨gT, 0, none⟩) N qT) N (lT.flatMap FH.cells) (by kernel_rfl) ho ⟨g6, 0, none⟩ 1 1 y.cells (by kernel_rfl) rfl (fun j x hx => World.news_of_block q6 j x hx) (one_fcells y) (by omega) (by unfold maxLen; omega) (by omega) hbase _ rfl ?_
                  intro g7 q7 w7 hown hgr hat _
                  have hgr : u.grownBy w7 (some gT) := hgr
                  have hty := own_typ ho (g := gT) rfl
                  have hge := (ho.lt gT rfl).1
                  have hs : Stp1 51 u w7 := ⟨_, hgr, fun k e => by obtain rfl := Option.some.inj e; exact hty⟩
                  have hz := hK' _ _ (hK (.slice (some ⟨g7, 0, none⟩) (N + 1) q7) w7 ⟨hB.1.other hgr hge, hB.2.1.stp hs (by decide), hB.2.2.stp hs (by decide)⟩ (pdR_w hs) (⟨g7, q7, rfl, hown⟩))
                  refine Eq.mp (congrArg (fun act => K' act w7) ?_) hz
                  kernel_rfl
                | 8, ho, hG, hpre, hK =>
                  obtain rfl := Option.some.inj ho
                  refine wpOp_step rfl fun K' hK' => ?_
                  simp only [putL, updV]
                  go_simp
                  have hz := hK' _ _ (hK (.pointer (some ⟨b, 2, none⟩)) (u) (hB) (pdR_of (Below.refl _ _) (by decide) (by decide)) (rfl))
                  refine Eq.mp (congrArg (fun act => K' act (u)) ?_) hz
                  kernel_rfl
                | 9, ho, hG, hpre, hK =>
                  obtain rfl := Option.some.inj ho
                  have e8 : f 8 = .pointer (some ⟨b, 2, none⟩) := hpre ⟨8, .data⟩ (by simp) rfl (.inl rfl)
                  obtain ⟨g7, q7, e7, o7⟩ : ∃ g q : Nat, f 7 = .slice (some ⟨g, 0, none⟩) (N + 1) q ∧ u.ownsRow (w.heap.size + 2) 51 5 (.slice (some ⟨g, 0, none⟩) (N + 1) q) (N + 1) (lT.flatMap FH.cells ++ y.cells) := hpre ⟨7, .data⟩ (by simp) rfl (.inl rfl)
                  have hX : Fb u b #[.int .i64 (v : Int), .slice (some ⟨gD, 0, none⟩) N qD, .slice (some ⟨gT, 0, none⟩) N qT, .slice (some ⟨gB, 0, none⟩) N qB] 27 := hG.1 (.inr (.inr rfl))
                  obtain ⟨c0, c1, c2, c3⟩ := hX.four
                  have f2 := hX.frozen 2
                  have hl := hX.lt
                  have hs := stp_setS hX 2 (.slice (some ⟨g7, 0, none⟩) (N + 1) q7)
                  obtain ⟨f, rfl⟩ := fixG f 8 _ e8
                  rw [updV_ne _ _ (by decide)] at e7
                  obtain ⟨f, rfl⟩ := fixG f 7 _ e7
                  clear e8 e7
                  refine wpOp_step rfl fun K' hK' => ?_
                  simp only [putL, updV]
                  go_simp
                  have hz := hK' _ _ (hK (undef) (u.setCell ⟨b, 2, none⟩ (.slice (some ⟨g7, 0, none⟩) (N + 1) q7)) ⟨hB.1.put 2 _, hB.2.1.stp hs (by decide), hB.2.2.stp hs (by decide)⟩ (pdR_y hs) (⟨g7, q7, hX.set 2 _, hs.own o7 (by decide)⟩))
                  refine Eq.mp (congrArg (fun act => K' act (u.setCell ⟨b, 2, none⟩ (.slice (some ⟨g7, 0, none⟩) (N + 1) q7))) ?_) hz
                  kernel_rfl
                | j + 10, ho, hG, hpre, hK => exact absurd hi (by omega)
              case en =>
                intro Q2 hQ2 f u hB hF
                obtain ⟨g7, q7, x1, x2⟩ : ∃ g q : Nat, Fb u b #[.int .i64 (v : Int), .slice (some ⟨gD, 0, none⟩) N qD, .slice (some ⟨g, 0, none⟩) (N + 1) q, .slice (some ⟨gB, 0, none⟩) N qB] 27 ∧ u.ownsRow (w.heap.size + 2) 51 5 (.slice (some ⟨g, 0, none⟩) (N + 1) q) (N + 1) (lT.flatMap FH.cells ++ y.cells) := hF 9 (by decide) rfl
                have HE1 := hid hB
                have HE2 := hid x1
                have HE3 := hid x2
                clear hF
                show wpAny _ _ _ _ 0 (tailArr 10 10) _ _
                refine ⟨by kernel_rfl, hQ2 _ _ (hKx _ _ ?_)⟩
                simp only [putL, updV]
                clear x1 x2 hB HB
                clear HP HOT
                have HPf := hid (HE1.out.1.bb HE2.out)
                have hgt := (HE3.out.lt g7 rfl).1
                have Hq := hid (show SYok u [some (w.heap.size + 1)] ⟨(v : Int), ⟨some ⟨gD, 0, none⟩, N, qD, lD⟩, ⟨some ⟨g7, 0, none⟩, N + 1, q7, lT ++ [y]⟩, ⟨some ⟨gB, 0, none⟩, N, qB, lB⟩⟩ from ⟨lh_of (HE1.out.2.1) HgD.out Hlen.out.1 (by omega) (HSY.out _ _ _ HPf.out).d.all, fl_of (by rw [List.flatMap_append]; have := XRow.of HE3.out; simpa using this) hgt (by rw [List.length_append]; exact congrArg (· + 1) Hlen.out.2.1) (by omega) (fun z hz => by
                  rcases List.mem_append.1 hz with hz | hz
                  · exact (HSY.out _ _ _ HPf.out).t.all z hz
                  · rw [List.mem_singleton.1 hz]; exact (HSY.out _ _ _ HPf.out).t.all y Hym.out), zl_of (HE1.out.2.2) HgB.out Hlen.out.2.2 (by omega) (HSY.out _ _ _ HPf.out).b.all⟩)
                clear HE1 HE2 HE3
                obtain ⟨b0, b1, b2, b3⟩ := (show Fb u b #[.int .i64 (v : Int), .slice (some ⟨gD, 0, none⟩) N qD, .slice (some ⟨g7, 0, none⟩) (N + 1) q7, .slice (some ⟨gB, 0, none⟩) N qB] 27 from HPf.out.bx).four
                obtain ⟨r0, r1, r2, r3⟩ := (show Fb u (w.heap.size + 1) #[.int .i64 0, .slice none 0 0, .slice none 0 0, .slice none 0 0] 27 from HPf.out.rx).four
                have f0 := HPf.out.rx.frozen 0
                have f1 := HPf.out.rx.frozen 1
                have f2 := HPf.out.rx.frozen 2
                have f3 := HPf.out.rx.frozen 3
                have hlr := HPf.out.rx.lt
                have hlb := HPf.out.bx.lt
                have Hfin := hid (Spb.fin (q := ⟨(v : Int), ⟨some ⟨gD, 0, none⟩, N, qD, lD⟩, ⟨some ⟨g7, 0, none⟩, N + 1, q7, lT ++ [y]⟩, ⟨some ⟨gB, 0, none⟩, N, qB, lB⟩⟩) HPf.out Hq.out)
                clear HPf Hq
                go_wp2_with fail
                refine bodyPost_ret (v := .agg #[.int .i64 (v : Int), .slice (some ⟨gD, 0, none⟩) N qD, .slice (some ⟨g7, 0, none⟩) (N + 1) q7, .slice (some ⟨gB, 0, none⟩) N qB]) (by simp [results, Try.results10, go_sem, b0, b1, b2, b3, r0, r1, r2, r3]) rfl ?_
                exact Hfin.out
end Go.Proofs.Ytadkjnjibefocaa
