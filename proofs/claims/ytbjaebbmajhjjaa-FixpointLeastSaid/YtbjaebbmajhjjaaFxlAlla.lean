/- Part 1 of the texts that YtbjaebbmajhjjaaFxlAll leans on. -/
import Derived.Test.YtbjaebbmajhjjaaSet
import Derived.Deep.AppendLies
import Derived.Deep.RegionHeld3
import Derived.Deep.RegionLaw
import Derived.Test.YtbjaebbmajhjjaaDMem
import Derived.Lib.SliceRun
import Derived.Test.YtbjaebbmajhjjaaEq2
import Derived.Test.YtbjaebbmajhjjaaTtab
import Derived.Test.YtbjaebbmajhjjaaWbm
import Derived.Test.YtbjaebbmajhjjaaVar
import Derived.Deep.DeepMust
import Derived.Test.YtbjaebbmajhjjaaTpd
import Derived.Test.YtbjaebbmajhjjaaSgs
import Derived.Test.YtbjaebbmajhjjaaRgg
import Derived.Deep.DeepCutAuto
import Derived.Test.YtbjaebbmajhjjaaIns
import Derived.Test.YtbjaebbmajhjjaaDvT
import Derived.Test.YtbjaebbmajhjjaaTimg
import Derived.Test.YtbjaebbmajhjjaaLf2
import Derived.Test.YtbjaebbmajhjjaaDev
import Derived.Test.YtbjaebbmajhjjaaSame
import Derived.Test.YtbjaebbmajhjjaaDEq
namespace Go.Proofs.Ytbjaebbmajhjjaa
set_option maxRecDepth 10000
open Go.ChangeShapes Go.WideShapes Go.ChangeAt Go.RowKit

/-- append onto a row of the call's own that is not nil, as a step of a region: where the new slice lies. -/
theorem step_app {P : Program} {ops : Array Oper} {o : Oper} {a : Act} {w : World} {K : Act → World → Prop} {Q : Exit → Act → World → Prop} {E : Prop} (hgd : o.guard = none) (s x : Operand) (t : TypeId)
    (ho : o.op = .call { callee := .builtin .append, args := #[s, x], argTypes := #[t, t] })
    (base : Nat) (e : TypeId) (i : TypeInfo) (z : Value) (bytes : Nat) (ht : P.underlying t = some (.slice e)) (hi : P.info? e = some i) (hz : i.zero = some z)
    (hsize : i.size = 1) (hby : i.bytes = bytes) (hzs : z.cells.size = 1)
    (g0 n c0 : Nat) (xs : List Value) (hs : a.eval s = .slice (some ⟨g0, 0, none⟩) n c0) (hown : w.ownsRow base e 1 (.slice (some ⟨g0, 0, none⟩) n c0) n xs)
    (ad : Addr) (m c : Nat) (news : List Value) (hx : a.eval x = .slice (some ad) m c) (hl : news.length = m) (hnews : ∀ j u, news[j]? = some u → w.cell? (ad.add j) = some u) (h1 : ∀ u ∈ news, u.oneCell' = true)
    (h63 : n + m ≤ maxLen) (hbytes : (n + m) * bytes ≤ 140737488355328) (hbase : base ≤ w.heap.size)
    (h : ∀ g cap w', w'.ownsRow base e 1 (.slice (some ⟨g, 0, none⟩) (n + m) cap) (n + m) (xs ++ news) → w.grownBy w' (some g0) → (g = g0 ∨ g = w.heap.size) → K (a.put o.dst (.slice (some ⟨g, 0, none⟩) (n + m) cap)) w') :
    if Region.wanted o (yielded ops a.tmps) = true then Oper.wp P o a w K Q else E := by
  have hw : Region.wanted o (yielded ops a.tmps) = true := by simp [Region.wanted, hgd]
  rw [if_pos hw]
  obtain ⟨v', w', hrun, h2, h3, h4, h5⟩ := run_append_own_at (P := P) w base t o.type e i z 1 bytes ht hi hz hsize hby hzs (by decide) (.slice (some ⟨g0, 0, none⟩) n c0) n xs hown ad m c news (by omega) hnews h1 h63 hbytes hbase
  have hne : v' ≠ .slice none 0 0 := by intro hv; exact absurd (h4.1 hv).1 (by simp)
  rcases h2.2 with ⟨hv, _⟩ | ⟨g, cap, cur, rfl, hb⟩
  · exact absurd hv hne
  · have h5' : g = g0 ∨ g = w.heap.size := by simpa [Value.ownBlock] using h5
    unfold Oper.wp execOp
    simp only [ho, resolve, invoke, builtin, Sem.run_bind, Sem.run_pure, Result.andThen_ok, List.map_toArray, List.map_cons, List.map_nil, hs, hx, hrun]
    exact h g cap w' h2 h3 h5'

theorem Arg.cells {w w1 : World} {ad : Addr} {n : Nat} {ws : List Nat} (h : Arg w (some ad) n ws) (hb : Below w.heap.size w w1) : ∀ j u, (words ws)[j]? = some u → w1.cell? (ad.add j) = some u := by
  intro j u hu
  obtain ⟨ad', e, hlt, hc⟩ := h.lies.cell hu
  injection e with e
  subst e
  exact (hb.cell (by rw [add_block]; exact hlt)).trans hc

theorem info62' : (Try.prog.info? 80).map (fun i => (i.zero, i.size, i.bytes)) = some (some (.int .u64 0), 1, 8) := by kernel_rfl

/-- Some set came back; nothing but the tape has changed. -/
def GenAny (w : World) (T : Nat) (e : Ending) (w' : World) : Prop :=
  ∃ (W : Int) (ad : Addr) (n c : Nat) (ws : List Nat), e = .returned (.agg #[.int .i64 W, .slice (some ad) n c]) ∧ n ≤ 60 ∧ Arg w' (some ad) n ws ∧ Tape w' T ∧ w.grownBy w' (some T)

/-- The copy that is spoiled: its variable b, its own words, the result's cell, the tape. -/
def Spoiled (w : World) (T b : Nat) (V : Int) (g n c : Nat) (ws : List Nat) (wr : World) : Prop :=
  Box wr b V (some ⟨g, 0, none⟩) n c ∧ wr.ownsRow (w.heap.size + 1 + 1) 80 1 (.slice (some ⟨g, 0, none⟩) n c) n (words ws) ∧ (∀ x ∈ ws, x < Bs.W64) ∧ w.heap.size + 1 + 1 ≤ b ∧ Box wr (w.heap.size + 1) 0 none 0 0 ∧ Tape wr T ∧ w.grownBy wr (some T)

theorem empty_own (w : World) (base k : Nat) (h : base ≤ w.heap.size) (hk : k = w.heap.size) : (w.alloc (.cells #[] 80)).ownsRow base 80 1 (.slice (some ⟨k, 0, none⟩) 0 0) 0 [] := by
  subst hk; exact World.ownsRow_lit w #[] 0 h (by simp [maxLen]) rfl
theorem Box.at_new {w : World} {W : Int} {A : Option Addr} {n c k : Nat} (hk : k = w.heap.size) : Box (w.alloc (.cells #[.int .i64 W, .slice A n c] 41)) k W A n c := by
  subst hk; exact Box.new _ _ _ _ _
theorem Box.drew {w : World} {b : Nat} {W : Int} {A : Option Addr} {n c : Nat} (h : Box w b W A n c) : Box w.drew b W A n c := h

theorem ord1 (w : World) (W : Int) (A : Option Addr) (n c : Nat) :
    World.ownsRow (World.drew (((w.alloc (.cells #[.int .i64 W, .slice A n c] 41)).alloc (.cells #[.int .i64 0, .slice none 0 0] 41)).alloc (.cells #[] 80))) (w.heap.size + 1 + 1) 80 1 (.slice (some ⟨w.heap.size + 1 + 1, 0, none⟩) 0 0) 0 [] ∧
    Box (World.drew (((w.alloc (.cells #[.int .i64 W, .slice A n c] 41)).alloc (.cells #[.int .i64 0, .slice none 0 0] 41)).alloc (.cells #[] 80))) w.heap.size W A n c ∧
    Box (World.drew (((w.alloc (.cells #[.int .i64 W, .slice A n c] 41)).alloc (.cells #[.int .i64 0, .slice none 0 0] 41)).alloc (.cells #[] 80))) (w.heap.size + 1) 0 none 0 0 ∧
    Below w.heap.size w (World.drew (((w.alloc (.cells #[.int .i64 W, .slice A n c] 41)).alloc (.cells #[.int .i64 0, .slice none 0 0] 41)).alloc (.cells #[] 80))) :=
  ⟨(empty_own _ _ _ (by simp) (by simp)).drew, (((Box.new w _ _ _ _).alloc _).alloc _).drew, ((Box.at_new (by simp)).alloc _).drew, ((below2 w _ _).alloc (by simp only [World.size_alloc]; omega) _).drew⟩
theorem ord2 (w : World) (W : Int) (A : Option Addr) (n c : Nat) :
    World.ownsRow (World.drew ((((w.alloc (.cells #[.int .i64 W, .slice A n c] 41)).alloc (.cells #[.int .i64 0, .slice none 0 0] 41)).alloc (.cells #[] 80)).alloc (.cells #[.int .i64 0, .slice none 0 0] 41))) (w.heap.size + 1 + 1) 80 1 (.slice (some ⟨w.heap.size + 1 + 1, 0, none⟩) 0 0) 0 [] ∧
    Box (World.drew ((((w.alloc (.cells #[.int .i64 W, .slice A n c] 41)).alloc (.cells #[.int .i64 0, .slice none 0 0] 41)).alloc (.cells #[] 80)).alloc (.cells #[.int .i64 0, .slice none 0 0] 41))) w.heap.size W A n c ∧
    Box (World.drew ((((w.alloc (.cells #[.int .i64 W, .slice A n c] 41)).alloc (.cells #[.int .i64 0, .slice none 0 0] 41)).alloc (.cells #[] 80)).alloc (.cells #[.int .i64 0, .slice none 0 0] 41))) (w.heap.size + 1) 0 none 0 0 ∧
    Box (World.drew ((((w.alloc (.cells #[.int .i64 W, .slice A n c] 41)).alloc (.cells #[.int .i64 0, .slice none 0 0] 41)).alloc (.cells #[] 80)).alloc (.cells #[.int .i64 0, .slice none 0 0] 41))) (w.heap.size + 1 + 1 + 1) 0 none 0 0 ∧
    Below w.heap.size w (World.drew ((((w.alloc (.cells #[.int .i64 W, .slice A n c] 41)).alloc (.cells #[.int .i64 0, .slice none 0 0] 41)).alloc (.cells #[] 80)).alloc (.cells #[.int .i64 0, .slice none 0 0] 41))) :=
  ⟨((empty_own _ _ _ (by simp) (by simp)).alloc _).drew, ((((Box.new w _ _ _ _).alloc _).alloc _).alloc _).drew, (((Box.at_new (by simp)).alloc _).alloc _).drew, (Box.at_new (by simp)).drew, (((below2 w _ _).alloc (by simp only [World.size_alloc]; omega) _).alloc (by simp only [World.size_alloc]; omega) _).drew⟩
theorem ord3 (w : World) (W : Int) (A : Option Addr) (n c : Nat) :
    World.ownsRow (World.drew ((((w.alloc (.cells #[.int .i64 W, .slice A n c] 41)).alloc (.cells #[.int .i64 0, .slice none 0 0] 41)).alloc (.cells #[.int .i64 0, .slice none 0 0] 41)).alloc (.cells #[] 80))) (w.heap.size + 1 + 1) 80 1 (.slice (some ⟨w.heap.size + 1 + 1 + 1, 0, none⟩) 0 0) 0 [] ∧
    Box (World.drew ((((w.alloc (.cells #[.int .i64 W, .slice A n c] 41)).alloc (.cells #[.int .i64 0, .slice none 0 0] 41)).alloc (.cells #[.int .i64 0, .slice none 0 0] 41)).alloc (.cells #[] 80))) w.heap.size W A n c ∧
    Box (World.drew ((((w.alloc (.cells #[.int .i64 W, .slice A n c] 41)).alloc (.cells #[.int .i64 0, .slice none 0 0] 41)).alloc (.cells #[.int .i64 0, .slice none 0 0] 41)).alloc (.cells #[] 80))) (w.heap.size + 1) 0 none 0 0 ∧
    Box (World.drew ((((w.alloc (.cells #[.int .i64 W, .slice A n c] 41)).alloc (.cells #[.int .i64 0, .slice none 0 0] 41)).alloc (.cells #[.int .i64 0, .slice none 0 0] 41)).alloc (.cells #[] 80))) (w.heap.size + 1 + 1) 0 none 0 0 ∧
    Below w.heap.size w (World.drew ((((w.alloc (.cells #[.int .i64 W, .slice A n c] 41)).alloc (.cells #[.int .i64 0, .slice none 0 0] 41)).alloc (.cells #[.int .i64 0, .slice none 0 0] 41)).alloc (.cells #[] 80))) :=
  ⟨(empty_own _ _ _ (by simp only [World.size_alloc]; omega) (by simp)).drew, ((((Box.new w _ _ _ _).alloc _).alloc _).alloc _).drew, (((Box.at_new (by simp)).alloc _).alloc _).drew, ((Box.at_new (by simp)).alloc _).drew, (((below2 w _ _).alloc (by simp only [World.size_alloc]; omega) _).alloc (by simp only [World.size_alloc]; omega) _).drew⟩

theorem some_ne {a b : Nat} (h : a ≠ b) : some a ≠ some b := fun e => h (by injection e)
theorem cell_farS (w : World) {b g i j : Nat} (h : g ≠ b) (u : Value) : (w.setCell ⟨b, j, none⟩ u).cell? ⟨g, i, none⟩ = w.cell? ⟨g, i, none⟩ :=
  World.cell?_setCell_other w _ _ u (by intro e; injection e with e; exact h e.symm)
theorem Box.own_ne {w : World} {b g : Nat} {W : Int} {A : Option Addr} {n c base m d : Nat} {xs : List Value} (h : Box w b W A n c) (ho : w.ownsRow base 80 1 (.slice (some ⟨g, 0, none⟩) m d) m xs) : g ≠ b := by
  rintro rfl
  rcases ho.2 with ⟨hv, _⟩ | ⟨g', cap, cur, hv, _, hg, _⟩
  · cases hv
  · injection hv with h1 _ _
    injection h1 with h1
    injection h1 with h1
    subst h1
    unfold Box at h
    rw [h] at hg
    injection hg with hg
    injection hg with _ hg
    cases hg
theorem own_far {w : World} {b g base m d : Nat} {xs : List Value} (ho : w.ownsRow base 80 1 (.slice (some ⟨g, 0, none⟩) m d) m xs) (hne : g ≠ b) (j : Nat) (u : Value) : (w.setCell ⟨b, j, none⟩ u).ownsRow base 80 1 (.slice (some ⟨g, 0, none⟩) m d) m xs :=
  ho.kept (grown_set w b rfl u) (.inr (some_ne hne))
theorem own_ge {w : World} {g base m d : Nat} {xs : List Value} (ho : w.ownsRow base 80 1 (.slice (some ⟨g, 0, none⟩) m d) m xs) : base ≤ g ∧ g < w.heap.size := ho.lt g rfl
/-- Storing a new width and new words into the spoiled copy's variable. -/
theorem Spoiled.store {w wr : World} {T b : Nat} {V V' : Int} {A : Option Addr} {n c g' n' c' : Nat} {ws' : List Nat} (h : Box wr b V A n c) (hown : wr.ownsRow (w.heap.size + 1 + 1) 80 1 (.slice (some ⟨g', 0, none⟩) n' c') n' (words ws'))
    (hok : ∀ x ∈ ws', x < Bs.W64) (hb : w.heap.size + 1 + 1 ≤ b) (hr : Box wr (w.heap.size + 1) 0 none 0 0) (ht : Tape wr T) (hT : T < w.heap.size) (hg : w.grownBy wr (some T)) :
    Spoiled w T b V' g' n' c' ws' ((wr.setCell ⟨b, 0, none⟩ (.int .i64 V')).setCell ⟨b, 1, none⟩ (.slice (some ⟨g', 0, none⟩) n' c')) := by
  have hne := h.own_ne hown
  exact ⟨h.set _ _ _ _, own_far (own_far hown hne 0 _) hne 1 _, hok, hb, (hr.far (by simp; omega) _).far (by simp; omega) _, (ht.far (by simp; omega) _).far (by simp; omega) _, grown_set_new (grown_set_new hg (by simp; omega) _) (by simp; omega) _⟩
theorem Spoiled.tape {w wr w' : World} {T b : Nat} {V : Int} {g n c : Nat} {ws : List Nat} (h : Spoiled w T b V g n c ws wr) (hT : T < w.heap.size) (ht : Tape w' T) (hg : wr.grownBy w' (some T)) : Spoiled w T b V g n c ws w' := by
  obtain ⟨h1, h2, h3, h4, h5, _, h7⟩ := h
  have hge := own_ge h2
  refine ⟨h1.grown hg (some_ne (by omega)), h2.kept hg (.inr (some_ne ?_)), h3, h4, h5.grown hg (some_ne (by omega)), ht, grown_trans h7 hg⟩
  show g ≠ T
  omega
theorem Spoiled.drew {w wr : World} {T b : Nat} {V : Int} {g n c : Nat} {ws : List Nat} (h : Spoiled w T b V g n c ws wr) : Spoiled w T b V g n c ws wr.drew := by
  obtain ⟨h1, h2, h3, h4, h5, h6, h7⟩ := h
  exact ⟨h1, h2.drew, h3, h4, h5, h6.keep fun _ _ => rfl, grown_trans h7 (grown_drew _ _)⟩
theorem Spoiled.alloc {w wr : World} {T b : Nat} {V : Int} {g n c : Nat} {ws : List Nat} (h : Spoiled w T b V g n c ws wr) (o : Obj) : Spoiled w T b V g n c ws (wr.alloc o) := by
  obtain ⟨h1, h2, h3, h4, h5, h6, h7⟩ := h
  exact ⟨h1.alloc _, h2.alloc _, h3, h4, h5.alloc _, h6.alloc _, grown_trans h7 (grown_of_below ((Below.refl _ _).alloc (Nat.le_refl _) _) _)⟩
theorem Spoiled.width {w wr : World} {T b : Nat} {V : Int} {g n c : Nat} {ws : List Nat} (h : Spoiled w T b V g n c ws wr) (hT : T < w.heap.size) (V' : Int) : Spoiled w T b V' g n c ws (wr.setCell ⟨b, 0, none⟩ (.int .i64 V')) := by
  obtain ⟨h1, h2, h3, h4, h5, h6, h7⟩ := h
  have hne := h1.own_ne h2
  refine ⟨?_, own_far h2 hne 0 _, h3, h4, h5.far (by simp; omega) _, h6.far (by simp; omega) _, grown_set_new h7 (by simp; omega) _⟩
  unfold Box at h1 ⊢
  simp [World.setCell, Array.getElem?_modify, h1]
theorem Spoiled.slice {w wr : World} {T b : Nat} {V : Int} {A : Option Addr} {n c g' n' c' : Nat} {ws' : List Nat} (h1 : Box wr b V A n c) (h2 : wr.ownsRow (w.heap.size + 1 + 1) 80 1 (.slice (some ⟨g', 0, none⟩) n' c') n' (words ws'))
    (h3 : ∀ x ∈ ws', x < Bs.W64) (h4 : w.heap.size + 1 + 1 ≤ b) (h5 : Box wr (w.heap.size + 1) 0 none 0 0) (h6 : Tape wr T) (hT : T < w.heap.size) (h7 : w.grownBy wr (some T)) :
    Spoiled w T b V g' n' c' ws' (wr.setCell ⟨b, 1, none⟩ (.slice (some ⟨g', 0, none⟩) n' c')) := by
  have hne := h1.own_ne h2
  refine ⟨?_, own_far h2 hne 1 _, h3, h4, h5.far (by simp; omega) _, h6.far (by simp; omega) _, grown_set_new h7 (by simp; omega) _⟩
  unfold Box at h1 ⊢
  simp [World.setCell, Array.getElem?_modify, h1]
theorem Spoiled.vars {w wr : World} {T b : Nat} {V : Int} {g n c : Nat} {ws : List Nat} (h : Spoiled w T b V g n c ws wr) :
    ((wr.cell? ⟨b, 0, none⟩ = some (.int .i64 V) ∧ wr.cell? ⟨b, 1, none⟩ = some (.slice (some ⟨g, 0, none⟩) n c)) ∧ wr.frozen? ⟨b, 0, none⟩ = false ∧ wr.frozen? ⟨b, 1, none⟩ = false) ∧
    ((wr.cell? ⟨w.heap.size + 1, 0, none⟩ = some (.int .i64 0) ∧ wr.cell? ⟨w.heap.size + 1, 1, none⟩ = some (.slice none 0 0)) ∧ wr.frozen? ⟨w.heap.size + 1, 0, none⟩ = false ∧ wr.frozen? ⟨w.heap.size + 1, 1, none⟩ = false) ∧ w.heap.size + 1 ≠ b ∧ ws.length = n := by
  obtain ⟨h1, h2, h3, h4, h5, h6, h7⟩ := h
  exact ⟨⟨⟨h1.c0, h1.c1⟩, h1.f 0, h1.f 1⟩, ⟨⟨h5.c0, h5.c1⟩, h5.f 0, h5.f 1⟩, by omega, by have := h2.1; rw [words_len] at this; omega⟩
/-- The copy is handed back. -/
theorem Spoiled.done {w wr : World} {T b : Nat} {V : Int} {g n c : Nat} {ws : List Nat} (h : Spoiled w T b V g n c ws wr) (hT : T < w.heap.size) (hn : n ≤ 60) :
    GenAny w T (.returned (.agg #[.int .i64 V, .slice (some ⟨g, 0, none⟩) n c])) ((wr.setCell ⟨w.heap.size + 1, 0, none⟩ (.int .i64 V)).setCell ⟨w.heap.size + 1, 1, none⟩ (.slice (some ⟨g, 0, none⟩) n c)) := by
  obtain ⟨h1, h2, h3, h4, h5, h6, h7⟩ := h
  have hne := h5.own_ne h2
  have ho := own_far (own_far h2 hne 0 (.int .i64 V)) hne 1 (.slice (some ⟨g, 0, none⟩) n c)
  obtain ⟨A, c'', e, hat, hl⟩ := own_slice ho
  injection e with e1 e2 e3
  subst e1
  exact ⟨V, _, n, c, ws, rfl, hn, ⟨hat, by rw [← hl, words_len], h3⟩, (h6.far (by simp; omega) _).far (by simp; omega) _, grown_set_new (grown_set_new h7 (by simp) _) (by simp) _⟩
theorem wrap_small (k : Nat) (h : k < 64) : IntKind.u64.wrap (k : Int) = k := IntWalk.u64_in _ (by omega)
theorem words_snoc (ws : List Nat) (k : Nat) (h : k < 64) : words ws ++ [.int .u64 (IntKind.u64.wrap (k : Int))] = words (ws ++ [k]) := by
  rw [wrap_small k h]; simp [words, u64]
theorem words_set (ws : List Nat) (j x : Nat) : (words ws).set j (.int .u64 (x : Int)) = words (ws.set j x) := by
  unfold words u64; rw [List.map_set]
/-- Storing one word of the spoiled copy. -/
theorem Spoiled.word {w wr : World} {T b : Nat} {V : Int} {g n c : Nat} {ws : List Nat} (h : Spoiled w T b V g n c ws wr) (hT : T < w.heap.size) (j x : Nat) (hx : x < Bs.W64) : Spoiled w T b V g n c (ws.set j x) (wr.setCell ⟨g, j, none⟩ (.int .u64 (x : Int))) := by
  obtain ⟨h1, h2, h3, h4, h5, h6, h7⟩ := h
  have hne := h1.own_ne h2
  have hge := own_ge h2
  have hs := h2.stored j (.int .u64 (x : Int))
  rw [words_set] at hs
  refine ⟨h1.far (by simpa using Ne.symm hne) _, hs.1, ?_, h4, h5.far (by simp; omega) _, h6.far (by simp; omega) _, grown_set_new h7 (by simp; omega) _⟩
  intro y hy
  rcases List.mem_or_eq_of_mem_set hy with h | h
  · exact h3 y h
  · subst h; exact hx
theorem Spoiled.atWord {w wr : World} {T b : Nat} {V : Int} {g n c : Nat} {ws : List Nat} (h : Spoiled w T b V g n c ws wr) {j : Nat} (hj : j < n) :
    (wr.cell? ⟨g, j, none⟩ = some (.int .u64 (Bs.wd ws j)) ∧ wr.frozen? ⟨g, j, none⟩ = false) ∧ Bs.wd ws j < Bs.W64 ∧ g ≠ b := by
  obtain ⟨h1, h2, h3, h4, h5, h6, h7⟩ := h
  have hl : ws.length = n := by have := h2.1; rw [words_len] at this; omega
  exact ⟨⟨by rw [h2.cellAt j (by omega)]; exact words_get (by omega), h2.frozenAt j⟩, Bs.wd_lt h3 j, h1.own_ne h2⟩
theorem after_app {w W1 w3 : World} {g0 : Nat} (hB : Below w.heap.size w W1) (hg : W1.grownBy w3 (some g0)) (h0 : w.heap.size ≤ g0) : Below w.heap.size w w3 :=
  hB.grown hg hB.size (by intro k hk; injection hk with hk; omega)

set_option maxHeartbeats 1600000 in
theorem spoil_any (T : Nat) (W : Int) (ad : Addr) (n c : Nat) (ws : List Nat) (w : World) (ht : Tape w T) (hA : Arg w (some ad) n ws) (hn : n ≤ 50) (hW0 : 0 ≤ W) (hW1 : W ≤ 256) :
    Calls Try.prog 42 #[.pointer (some ⟨T, 0, none⟩), .agg #[.int .i64 W, .slice (some ad) n c]] w (GenAny w T) := by
  have hTl := ht.lt
  obtain ⟨i0, hi, hz0, hz1, hz2⟩ := info_parts info62'
  have Hi := hid hi; have Hz0 := hid hz0; have Hz1 := hid hz1; have Hz2 := hid hz2
  have HA := hid hA; have Ht := hid ht
  clear hA ht hi hz0 hz1 hz2
  go_enter Try.func42, Try.ntmps42
  go_upto_region 1 with fail
  go_cut [5] (fun s5 wc => ∃ b g c' : Nat, s5 = .pointer (some ⟨b, 0, none⟩) ∧ Hid (Spoiled w T b W g n c' ws wc))
  case first =>
    go_region_held3 (fun w' => w'.cell? ⟨w.heap.size, 0, none⟩ = some (.int .i64 W) ∧ w'.cell? ⟨w.heap.size, 1, none⟩ = some (.slice (some ad) n c))
      (first | go_keep | (refine ⟨?_, ?_⟩ <;> (rw [cell_farS _ (by omega), cell_farS _ (by omega)]; assumption)))
      (first
        | ((refine step_app (by rfl) _ _ 39 (by rfl) (w.heap.size + 1 + 1) 80 i0 _ 8 Try.underlying39 Hi.out Hz0.out Hz1.out Hz2.out rfl (w.heap.size + 1 + 1) 0 0 [] (by rfl)
              (by exact (ord1 w W (some ad) n c).1)
              ad n c (words ws) (by rfl) (by rw [words_len]; exact HA.out.len)
              (by exact HA.out.cells (ord1 w W (some ad) n c).2.2.2)
              (words_one ws) (by unfold maxLen; omega) (by omega) (by simp) ?_)
           intro g3 c3 w3 hown3 hgr3 hat3
           have hbx := (ord1 w W (some ad) n c).2.1.grown hgr3 (some_ne (by omega))
           have hbr := (ord1 w W (some ad) n c).2.2.1.grown hgr3 (some_ne (by omega))
           have hbw := after_app (ord1 w W (some ad) n c).2.2.2 hgr3 (by omega)
           have k0 := hbx.c0
           have k1 := hbx.c1
           have hown4 : w3.ownsRow (w.heap.size + 1 + 1) 80 1 (.slice (some ⟨g3, 0, none⟩) n c3) n (words ws) := (by simpa using hown3); have Hown3 := hid hown4; have hz3 := hbw.size; have hlt3 := hbr.lt; have Hbr := hid hbr; have Hbw := hid hbw
           clear hown3 hown4 hgr3 hbx hbr hbw)
        | ((refine step_app (by rfl) _ _ 39 (by rfl) (w.heap.size + 1 + 1) 80 i0 _ 8 Try.underlying39 Hi.out Hz0.out Hz1.out Hz2.out rfl (w.heap.size + 1 + 1) 0 0 [] (by rfl)
              (by exact (ord2 w W (some ad) n c).1)
              ad n c (words ws) (by rfl) (by rw [words_len]; exact HA.out.len)
              (by exact HA.out.cells (ord2 w W (some ad) n c).2.2.2.2)
              (words_one ws) (by unfold maxLen; omega) (by omega) (by simp) ?_)
           intro g3 c3 w3 hown3 hgr3 hat3
           have hbx := (ord2 w W (some ad) n c).2.1.grown hgr3 (some_ne (by omega))
           have hbr := (ord2 w W (some ad) n c).2.2.1.grown hgr3 (some_ne (by omega))
           have hb5 := (ord2 w W (some ad) n c).2.2.2.1.grown hgr3 (some_ne (by omega))
           have hbw := after_app (ord2 w W (some ad) n c).2.2.2.2 hgr3 (by omega)
           have k0 := hbx.c0
           have k1 := hbx.c1
           have k2 := hb5.c0
           have k3 := hb5.c1
           have k4 := hb5.f 0
           have k5 := hb5.f 1
           have Hb5 := hid hb5
           clear hb5
           have hown4 : w3.ownsRow (w.heap.size + 1 + 1) 80 1 (.slice (some ⟨g3, 0, none⟩) n c3) n (words ws) := (by simpa using hown3); have Hown3 := hid hown4; have hz3 := hbw.size; have hlt3 := hbr.lt; have Hbr := hid hbr; have Hbw := hid hbw
           clear hown3 hown4 hgr3 hbx hbr hbw)
        | ((refine step_app (by rfl) _ _ 39 (by rfl) (w.heap.size + 1 + 1) 80 i0 _ 8 Try.underlying39 Hi.out Hz0.out Hz1.out Hz2.out rfl (w.heap.size + 1 + 1 + 1) 0 0 [] (by rfl)
              (by exact (ord3 w W (some ad) n c).1)
              ad n c (words ws) (by rfl) (by rw [words_len]; exact HA.out.len)
              (by exact HA.out.cells (ord3 w W (some ad) n c).2.2.2.2)
              (words_one ws) (by unfold maxLen; omega) (by omega) (by simp) ?_)
           intro g3 c3 w3 hown3 hgr3 hat3
           have hbx := (ord3 w W (some ad) n c).2.1.grown hgr3 (some_ne (by omega))
           have hbr := (ord3 w W (some ad) n c).2.2.1.grown hgr3 (some_ne (by omega))
           have hb5 := (ord3 w W (some ad) n c).2.2.2.1.grown hgr3 (some_ne (by omega))
           have hbw := after_app (ord3 w W (some ad) n c).2.2.2.2 hgr3 (by omega)
           have k0 := hbx.c0
           have k1 := hbx.c1
           have k2 := hb5.c0
           have k3 := hb5.c1
           have k4 := hb5.f 0
           have k5 := hb5.f 1
           have Hb5 := hid hb5
           clear hb5
           have hown4 : w3.ownsRow (w.heap.size + 1 + 1) 80 1 (.slice (some ⟨g3, 0, none⟩) n c3) n (words ws) := (by simpa using hown3); have Hown3 := hid hown4; have hz3 := hbw.size; have hlt3 := hbr.lt; have Hbr := hid hbr; have Hbw := hid hbw
           clear hown3 hown4 hgr3 hbx hbr hbw)
        )
    · go_wp2_with fail
      go_meet
      exact ⟨_, g3, c3, rfl, hid ⟨Box.new _ _ _ _ _, Hown3.out.alloc _, HA.out.ok, by omega, Hbr.out.alloc _, (Ht.out.below Hbw.out hTl).alloc _, grown_of_below (Hbw.out.alloc hz3 _) _⟩⟩
    · go_wp2_with fail
      go_meet
      exact ⟨_, g3, c3, rfl, hid (Spoiled.store Hb5.out Hown3.out HA.out.ok (by omega) Hbr.out (Ht.out.below Hbw.out hTl) hTl (grown_of_below Hbw.out _))⟩
    · go_wp2_with fail
      go_meet
      exact ⟨_, g3, c3, rfl, hid (Spoiled.store Hb5.out Hown3.out HA.out.ok (by omega) Hbr.out (Ht.out.below Hbw.out hTl) hTl (grown_of_below Hbw.out _))⟩
  case rest =>
    obtain ⟨b, g, c', rfl, hS⟩ := hcut
    have htt := hS.out.2.2.2.2.2.1
    have Htt := hid htt
    clear htt HA Ht
    go_wp2_with fail
    refine (next_any T 4 _ Htt.out (by omega)).mono ?_
    rintro e w4 ⟨r4, rfl, h40, h41, ht4, hg4, hs4⟩
    have hS4 := hid (hS.out.tape hTl ht4 hg4)
    clear h41 ht4 hg4 hs4 hS Htt
    obtain ⟨⟨⟨x0, x1⟩, y0, y1⟩, ⟨⟨u0, u1⟩, v0, v1⟩, hne, hlen⟩ := hS4.out.vars
    have Hlen := hid hlen
    clear hlen
    by_cases c0 : r4 = 0
    · have t0 : (r4 == 0) = true := by simp [c0]
      clear c0
      go_wp2_with fail
      go_region_with (first
        | (go_at_call 16
           go_must (
           refine (next_any T 5 _ (by exact hS4.out.drew.2.2.2.2.2.1) (by omega)).mono ?_
           rintro e w5 ⟨r5, rfl, h50, h51, ht5, hg5, hs5⟩
           have hr5 : r5 < 5 := (by omega)
           have hS5 := hid (hS4.out.drew.tape hTl ht5 hg5)
           have hS6 := hid (hS5.out.width hTl (W + (r5 - 2)))
           obtain ⟨⟨⟨x0, x1⟩, y0, y1⟩, ⟨⟨u0, u1⟩, v0, v1⟩, hne, hlen⟩ := hS5.out.vars
           clear h51 ht5 hg5 hs5 hlen)))
      all_goals
        obtain ⟨_, ⟨⟨z0, z1⟩, _⟩, _⟩ := hS6.out.vars
        go_wp2_with fail
        exact bodyPost_ret (v := .agg #[.int .i64 (W + (r5 - 2)), .slice (some ⟨g, 0, none⟩) n c']) (by simp [results, Try.results42, go_sem, z0, z1]) rfl (hS6.out.done hTl (by omega))
    · have t0 : (r4 == 0) = false := by simp [c0]
      clear c0
      by_cases c1 : r4 = 1
      · have t1 : (r4 == 1) = true := by simp [c1]
        clear c1
        go_wp2_with fail
        go_region_law (first
          | ((refine step_app (by rfl) _ _ 39 (by rfl) (w.heap.size + 1 + 1) 80 i0 _ 8 Try.underlying39 Hi.out Hz0.out Hz1.out Hz2.out rfl g n c' (words ws) (by rfl)
                (by exact (hS5.out.alloc _).2.1)
                ⟨w5.heap.size, 0, none⟩ 1 1 [.int .u64 (IntKind.u64.wrap (k5 : Int))] (by rfl) rfl (by exact new_one _ _ _) (one_int _ _) (by unfold maxLen; omega) (by omega) (by have := own_ge hS5.out.2.1; simp only [World.size_alloc]; omega) ?_)
             intro g3 c3 w3 hown3 hgr3 hat3
             rw [words_snoc _ _ (by omega)] at hown3
             have hq := hS5.out.alloc (.cells #[.int .u64 (IntKind.u64.wrap (k5 : Int))] 80)
             have hqo := hq.1.own_ne hq.2.1
             have hqg := own_ge hS5.out.2.1
             have hbx3 := hq.1.grown hgr3 (some_ne (by omega))
             have hbr3 := hq.2.2.2.2.1.grown hgr3 (some_ne (by omega))
             have htp3 : Tape w3 T := hq.2.2.2.2.2.1.keep (fun k hk => hgr3.block k (by have := hq.2.2.2.2.2.1.lt; omega) (some_ne (by omega)))
             have hgw3 : w.grownBy w3 (some T) := ⟨hgr3.os.trans hq.2.2.2.2.2.2.os, hgr3.tape.trans hq.2.2.2.2.2.2.tape, hgr3.output.trans hq.2.2.2.2.2.2.output, Nat.le_trans hq.2.2.2.2.2.2.size hgr3.size, fun i hi hi2 => (hgr3.block i (by have := hq.2.2.2.2.2.2.size; omega) (some_ne (by omega))).trans (hq.2.2.2.2.2.2.block i hi hi2)⟩
             have hS6 := hid (Spoiled.slice (ws' := ws ++ [k5]) hbx3 hown3 (by intro x hx; rcases List.mem_append.1 hx with h | h; exact hq.2.2.1 x h; simp at h; subst h; unfold Bs.W64; omega) hq.2.2.2.1 hbr3 htp3 hTl hgw3)
             have x0 := hbx3.c0
             have x1 := hbx3.c1
             have y1 := hbx3.f 1
             obtain ⟨_, ⟨⟨z0, z1⟩, z2, z3⟩, z4, _⟩ := hS6.out.vars
             have u0 := hbr3.c0
             have u1 := hbr3.c1
             have v0 := hbr3.f 0
             have v1 := hbr3.f 1
             clear hown3 hgr3 hq hbx3 hbr3 htp3 hgw3)
          | (go_simp
             go_at_call 16
             go_must (
             refine (next_any T 2 _ (by exact hS4.out.drew.2.2.2.2.2.1) (by omega)).mono ?_
             rintro e w5 ⟨r5, rfl, h50, h51, ht5, hg5, hs5⟩
             obtain ⟨k5, rfl⟩ := Int.eq_ofNat_of_zero_le h50
             have hr5 : k5 < 2 := (by omega)
             have hS5 := hid (hS4.out.drew.tape hTl ht5 hg5)
             have hbl5 := hS5.out.1.lt
             obtain ⟨⟨⟨x0, x1⟩, y0, y1⟩, ⟨⟨u0, u1⟩, v0, v1⟩, hne, hlen⟩ := hS5.out.vars
             clear h51 ht5 hg5 hs5 hlen)))
        all_goals
          go_wp2_with fail
          exact bodyPost_ret (v := .agg #[.int .i64 W, .slice (some ⟨g3, 0, none⟩) (n + 1) c3]) (by simp [results, Try.results42, go_sem, z0, z1]) rfl (hS6.out.done hTl (by omega))
      · have t1 : (r4 == 1) = false := by simp [c1]
        clear c1
        by_cases c2 : r4 = 2
        · have t2 : (r4 == 2) = true := by simp [c2]
          clear c2
          by_cases hn0 : 0 < n
          · obtain ⟨m, rfl⟩ : ∃ m, n = m + 1 := ⟨n - 1, by omega⟩
            have hj : m < m + 1 := by omega
            obtain ⟨⟨q0, q1⟩, q2, q3⟩ := hS4.out.atWord hj
            generalize hx : Bs.wd ws m = x at q0 q2
            have Hx := hid hx; have Q2 := hid q2
            clear hx q2
            have hwr : IntKind.i64.wrap (m : Int) = m := IntWalk.i64_in _ (by omega)
            have hm0 : (0 : Int) ≤ m := by omega
            have hm1 : (m : Int).toNat = m := by omega
            have hm2 : (m : Int) < (m : Int) + 1 := by omega
            go_wp2_with fail
            go_region_with (first
              | (go_at_call 16
                 go_must (
                 refine (next_any T 64 _ (by exact hS4.out.drew.2.2.2.2.2.1) (by omega)).mono ?_
                 rintro e w5 ⟨r5, rfl, h50, h51, ht5, hg5, hs5⟩
                 obtain ⟨k5, rfl⟩ := Int.eq_ofNat_of_zero_le h50
                 have hr5 : k5 < 64 := (by omega)
                 have hS5 := hid (hS4.out.drew.tape hTl ht5 hg5)
                 obtain ⟨⟨⟨x0, x1⟩, y0, y1⟩, ⟨⟨u0, u1⟩, v0, v1⟩, hne, hlen⟩ := hS5.out.vars
                 obtain ⟨⟨q0, q1⟩, q2, q3⟩ := hS5.out.atWord hj
                 rw [Hx.out] at q0
                 have hS6 := hid (hS5.out.word hTl m (x ||| 2 ^ k5) (Nat.or_lt_two_pow (n := 64) Q2.out (Nat.pow_lt_pow_right (by decide) hr5)))
                 have hw6 : IntKind.u64.wrap (2 ^ min (IntKind.u64.wrap (k5 : Int)).toNat 64) = IntKind.u64.wrap (2 ^ k5) := (by rw [wrap_small k5 hr5, Int.toNat_natCast, Nat.min_eq_left (by omega)])
                 have hw7 : bits BinOp.or IntKind.u64 (x : Int) (IntKind.u64.wrap (2 ^ min (IntKind.u64.wrap (k5 : Int)).toNat 64)) = ((x ||| 2 ^ k5 : Nat) : Int) := (by rw [hw6]; exact or_bit x k5 Q2.out hr5)
                 have Hw7 := hid hw7
                 clear h51 ht5 hg5 hs5 hlen q2 hw6 hw7)))
            all_goals
              rw [Hw7.out]
              obtain ⟨⟨⟨x0, x1⟩, y0, y1⟩, ⟨⟨z0, z1⟩, z2, z3⟩, hne, hlen⟩ := hS6.out.vars
              have Hlen6 := hid hlen
              clear hlen
              go_wp2_with fail
              exact bodyPost_ret (v := .agg #[.int .i64 W, .slice (some ⟨g, 0, none⟩) (m + 1) c']) (by simp [results, Try.results42, go_sem, z0, z1]) rfl (hS6.out.done hTl (by omega))
          · have t3 : decide (0 < (n : Int)) = false := by simp; omega
            go_wp2_with fail
            exact bodyPost_ret (v := .agg #[.int .i64 W, .slice (some ⟨g, 0, none⟩) n c']) (by simp [results, Try.results42, go_sem, u0, u1]) rfl (hS4.out.done hTl (by omega))
        · have t2 : (r4 == 2) = false := by simp [c2]
          clear c2
          go_wp2_with fail
          refine (next_any T 4 _ (hS4.out.alloc _).2.2.2.2.2.1 (by omega)).mono ?_
          rintro e w5 ⟨r5, rfl, h50, h51, ht5, hg5, hs5⟩
          obtain ⟨v, hv⟩ : ∃ v : Int, w5.cell? ⟨w4.heap.size, r5.toNat, none⟩ = some (.int .i64 v) := by
            have hh := heap_alloc_new w4 (Obj.cells #[.int .i64 (-1), .int .i64 257, .int .i64 320, .int .i64 0] 3)
            have hblk := hg5.block w4.heap.size (by rw [World.size_alloc]; omega) (some_ne (by have := hS4.out.2.2.2.2.2.1.lt; omega))
            rw [hh] at hblk
            have h4 : r5 = 0 ∨ r5 = 1 ∨ r5 = 2 ∨ r5 = 3 := by omega
            rcases h4 with rfl | rfl | rfl | rfl
            · exact ⟨-1, by simp [World.cell?, hblk]⟩
            · exact ⟨257, by simp [World.cell?, hblk]⟩
            · exact ⟨320, by simp [World.cell?, hblk]⟩
            · exact ⟨0, by simp [World.cell?, hblk]⟩
          have hr5 : r5 < 4 := by omega
          have hS5 := hid ((hS4.out.alloc _).tape hTl ht5 hg5)
          have hS6 := hid (hS5.out.width hTl v)
          obtain ⟨⟨⟨x0, x1⟩, y0, y1⟩, ⟨⟨u0, u1⟩, v0, v1⟩, hne, hlen⟩ := hS5.out.vars
          obtain ⟨_, ⟨⟨z0, z1⟩, _⟩, _⟩ := hS6.out.vars
          clear h51 ht5 hg5 hs5 hlen
          go_wp2_with fail
          exact bodyPost_ret (v := .agg #[.int .i64 v, .slice (some ⟨g, 0, none⟩) n c']) (by simp [results, Try.results42, go_sem, z0, z1]) rfl (hS6.out.done hTl (by omega))
end Go.Proofs.Ytbjaebbmajhjjaa

namespace Go.Proofs.Ytbjaebbmajhjjaa
set_option maxRecDepth 20000
open Go.ChangeShapes Go.WideShapes Go.ChangeAt Go.RowKit

def emptyR (W : Int) : Int × List Nat × Int := if W < 0 ∨ 256 < W then (0, [], 3) else (W, Bs.emp W.toNat, 0)
def fullR (W : Int) : Int × List Nat × Int := if W < 0 ∨ 256 < W then (0, [], 3) else (W, Bs.ofP W.toNat (fun _ => true) W.toNat, 0)
def withR (W : Int) (ws : List Nat) (b : Int) : Int × List Nat × Int :=
  if Bs.validB W ws = false then (0, [], 1) else if b < 0 ∨ W ≤ b then (0, [], 3) else (W, Bs.put ws b.toNat, 0)
def withoutR (W : Int) (ws : List Nat) (b : Int) : Int × List Nat × Int :=
  if Bs.validB W ws = false then (0, [], 1) else if b < 0 ∨ W ≤ b then (0, [], 3) else (W, Bs.ofP W.toNat (fun i => Bs.bit ws i && !decide (i = b.toNat)) W.toNat, 0)

theorem boxB (w : World) (W : Int) (A : Option Addr) (n c : Nat) :
    Box ((w.alloc (.cells #[.int .i64 W, .slice A n c] 41)).alloc (.cells #[.int .i64 0, .slice none 0 0] 41)) w.heap.size W A n c ∧
    Box ((w.alloc (.cells #[.int .i64 W, .slice A n c] 41)).alloc (.cells #[.int .i64 0, .slice none 0 0] 41)) (w.heap.size + 1) 0 none 0 0 := box2 w W 0 A none n c 0 0

theorem without_eq (v k : Nat) (ws : List Nat) (hv : Bs.validB (v : Int) ws = true) (hk : k < v) :
    mixR (flag true false false) (v : Int) ws (v : Int) (Bs.put (Bs.emp v) k) = withoutR (v : Int) ws (k : Int) := by
  have hW : v ≤ 256 := by have := (Bs.validB_iff.1 hv).2.1; omega
  have hf := Bs.fit_put (Bs.fit_emp v) hk
  have h2 := Bs.valid_of_fit hf hW
  unfold mixR withoutR
  rw [if_neg (by simp [hv, h2]), if_neg (by simp), if_neg (by simp [hv]), if_neg (by omega), Int.toNat_natCast, Int.toNat_natCast]
  congr 2
  refine Bs.ofP_congr fun i _ => ?_
  rw [Bs.bit_put _ _ _ (by rw [(Bs.fit_emp v).len]; exact Bs.lt_nw hk), Bs.bit_emp]
  simp [flag]

/-- Block g holds n words of the call's own. -/
def OwnW (w : World) (base g n c : Nat) (ws : List Nat) : Prop := w.ownsRow base 80 1 (.slice (some ⟨g, 0, none⟩) n c) n (words ws)
theorem OwnW.len {w : World} {base g n c : Nat} {ws : List Nat} (h : OwnW w base g n c ws) : ws.length = n := by
  have := h.1; rw [words_len] at this; omega
theorem OwnW.ge {w : World} {base g n c : Nat} {ws : List Nat} (h : OwnW w base g n c ws) : base ≤ g ∧ g < w.heap.size := own_ge h
theorem OwnW.arg {w : World} {base g n c : Nat} {ws : List Nat} (h : OwnW w base g n c ws) (ok : ∀ x ∈ ws, x < Bs.W64) : Arg w (some ⟨g, 0, none⟩) n ws :=
  ⟨.inr ⟨_, rfl, h.ge.2, h.cells rfl⟩, h.len, ok⟩
theorem OwnW.below {w w' : World} {base g n c : Nat} {ws : List Nat} (h : OwnW w base g n c ws) (hb : Below w.heap.size w w') : OwnW w' base g n c ws := own_below h hb
theorem OwnW.far {w : World} {base g n c : Nat} {ws : List Nat} (h : OwnW w base g n c ws) {p : Addr} (hp : g ≠ p.block) (u : Value) : OwnW (w.setCell p u) base g n c ws :=
  World.ownsRow.kept h (grown_set w p.block rfl u) (.inr (some_ne hp))
theorem Row.own {w : World} {g base : Nat} {ws : List Nat} (h : Row w g ws) (hb : base ≤ g) (hl : ws.length ≤ 1000) : OwnW w base g ws.length ws.length ws :=
  ⟨by simp [words_len], .inr ⟨g, ws.length, _, rfl, hb, h, Nat.le_refl _, by unfold maxLen; omega, by simp [words_len], by rw [Nat.mul_one, ← words_len]; exact List.take_length⟩⟩

theorem put_any (W : Int) (base g n c : Nat) (ws : List Nat) (k : Nat) (w : World) (h : OwnW w base g n c ws) (ok : ∀ x ∈ ws, x < Bs.W64) (hk : k / 64 < n) (hk2 : k < 256) :
    Calls Try.prog 130 #[.agg #[.int .i64 W, .slice (some ⟨g, 0, none⟩) n c], .int .i64 k] w fun e w' => (∃ v, e = .returned v) ∧ OwnW w' base g n c (Bs.put ws k) ∧ w.grownBy w' (some g) := by
  have hb := (Below.refl w.heap.size w).alloc (Nat.le_refl _) (.cells #[.int .i64 W, .slice (some ⟨g, 0, none⟩) n c] 41)
  have hx := Box.new w W (some ⟨g, 0, none⟩) n c
  have hal := h.below hb
  have hg := h.ge
  clear h
  have hl := hal.len
  have hc1 := hx.c1
  have hcell := (hal.cellAt (k / 64) (by omega)).trans (words_get (by omega))
  have hfr := hal.frozenAt (k / 64)
  have hst := hal.stored (k / 64) (.int .u64 (Bs.wd ws (k / 64) ||| 2 ^ (k % 64) : Nat))
  have hor := or_bit (Bs.wd ws (k / 64)) (k % 64) (Bs.wd_lt ok _) (by omega)
  rw [words_set] at hst
  have e : ws.set (k / 64) (Bs.wd ws (k / 64) ||| 2 ^ (k % 64)) = Bs.put ws k := rfl
  rw [e] at hst
  generalize Bs.wd ws (k / 64) ||| 2 ^ (k % 64) = y at hor hst
  generalize Bs.wd ws (k / 64) = x at hcell hor
  have Hst := hid hst.1; have Hb := hid hb; have Hg := hid hst.2
  have hk0 : (0 : Int) ≤ k := by omega
  have hw : IntKind.i64.wrap ((k : Int) / 64) = ((k / 64 : Nat) : Int) := by rw [IntWalk.i64_in _ (by omega)]; simp
  clear hst hx hal hb e ok
  generalize k / 64 = q at *
  have hq0 : (0 : Int) ≤ q := by omega
  have hq1 : (q : Int) < n := by omega
  go_enter Try.func130, Try.ntmps130
  go_wp2_with fail
  generalize w.alloc (.cells #[.int .i64 W, .slice (some ⟨g, 0, none⟩) n c] 41) = w1 at *
  refine wp_region_still_tail 10 (by kernel_rfl) (by kernel_rfl) ?_
  simp only [List.take_succ_cons, List.take_zero, List.drop_succ_cons, List.drop_zero]
  repeat still_step
  still_call (mask_any _ _)
  repeat still_step
  try refine wpStill_nil ?_
  change wpList _ _ _ _ _ (World.drew _)
  go_wp2
  refine bodyPost_end (v := .tuple #[]) (by simp [results, Try.results130]) rfl ⟨⟨_, rfl⟩, Hst.out.drew, grown_trans (grown_of_below Hb.out _) (grown_trans Hg.out (grown_drew _ _))⟩

theorem devEmpty_own (v : Nat) (w : World) (hv : v ≤ 256) :
    Calls Try.prog 87 #[.int .i64 v] w fun e w' => ∃ g, e = .returned (.tuple #[.agg #[.int .i64 v, .slice (some ⟨g, 0, none⟩) (Bs.nw v) (Bs.nw v)], .int .i64 0]) ∧ OwnW w' w.heap.size g (Bs.nw v) (Bs.nw v) (Bs.emp v) ∧ Below w.heap.size w w' := by
  have H := hid (show (decide ((0 : Int) ≤ v) && decide ((v : Int) ≤ 256)) = true by simp; omega)
  have hm := run_rows (Bs.nw v) (by unfold Bs.nw; omega)
  have hl5 : Bs.nw v ≤ 5 := by unfold Bs.nw; omega
  have hown : ∀ o, OwnW ((w.alloc o).alloc (.cells (words (List.replicate (Bs.nw v) 0)).toArray 80)) w.heap.size (w.heap.size + 1) (Bs.nw v) (Bs.nw v) (Bs.emp v) := fun o => by
    have h := heap_alloc_new (w.alloc o) (.cells (words (List.replicate (Bs.nw v) 0)).toArray 80)
    rw [World.size_alloc] at h
    have h2 := Row.own (ws := Bs.emp v) (base := w.heap.size) h (by omega) (by rw [len_emp]; omega)
    rwa [len_emp] at h2
  have hb : ∀ o, Below w.heap.size w ((w.alloc o).alloc (.cells (words (List.replicate (Bs.nw v) 0)).toArray 80)) :=
    fun o => ((Below.refl w.heap.size w).alloc (Nat.le_refl _) o).alloc (by simp) _
  have Hown := hid hown; have Hb := hid hb
  clear hown hb
  go_enter Try.func87, Try.ntmps87
  go_wp2_with (first
    | (go_at_call 114; refine (permitted_is _ _ _ H).mono ?_; rintro e w2 ⟨rfl, rfl⟩)
    | (go_at_call 115; refine (wordsOf_any _ _ hv).mono ?_; rintro e w2 ⟨rfl, rfl⟩))
  exact bodyPost_ret (v := .tuple #[.agg #[.int .i64 v, .slice (some ⟨w.heap.size + 1, 0, none⟩) (Bs.nw v) (Bs.nw v)], .int .i64 0]) (by simp [results, Try.results87, go_sem]) rfl ⟨w.heap.size + 1, rfl, Hown.out _, Hb.out _⟩

theorem devEmpty_any (W : Int) (w : World) : Calls Try.prog 87 #[.int .i64 W] w (RetErr w (emptyR W)) := by
  by_cases h : W < 0 ∨ 256 < W
  · have hr : emptyR W = (0, [], 3) := by unfold emptyR; rw [if_pos h]
    rw [hr]
    have H := hid (show (decide (0 ≤ W) && decide (W ≤ 256)) = false by rcases h with h | h <;> simp <;> omega)
    clear hr h
    go_enter Try.func87, Try.ntmps87
    go_wp2_with (go_at_call 114; refine (permitted_is _ _ _ H).mono ?_; rintro e w2 ⟨rfl, rfl⟩)
    exact bodyPost_ret (v := .tuple #[.agg #[.int .i64 0, .slice none 0 0], .int .i64 3]) (by simp [results, Try.results87, go_sem]) rfl ⟨_, _, _, rfl, Arg.nil _ _, (Below.refl _ _).alloc (Nat.le_refl _) _⟩
  · obtain ⟨v, rfl⟩ := Int.eq_ofNat_of_zero_le (a := W) (by omega)
    have hr : emptyR (v : Int) = ((v : Int), Bs.emp v, 0) := by unfold emptyR; rw [if_neg h, Int.toNat_natCast]
    rw [hr]
    refine (devEmpty_own v w (by omega)).mono ?_
    rintro e w' ⟨g, rfl, ho, hb⟩
    exact ⟨_, _, _, rfl, ho.arg (Bs.fit_emp v).ok, hb⟩

/-- Words came back, of the call's own where they are not none. -/
theorem clone_any (A : Option Addr) (n c : Nat) (ws : List Nat) (w : World) (hA : Arg w A n ws) (hn : n ≤ 100) (h0 : 0 < n) :
    Calls Try.prog 112 #[.slice A n c] w fun e w' => ∃ g c', e = .returned (.slice (some ⟨g, 0, none⟩) n c') ∧ OwnW w' w.heap.size g n c' ws ∧ Below w.heap.size w w' := by
  obtain ⟨ad, rfl, had, _⟩ := hA.lies.cell (words_get (i := 0) (by rw [hA.len]; omega))
  obtain ⟨i0, hi, hz0, hz1, hz2⟩ := info_parts info62'
  have HA := hid hA; have Hi := hid hi; have Hz0 := hid hz0; have Hz1 := hid hz1; have Hz2 := hid hz2
  clear hA hi hz0 hz1 hz2
  have hnil : ∀ w : World, (binOp .eql 39 (.slice (some ad) n c) (.slice none 0 0)).run Try.prog w = .ok (.bool false) w := fun w => Lib.run_eql_slice_nil w 39 80 (some ad) n c 0 0 Try.underlying39
  have hb := (Below.refl w.heap.size w).alloc (Nat.le_refl _) (.cells #[] 80)
  have Hb := hid hb
  clear hb
  go_enter Try.func112, Try.ntmps112
  go_wp2_with (at_builtin
               refine wpList_append_own _ rfl _ _ 39 rfl w.heap.size 80 i0 (.int .u64 0) 1 8 Try.underlying39 Hi.out Hz0.out Hz1.out Hz2.out rfl (by decide) _ _ _ rfl (empty_own w w.heap.size w.heap.size (Nat.le_refl _) rfl) ad n c (words ws) rfl (by rw [words_len, Nat.mul_one]; exact HA.out.len) (Arg.cells HA.out Hb.out) (words_one ws) (by unfold maxLen; omega) (by omega) (by simp) ?_
               intro v' w3 hown3 hgr3 hnil3
               have Hown := hid hown3; have Hgr := hid hgr3; have Hnil := hid hnil3
               clear hown3 hgr3 hnil3)
  go_ret
  have ho := Hown.out
  rw [Nat.zero_add, List.nil_append] at ho
  have hg : (w.alloc (.cells #[] 80)).grownBy w3 (some w.heap.size) := Hgr.out
  rcases id ho.2 with ⟨hv, h0'⟩ | ⟨g, cap, cur, rfl, hb⟩
  · omega
  · exact ⟨g, cap, rfl, ho, Hb.out.grown hg (by simp) (by intro k hk; injection hk with hk; omega)⟩
end Go.Proofs.Ytbjaebbmajhjjaa

namespace Go.Proofs.Ytbjaebbmajhjjaa
set_option maxRecDepth 20000
open Go.ChangeShapes Go.WideShapes Go.ChangeAt Go.RowKit

theorem OwnW.less {w : World} {base base' g n c : Nat} {ws : List Nat} (h : OwnW w base g n c ws) (hb : base' ≤ base) : OwnW w base' g n c ws := by
  refine ⟨h.1, ?_⟩
  rcases h.2 with h' | ⟨g', cap, cur, h1, h2, h3⟩
  · exact .inl h'
  · exact .inr ⟨g', cap, cur, h1, Nat.le_trans hb h2, h3⟩

/-- A set that is being filled in variable b, its words in block g; the result's cell r is still empty. -/
def Filling (w : World) (b r v g n c : Nat) (zs : List Nat) (wr : World) : Prop :=
  Box wr b v (some ⟨g, 0, none⟩) n c ∧ OwnW wr w.heap.size g n c zs ∧ w.heap.size ≤ b ∧ b ≠ r ∧ w.heap.size ≤ r ∧ Box wr r 0 none 0 0 ∧ Below w.heap.size w wr
theorem Filling.put {w wr w5 : World} {b r v g n c : Nat} {zs zs' : List Nat} (h : Filling w b r v g n c zs wr) (ho : OwnW w5 w.heap.size g n c zs') (hg : wr.grownBy w5 (some g)) : Filling w b r v g n c zs' w5 := by
  obtain ⟨h1, h2, h3, h4, h5, h6, h7⟩ := h
  have e1 := h1.own_ne h2
  have e2 := h6.own_ne h2
  have hge := h2.ge
  exact ⟨h1.grown hg (some_ne (Ne.symm e1)), ho, h3, h4, h5, h6.grown hg (some_ne (Ne.symm e2)), h7.grown hg h7.size (by intro k hk; injection hk with hk; omega)⟩
theorem Filling.start {w w2 : World} {g r v n c : Nat} {zs : List Nat} (ho : OwnW w2 w.heap.size g n c zs) (hr : Box w2 r 0 none 0 0) (hr2 : w.heap.size ≤ r) (hb : Below w.heap.size w w2) :
    Filling w w2.heap.size r v g n c zs (w2.alloc (.cells #[.int .i64 v, .slice (some ⟨g, 0, none⟩) n c] 41)) := by
  have := hr.lt
  exact ⟨Box.new _ _ _ _ _, ho.below ((Below.refl _ _).alloc (Nat.le_refl _) _), hb.size, by omega, hr2, hr.alloc _, hb.alloc hb.size _⟩
theorem Filling.cells {w wr : World} {b r v g n c : Nat} {zs : List Nat} (h : Filling w b r v g n c zs wr) :
    ((wr.cell? ⟨b, 0, none⟩ = some (.int .i64 v) ∧ wr.cell? ⟨b, 1, none⟩ = some (.slice (some ⟨g, 0, none⟩) n c)) ∧ (wr.cell? ⟨r, 0, none⟩ = some (.int .i64 0) ∧ wr.cell? ⟨r, 1, none⟩ = some (.slice none 0 0))) ∧ (wr.frozen? ⟨r, 0, none⟩ = false ∧ wr.frozen? ⟨r, 1, none⟩ = false) ∧ b ≠ r := by
  obtain ⟨h1, h2, h3, h4, h5, h6, h7⟩ := h
  exact ⟨⟨⟨h1.c0, h1.c1⟩, h6.c0, h6.c1⟩, ⟨h6.f 0, h6.f 1⟩, h4⟩
/-- The set is stored into the result's cell. -/
theorem Filling.done {w wr : World} {b r v g n c : Nat} {zs : List Nat} (h : Filling w b r v g n c zs wr) (ok : ∀ x ∈ zs, x < Bs.W64) :
    Arg ((wr.setCell ⟨r, 0, none⟩ (.int .i64 v)).setCell ⟨r, 1, none⟩ (.slice (some ⟨g, 0, none⟩) n c)) (some ⟨g, 0, none⟩) n zs ∧
      Below w.heap.size w ((wr.setCell ⟨r, 0, none⟩ (.int .i64 v)).setCell ⟨r, 1, none⟩ (.slice (some ⟨g, 0, none⟩) n c)) := by
  obtain ⟨h1, h2, h3, h4, h5, h6, h7⟩ := h
  have e2 := h6.own_ne h2
  exact ⟨((h2.far (p := ⟨r, 0, none⟩) e2 _).far (p := ⟨r, 1, none⟩) e2 _).arg ok, (h7.setCell (by simpa using h5) _).setCell (by simpa using h5) _⟩

theorem devOf_any (W : Int) (A : Option Addr) (n c : Nat) (l : List Int) (w : World) (hA : IArg w A n l) (hn : n ≤ maxLen) :
    Calls Try.prog 120 #[.int .i64 W, .slice A n c] w (RetErr w (ofR W l)) := by
  by_cases h : W < 0 ∨ 256 < W
  · have hr : ofR W l = (0, [], 3) := by unfold ofR; rw [if_pos h]
    have hr2 : emptyR W = (0, [], 3) := by unfold emptyR; rw [if_pos h]
    rw [hr]
    have Hr2 := hid hr2
    have Hx := hid (Box.new w 0 none 0 0)
    clear hr hr2 h hA
    go_enter Try.func120, Try.ntmps120
    go_wp2_with fail
    refine (devEmpty_any W _).mono ?_
    rw [Hr2.out]
    rintro e w1 ⟨A1, n1, c1, rfl, ha, hb⟩
    have hq := Hx.out.below hb (by simp)
    have hq0 := hq.c0
    have hq1 := hq.c1
    have hf0 := hq.f 0
    have hf1 := hq.f 1
    have hz := hb.size
    rw [World.size_alloc] at hz
    have hz2 : w.heap.size < w1.heap.size := hz
    have Hb := hid (((Below.refl w.heap.size w).alloc (Nat.le_refl _) _).trans (hb.mono (by simp)))
    clear hq ha hb
    simp only []
    go_wp2_with fail
    exact bodyPost_ret (v := .tuple #[.agg #[.int .i64 0, .slice none 0 0], .int .i64 3]) (by simp [results, Try.results120, go_sem, hq0, hq1, hz2]) rfl ⟨_, _, _, rfl, Arg.nil _ _, ((Hb.out.setCell (by simp) _).setCell (by simp) _).alloc (by simp; omega) _⟩
  · obtain ⟨v, rfl⟩ := Int.eq_ofNat_of_zero_le (a := W) (by omega)
    have hv : v ≤ 256 := by omega
    unfold maxLen at hn
    have Hx := hid (Box.new w 0 none 0 0)
    have HA := hid hA; have H0 := hid h
    clear h hA
    go_enter Try.func120, Try.ntmps120
    go_wp2_with fail
    refine (devEmpty_own v _ hv).mono ?_
    rintro e w2 ⟨g, rfl, ho, hb⟩
    have hst := Filling.start (w := w) (r := w.heap.size) (v := v) (zs := Bs.emp v) (by rw [World.size_alloc] at ho; exact OwnW.less ho (by omega)) (Hx.out.below hb (by simp)) (Nat.le_refl _) (((Below.refl _ _).alloc (Nat.le_refl _) _).trans (hb.mono (by simp)))
    have he : Bs.emp v = Bs.ofP v (fun i => decide ((i : Int) ∈ l.take 0)) v := by
      rw [show (fun i : Nat => decide ((i : Int) ∈ l.take 0)) = fun _ => false from by funext i; simp]; exact (Bs.ofP_false v v).symm
    rw [he] at hst
    have Hst := hid hst
    clear hst ho hb Hx he
    go_wp2_with fail
    go_loopw [9, 21] (fun _ i wr => ∃ k : Nat, k ≤ n ∧ i = .int .i64 k ∧ Hid ((∀ x ∈ l.take k, 0 ≤ x ∧ x < v) ∧ Filling w w2.heap.size w.heap.size v g (Bs.nw v) (Bs.nw v) (Bs.ofP v (fun i => decide ((i : Int) ∈ l.take k)) v) wr)) (fun _ i _ => n - (intOf i).toNat)
    case atStart => exact ⟨0, by omega, rfl, hid ⟨by simp, Hst.out⟩⟩
    case round =>
      obtain ⟨k, hk, rfl, hG⟩ := hrel
      have Hfit := hid (Bs.fit_ofP v (fun i => decide ((i : Int) ∈ l.take k)) v (Nat.le_refl _))
      obtain ⟨⟨⟨hc0, hc1⟩, hr0, hr1⟩, ⟨hf0, hf1⟩, hne⟩ := hG.out.2.cells
      have Hfr := hid hG.out.2.2.2.2.2.2.2
      clear Hst
      by_cases hlt : k < n
      · have hkl : k < l.length := by rw [HA.out.len]; exact hlt
        obtain ⟨ad, rfl, had, hcell⟩ := (HA.out.below Hfr.out).lies.cell (ints_get hkl)
        have hsn := take_snoc l k hkl
        have hxl : l.getD k 0 = l[k] := by rw [List.getD_eq_getElem?_getD, List.getElem?_eq_getElem hkl]; rfl
        have hmem : l[k] ∈ l := List.getElem_mem hkl
        rw [← hxl] at hsn hmem
        generalize l.getD k 0 = x at hcell hsn hmem
        have Hsn := hid hsn; have Hmem := hid hmem
        clear hsn hmem hxl
        have hk0 : (0 : Int) ≤ k := by omega
        have hkn : (k : Int).toNat = k := by omega
        have hk1 : (k : Int) < n := by omega
        cases hi : (decide (0 ≤ x) && decide (x < (v : Int))) with
        | true =>
          have h2 := hi
          simp at h2
          obtain ⟨hx0, hx1⟩ := h2
          obtain ⟨b, rfl⟩ := Int.eq_ofNat_of_zero_le hx0
          have hbv : b < v := by omega
          have Hi := hid hi
          clear hi hr0 hr1 hf0 hf1
          go_wp2_with (first
            | (go_at_call 129; refine (inside_is _ _ _ _ Hi).mono ?_; rintro e w5 ⟨rfl, rfl⟩)
            | (go_at_call 130; refine (put_any v _ g _ _ _ b _ hG.out.2.2.1 Hfit.out.ok (Bs.lt_nw hbv) (by omega)).mono ?_
               rintro e w5 ⟨⟨v5, rfl⟩, ho, hg⟩
               have hfin := hG.out.2.put ho hg
               rw [Bs.put_ofP _ hbv] at hfin
               have Hfin := hid hfin
               clear hfin ho hg))
          go_roundw
          case rel =>
            refine ⟨k + 1, by omega, by go_num, hid ⟨?_, ?_⟩⟩
            · rw [Hsn.out]; intro y hy
              rcases List.mem_append.1 hy with h | h
              · exact hG.out.1 y h
              · simp at h; subst h; exact ⟨hx0, hx1⟩
            · rw [Bs.ofP_congr (q := fun i => decide ((i : Int) ∈ l.take k) || decide (i = b)) (fun i _ => by rw [Hsn.out]; exact mem_snoc _ _ _)]
              exact Hfin.out
          case measure => simp [intOf]; omega
        | false =>
          have hres : ofR (v : Int) l = (0, [], 3) := by
            unfold ofR
            rw [if_neg H0.out, if_pos]
            refine List.any_eq_true.2 ⟨x, Hmem.out, ?_⟩
            simp at hi ⊢; omega
          have Hres := hid hres; have Hi := hid hi
          clear hres hi
          go_wp2_with (go_at_call 129; refine (inside_is _ _ _ _ Hi).mono ?_; rintro e w5 ⟨rfl, rfl⟩)
          refine bodyPost_ret (v := .tuple #[.agg #[.int .i64 0, .slice none 0 0], .int .i64 3]) (by simp [results, Try.results120, go_sem, hr0, hr1]) rfl ?_
          rw [Hres.out]
          exact ⟨_, _, _, rfl, Arg.nil _ _, (Hfr.out.setCell (by simp) _).setCell (by simp) _⟩
      · have hkW : k = n := by omega
        have hall : l.take k = l := List.take_of_length_le (by rw [HA.out.len]; omega)
        have hres : ofR (v : Int) l = ((v : Int), Bs.ofP v (fun i => decide ((i : Int) ∈ l)) v, 0) := by
          unfold ofR
          rw [if_neg H0.out, if_neg, Int.toNat_natCast]
          intro h
          obtain ⟨x, hx, hb⟩ := List.any_eq_true.1 h
          have := hG.out.1 x (by rw [hall]; exact hx)
          simp at hb; omega
        have hd := hG.out.2.done Hfit.out.ok
        have Hres := hid hres; have Hall := hid hall; have Hd := hid hd
        clear hres hall hkW hd hG Hfr
        go_wp2_with fail
        refine bodyPost_ret (v := .tuple #[.agg #[.int .i64 v, .slice (some ⟨g, 0, none⟩) (Bs.nw v) (Bs.nw v)], .int .i64 0]) (by simp [results, Try.results120, go_sem, hr0, hr1]) rfl ?_
        rw [Hres.out]
        refine ⟨_, _, _, rfl, ?_, Hd.out.2⟩
        have hh := Hd.out.1
        rw [Hall.out] at hh
        exact hh
end Go.Proofs.Ytbjaebbmajhjjaa

namespace Go.Proofs.Ytbjaebbmajhjjaa
set_option maxRecDepth 20000
set_option linter.unusedVariables false
set_option linter.unusedSimpArgs false
open Go.ChangeShapes Go.WideShapes Go.ChangeAt Go.RowKit

/-- Cells that lie in a block of the call's own. -/
def NewAt (w w' : World) (A : Option Addr) (xs : List Value) : Prop := ∀ ex : List (Option Nat), (∀ k, some k ∈ ex → k < w.heap.size) → EAt w' ex A xs
theorem NewAt.own {w w' : World} {ty k n c : Nat} {A : Option Addr} {xs : List Value} (h : w'.ownsRow w.heap.size ty k (.slice A n c) n xs) : NewAt w w' A xs := fun ex hex =>
  EAt.own h fun g hg hm => by have := hex g hm; have := (h.lt g hg).1; omega
theorem NewAt.nil (w w' : World) (A : Option Addr) : NewAt w w' A [] := fun ex _ => EAt.nil _ _ _
theorem NewAt.below {w w' w'' : World} {A : Option Addr} {xs : List Value} (h : NewAt w w' A xs) (hb : Below w'.heap.size w' w'') : NewAt w w'' A xs := fun ex hex => (h ex hex).go (Go2.below hb)
theorem NewAt.back {w0 w w' : World} {A : Option Addr} {xs : List Value} (h : NewAt w w' A xs) (hz : w0.heap.size ≤ w.heap.size) : NewAt w0 w' A xs := fun ex hex => h ex fun k hk => by have := hex k hk; omega
def RetW (w : World) (n : Nat) (ws : List Nat) (e : Ending) (w' : World) : Prop := ∃ (A' : Option Addr) (c' : Nat), e = .returned (.slice A' n c') ∧ NewAt w w' A' (words ws) ∧ Below w.heap.size w w'
theorem cloneW_any (A : Option Addr) (n c : Nat) (ws : List Nat) (w : World) (hA : Arg w A n ws) (hn : n ≤ 100) :
    Calls Try.prog 112 #[.slice A n c] w (RetW w n ws) := by
  by_cases h0 : 0 < n
  · refine (clone_any A n c ws w hA hn h0).mono ?_
    rintro e w' ⟨g, c', rfl, ho, hb⟩
    exact ⟨_, _, rfl, NewAt.own ho, hb⟩
  · obtain rfl : n = 0 := by omega
    have hws : ws = [] := List.eq_nil_of_length_eq_zero hA.len
    subst hws
    obtain ⟨i0, hi, hz0, hz1, hz2⟩ := info_parts info62'
    have Hi := hid hi; have Hz0 := hid hz0; have Hz1 := hid hz1; have Hz2 := hid hz2
    clear hA hi hz0 hz1 hz2
    have hb := (Below.refl w.heap.size w).alloc (Nat.le_refl _) (.cells #[] 80)
    have Hb := hid hb
    clear hb
    cases A with
    | none =>
      have hnil : ∀ w : World, (binOp .eql 39 (.slice none 0 c) (.slice none 0 0)).run Try.prog w = .ok (.bool true) w := fun w => Lib.run_eql_slice_nil w 39 80 none 0 c 0 0 Try.underlying39
      go_enter Try.func112, Try.ntmps112
      go_wp2_with fail
      go_ret
      exact ⟨_, _, rfl, NewAt.nil _ _ _, Below.refl _ _⟩
    | some ad =>
      have hnil : ∀ w : World, (binOp .eql 39 (.slice (some ad) 0 c) (.slice none 0 0)).run Try.prog w = .ok (.bool false) w := fun w => Lib.run_eql_slice_nil w 39 80 (some ad) 0 c 0 0 Try.underlying39
      go_enter Try.func112, Try.ntmps112
      go_wp2_with fail
      go_ret
      exact ⟨_, _, rfl, NewAt.nil _ _ _, Hb.out⟩
end Go.Proofs.Ytbjaebbmajhjjaa

namespace Go.Proofs.Ytbjaebbmajhjjaa
set_option maxRecDepth 20000
set_option linter.unusedVariables false
set_option linter.unusedSimpArgs false
open Go.ChangeShapes Go.WideShapes Go.ChangeAt Go.RowKit

/-- A set came back, its words in a block of the call's own. -/
def RetZ (w : World) (W : Int) (n : Nat) (ws : List Nat) (e : Ending) (w' : World) : Prop :=
  ∃ (A' : Option Addr) (c' : Nat), e = .returned (.agg #[.int .i64 W, .slice A' n c']) ∧ NewAt w w' A' (words ws) ∧ Below w.heap.size w w'
theorem NewAt.set {w0 w w' : World} {A : Option Addr} {xs : List Value} (h : NewAt w w' A xs) {b : Nat} (hb : b < w.heap.size) (hz : w0.heap.size ≤ w.heap.size) (j i : Nat) (u v : Value) :
    NewAt w0 ((w'.setCell ⟨b, j, none⟩ u).setCell ⟨b, i, none⟩ v) A xs := fun ex hex => by
  have h1 := h (some b :: ex) (fun k hk => by
    rcases List.mem_cons.1 hk with e | hk
    · have := Option.some.inj e; omega
    · have := hex k hk; omega)
  have h2 := h1.go (Go2.same (setCell_grown w' ⟨b, j, none⟩ u) (.inr (List.mem_cons_self)))
  have h3 := h2.go (Go2.same (setCell_grown _ ⟨b, i, none⟩ v) (.inr (List.mem_cons_self)))
  exact h3.go (Go2.less _ fun k hk => List.mem_cons_of_mem _ hk)
theorem copiedSet_any (W : Int) (A : Option Addr) (n c : Nat) (ws : List Nat) (w : World) (hA : Arg w A n ws) (hn : n ≤ 100) :
    Calls Try.prog 85 #[.agg #[.int .i64 W, .slice A n c]] w (RetZ w W n ws) := by
  obtain ⟨hx1, hx2⟩ := boxB w W A n c
  have hx4 := below2 w (.cells #[.int .i64 W, .slice A n c] 41) (.cells #[.int .i64 0, .slice none 0 0] 41)
  have hz : (((w.alloc (.cells #[.int .i64 W, .slice A n c] 41)).alloc (.cells #[.int .i64 0, .slice none 0 0] 41))).heap.size = w.heap.size + 2 := by simp
  have Hx1 := hid hx1; have Hx2 := hid hx2; have Hb0 := hid hx4; have Hz := hid hz
  have HA := hid hA
  clear hx1 hx2 hx4 hA hz
  go_enter Try.func85, Try.ntmps85
  go_wp2_with fail
  generalize (w.alloc (.cells #[.int .i64 W, .slice A n c] 41)).alloc (.cells #[.int .i64 0, .slice none 0 0] 41) = w5 at *
  have Hall := hid (show Box w5.drew w.heap.size W A n c ∧ Box w5.drew (w.heap.size + 1) 0 none 0 0 ∧ Arg w5.drew A n ws ∧ Below w.heap.size w w5.drew ∧ w5.drew.heap.size = w.heap.size + 2 from ⟨Hx1.out, Hx2.out, (HA.out.below Hb0.out.drew), Hb0.out.drew, Hz.out⟩)
  have p0 := Hall.out.1.c0
  have p1 := Hall.out.1.c1
  go_region_with (first
    | (go_at_call 112
       go_must (
       refine (cloneW_any A n c ws _ Hall.out.2.2.1 hn).mono ?_
       rintro e w6 ⟨A6, c6, rfl, ho, hb6⟩
       have hp6 := Hall.out.1.below hb6 Hall.out.1.lt
       have p60 := hp6.c0
       have hq6 := Hall.out.2.1.below hb6 Hall.out.2.1.lt
       have q60 := hq6.c0
       have q61 := hq6.c1
       have f60 := hq6.f 0
       have f61 := hq6.f 1
       have Hown := hid ho
       have Hb6 := hid (Hall.out.2.2.2.1.trans (hb6.mono Hall.out.2.2.2.1.size))
       clear hp6 hq6 ho hb6)))
  all_goals
    go_wp2_with fail
    exact bodyPost_ret (v := .agg #[.int .i64 W, .slice A6 n c6]) (by simp [results, Try.results85, go_sem, q60, q61]) rfl ⟨A6, c6, rfl, Hown.out.set (by rw [Hall.out.2.2.2.2]; omega) (by rw [Hall.out.2.2.2.2]; omega) _ _ _ _, (Hb6.out.setCell (by simp) _).setCell (by simp) _⟩
end Go.Proofs.Ytbjaebbmajhjjaa

namespace Go.Proofs.Ytbjaebbmajhjjaa
set_option maxRecDepth 20000
set_option linter.unusedVariables false
set_option linter.unusedSimpArgs false
open Go.ChangeShapes Go.WideShapes Go.ChangeAt Go.RowKit

def z0 : ZH := ⟨0, none, 0, 0, []⟩
theorem made_sets (n : Nat) : madeCells (Value.agg #[.int .i64 0, .slice none 0 0]).cells (n * 2) = ((List.replicate n z0).flatMap ZH.cs).toArray := by
  rw [show (Value.agg #[.int .i64 0, .slice none 0 0]).cells = #[Value.int .i64 0, .slice none 0 0] from rfl]
  have hl := flat_len ZH.cs_len (List.replicate n z0)
  rw [List.length_replicate] at hl
  unfold madeCells
  apply Array.ext
  · rw [Array.size_map, Array.size_range, List.size_toArray, hl]
  · intro j h1 h2
    rw [Array.getElem_map, Array.getElem_range, List.getElem_toArray]
    show (#[Value.int .i64 0, .slice none 0 0] : Array Value)[j % 2]! = _
    rw [List.size_toArray, hl] at h2
    have hi : (List.replicate n z0)[j / 2]? = some z0 := List.getElem?_replicate_of_lt (by omega)
    have hc := flat_cell ZH.cs_len hi (j := j % 2) (Nat.mod_lt _ (by decide))
    have e : j / 2 * 2 + j % 2 = j := by omega
    rw [e] at hc
    have hb : ((List.replicate n z0).flatMap ZH.cs)[j]? = some (((List.replicate n z0).flatMap ZH.cs)[j]'(by rw [hl]; exact h2)) := List.getElem?_eq_getElem _
    rw [hb] at hc
    have h4 : j % 2 < 2 := Nat.mod_lt _ (by decide)
    generalize j % 2 = i at h4 hc ⊢
    match i, h4 with
    | 0, _ => exact (Option.some.inj hc).symm
    | 1, _ => exact (Option.some.inj hc).symm
theorem infoSet : (Try.prog.info? 41).map (fun i => (i.zero, i.size, i.bytes)) = some (some (.agg #[.int .i64 0, .slice none 0 0]), 2, 32) := by kernel_rfl
theorem run_mksets (n : Nat) (hn : n ≤ 100000) (w : World) :
    (Instr.makeSlice 25 (.int .i64 (n : Int)) (.int .i64 (n : Int))).run Try.prog w = .ok (.slice (some ⟨w.heap.size, 0, none⟩) n n) (w.alloc (.cells ((List.replicate n z0).flatMap ZH.cs).toArray 41)) := by
  obtain ⟨i, hi, hz0, hz1, hz2⟩ := info_parts infoSet
  have h := run_make (P := Try.prog) w 25 41 i (.agg #[.int .i64 0, .slice none 0 0]) Try.underlying25 hi hz0 .i64 .i64 n n (by omega) (by omega) (by rw [hz2]; omega) (by omega)
  rw [h, hz1]
  simp only [Int.toNat_natCast]
  rw [made_sets]
/-- A block that holds the cells of sets, and the words of them. -/
structure VRow (w : World) (g N : Nat) (l : List ZH) : Prop where
  fb : Fb w g (l.flatMap ZH.cs).toArray 41
  len : l.length = N
  all : ∀ z ∈ l, Arg w z.A z.n z.ws
theorem VRow.below {w w' : World} {g N : Nat} {l : List ZH} (h : VRow w g N l) (hb : Below w.heap.size w w') : VRow w' g N l := ⟨h.fb.below hb h.fb.lt, h.len, fun z hz => (h.all z hz).below hb⟩
theorem VRow.lt {w : World} {g N : Nat} {l : List ZH} (h : VRow w g N l) : g < w.heap.size := h.fb.lt
/-- No cell of such a row is a word. -/
theorem flat_no_word (l : List ZH) (j : Nat) (x : Int) : (l.flatMap ZH.cs)[j]? ≠ some (.int .u64 x) := by
  intro h
  have hl := flat_len ZH.cs_len l
  have hj : j < l.length * 2 := by
    have := (List.getElem?_eq_some_iff.1 h).1
    omega
  have hi : l[j / 2]? = some (l[j / 2]'(by omega)) := List.getElem?_eq_getElem _
  have hc := flat_cell ZH.cs_len hi (j := j % 2) (Nat.mod_lt _ (by decide))
  rw [show j / 2 * 2 + j % 2 = j by omega, h] at hc
  have h4 : j % 2 < 2 := Nat.mod_lt _ (by decide)
  generalize j % 2 = i at h4 hc
  match i, h4 with
  | 0, _ => simp [ZH.cs] at hc
  | 1, _ => simp [ZH.cs] at hc
theorem VRow.not_word {w : World} {g N : Nat} {l : List ZH} (h : VRow w g N l) {p : Addr} {x : Int} (hp : w.cell? p = some (.int .u64 x)) : p.block ≠ g := by
  rintro rfl
  have h1 := h.fb
  unfold Fb at h1
  unfold World.cell? at hp
  rw [h1] at hp
  simp only [] at hp
  split at hp
  · simp at hp
  · exact flat_no_word l _ x (by simpa using hp)
theorem VRow.arg_far {w : World} {g N : Nat} {l : List ZH} (h : VRow w g N l) {A : Option Addr} {n : Nat} {ws : List Nat} (ha : Arg w A n ws) : ws = [] ∨ ∀ ad, A = some ad → ad.block ≠ g := by
  cases ws with
  | nil => exact .inl rfl
  | cons x ws =>
    refine .inr fun ad e => ?_
    obtain ⟨ad', e', _, hc⟩ := ha.lies.cell (j := 0) (u := .int .u64 x) rfl
    rw [e] at e'
    obtain rfl := Option.some.inj e'
    have := h.not_word hc
    rwa [add_block] at this
/-- Writing into the row's block leaves all words alone. -/
theorem VRow.arg_set {w : World} {g N : Nat} {l : List ZH} (h : VRow w g N l) {A : Option Addr} {n : Nat} {ws : List Nat} (ha : Arg w A n ws) (j : Nat) (u : Value) : Arg (w.setCell ⟨g, j, none⟩ u) A n ws := ha.far (h.arg_far ha) u
theorem flat_set {l : List ZH} {k : Nat} (hk : k < l.length) (z : ZH) : ((l.flatMap ZH.cs).set (k * 2) (.int .i64 z.W)).set (k * 2 + 1) (.slice z.A z.n z.c) = (l.set k z).flatMap ZH.cs := by
  induction l generalizing k with
  | nil => simp at hk
  | cons y l ih =>
    cases k with
    | zero => simp [ZH.cs]
    | succ k =>
      have := ih (k := k) (by simpa using hk)
      rw [List.flatMap_cons, List.set_cons_succ, List.flatMap_cons, ← this, show (k + 1) * 2 = 2 + k * 2 by omega]
      simp [ZH.cs, show 2 + k * 2 = k * 2 + 1 + 1 by omega, show 2 + k * 2 + 1 = k * 2 + 1 + 1 + 1 by omega]
/-- An element is written. -/
theorem VRow.put {w : World} {g N : Nat} {l : List ZH} (h : VRow w g N l) {k : Nat} (hk : k < N) {z : ZH} (hz : Arg w z.A z.n z.ws) : VRow ((w.setCell ⟨g, k * 2, none⟩ (.int .i64 z.W)).setCell ⟨g, k * 2 + 1, none⟩ (.slice z.A z.n z.c)) g N (l.set k z) := by
  have e : ∀ {A : Option Addr} {n : Nat} {ws : List Nat}, Arg w A n ws → Arg ((w.setCell ⟨g, k * 2, none⟩ (.int .i64 z.W)).setCell ⟨g, k * 2 + 1, none⟩ (.slice z.A z.n z.c)) A n ws := fun ha =>
    (ha.far (p := ⟨g, k * 2, none⟩) (h.arg_far ha) _).far (p := ⟨g, k * 2 + 1, none⟩) (h.arg_far ha) _
  refine ⟨?_, by rw [List.length_set]; exact h.len, fun y hy => ?_⟩
  · have h1 := (h.fb.set (k * 2) (.int .i64 z.W)).set (k * 2 + 1) (.slice z.A z.n z.c)
    have h2 : (((l.flatMap ZH.cs).toArray.setIfInBounds (k * 2) (.int .i64 z.W)).setIfInBounds (k * 2 + 1) (.slice z.A z.n z.c)) = ((l.set k z).flatMap ZH.cs).toArray := by
      rw [← flat_set (by rw [h.len]; exact hk) z]
      simp
    rw [← h2]
    exact h1
  · rcases List.mem_or_eq_of_mem_set hy with hy | rfl
    · exact e (h.all y hy)
    · exact e hz
/-- Another row is written. -/
theorem VRow.other {w : World} {g N g' N' : Nat} {l l' : List ZH} (h : VRow w g N l) (h' : VRow w g' N' l') (hne : g ≠ g') (j : Nat) (u : Value) : VRow (w.setCell ⟨g', j, none⟩ u) g N l :=
  ⟨h.fb.far hne u, h.len, fun z hz => h'.arg_set (h.all z hz) j u⟩
theorem VRow.zl {w : World} {g N : Nat} {l : List ZH} (h : VRow w g N l) (hN : N ≤ 100000) : ZLok w [] ⟨some ⟨g, 0, none⟩, N, N, l⟩ :=
  ⟨EAt.fb h.fb (by simp) (fun j u hu => by simpa using hu), h.len, by show N ≤ _; omega, fun z hz => ⟨by
    rcases (h.all z hz).lies with e | ⟨ad, e, hb, hc⟩
    · exact .inl e
    · exact .inr ⟨ad, e, ⟨hb, by simp⟩, hc⟩, (h.all z hz).len, (h.all z hz).ok⟩⟩
theorem VRow.cells {w : World} {g N : Nat} {l : List ZH} (h : VRow w g N l) {k : Nat} {z : ZH} (hk : l[k]? = some z) : w.cell? ⟨g, k * 2, none⟩ = some (.int .i64 z.W) ∧ w.cell? ⟨g, k * 2 + 1, none⟩ = some (.slice z.A z.n z.c) := by
  have h0 := flat_cell ZH.cs_len hk (j := 0) (by decide)
  have h1 := flat_cell ZH.cs_len hk (j := 1) (by decide)
  rw [Nat.add_zero] at h0
  constructor
  · rw [h.fb.cell]; simpa [ZH.cs] using h0
  · rw [h.fb.cell]; simpa [ZH.cs] using h1
theorem VRow.new (w : World) (N : Nat) : VRow (w.alloc (.cells ((List.replicate N z0).flatMap ZH.cs).toArray 41)) w.heap.size N (List.replicate N z0) :=
  ⟨Fb.new w _ _, List.length_replicate, fun z hz => by
    obtain ⟨_, rfl⟩ := List.mem_replicate.1 hz
    exact Arg.nil _ _⟩
end Go.Proofs.Ytbjaebbmajhjjaa

namespace Go.Proofs.Ytbjaebbmajhjjaa
set_option maxRecDepth 20000
set_option linter.unusedVariables false
set_option linter.unusedSimpArgs false
open Go.ChangeShapes Go.WideShapes Go.ChangeAt Go.RowKit

/-- A set whose words lie in a block of words. -/
structure Wd (u : World) (y : ZH) : Prop where
  arg : Arg u y.A y.n y.ws
  typ : ∃ ad : Addr, y.A = some ad ∧ Typ u ad.block 80
  few : y.n ≤ 60
section
variable {u u' : World} {y : ZH}
theorem Wd.row {W : Int} {g : Nat} {ws : List Nat} {c : Nat} (h : Row u g ws) (hok : ∀ x ∈ ws, x < Bs.W64) (hl : ws.length ≤ 60) : Wd u ⟨W, some ⟨g, 0, none⟩, ws.length, c, ws⟩ := ⟨Row.arg h hok, ⟨_, rfl, h.typ⟩, hl⟩
theorem Wd.keep (h : Wd u y) (hb : ∀ k, Typ u k 80 → u'.heap[k]? = u.heap[k]?) : Wd u' y := by
  obtain ⟨ad, e, ht⟩ := h.typ
  have hk := hb _ ht
  refine ⟨⟨?_, h.arg.len, h.arg.ok⟩, ⟨ad, e, ?_⟩, h.few⟩
  · rcases h.arg.lies with e' | ⟨ad', e', hlt, hc⟩
    · exact .inl e'
    · rw [e] at e'
      obtain rfl := Option.some.inj e'
      refine .inr ⟨ad, e, ?_, fun j x hx => (World.cell?_of_block (by rw [add_block]; exact hk)).trans (hc j x hx)⟩
      obtain ⟨cs, m, hg⟩ := ht
      exact Typ.lt (t := 80) ⟨cs, m, hk.trans hg⟩
  · obtain ⟨cs, m, hg⟩ := ht
    exact ⟨cs, m, hk.trans hg⟩
theorem Wd.stp {t : Nat} (h : Wd u y) (hs : Stp1 t u u') (ht : 80 ≠ t) : Wd u' y := h.keep fun k hk => hs.block hk ht hk.lt
theorem Wd.below (h : Wd u y) (hb : Below u.heap.size u u') : Wd u' y := h.stp (Stp1.below (t := 0) hb) (by decide)
end
theorem stp_tape {u u' : World} {T : Nat} (ht : Tape u T) (hg : u.grownBy u' (some T)) : Stp1 59 u u' := ⟨_, hg, fun g e => by obtain rfl := Option.some.inj e; exact ht.typ⟩
theorem stp_set {u : World} {g t : Nat} {cs : Array Value} (h : Fb u g cs t) (j : Nat) (x : Value) : Stp1 t u (u.setCell ⟨g, j, none⟩ x) := ⟨some g, setCell_grown u ⟨g, j, none⟩ x, fun k e => by obtain rfl := Option.some.inj e; exact h.typ⟩
/-- Sets in a block, at its beginning. -/
structure SRow (u : World) (g M : Nat) (l : List ZH) : Prop where
  arr : ∃ cur : Array Value, Fb u g cur 41 ∧ ∀ (j : Nat) (x : Value), (l.flatMap ZH.cs)[j]? = some x → cur[j]? = some x
  len : l.length = M
  all : ∀ y ∈ l, Wd u y
section
variable {u u' : World} {g M : Nat} {l : List ZH}
theorem SRow.stp {t : Nat} (h : SRow u g M l) (hs : Stp1 t u u') (h1 : 80 ≠ t) (h2 : 41 ≠ t) : SRow u' g M l := by
  obtain ⟨cur, hf, hc⟩ := h.arr
  exact ⟨⟨cur, hs.fb hf h2, hc⟩, h.len, fun y hy => (h.all y hy).stp hs h1⟩
theorem SRow.below (h : SRow u g M l) (hb : Below u.heap.size u u') : SRow u' g M l := h.stp (Stp1.below (t := 0) hb) (by decide) (by decide)
theorem SRow.lt (h : SRow u g M l) : g < u.heap.size := by obtain ⟨cur, hf, hc⟩ := h.arr; exact hf.lt
theorem SRow.typ (h : SRow u g M l) : Typ u g 41 := by obtain ⟨cur, hf, hc⟩ := h.arr; exact hf.typ
theorem SRow.cells (h : SRow u g M l) {k : Nat} {z : ZH} (hk : l[k]? = some z) : u.cell? ⟨g, k * 2, none⟩ = some (.int .i64 z.W) ∧ u.cell? ⟨g, k * 2 + 1, none⟩ = some (.slice z.A z.n z.c) := by
  obtain ⟨cur, hf, hc⟩ := h.arr
  have h0 := flat_cell ZH.cs_len hk (j := 0) (by decide)
  have h1 := flat_cell ZH.cs_len hk (j := 1) (by decide)
  rw [Nat.add_zero] at h0
  constructor
  · rw [hf.cell]; exact hc _ _ (by simpa [ZH.cs] using h0)
  · rw [hf.cell]; exact hc _ _ (by simpa [ZH.cs] using h1)
theorem SRow.frozen (h : SRow u g M l) (j : Nat) : u.frozen? ⟨g, j, none⟩ = false := by obtain ⟨cur, hf, hc⟩ := h.arr; exact hf.frozen j
theorem SRow.put (h : SRow u g M l) {k : Nat} (hk : k < M) {z : ZH} (hz : Wd u z) : SRow ((u.setCell ⟨g, k * 2, none⟩ (.int .i64 z.W)).setCell ⟨g, k * 2 + 1, none⟩ (.slice z.A z.n z.c)) g M (l.set k z) := by
  obtain ⟨cur, hf, hc⟩ := h.arr
  have f1 := hf.set (k * 2) (.int .i64 z.W)
  have s1 := stp_set hf (k * 2) (.int .i64 z.W)
  have s2 := stp_set f1 (k * 2 + 1) (.slice z.A z.n z.c)
  have e : ∀ {y : ZH}, Wd u y → Wd ((u.setCell ⟨g, k * 2, none⟩ (.int .i64 z.W)).setCell ⟨g, k * 2 + 1, none⟩ (.slice z.A z.n z.c)) y := fun hy => (hy.stp s1 (by decide)).stp s2 (by decide)
  refine ⟨⟨_, f1.set (k * 2 + 1) _, fun j x hx => ?_⟩, by rw [List.length_set]; exact h.len, fun y hy => ?_⟩
  · rw [← flat_set (by rw [h.len]; exact hk) z] at hx
    have hl := flat_len ZH.cs_len l
    have hsz : l.length * 2 ≤ cur.size := by
      rcases Nat.lt_or_ge 0 l.length with hp | hp
      · have hj : (l.flatMap ZH.cs)[l.length * 2 - 1]? = some ((l.flatMap ZH.cs)[l.length * 2 - 1]'(by omega)) := List.getElem?_eq_getElem _
        have := (Array.getElem?_eq_some_iff.1 (hc _ _ hj)).1
        omega
      · omega
    have hkl : k < l.length := by rw [h.len]; exact hk
    by_cases h1 : j = k * 2 + 1
    · subst h1
      rw [List.getElem?_set_self (by rw [List.length_set]; omega)] at hx
      rw [Array.getElem?_setIfInBounds_self_of_lt (by rw [Array.size_setIfInBounds]; omega)]; exact hx
    · rw [List.getElem?_set_ne (by omega)] at hx
      rw [Array.getElem?_setIfInBounds_ne (by omega)]
      by_cases h2 : j = k * 2
      · subst h2
        rw [List.getElem?_set_self (by omega)] at hx
        rw [Array.getElem?_setIfInBounds_self_of_lt (by omega)]; exact hx
      · rw [List.getElem?_set_ne (by omega)] at hx
        rw [Array.getElem?_setIfInBounds_ne (by omega)]
        exact hc j x hx
  · rcases List.mem_or_eq_of_mem_set hy with hy | rfl
    · exact e (h.all y hy)
    · exact e hz
theorem SRow.own {b q : Nat} (h : u.ownsRow b 41 2 (.slice (some ⟨g, 0, none⟩) M q) M (l.flatMap ZH.cs)) (hl : l.length = M) (ha : ∀ y ∈ l, Wd u y) : SRow u g M l := by
  rcases h.2 with ⟨e, _⟩ | ⟨g', cap, cur, e, _, hg, _, _, _, hx⟩
  · cases e
  · injection e with e1 e2 e3
    injection Option.some.inj e1 with e1
    subst e1
    refine ⟨⟨cur, hg, fun j x hj => ?_⟩, hl, ha⟩
    rw [← hx, List.getElem?_take] at hj
    split at hj
    · simpa using hj
    · cases hj
end
/-- While the values are made. -/
structure Vz (w : World) (T : Nat) (s : SY) (v : Nat) (V : Value) (l : List ZH) (u : World) : Prop where
  bx : Fb u w.heap.size s.box 27
  tp : Tape u T
  hT : T < w.heap.size
  gr : w.grownBy u (some T)
  ow : u.ownsRow (w.heap.size + 1) 41 2 V l.length (l.flatMap ZH.cs)
  wd : ∀ y ∈ l, y.W = v ∧ y.n = Bs.nw v ∧ Wd u y
section
variable {w u u' : World} {T : Nat} {s : SY} {v : Nat} {V : Value} {l : List ZH}
theorem Vz.tape (h : Vz w T s v V l u) (ht : Tape u' T) (hg : u.grownBy u' (some T)) : Vz w T s v V l u' := by
  have hT := h.hT
  have hs := stp_tape h.tp hg
  exact ⟨h.bx.grown hg (by simp; omega), ht, hT, grown_trans h.gr hg, hs.own h.ow (by decide), fun y hy => ⟨(h.wd y hy).1, (h.wd y hy).2.1, (h.wd y hy).2.2.stp hs (by decide)⟩⟩
theorem Vz.below (h : Vz w T s v V l u) (hb : Below u.heap.size u u') : Vz w T s v V l u' := h.tape (h.tp.below hb h.tp.lt) (grown_of_below hb _)
theorem Vz.far (h : Vz w T s v V l u) {k : Nat} (hk : k ≤ w.heap.size) : V.ownBlock = none ∨ V.ownBlock ≠ some k := Sg.far h.ow (by omega)
/-- One more. -/
theorem Vz.push (h : Vz w T s v V l u) {g q : Nat} {y : ZH} (hw : y.W = v) (hn : y.n = Bs.nw v) (hy : Wd u y) (hg : u.grownBy u' V.ownBlock)
    (ho : u'.ownsRow (w.heap.size + 1) 41 2 (.slice (some ⟨g, 0, none⟩) (l.length + 1) q) (l.length + 1) (l.flatMap ZH.cs ++ y.cs)) : Vz w T s v (.slice (some ⟨g, 0, none⟩) (l.length + 1) q) (l ++ [y]) u' := by
  have hT := h.hT
  have hs : Stp1 41 u u' := ⟨_, hg, fun k e => own_typ h.ow e⟩
  have nT : ∀ k, k ≤ w.heap.size → some k ≠ V.ownBlock := fun k hk e => by have := (h.ow.lt k e.symm).1; omega
  refine ⟨hs.fb h.bx (by decide), h.tp.keep fun k hk => hg.block k (by have := h.tp.lt; omega) (nT k (by omega)), hT, ⟨hg.os.trans h.gr.os, hg.tape.trans h.gr.tape, hg.output.trans h.gr.output, Nat.le_trans h.gr.size hg.size, fun k hk hne => (hg.block k (by have := h.gr.size; omega) (nT k (by omega))).trans (h.gr.block k hk hne)⟩, ?_, fun z hz => ?_⟩
  · rw [List.length_append, List.flatMap_append]
    have : [y].flatMap ZH.cs = y.cs := by simp
    rw [this]; exact ho
  · rcases List.mem_append.1 hz with hz | hz
    · exact ⟨(h.wd z hz).1, (h.wd z hz).2.1, (h.wd z hz).2.2.stp hs (by decide)⟩
    · rw [List.mem_singleton.1 hz]; exact ⟨hw, hn, hy.stp hs (by decide)⟩
end
/-- Values came back: as many as unknowns, or one more. -/
def RetVal (w : World) (T N : Nat) (e : Ending) (w' : World) : Prop :=
  ∃ (g M q : Nat) (l : List ZH), e = .returned (.slice (some ⟨g, 0, none⟩) M q) ∧ SRow w' g M l ∧ (M = N ∨ M = N + 1) ∧ w.heap.size ≤ g ∧ Tape w' T ∧ w.grownBy w' (some T)
theorem Vz.done {w u : World} {T N : Nat} {s : SY} {v g M q : Nat} {l : List ZH} (h : Vz w T s v (.slice (some ⟨g, 0, none⟩) M q) l u) (hl : l.length = M) (hM : M = N ∨ M = N + 1) : RetVal w T N (.returned (.slice (some ⟨g, 0, none⟩) M q)) u := by
  have ho := h.ow
  rw [hl] at ho
  exact ⟨g, M, q, l, rfl, SRow.own ho hl fun y hy => (h.wd y hy).2.2, hM, by have := (h.ow.lt g rfl).1; omega, h.tp, h.gr⟩
/-- One of them is another. -/
theorem Vz.put {w u : World} {T N : Nat} {s : SY} {v g M q : Nat} {l : List ZH} (h : Vz w T s v (.slice (some ⟨g, 0, none⟩) M q) l u) (hl : l.length = M) (hM : M = N ∨ M = N + 1) {k : Nat} (hk : k < M) {z : ZH} (hz : Wd u z) :
    RetVal w T N (.returned (.slice (some ⟨g, 0, none⟩) M q)) ((u.setCell ⟨g, k * 2, none⟩ (.int .i64 z.W)).setCell ⟨g, k * 2 + 1, none⟩ (.slice z.A z.n z.c)) := by
  have ho := h.ow
  rw [hl] at ho
  have hs := SRow.own ho hl fun y hy => (h.wd y hy).2.2
  have hg := (h.ow.lt g rfl).1
  have hT := h.hT
  exact ⟨g, M, q, _, rfl, hs.put hk hz, hM, by omega, (h.tp.far (by show T < g; omega) _).far (by show T < g; omega) _, grown_set_new (grown_set_new h.gr (p := ⟨g, k * 2, none⟩) (by show w.heap.size ≤ g; omega) _) (p := ⟨g, k * 2 + 1, none⟩) (by show w.heap.size ≤ g; omega) _⟩
end Go.Proofs.Ytbjaebbmajhjjaa

namespace Go.Proofs.Ytbjaebbmajhjjaa
set_option maxRecDepth 20000
set_option linter.unusedVariables false
set_option linter.unusedSimpArgs false
open Go.ChangeShapes Go.WideShapes Go.ChangeAt Go.RowKit

theorem pairs_oneE (cs : List (Int × Int)) : ∀ u ∈ pairs cs, u.oneCell' = true := by
  intro u hu
  unfold pairs at hu
  obtain ⟨p, _, hp⟩ := List.mem_flatMap.1 hu
  simp at hp
  rcases hp with rfl | rfl <;> rfl
theorem ArgC.cellsE {w w' : World} {ad : Addr} {n : Nat} {cs : List (Int × Int)} (h : ArgC w (some ad) n cs) (hb : Below w.heap.size w w') : ∀ j u, (pairs cs)[j]? = some u → w'.cell? (ad.add j) = some u := by
  intro j u hu
  rcases h.lies with h0 | ⟨ad', e, hl, hc⟩
  · rw [h0] at hu; simp at hu
  · cases e
    exact (hb.cell (by rw [add_block]; exact hl)).trans (hc j u hu)
theorem info35E : (Try.prog.info? 98).map (fun i => (i.zero, i.size, i.bytes)) = some (some (.agg #[.int .i64 0, .int .i64 0]), 2, 16) := by kernel_rfl
theorem empty_ownE (w : World) : (w.alloc (.cells #[] 98)).ownsRow w.heap.size 98 2 (.slice (some ⟨w.heap.size, 0, none⟩) 0 0) 0 [] := World.ownsRow_lit w #[] 0 (Nat.le_refl _) (by simp [maxLen]) rfl
def RetP (w : World) (n : Nat) (cs : List (Int × Int)) (e : Ending) (w' : World) : Prop := ∃ (A' : Option Addr) (c' : Nat), e = .returned (.slice A' n c') ∧ NewAt w w' A' (pairs cs) ∧ Below w.heap.size w w'
theorem cloneP_any (A : Option Addr) (n c : Nat) (cs : List (Int × Int)) (w : World) (hA : ArgC w A n cs) (hn : n ≤ 100) :
    Calls Try.prog 113 #[.slice A n c] w (RetP w n cs) := by
  obtain ⟨i0, hi, hz0, hz1, hz2⟩ := info_parts info35E
  have Hi := hid hi; have Hz0 := hid hz0; have Hz1 := hid hz1; have Hz2 := hid hz2
  have HA := hid hA
  clear hi hz0 hz1 hz2 hA
  have hb := (Below.refl w.heap.size w).alloc (Nat.le_refl _) (.cells #[] 98)
  have Hb := hid hb
  clear hb
  cases A with
  | none =>
    have hcs : cs = [] := by
      rcases HA.out.lies with h | ⟨ad, e, _⟩
      · cases cs with
        | nil => rfl
        | cons p l => simp [pairs] at h
      · cases e
    subst hcs
    have hn0 : n = 0 := HA.out.len.symm
    subst hn0
    have hnil : ∀ w : World, (binOp .eql 62 (.slice none 0 c) (.slice none 0 0)).run Try.prog w = .ok (.bool true) w := fun w => Lib.run_eql_slice_nil w 62 98 none 0 c 0 0 Try.underlying62
    go_enter Try.func113, Try.ntmps113
    go_wp2_with fail
    go_ret
    exact ⟨_, _, rfl, NewAt.nil _ _ _, Below.refl _ _⟩
  | some ad =>
    have hnil : ∀ w : World, (binOp .eql 62 (.slice (some ad) n c) (.slice none 0 0)).run Try.prog w = .ok (.bool false) w := fun w => Lib.run_eql_slice_nil w 62 98 (some ad) n c 0 0 Try.underlying62
    go_enter Try.func113, Try.ntmps113
    go_wp2_with (at_builtin
                 refine wpList_append_own _ rfl _ _ 62 rfl w.heap.size 98 i0 _ 2 16 Try.underlying62 Hi.out Hz0.out Hz1.out Hz2.out rfl (by decide) _ _ _ rfl (empty_ownE w) ad n c (pairs cs) rfl (by rw [pairs_length, HA.out.len]; omega) (HA.out.cellsE Hb.out) (pairs_oneE cs) (by unfold maxLen; omega) (by omega) (by simp) ?_
                 intro v' w3 hown3 hgr3 hnil3
                 have Hown := hid hown3; have Hgr := hid hgr3; have Hnil := hid hnil3
                 clear hown3 hgr3 hnil3)
    go_ret
    have ho := Hown.out
    rw [Nat.zero_add, List.nil_append] at ho
    have hg : (w.alloc (.cells #[] 98)).grownBy w3 (some w.heap.size) := Hgr.out
    have hbl := Hb.out.grown hg (by simp) (by intro k hk; injection hk with hk; omega)
    rcases id ho.2 with ⟨rfl, h0'⟩ | ⟨g, cap, cur, rfl, hb⟩
    · subst h0'
      exact ⟨_, _, rfl, NewAt.own ho, hbl⟩
    · exact ⟨_, _, rfl, NewAt.own ho, hbl⟩
end Go.Proofs.Ytbjaebbmajhjjaa

namespace Go.Proofs.Ytbjaebbmajhjjaa
set_option maxRecDepth 20000
set_option linter.unusedVariables false
set_option linter.unusedSimpArgs false
open Go.ChangeShapes Go.WideShapes Go.ChangeAt Go.RowKit

theorem Fb.frz {w : World} {g t : Nat} {cs : Array Value} (h : Fb w g cs t) : w.frozen? ⟨g, 0, none⟩ = false ∧ w.frozen? ⟨g, 1, none⟩ = false ∧ w.frozen? ⟨g, 2, none⟩ = false ∧ w.frozen? ⟨g, 3, none⟩ = false ∧ w.frozen? ⟨g, 4, none⟩ = false :=
  ⟨h.frozen 0, h.frozen 1, h.frozen 2, h.frozen 3, h.frozen 4⟩
/-- Cells in a block from N on. -/
def NewN (N : Nat) (w' : World) (A : Option Addr) (xs : List Value) : Prop := ∀ ex : List (Option Nat), (∀ k, some k ∈ ex → k < N) → EAt w' ex A xs
theorem NewN.below {N : Nat} {w' w'' : World} {A : Option Addr} {xs : List Value} (h : NewN N w' A xs) (hb : Below w'.heap.size w' w'') : NewN N w'' A xs := fun ex hex => (h ex hex).go (Go2.below hb)
theorem NewAt.num {N : Nat} {w w' : World} {A : Option Addr} {xs : List Value} (h : NewAt w w' A xs) (hz : N ≤ w.heap.size) : NewN N w' A xs := fun ex hex => h ex fun k hk => by have := hex k hk; omega
def put5 (w : World) (R : Nat) (a b c d e : Value) : World := ((((w.setCell ⟨R, 0, none⟩ a).setCell ⟨R, 1, none⟩ b).setCell ⟨R, 2, none⟩ c).setCell ⟨R, 3, none⟩ d).setCell ⟨R, 4, none⟩ e
theorem NewN.put5 {N : Nat} {w0 w' : World} {A : Option Addr} {xs : List Value} (h : NewN N w' A xs) {R : Nat} (hb : R < N) (hz : w0.heap.size ≤ N) (a b c d e : Value) : NewAt w0 (put5 w' R a b c d e) A xs := fun ex hex => by
  have h1 := h (some R :: ex) (fun k hk => by
    rcases List.mem_cons.1 hk with e | hk
    · have := Option.some.inj e; omega
    · have := hex k hk; omega)
  have s : ∀ (v : World) (j : Nat) (u : Value), EAt v (some R :: ex) A xs → EAt (v.setCell ⟨R, j, none⟩ u) (some R :: ex) A xs := fun v j u hv =>
    hv.go (Go2.same (setCell_grown v ⟨R, j, none⟩ u) (.inr (List.mem_cons_self)))
  exact (s _ _ _ (s _ _ _ (s _ _ _ (s _ _ _ (s _ _ _ h1))))).go (Go2.less _ fun k hk => List.mem_cons_of_mem _ hk)
/-- While a function is copied: its box, the result's box, the function itself. -/
structure Ctw (w0 : World) (x : FH) (v : World) : Prop where
  bx : Fb v w0.heap.size #[.int .i64 x.G.W, .slice x.G.A x.G.n x.G.c, .int .i64 x.K.W, .slice x.K.A x.K.n x.K.c, .slice x.C x.k x.q] 64
  rs : Fb v (w0.heap.size + 1) #[.int .i64 0, .slice none 0 0, .int .i64 0, .slice none 0 0, .slice none 0 0] 64
  arg : FArg v x.G.A x.G.n x.K.A x.K.n x.C x.k x.G.ws x.K.ws x.cs
  bel : Below w0.heap.size w0 v
  sz : w0.heap.size + 2 ≤ v.heap.size
theorem Ctw.below {w0 v u : World} {x : FH} (h : Ctw w0 x v) (hb : Below v.heap.size v u) : Ctw w0 x u :=
  ⟨h.bx.below hb h.bx.lt, h.rs.below hb h.rs.lt, h.arg.below hb, below_step h.bel hb, by have := hb.size; have := h.sz; omega⟩
theorem Ctw.start {w0 : World} {x : FH} {ex : List (Option Nat)} (h : FHok w0 ex x) :
    Ctw w0 x ((w0.alloc (.cells #[.int .i64 x.G.W, .slice x.G.A x.G.n x.G.c, .int .i64 x.K.W, .slice x.K.A x.K.n x.K.c, .slice x.C x.k x.q] 64)).alloc (.cells #[.int .i64 0, .slice none 0 0, .int .i64 0, .slice none 0 0, .slice none 0 0] 64)) := by
  have hb := (Below.refl w0.heap.size w0).alloc (Nat.le_refl _) (.cells #[.int .i64 x.G.W, .slice x.G.A x.G.n x.G.c, .int .i64 x.K.W, .slice x.K.A x.K.n x.K.c, .slice x.C x.k x.q] 64)
  have hb2 := hb.alloc hb.size (.cells #[.int .i64 0, .slice none 0 0, .int .i64 0, .slice none 0 0, .slice none 0 0] 64)
  refine ⟨(Fb.new w0 _ _).alloc _, ?_, h.arg.below hb2, hb2, by simp only [World.size_alloc]; omega⟩
  have := Fb.new (w0.alloc (.cells #[.int .i64 x.G.W, .slice x.G.A x.G.n x.G.c, .int .i64 x.K.W, .slice x.K.A x.K.n x.K.c, .slice x.C x.k x.q] 64)) #[.int .i64 0, .slice none 0 0, .int .i64 0, .slice none 0 0, .slice none 0 0] 64
  rwa [World.size_alloc] at this
/-- A function came back whose parts lie in blocks of the call's own. -/
def RetF (w : World) (x : FH) (e : Ending) (w' : World) : Prop :=
  ∃ (A' : Option Addr) (c' : Nat) (B' : Option Addr) (d' : Nat) (C' : Option Addr) (q' : Nat), e = .returned (.agg #[.int .i64 x.G.W, .slice A' x.G.n c', .int .i64 x.K.W, .slice B' x.K.n d', .slice C' x.k q']) ∧
    (NewAt w w' A' (words x.G.ws) ∧ NewAt w w' B' (words x.K.ws) ∧ NewAt w w' C' (pairs x.cs)) ∧ Below w.heap.size w w'
set_option maxHeartbeats 3200000 in
theorem copiedTransfer_any (x : FH) (ex : List (Option Nat)) (w : World) (h : FHok w ex x) (hn : x.G.n ≤ 100) (hm : x.K.n ≤ 100) (hk : x.k ≤ 100) :
    Calls Try.prog 86 #[x.a] w (RetF w x) := by
  have HW := hid (Ctw.start h)
  have HQ := hid (fun (v : World) (hv : Ctw w x v) => And.intro (copiedSet_any x.G.W x.G.A x.G.n x.G.c x.G.ws v hv.arg.gen hn) (And.intro (copiedSet_any x.K.W x.K.A x.K.n x.K.c x.K.ws v hv.arg.kill hm) (cloneP_any x.C x.k x.q x.cs v hv.arg.cops hk)))
  have HF := hid (fun (A' : Option Addr) (c' : Nat) (B' : Option Addr) (d' : Nat) (C' : Option Addr) (q' : Nat) (v : World) (hv : Ctw w x v) (ha : NewN (w.heap.size + 2) v A' (words x.G.ws)) (hb : NewN (w.heap.size + 2) v B' (words x.K.ws)) (hc : NewN (w.heap.size + 2) v C' (pairs x.cs)) =>
    show RetF w x (.returned (.agg #[.int .i64 x.G.W, .slice A' x.G.n c', .int .i64 x.K.W, .slice B' x.K.n d', .slice C' x.k q'])) (put5 v (w.heap.size + 1) (.int .i64 x.G.W) (.slice A' x.G.n c') (.int .i64 x.K.W) (.slice B' x.K.n d') (.slice C' x.k q')) from
      ⟨A', c', B', d', C', q', rfl, ⟨ha.put5 (by omega) (by omega) _ _ _ _ _, hb.put5 (by omega) (by omega) _ _ _ _ _, hc.put5 (by omega) (by omega) _ _ _ _ _⟩,
        ((((hv.bel.setCell (by simp) _).setCell (by simp) _).setCell (by simp) _).setCell (by simp) _).setCell (by simp) _⟩)
  clear h
  have HS := hid (fun (v : World) (hv : Ctw w x v) => hv.bx.five)
  have HS2 := hid (fun (v : World) (hv : Ctw w x v) (a b c d e : Value) => (((((hv.bx.far (p := ⟨w.heap.size + 1, 0, none⟩) (by simp) a).far (p := ⟨w.heap.size + 1, 1, none⟩) (by simp) b).far (p := ⟨w.heap.size + 1, 2, none⟩) (by simp) c).far (p := ⟨w.heap.size + 1, 3, none⟩) (by simp) d).far (p := ⟨w.heap.size + 1, 4, none⟩) (by simp) e).five)
  obtain ⟨⟨V0, A, n, c, gs⟩, ⟨V, B, m, d, ks⟩, C, k, q, cs⟩ := x
  simp only at HW HQ HF HS HS2
  clear hn hm hk
  unfold FH.a
  simp only
  go_enter Try.func86, Try.ntmps86
  go_wp2_with fail
  generalize (w.alloc (.cells #[.int .i64 V0, .slice A n c, .int .i64 V, .slice B m d, .slice C k q] 64)).alloc (.cells #[.int .i64 0, .slice none 0 0, .int .i64 0, .slice none 0 0, .slice none 0 0] 64) = w1 at *
  have K1 : Hid True := hid trivial
  have K2 : Hid True := hid trivial
  have HZ := hid HW.out.sz
  have HW := hid (HW.out.below (Below.refl _ _).drew)
  go_region_held3 (fun v => v.cell? ⟨w.heap.size, 0, none⟩ = some (.int .i64 V0) ∧ v.cell? ⟨w.heap.size, 1, none⟩ = some (.slice A n c) ∧ v.cell? ⟨w.heap.size, 2, none⟩ = some (.int .i64 V) ∧ v.cell? ⟨w.heap.size, 3, none⟩ = some (.slice B m d) ∧ v.cell? ⟨w.heap.size, 4, none⟩ = some (.slice C k q))
    (first | exact HS.out _ HW.out | exact HS2.out _ HW.out _ _ _ _ _)
    (first
     | (go_at_call 85
        clear K1
        refine (HQ.out _ HW.out).1.mono ?_
        rintro e v1 ⟨A1, c1, rfl, ha1, hb1⟩
        have HA1 := hid (ha1.num HW.out.sz)
        have HW := hid (HW.out.below hb1)
        clear ha1 hb1)
     | (go_at_call 85
        clear K2
        refine (HQ.out _ HW.out).2.1.mono ?_
        rintro e v2 ⟨A2, c2, rfl, ha2, hb2⟩
        have HA2 := hid (ha2.num HW.out.sz)
        have HA1 := hid (HA1.out.below hb2)
        have HW := hid (HW.out.below hb2)
        clear ha2 hb2)
     | (go_at_call 113
        refine (HQ.out _ HW.out).2.2.mono ?_
        rintro e v3 ⟨A3, c3, rfl, ha3, hb3⟩
        have HA3 := hid (ha3.num HW.out.sz)
        have HA1 := hid (HA1.out.below hb3)
        have HA2 := hid (HA2.out.below hb3)
        have HW := hid (HW.out.below hb3)
        obtain ⟨r0, r1, r2, r3, r4⟩ := HW.out.rs.five
        obtain ⟨f0, f1, f2, f3, f4⟩ := HW.out.rs.frz
        have hrl := HW.out.rs.lt
        clear ha3 hb3))
  all_goals
    go_wp2_with fail
    refine bodyPost_ret (v := .agg #[.int .i64 V0, .slice A1 n c1, .int .i64 V, .slice A2 m c2, .slice A3 k c3]) (by simp [results, Try.results86, go_sem, r0, r1, r2, r3, r4]) rfl ?_
    exact HF.out A1 c1 A2 c2 A3 c3 v3 HW.out HA1.out HA2.out HA3.out
end Go.Proofs.Ytbjaebbmajhjjaa

namespace Go.Proofs.Ytbjaebbmajhjjaa
set_option maxRecDepth 20000
set_option linter.unusedVariables false
set_option linter.unusedSimpArgs false
open Go.ChangeShapes Go.WideShapes Go.ChangeAt Go.RowKit

/-- A valid system of width v with N unknowns. -/
structure SOk (s : SY) (v N : Nat) : Prop where
  w : s.W = v
  v256 : v ≤ 256
  n1 : 1 ≤ N
  n256 : N ≤ 256
  dn : s.D.n = N
  tn : s.T.n = N
  bn : s.B.n = N
  d : ∀ y ∈ s.D.l, RisP N y.l
  tt : tot s.D.v ≤ 1024
  t : ∀ y ∈ s.T.l, FOk v y
  b : ∀ y ∈ s.B.l, y.W = v ∧ Bs.Fit v y.ws
def SY.arc (s : SY) (m : Int) : Nat × Pf := (m.toNat, ((s.T.l[m.toNat]?).map FH.pf).getD ⟨[], [], []⟩)
/-- The web of values. -/
def SY.pw (s : SY) : PW := ⟨s.W.toNat, s.B.l.map ZH.ws, s.D.l.map fun r => r.l.map s.arc⟩
theorem SY.arc_at {s : SY} {m : Nat} {f : FH} (h : s.T.l[m]? = some f) : s.arc (m : Int) = (m, f.pf) := by unfold SY.arc; rw [Int.toNat_natCast, h]; rfl
def exW (X : List (Option Nat)) (R bW gI : Nat) (Bv Iv : Value) : List (Option Nat) := some bW :: some gI :: some R :: Bv.ownBlock :: Iv.ownBlock :: X
structure Wg (X : List (Option Nat)) (w0 : World) (s : SY) (v N bW gI b0 : Nat) (Bv Iv : Value) (lB : List ZH) (done : List AL) (cur : List AH) (ivs : List Value) (u : World) : Prop where
  sx : Fb u w0.heap.size s.box 27
  rx : Fb u (w0.heap.size + 1) #[.int .i64 0, .slice none 0 0, .slice none 0 0] 68
  wx : Fb u bW #[.int .i64 v, Bv, .slice (some ⟨gI, 0, none⟩) N N] 68
  ix : Fb u gI ivs.toArray 99
  hX : ∀ k, some k ∈ X → k < w0.heap.size
  h1 : w0.heap.size + 1 < bW
  h2 : w0.heap.size + 1 < gI
  h4 : bW < b0 ∧ gI < b0
  bel : Below w0.heap.size w0 u
  oB : u.ownsRow b0 41 2 Bv lB.length (lB.flatMap ZH.cs)
  oI : u.ownsRow b0 101 6 Iv cur.length (cur.flatMap AH.cells)
  eB : ∀ y ∈ lB, ZHok u (exW X (w0.heap.size + 1) bW gI Bv Iv) y
  eD : ∀ y ∈ done, ALok u (exW X (w0.heap.size + 1) bW gI Bv Iv) y
  eC : ∀ a ∈ cur, FHok u (exW X (w0.heap.size + 1) bW gI Bv Iv) a.f
  i1 : ivs.length = N
  i2 : ∀ (j : Nat) (y : AL), done[j]? = some y → ivs[j]? = some y.v
  i3 : done.length < N → ivs[done.length]? = some Iv
  i4 : ∀ j, done.length < j → j < N → ivs[j]? = some (.slice none 0 0)
/-- What stands below while one of the statements runs. -/
structure WgK (X : List (Option Nat)) (w0 w1 : World) (s : SY) (v N bW gI : Nat) (Bv Iv : Value) (ivs : List Value) (u : World) : Prop where
  gx : GrX w1 (exW X (w0.heap.size + 1) bW gI Bv Iv) u
  sx : Fb u w0.heap.size s.box 27
  rx : Fb u (w0.heap.size + 1) #[.int .i64 0, .slice none 0 0, .slice none 0 0] 68
  wx : Fb u bW #[.int .i64 v, Bv, .slice (some ⟨gI, 0, none⟩) N N] 68
  ix : Fb u gI ivs.toArray 99
  bel : Below w0.heap.size w0 u
section
variable {X : List (Option Nat)} {w0 w1 u u' : World} {s : SY} {v N bW gI b0 : Nat} {Bv Iv : Value} {lB : List ZH} {done : List AL} {cur : List AH} {ivs : List Value}
theorem wfar {w : World} {v : Value} {ty k n b : Nat} {xs : List Value} (h : w.ownsRow b ty k v n xs) {j : Nat} (hj : j < b) : v.ownBlock = none ∨ v.ownBlock ≠ some j := by
  cases hv : v.ownBlock with
  | none => exact .inl rfl
  | some g => exact .inr fun e => by have := (h.lt g hv).1; have := Option.some.inj e; omega
theorem wne {w : World} {b b' ty ty' k k' n n' : Nat} {v v' : Value} {xs xs' : List Value} (h : w.ownsRow b ty k v n xs) (h' : w.ownsRow b' ty' k' v' n' xs') (ht : ty ≠ ty') : v.ownBlock = none ∨ v.ownBlock ≠ v'.ownBlock := by
  cases hv : v.ownBlock with
  | none => exact .inl rfl
  | some g => exact .inr fun e => (own_typ h hv).ne (own_typ h' e.symm) ht rfl
theorem Wg.below (h : Wg X w0 s v N bW gI b0 Bv Iv lB done cur ivs u) (hb : Below u.heap.size u u') : Wg X w0 s v N bW gI b0 Bv Iv lB done cur ivs u' :=
  ⟨h.sx.below hb h.sx.lt, h.rx.below hb h.rx.lt, h.wx.below hb h.wx.lt, h.ix.below hb h.ix.lt, h.hX, h.h1, h.h2, h.h4, below_step h.bel hb, h.oB.kept (grown_of_below hb none) (by cases Bv.ownBlock <;> simp), h.oI.kept (grown_of_below hb none) (by cases Iv.ownBlock <;> simp),
    fun y hy => (h.eB y hy).below hb, fun y hy => (h.eD y hy).below hb, fun y hy => (h.eC y hy).below hb, h.i1, h.i2, h.i3, h.i4⟩
theorem Wg.exlt (h : Wg X w0 s v N bW gI b0 Bv Iv lB done cur ivs u) : ∀ k, some k ∈ exW X (w0.heap.size + 1) bW gI Bv Iv → k < u.heap.size := by
  intro k hk
  simp only [exW, List.mem_cons, Option.some.injEq] at hk
  rcases hk with rfl | rfl | rfl | hk | hk | hk
  · exact h.wx.lt
  · exact h.ix.lt
  · exact h.rx.lt
  · exact (h.oB.lt k hk.symm).2
  · exact (h.oI.lt k hk.symm).2
  · have := h.hX k hk; have := h.bel.size; omega
theorem Wg.k (h : Wg X w0 s v N bW gI b0 Bv Iv lB done cur ivs w1) : WgK X w0 w1 s v N bW gI Bv Iv ivs w1 := ⟨GrX.refl _ _, h.sx, h.rx, h.wx, h.ix, h.bel⟩
theorem WgK.below (h : WgK X w0 w1 s v N bW gI Bv Iv ivs u) (hb : Below u.heap.size u u') : WgK X w0 w1 s v N bW gI Bv Iv ivs u' :=
  ⟨h.gx.below hb, h.sx.below hb h.sx.lt, h.rx.below hb h.rx.lt, h.wx.below hb h.wx.lt, h.ix.below hb h.ix.lt, below_step h.bel hb⟩
theorem WgK.app {x : Value} {ty k n : Nat} {xs : List Value} (h : WgK X w0 w1 s v N bW gI Bv Iv ivs u) (hs : Wg X w0 s v N bW gI b0 Bv Iv lB done cur ivs w1) (hx : x = Bv ∨ x = Iv) (ho : u.ownsRow b0 ty k x n xs) (hg : u.grownBy u' x.ownBlock) : WgK X w0 w1 s v N bW gI Bv Iv ivs u' := by
  have h1 := hs.h1; have h2 := hs.h2; have h4 := hs.h4
  have far : ∀ j, j < b0 → some j ≠ x.ownBlock := fun j hj e => by have := (ho.lt j e.symm).1; omega
  refine ⟨h.gx.step hg fun g e => .inl ?_, h.sx.grown hg (far _ (by omega)), h.rx.grown hg (far _ (by omega)), h.wx.grown hg (far _ (by omega)), h.ix.grown hg (far _ (by omega)), h.bel.grown hg h.bel.size (fun k hk => by have := (ho.lt k hk).1; omega)⟩
  rcases hx with rfl | rfl <;> simp [exW]
/-- The lists of blocks before and after an append. -/
theorem exW_go {A B A' B' : Value} (h : GrX w1 (exW X (w0.heap.size + 1) bW gI A B) u) (hA : ∀ k, A'.ownBlock = some k → A.ownBlock = some k ∨ w1.heap.size ≤ k) (hB : ∀ k, B'.ownBlock = some k → B.ownBlock = some k ∨ w1.heap.size ≤ k) : Go2 w1 (exW X (w0.heap.size + 1) bW gI A B) u (exW X (w0.heap.size + 1) bW gI A' B') := h.go fun k hk hm => by
  simp only [exW, List.mem_cons, Option.some.injEq] at hm ⊢
  rcases hm with e | e | e | e | e | e
  · exact .inl e
  · exact .inr (.inl e)
  · exact .inr (.inr (.inl e))
  · rcases hA k e.symm with h | h
    · exact .inr (.inr (.inr (.inl h.symm)))
    · omega
  · rcases hB k e.symm with h | h
    · exact .inr (.inr (.inr (.inr (.inl h.symm))))
    · omega
  · exact .inr (.inr (.inr (.inr (.inr e))))
theorem flat_one {α : Type} (l : List α) (x : α) (f : α → List Value) : (l ++ [x]).flatMap f = l.flatMap f ++ f x := by rw [List.flatMap_append]; simp
/-- A Boundary set more. -/
theorem WgK.pushB (h : WgK X w0 w1 s v N bW gI Bv Iv ivs u) (hs : Wg X w0 s v N bW gI b0 Bv Iv lB done cur ivs w1) {g q : Nat} {y : ZH}
    (o : u.ownsRow b0 41 2 (.slice (some ⟨g, 0, none⟩) (lB.length + 1) q) (lB.length + 1) (lB.flatMap ZH.cs ++ y.cs)) (hn : Bv.ownBlock = some g ∨ w1.heap.size ≤ g) (hoI : u.ownsRow b0 101 6 Iv cur.length (cur.flatMap AH.cells))
    (hz : ZHok u (exW X (w0.heap.size + 1) bW gI (.slice (some ⟨g, 0, none⟩) (lB.length + 1) q) Iv) y) :
    Wg X w0 s v N bW gI b0 (.slice (some ⟨g, 0, none⟩) (lB.length + 1) q) Iv (lB ++ [y]) done cur ivs (u.setCell ⟨bW, 1, none⟩ (.slice (some ⟨g, 0, none⟩) (lB.length + 1) q)) := by
  have h1 := hs.h1; have h2 := hs.h2; have h4 := hs.h4
  have hne : bW ≠ gI := h.wx.typ.ne h.ix.typ (by decide)
  generalize hv : Value.slice (some ⟨g, 0, none⟩) (lB.length + 1) q = Bv' at *
  have kB : Bv'.ownBlock = some g := by rw [← hv]; rfl
  have hG1 := exW_go (A' := Bv') (B' := Iv) h.gx (fun k hk => by rw [kB] at hk; rw [← Option.some.inj hk]; exact hn) (fun k hk => .inl hk)
  have hS := setCell_grown u ⟨bW, 1, none⟩ Bv'
  have hG2 : Go2 u (exW X (w0.heap.size + 1) bW gI Bv' Iv) _ (exW X (w0.heap.size + 1) bW gI Bv' Iv) := Go2.same hS (.inr (by simp [exW]))
  have hG := hG1.trans hG2
  refine ⟨h.sx.far (by show w0.heap.size ≠ bW; omega) _, h.rx.far (by show w0.heap.size + 1 ≠ bW; omega) _, h.wx.set 1 _, h.ix.far (by show gI ≠ bW; omega) _, hs.hX, h1, h2, h4, h.bel.setCell (by show w0.heap.size ≤ bW; omega) _, ?_, hoI.kept hS (wfar hoI (by show bW < b0; omega)),
    ?_, fun y hy => (hs.eD y hy).go hG, fun y hy => (hs.eC y hy).go hG, hs.i1, hs.i2, hs.i3, hs.i4⟩
  · rw [List.length_append, flat_one]; exact o.kept hS (wfar o (by show bW < b0; omega))
  · intro z hz'
    rcases List.mem_append.1 hz' with hz' | hz'
    · exact (hs.eB z hz').go hG
    · rw [List.mem_singleton.1 hz']; exact hz.go hG2
/-- An arc more. -/
theorem WgK.pushA (h : WgK X w0 w1 s v N bW gI Bv Iv ivs u) (hs : Wg X w0 s v N bW gI b0 Bv Iv lB done cur ivs w1) (hk : done.length < N) {g q : Nat} {y : AH}
    (o : u.ownsRow b0 101 6 (.slice (some ⟨g, 0, none⟩) (cur.length + 1) q) (cur.length + 1) (cur.flatMap AH.cells ++ y.cells)) (hn : Iv.ownBlock = some g ∨ w1.heap.size ≤ g) (hoB : u.ownsRow b0 41 2 Bv lB.length (lB.flatMap ZH.cs))
    (hz : FHok u (exW X (w0.heap.size + 1) bW gI Bv (.slice (some ⟨g, 0, none⟩) (cur.length + 1) q)) y.f) :
    Wg X w0 s v N bW gI b0 Bv (.slice (some ⟨g, 0, none⟩) (cur.length + 1) q) lB done (cur ++ [y]) (ivs.set done.length (.slice (some ⟨g, 0, none⟩) (cur.length + 1) q)) (u.setCell ⟨gI, done.length, none⟩ (.slice (some ⟨g, 0, none⟩) (cur.length + 1) q)) := by
  have h1 := hs.h1; have h2 := hs.h2; have h4 := hs.h4
  have hne : bW ≠ gI := h.wx.typ.ne h.ix.typ (by decide)
  generalize hv : Value.slice (some ⟨g, 0, none⟩) (cur.length + 1) q = Iv' at *
  have kB : Iv'.ownBlock = some g := by rw [← hv]; rfl
  have hG1 := exW_go (A' := Bv) (B' := Iv') h.gx (fun k hk => .inl hk) (fun k hk => by rw [kB] at hk; rw [← Option.some.inj hk]; exact hn)
  have hS := setCell_grown u ⟨gI, done.length, none⟩ Iv'
  have hG2 : Go2 u (exW X (w0.heap.size + 1) bW gI Bv Iv') _ (exW X (w0.heap.size + 1) bW gI Bv Iv') := Go2.same hS (.inr (by simp [exW]))
  have hG := hG1.trans hG2
  have hix := h.ix.set done.length Iv'
  rw [List.setIfInBounds_toArray] at hix
  refine ⟨h.sx.far (by show w0.heap.size ≠ gI; omega) _, h.rx.far (by show w0.heap.size + 1 ≠ gI; omega) _, h.wx.far (by show bW ≠ gI; omega) _, hix, hs.hX, h1, h2, h4, h.bel.setCell (by show w0.heap.size ≤ gI; omega) _, hoB.kept hS (wfar hoB (by show gI < b0; omega)), ?_,
    fun y hy => (hs.eB y hy).go hG, fun y hy => (hs.eD y hy).go hG, ?_, by rw [List.length_set]; exact hs.i1, fun j x hj => ?_, fun _ => ?_, fun j hj hjN => ?_⟩
  · rw [List.length_append, flat_one]; exact o.kept hS (wfar o (by show gI < b0; omega))
  · intro z hz'
    rcases List.mem_append.1 hz' with hz' | hz'
    · exact (hs.eC z hz').go hG
    · rw [List.mem_singleton.1 hz']; exact hz.go hG2
  · have := (List.getElem?_eq_some_iff.1 hj).1
    rw [List.getElem?_set_ne (by omega)]; exact hs.i2 j x hj
  · rw [List.getElem?_set_self (by rw [hs.i1]; exact hk)]
  · rw [List.getElem?_set_ne (by omega)]; exact hs.i4 j hj hjN
/-- A row has ended. -/
theorem Wg.next {A : Option Addr} {c : Nat} (h : Wg X w0 s v N bW gI b0 Bv (.slice A cur.length c) lB done cur ivs u) (hN : N ≤ 100000) (hl : cur.length ≤ 100000) (hk : done.length < N) :
    Wg X w0 s v N bW gI b0 Bv (.slice none 0 0) lB (done ++ [⟨A, cur.length, c, cur⟩]) [] ivs u := by
  have h1 := h.h1; have h2 := h.h2; have h4 := h.h4; have hb := h.bel.size
  have hG : Go2 u (exW X (w0.heap.size + 1) bW gI Bv (.slice A cur.length c)) u (exW X (w0.heap.size + 1) bW gI Bv (.slice none 0 0)) := Go2.less _ fun k hk => by
    simp only [exW, List.mem_cons, Value.ownBlock, reduceCtorEq, false_or] at hk ⊢
    rcases hk with e | e | e | e | e
    · exact .inl e
    · exact .inr (.inl e)
    · exact .inr (.inr (.inl e))
    · exact .inr (.inr (.inr (.inl e)))
    · exact .inr (.inr (.inr (.inr (.inr e))))
  refine ⟨h.sx, h.rx, h.wx, h.ix, h.hX, h1, h2, h4, h.bel, h.oB, World.ownsRow_nil _ _ _ _, fun y hy => (h.eB y hy).go hG, ?_, by simp, h.i1, fun j y hj => ?_, fun hj => ?_, fun j hj hjN => ?_⟩
  · intro y hy
    rcases List.mem_append.1 hy with hy | hy
    · exact (h.eD y hy).go hG
    · rw [List.mem_singleton.1 hy]
      refine ⟨EAt.own h.oI fun g hg hm => ?_, rfl, by show cur.length ≤ _; omega, fun a ha => (h.eC a ha).go hG⟩
      have hgb := (h.oI.lt g hg).1
      simp only [exW, List.mem_cons, Option.some.injEq, Value.ownBlock, reduceCtorEq, false_or] at hm
      rcases hm with e | e | e | e | e
      · omega
      · omega
      · omega
      · exact (own_typ h.oI hg).ne (own_typ h.oB e.symm) (by decide) rfl
      · have := h.hX g e; omega
  · rcases Nat.lt_or_ge j done.length with hlt | hge
    · rw [List.getElem?_append_left hlt] at hj; exact h.i2 j y hj
    · rw [List.getElem?_append_right hge] at hj
      have e : j = done.length := by
        have := (List.getElem?_eq_some_iff.1 hj).1
        simp at this; omega
      subst e
      simp at hj
      subst hj
      exact h.i3 hk
  · rw [List.length_append] at hj ⊢
    exact h.i4 _ (by simp) hj
  · rw [List.length_append] at hj
    exact h.i4 j (by simp at hj; omega) hjN
end
/-- What the operations of the statement that appends a Boundary set leave. -/
def wbF (ex : Value → List (Option Nat)) (w1 : World) (sx bW b0 : Nat) (s : SY) (Bv : Value) (lB : List ZH) (k : Nat) (ad : Addr) (z : ZH) : Nat → Value → World → Prop
  | 0, v, _ => v = .pointer (some ⟨bW, 1, none⟩)
  | 1, v, _ => v = Bv
  | 2, v, _ => v = .pointer (some ⟨sx, 3, none⟩)
  | 3, v, _ => v = .slice s.B.A s.B.n s.B.c
  | 4, v, _ => v = .int .i64 k
  | 5, v, _ => v = .pointer (some (ad.add (k * 2)))
  | 6, v, _ => v = .agg #[.int .i64 z.W, .slice z.A z.n z.c]
  | 7, v, u => ∃ (A : Option Addr) (c : Nat), v = .agg #[.int .i64 z.W, .slice A z.n c] ∧ EAt u (ex Bv) A (words z.ws)
  | 8, v, u => ∃ (A : Option Addr) (c g : Nat), v = .slice (some ⟨g, 0, none⟩) 1 1 ∧ Fb u g #[.int .i64 z.W, .slice A z.n c] 41 ∧ EAt u (ex Bv) A (words z.ws)
  | 9, v, u => ∃ (A : Option Addr) (c g q : Nat), v = .slice (some ⟨g, 0, none⟩) (lB.length + 1) q ∧ u.ownsRow b0 41 2 (.slice (some ⟨g, 0, none⟩) (lB.length + 1) q) (lB.length + 1) (lB.flatMap ZH.cs ++ [.int .i64 z.W, .slice A z.n c]) ∧ (Bv.ownBlock = some g ∨ w1.heap.size ≤ g) ∧ EAt u (ex (.slice (some ⟨g, 0, none⟩) (lB.length + 1) q)) A (words z.ws)
  | _, _, _ => True
def wbU : Nat → Option Nat
  | 7 => some 8
  | 8 => some 9
  | _ => none
def wbR (Bv : Value) (j : Nat) (u u' : World) : Prop := ∃ row, u.grownBy u' row ∧ (row = none ∨ (j = 9 ∧ row = Bv.ownBlock))
theorem wbR.below {Bv : Value} {j : Nat} {u u' : World} (h : Below u.heap.size u u') : wbR Bv j u u' := ⟨none, grown_of_below h _, .inl rfl⟩
theorem wbR.refl (Bv : Value) (j : Nat) (u : World) : wbR Bv j u u := wbR.below (Below.refl _ _)
theorem wbF_st {ex : Value → List (Option Nat)} {w1 : World} {sx bW b0 : Nat} {s : SY} {Bv : Value} {lB : List ZH} {k : Nat} {ad : Addr} {z : ZH} (hex : ∀ x, x.ownBlock ∈ ex x) (j : Nat) (u u' : World) (i : Nat) (v : Value) (hR : wbR Bv j u u') (hne : i ≠ j) (hu : wbU i ≠ some j) (h : wbF ex w1 sx bW b0 s Bv lB k ad z i v u) : wbF ex w1 sx bW b0 s Bv lB k ad z i v u' := by
  obtain ⟨row, hg, hr⟩ := hR
  have hE : ∀ {A : Option Addr} {xs : List Value}, EAt u (ex Bv) A xs → EAt u' (ex Bv) A xs := fun he => he.go (Go2.same hg (by
    rcases hr with rfl | ⟨_, rfl⟩
    · exact .inl rfl
    · exact .inr (hex Bv)))
  have hN : j ≠ 9 → row = none := fun h9 => by rcases hr with e | ⟨e, _⟩; exact e; exact absurd e h9
  match i, hne, hu, h with
  | 0, _, _, h => exact h
  | 1, _, _, h => exact h
  | 2, _, _, h => exact h
  | 3, _, _, h => exact h
  | 4, _, _, h => exact h
  | 5, _, _, h => exact h
  | 6, _, _, h => exact h
  | 7, _, _, h => obtain ⟨A, c, h1, h2⟩ := h; exact ⟨A, c, h1, hE h2⟩
  | 8, _, hu, h =>
    obtain ⟨A, c, g, h1, h2, h3⟩ := h
    have := hN fun e => hu (by rw [e]; rfl)
    subst this
    exact ⟨A, c, g, h1, h2.grown hg (by simp), hE h3⟩
  | 9, hne, _, h =>
    obtain ⟨A, c, g, q, h1, h2, h3, h4⟩ := h
    have := hN hne.symm
    subst this
    exact ⟨A, c, g, q, h1, h2.kept hg (.inr (by simp [Value.ownBlock])), h3, h4.go (Go2.same hg (.inl rfl))⟩
  | i + 10, _, _, h => trivial
def wbG (b0 : Nat) (Bv Iv : Value) (lB : List ZH) (cur : List AH) : Nat → World → Prop
  | 9, u => u.ownsRow b0 41 2 Bv lB.length (lB.flatMap ZH.cs)
  | _, _ => True
theorem wbG_st {b0 : Nat} {Bv Iv : Value} {lB : List ZH} {cur : List AH} (j : Nat) (u u' : World) (c : Nat) (hR : wbR Bv j u u') (hne : c ≠ j) (h : wbG b0 Bv Iv lB cur c u) : wbG b0 Bv Iv lB cur c u' := by
  by_cases h9 : c = 9
  · subst h9
    obtain ⟨row, hg, hr⟩ := hR
    have : row = none := by rcases hr with e | ⟨e, _⟩; exact e; exact absurd e.symm hne
    subst this
    exact (show u.ownsRow _ _ _ _ _ _ from h).kept hg (by cases Bv.ownBlock <;> simp)
  · unfold wbG; split <;> first | omega | trivial
/-- What the operations of the statement that appends an arc leave. -/
def waF (ex : Value → List (Option Nat)) (w1 : World) (sx bW gI b0 N : Nat) (s : SY) (Iv : Value) (cur : List AH) (k m : Nat) (ad : Addr) (f : FH) : Nat → Value → World → Prop
  | 0, v, _ => v = .pointer (some ⟨bW, 2, none⟩)
  | 1, v, _ => v = .slice (some ⟨gI, 0, none⟩) N N
  | 2, v, _ => v = .int .i64 k
  | 3, v, _ => v = .pointer (some ⟨bW, 2, none⟩)
  | 4, v, _ => v = .slice (some ⟨gI, 0, none⟩) N N
  | 5, v, _ => v = .int .i64 k
  | 6, v, _ => v = .pointer (some ⟨gI, k, none⟩)
  | 7, v, _ => v = Iv
  | 8, v, _ => v = .int .i64 m
  | 9, v, _ => v = .pointer (some ⟨sx, 2, none⟩)
  | 10, v, _ => v = .slice s.T.A s.T.n s.T.c
  | 11, v, _ => v = .int .i64 m
  | 12, v, _ => v = .pointer (some (ad.add (m * 5)))
  | 13, v, _ => v = .agg #[.int .i64 f.G.W, .slice f.G.A f.G.n f.G.c, .int .i64 f.K.W, .slice f.K.A f.K.n f.K.c, .slice f.C f.k f.q]
  | 14, v, u => ∃ (A : Option Addr) (c : Nat) (B : Option Addr) (d : Nat) (C : Option Addr) (q : Nat), v = .agg #[.int .i64 f.G.W, .slice A f.G.n c, .int .i64 f.K.W, .slice B f.K.n d, .slice C f.k q] ∧ FHok u (ex Iv) ⟨⟨f.G.W, A, f.G.n, c, f.G.ws⟩, ⟨f.K.W, B, f.K.n, d, f.K.ws⟩, C, f.k, q, f.cs⟩
  | 15, v, u => ∃ (A : Option Addr) (c : Nat) (B : Option Addr) (d : Nat) (C : Option Addr) (q : Nat), v = .agg #[.int .i64 m, .int .i64 f.G.W, .slice A f.G.n c, .int .i64 f.K.W, .slice B f.K.n d, .slice C f.k q] ∧ FHok u (ex Iv) ⟨⟨f.G.W, A, f.G.n, c, f.G.ws⟩, ⟨f.K.W, B, f.K.n, d, f.K.ws⟩, C, f.k, q, f.cs⟩
  | 16, v, u => ∃ (A : Option Addr) (c : Nat) (B : Option Addr) (d : Nat) (C : Option Addr) (q g : Nat), v = .slice (some ⟨g, 0, none⟩) 1 1 ∧ Fb u g #[.int .i64 m, .int .i64 f.G.W, .slice A f.G.n c, .int .i64 f.K.W, .slice B f.K.n d, .slice C f.k q] 101 ∧ FHok u (ex Iv) ⟨⟨f.G.W, A, f.G.n, c, f.G.ws⟩, ⟨f.K.W, B, f.K.n, d, f.K.ws⟩, C, f.k, q, f.cs⟩
  | 17, v, u => ∃ (A : Option Addr) (c : Nat) (B : Option Addr) (d : Nat) (C : Option Addr) (q g p : Nat), v = .slice (some ⟨g, 0, none⟩) (cur.length + 1) p ∧ u.ownsRow b0 101 6 (.slice (some ⟨g, 0, none⟩) (cur.length + 1) p) (cur.length + 1) (cur.flatMap AH.cells ++ [.int .i64 m, .int .i64 f.G.W, .slice A f.G.n c, .int .i64 f.K.W, .slice B f.K.n d, .slice C f.k q]) ∧ (Iv.ownBlock = some g ∨ w1.heap.size ≤ g) ∧ FHok u (ex (.slice (some ⟨g, 0, none⟩) (cur.length + 1) p)) ⟨⟨f.G.W, A, f.G.n, c, f.G.ws⟩, ⟨f.K.W, B, f.K.n, d, f.K.ws⟩, C, f.k, q, f.cs⟩
  | _, _, _ => True
def waU : Nat → Option Nat
  | 14 => some 15
  | 15 => some 16
  | 16 => some 17
  | _ => none
def waR (Iv : Value) (j : Nat) (u u' : World) : Prop := ∃ row, u.grownBy u' row ∧ (row = none ∨ (j = 17 ∧ row = Iv.ownBlock))
theorem waR.below {Iv : Value} {j : Nat} {u u' : World} (h : Below u.heap.size u u') : waR Iv j u u' := ⟨none, grown_of_below h _, .inl rfl⟩
theorem waR.refl (Iv : Value) (j : Nat) (u : World) : waR Iv j u u := waR.below (Below.refl _ _)
theorem waF_st {ex : Value → List (Option Nat)} {w1 : World} {sx bW gI b0 N : Nat} {s : SY} {Iv : Value} {cur : List AH} {k m : Nat} {ad : Addr} {f : FH} (hex : ∀ x, x.ownBlock ∈ ex x) (j : Nat) (u u' : World) (i : Nat) (v : Value) (hR : waR Iv j u u') (hne : i ≠ j) (hu : waU i ≠ some j) (h : waF ex w1 sx bW gI b0 N s Iv cur k m ad f i v u) : waF ex w1 sx bW gI b0 N s Iv cur k m ad f i v u' := by
  obtain ⟨row, hg, hr⟩ := hR
  have hE : ∀ {x : FH}, FHok u (ex Iv) x → FHok u' (ex Iv) x := fun he => he.go (Go2.same hg (by
    rcases hr with rfl | ⟨_, rfl⟩
    · exact .inl rfl
    · exact .inr (hex Iv)))
  have hN : j ≠ 17 → row = none := fun h9 => by rcases hr with e | ⟨e, _⟩; exact e; exact absurd e h9
  match i, hne, hu, h with
  | 0, _, _, h => exact h
  | 1, _, _, h => exact h
  | 2, _, _, h => exact h
  | 3, _, _, h => exact h
  | 4, _, _, h => exact h
  | 5, _, _, h => exact h
  | 6, _, _, h => exact h
  | 7, _, _, h => exact h
  | 8, _, _, h => exact h
  | 9, _, _, h => exact h
  | 10, _, _, h => exact h
  | 11, _, _, h => exact h
  | 12, _, _, h => exact h
  | 13, _, _, h => exact h
  | 14, _, _, h => obtain ⟨A, c, B, d, C, q, h1, h2⟩ := h; exact ⟨A, c, B, d, C, q, h1, hE h2⟩
  | 15, _, _, h => obtain ⟨A, c, B, d, C, q, h1, h2⟩ := h; exact ⟨A, c, B, d, C, q, h1, hE h2⟩
  | 16, _, hu, h =>
    obtain ⟨A, c, B, d, C, q, g, h1, h2, h3⟩ := h
    have := hN fun e => hu (by rw [e]; rfl)
    subst this
    exact ⟨A, c, B, d, C, q, g, h1, h2.grown hg (by simp), hE h3⟩
  | 17, hne, _, h =>
    obtain ⟨A, c, B, d, C, q, g, p, h1, h2, h3, h4⟩ := h
    have := hN hne.symm
    subst this
    exact ⟨A, c, B, d, C, q, g, p, h1, h2.kept hg (.inr (by simp [Value.ownBlock])), h3, h4.go (Go2.same hg (.inl rfl))⟩
  | i + 18, _, _, h => trivial
def waG (b0 : Nat) (Iv : Value) (cur : List AH) : Nat → World → Prop
  | 17, u => u.ownsRow b0 101 6 Iv cur.length (cur.flatMap AH.cells)
  | _, _ => True
theorem waG_st {b0 : Nat} {Iv : Value} {cur : List AH} (j : Nat) (u u' : World) (c : Nat) (hR : waR Iv j u u') (hne : c ≠ j) (h : waG b0 Iv cur c u) : waG b0 Iv cur c u' := by
  by_cases h9 : c = 17
  · subst h9
    obtain ⟨row, hg, hr⟩ := hR
    have : row = none := by rcases hr with e | ⟨e, _⟩; exact e; exact absurd e.symm hne
    subst this
    exact (show u.ownsRow _ _ _ _ _ _ from h).kept hg (by cases Iv.ownBlock <;> simp)
  · unfold waG; split <;> first | omega | trivial
theorem info89 : (Try.prog.info? 101).map (fun i => (i.zero, i.size, i.bytes)) = some (some (.agg #[.int .i64 0, .int .i64 0, .slice none 0 0, .int .i64 0, .slice none 0 0, .slice none 0 0]), 6, 96) := by kernel_rfl
theorem info87 : (Try.prog.info? 99).map (fun i => (i.zero, i.size, i.bytes)) = some (some (.slice none 0 0), 1, 24) := by kernel_rfl
theorem run_mkarcs (n : Nat) (hn : n ≤ 100000) (w : World) :
    (Instr.makeSlice 66 (.int .i64 (n : Int)) (.int .i64 (n : Int))).run Try.prog w = .ok (.slice (some ⟨w.heap.size, 0, none⟩) n n) (w.alloc (.cells (List.replicate n (Value.slice none 0 0)).toArray 99)) := by
  obtain ⟨i, hi, hz0, hz1, hz2⟩ := info_parts info87
  have h := run_make (P := Try.prog) w 66 99 i (.slice none 0 0) Try.underlying66 hi hz0 .i64 .i64 n n (by omega) (by omega) (by rw [hz2]; omega) (by omega)
  rw [h, hz1]
  simp only [Int.toNat_natCast, Nat.mul_one]
  have e2 : madeCells (Value.slice none 0 0).cells n = (List.replicate n (Value.slice none 0 0)).toArray := by
    rw [show (Value.slice none 0 0).cells = #[Value.slice none 0 0] from rfl]
    unfold madeCells
    apply Array.ext
    · simp
    · intro j h1 h2
      simp [Nat.mod_one]
  rw [e2]
end Go.Proofs.Ytbjaebbmajhjjaa

namespace Go.Proofs.Ytbjaebbmajhjjaa
set_option maxRecDepth 20000
set_option linter.unusedVariables false
set_option linter.unusedSimpArgs false
open Go.ChangeShapes Go.WideShapes Go.ChangeAt Go.RowKit

theorem one_ah (a : AH) : ∀ u ∈ a.cells, u.oneCell' = true := by intro u hu; simp [AH.cells] at hu; rcases hu with rfl | rfl | rfl | rfl | rfl | rfl <;> rfl
/-- The web of the system came back, in memory of its own. -/
def RetWeb (X : List (Option Nat)) (w : World) (s : SY) (v N : Nat) (e : Ending) (w' : World) : Prop :=
  ∃ x : WB, e = .returned (.tuple #[x.a, .int .i64 0]) ∧ WBok w' X x ∧ WOk x v N ∧ x.pw = s.pw ∧ Below w.heap.size w w'
theorem SOk.valid {s : SY} {v N : Nat} {w : World} {ex : List (Option Nat)} (h : SOk s v N) (hs : SYok w ex s) : sysB s = true := by
  have hl : s.D.v.length = N := by rw [LH.vlen, hs.d.len, h.dn]
  have h1 : linkB s.D.v = true := by
    unfold linkB
    rw [hl]
    simp only [Bool.and_eq_true, decide_eq_true_eq, List.all_eq_true]
    refine ⟨⟨⟨h.n1, h.n256⟩, fun l hm => ?_⟩, h.tt⟩
    obtain ⟨y, hy, rfl⟩ := List.mem_map.1 hm
    exact risB_iff.2 (h.d y hy)
  unfold sysB
  rw [h1]
  simp only [Bool.and_eq_true, decide_eq_true_eq, List.all_eq_true, h.tn, h.dn, h.bn, true_and, and_true]
  refine ⟨fun z hz => ?_, fun f hf => ?_⟩
  · obtain ⟨a, b⟩ := h.b z hz
    unfold zfitB
    rw [a, h.w, Bs.valid_of_fit b h.v256]; simp
  · have := h.t f hf
    unfold ffitB FH.vB
    rw [this.w1, this.w2, h.w, this.ok]; simp
/-- The values of what has been made. -/
structure WpB (s : SY) (v : Nat) (lB : List ZH) : Prop where
  p : lB.map ZH.ws = (s.B.l.take lB.length).map ZH.ws
  g : ∀ y ∈ lB, y.W = v ∧ Bs.Fit v y.ws
def okA (v N : Nat) (a : AH) : Prop := (0 ≤ a.m ∧ a.m < N) ∧ FOk v a.f
structure WpD (s : SY) (v N : Nat) (done : List AL) : Prop where
  p : done.map AL.pa = (s.D.l.take done.length).map fun r => r.l.map s.arc
  g : ∀ r ∈ done, r.n ≤ 256 ∧ ∀ a ∈ r.l, okA v N a
structure WpC (s : SY) (v N : Nat) (r : RH) (cur : List AH) : Prop where
  p : cur.map AH.pa = (r.l.take cur.length).map s.arc
  g : ∀ a ∈ cur, okA v N a
theorem WpB.push {s : SY} {v : Nat} {lB : List ZH} (h : WpB s v lB) {z y : ZH} (hz : s.B.l[lB.length]? = some z) (hy : y.ws = z.ws) (hg : y.W = v ∧ Bs.Fit v y.ws) : WpB s v (lB ++ [y]) := by
  refine ⟨?_, fun x hx => ?_⟩
  · rw [List.map_append, List.length_append, h.p, List.map_singleton, hy]
    show _ = ((s.B.l.take (lB.length + 1)).map ZH.ws)
    rw [List.take_add_one, hz, List.map_append]; rfl
  · rcases List.mem_append.1 hx with hx | hx
    · exact h.g x hx
    · rw [List.mem_singleton.1 hx]; exact hg
theorem WpC.push {s : SY} {v N : Nat} {r : RH} {cur : List AH} (h : WpC s v N r cur) {m : Int} {y : AH} (hm : r.l[cur.length]? = some m) (hp : y.pa = s.arc m) (hg : okA v N y) : WpC s v N r (cur ++ [y]) := by
  refine ⟨?_, fun x hx => ?_⟩
  · rw [List.map_append, List.length_append, h.p, List.map_singleton, hp]
    show _ = ((r.l.take (cur.length + 1)).map s.arc)
    rw [List.take_add_one, hm, List.map_append]; rfl
  · rcases List.mem_append.1 hx with hx | hx
    · exact h.g x hx
    · rw [List.mem_singleton.1 hx]; exact hg
theorem WpD.push {s : SY} {v N : Nat} {done : List AL} (h : WpD s v N done) {r : RH} {cur : List AH} (hr : s.D.l[done.length]? = some r) (hl : r.l.length = cur.length) (hc : WpC s v N r cur) (h256 : cur.length ≤ 256) (A : Option Addr) (c : Nat) : WpD s v N (done ++ [⟨A, cur.length, c, cur⟩]) := by
  refine ⟨?_, fun x hx => ?_⟩
  · rw [List.map_append, List.length_append, h.p, List.map_singleton]
    show _ = ((s.D.l.take (done.length + 1)).map fun r => r.l.map s.arc)
    rw [List.take_add_one, hr, List.map_append]
    have := hc.p
    rw [List.take_of_length_le (by omega)] at this
    show _ ++ [cur.map AH.pa] = _ ++ [r.l.map s.arc]
    rw [this]
  · rcases List.mem_append.1 hx with hx | hx
    · exact h.g x hx
    · rw [List.mem_singleton.1 hx]; exact ⟨h256, hc.g⟩
theorem Wg.fin {X : List (Option Nat)} {w0 u : World} {s : SY} {v N bW gI b0 : Nat} {A : Option Addr} {c : Nat} {lB : List ZH} {done : List AL} {ivs : List Value} {ex : List (Option Nat)} (h : Wg X w0 s v N bW gI b0 (.slice A N c) (.slice none 0 0) lB done [] ivs u) (hs : SYok w0 ex s) (ho : SOk s v N) (hB : lB.length = N) (hD : done.length = N) (pB : WpB s v lB) (pD : WpD s v N done) :
    RetWeb X w0 s v N (.returned (.tuple #[.agg #[.int .i64 v, .slice A N c, .slice (some ⟨gI, 0, none⟩) N N], .int .i64 0])) (((u.setCell ⟨w0.heap.size + 1, 0, none⟩ (.int .i64 v)).setCell ⟨w0.heap.size + 1, 1, none⟩ (.slice A N c)).setCell ⟨w0.heap.size + 1, 2, none⟩ (.slice (some ⟨gI, 0, none⟩) N N)) := by
  have h1 := h.h1; have h2 := h.h2; have h4 := h.h4; have hn := ho.n256
  have hS := grown_trans (grown_trans (setCell_grown u ⟨w0.heap.size + 1, 0, none⟩ (.int .i64 v)) (setCell_grown _ ⟨w0.heap.size + 1, 1, none⟩ (.slice A N c))) (setCell_grown _ ⟨w0.heap.size + 1, 2, none⟩ (.slice (some ⟨gI, 0, none⟩) N N))
  have hG : Go2 u (exW X (w0.heap.size + 1) bW gI (.slice A N c) (.slice none 0 0)) _ X := (Go2.same hS (.inr (by simp [exW]))).trans (Go2.less _ fun k hk => by simp only [exW, List.mem_cons]; exact .inr (.inr (.inr (.inr (.inr hk)))))
  have hnX : ∀ g, w0.heap.size < g → some g ∉ X := fun g hg hm => by have := h.hX g hm; omega
  have oB := h.oB.kept hS (wfar h.oB (by show w0.heap.size + 1 < b0; omega))
  rw [hB] at oB
  have ix := h.ix.grown hS (by show some gI ≠ some (w0.heap.size + 1); simp; omega)
  have hb := ((h.bel.setCell (p := ⟨w0.heap.size + 1, 0, none⟩) (by show w0.heap.size ≤ w0.heap.size + 1; omega) (.int .i64 v)).setCell (p := ⟨w0.heap.size + 1, 1, none⟩) (by show w0.heap.size ≤ w0.heap.size + 1; omega) (.slice A N c)).setCell (p := ⟨w0.heap.size + 1, 2, none⟩) (by show w0.heap.size ≤ w0.heap.size + 1; omega) (.slice (some ⟨gI, 0, none⟩) N N)
  refine ⟨⟨v, ⟨A, N, c, lB⟩, ⟨some ⟨gI, 0, none⟩, N, N, done⟩⟩, rfl, ⟨⟨EAt.own oB fun g hg => hnX g (by have := (oB.lt g hg).1; omega), hB, by show N ≤ _; omega, fun y hy => (h.eB y hy).go hG⟩, ⟨EAt.fb ix (hnX gI (by omega)) (fun j x hx => ?_), hD, by show N ≤ _; omega, fun y hy => (h.eD y hy).go hG⟩⟩,
    ⟨rfl, ho.v256, hn, rfl, rfl, pB.g, pD.g⟩, ?_, hb⟩
  · rw [List.getElem?_map] at hx
    cases hy : done[j]? with
    | none => rw [hy] at hx; cases hx
    | some y =>
      rw [hy] at hx
      rw [List.getElem?_toArray, h.i2 j y hy]
      exact hx
  · show PW.mk _ _ _ = PW.mk _ _ _
    have e1 := pB.p
    have e2 := pD.p
    rw [hB, List.take_of_length_le (by rw [hs.b.len, ho.bn]; exact Nat.le_refl _)] at e1
    rw [hD, List.take_of_length_le (by rw [hs.d.len, ho.dn]; exact Nat.le_refl _)] at e2
    show PW.mk (v : Int).toNat (lB.map ZH.ws) (done.map AL.pa) = _
    rw [e1, e2, ho.w]
theorem Wg.start {X : List (Option Nat)} {w0 u : World} {s : SY} {v N bW gI b0 : Nat} (hX : ∀ k, some k ∈ X → k < w0.heap.size) (sx : Fb u w0.heap.size s.box 27) (rx : Fb u (w0.heap.size + 1) #[.int .i64 0, .slice none 0 0, .slice none 0 0] 68)
    (wx : Fb u bW #[.int .i64 v, .slice none 0 0, .slice (some ⟨gI, 0, none⟩) N N] 68) (ix : Fb u gI (List.replicate N (Value.slice none 0 0)).toArray 99) (h1 : w0.heap.size + 1 < bW) (h2 : w0.heap.size + 1 < gI) (h4 : bW < b0 ∧ gI < b0) (bel : Below w0.heap.size w0 u) :
    Wg X w0 s v N bW gI b0 (.slice none 0 0) (.slice none 0 0) [] [] [] (List.replicate N (.slice none 0 0)) u :=
  ⟨sx, rx, wx, ix, hX, h1, h2, h4, bel, World.ownsRow_nil _ _ _ _, World.ownsRow_nil _ _ _ _, by simp, by simp, by simp, by simp, by simp, fun h => List.getElem?_replicate_of_lt h, fun j _ h => List.getElem?_replicate_of_lt h⟩
theorem rep_arr (N : Nat) : (List.replicate N (Value.slice none 0 0)).toArray = Array.replicate N (Value.slice none 0 0) := by simp
theorem Wg.startA {X : List (Option Nat)} {w0 w2 : World} {s : SY} {v N : Nat} (hX : ∀ k, some k ∈ X → k < w0.heap.size) (sx : Fb w2 w0.heap.size s.box 27) (rx : Fb w2 (w0.heap.size + 1) #[.int .i64 0, .slice none 0 0, .slice none 0 0] 68) (bel : Below w0.heap.size w0 w2) :
    w2.heap.size + 2 ≤ ((w2.alloc (.cells (Array.replicate N (Value.slice none 0 0)) 99)).alloc (.cells #[.int .i64 v, .slice none 0 0, .slice (some ⟨w2.heap.size, 0, none⟩) N N] 68)).drew.heap.size ∧
    Wg X w0 s v N (w2.heap.size + 1) w2.heap.size (w2.heap.size + 2) (.slice none 0 0) (.slice none 0 0) [] [] [] (List.replicate N (.slice none 0 0)) ((w2.alloc (.cells (Array.replicate N (Value.slice none 0 0)) 99)).alloc (.cells #[.int .i64 v, .slice none 0 0, .slice (some ⟨w2.heap.size, 0, none⟩) N N] 68)).drew := by
  have hl := rx.lt
  have hb := (Below.refl w2.heap.size w2).alloc (Nat.le_refl _) (.cells (Array.replicate N (Value.slice none 0 0)) 99)
  have hb2 := hb.alloc hb.size (.cells #[.int .i64 v, .slice none 0 0, .slice (some ⟨w2.heap.size, 0, none⟩) N N] 68)
  have wx := Fb.new (w2.alloc (.cells (Array.replicate N (Value.slice none 0 0)) 99)) #[.int .i64 v, .slice none 0 0, .slice (some ⟨w2.heap.size, 0, none⟩) N N] 68
  rw [World.size_alloc] at wx
  have ix := (Fb.new w2 (Array.replicate N (Value.slice none 0 0)) 99).alloc (.cells #[.int .i64 v, .slice none 0 0, .slice (some ⟨w2.heap.size, 0, none⟩) N N] 68)
  rw [← rep_arr] at ix wx hb2 ⊢
  exact ⟨by simp [World.drew], (Wg.start hX (sx.below hb2 sx.lt) (rx.below hb2 rx.lt) wx ix (by omega) (by omega) ⟨by omega, by omega⟩ (below_step bel hb2)).below (Below.refl _ _).drew⟩
theorem Wg.startB {X : List (Option Nat)} {w0 w2 : World} {s : SY} {v N : Nat} (hX : ∀ k, some k ∈ X → k < w0.heap.size) (sx : Fb w2 w0.heap.size s.box 27) (rx : Fb w2 (w0.heap.size + 1) #[.int .i64 0, .slice none 0 0, .slice none 0 0] 68) (bel : Below w0.heap.size w0 w2) :
    w2.heap.size + 2 ≤ ((w2.alloc (.cells #[.int .i64 v, .slice none 0 0, .slice (some ⟨w2.heap.size + 1, 0, none⟩) N N] 68)).alloc (.cells (Array.replicate N (Value.slice none 0 0)) 99)).drew.heap.size ∧
    Wg X w0 s v N w2.heap.size (w2.heap.size + 1) (w2.heap.size + 2) (.slice none 0 0) (.slice none 0 0) [] [] [] (List.replicate N (.slice none 0 0)) ((w2.alloc (.cells #[.int .i64 v, .slice none 0 0, .slice (some ⟨w2.heap.size + 1, 0, none⟩) N N] 68)).alloc (.cells (Array.replicate N (Value.slice none 0 0)) 99)).drew := by
  have hl := rx.lt
  have hb := (Below.refl w2.heap.size w2).alloc (Nat.le_refl _) (.cells #[.int .i64 v, .slice none 0 0, .slice (some ⟨w2.heap.size + 1, 0, none⟩) N N] 68)
  have hb2 := hb.alloc hb.size (.cells (Array.replicate N (Value.slice none 0 0)) 99)
  have ix := Fb.new (w2.alloc (.cells #[.int .i64 v, .slice none 0 0, .slice (some ⟨w2.heap.size + 1, 0, none⟩) N N] 68)) (Array.replicate N (Value.slice none 0 0)) 99
  rw [World.size_alloc] at ix
  have wx := (Fb.new w2 #[.int .i64 v, .slice none 0 0, .slice (some ⟨w2.heap.size + 1, 0, none⟩) N N] 68).alloc (.cells (Array.replicate N (Value.slice none 0 0)) 99)
  rw [← rep_arr] at ix wx hb2 ⊢
  exact ⟨by simp [World.drew], (Wg.start hX (sx.below hb2 sx.lt) (rx.below hb2 rx.lt) wx ix (by omega) (by omega) ⟨by omega, by omega⟩ (below_step bel hb2)).below (Below.refl _ _).drew⟩
set_option maxHeartbeats 12800000 in
theorem web_any (X : List (Option Nat)) (s : SY) (v N : Nat) (ex : List (Option Nat)) (w : World) (h : SYok w ex s) (ho : SOk s v N) (hX : ∀ k, some k ∈ X → k < w.heap.size) :
    Calls Try.prog 54 #[s.a] w (RetWeb X w s v N) := by
  obtain ⟨iB, hi, hz0, hz1, hz2⟩ := info_parts info41
  have HB := hid hi; have HB0 := hid hz0; have HB1 := hid hz1; have HB2 := hid hz2
  clear hi hz0 hz1 hz2
  obtain ⟨iA, hi, hz0, hz1, hz2⟩ := info_parts info89
  have HA := hid hi; have HA0 := hid hz0; have HA1 := hid hz1; have HA2 := hid hz2
  clear hi hz0 hz1 hz2
  have hv := ho.v256
  have hN := ho.n256
  have hN1 := ho.n1
  have Ho := hid ho
  have Hs := hid h
  have HX := hid hX
  have hW := ho.w
  have hdn := ho.dn
  have htn := ho.tn
  have hbn := ho.bn
  have Hv := hid (fun (u : World) (hu : Below w.heap.size w u) => (validS_any s ex u (h.below hu)).mono (fun e w' (hr : e = .returned (.bool (sysB s)) ∧ Below u.heap.size u w') => show e = .returned (.bool true) ∧ Below u.heap.size u w' by rw [ho.valid h] at hr; exact hr))
  clear h ho hX
  obtain ⟨W, ⟨DA, dn, dc, dl⟩, ⟨TA, tn, tc, tl⟩, ⟨BA, bn, bc, bl⟩⟩ := s
  simp only at hW hdn htn hbn
  subst hW
  have hdn := hdn.symm
  subst hdn
  have htn := htn.symm
  subst htn
  have hbn := hbn.symm
  subst hbn
  obtain ⟨x0, hx0, -⟩ := get_at (show dl.length = N from Hs.out.d.len) hN1
  obtain ⟨adr, hA, -, -⟩ := Hs.out.d.cell hx0
  clear hx0 x0
  obtain ⟨x0, hx0, -⟩ := get_at (show tl.length = N from Hs.out.t.len) hN1
  obtain ⟨adt, hA2, -⟩ := Hs.out.t.cell hx0
  clear hx0 x0
  obtain ⟨x0, hx0, -⟩ := get_at (show bl.length = N from Hs.out.b.len) hN1
  obtain ⟨adb, hA3, -⟩ := Hs.out.b.cell hx0
  clear hx0 x0
  simp only at hA hA2 hA3
  subst hA
  subst hA2
  subst hA3
  unfold SY.a at *
  simp only at *
  have Hb1 := hid (((Below.refl w.heap.size w).alloc (Nat.le_refl _) (.cells #[.int .i64 v, .slice (some adr) N dc, .slice (some adt) N tc, .slice (some adb) N bc] 27)).alloc (by simp) (.cells #[.int .i64 0, .slice none 0 0, .slice none 0 0] 68))
  have Hsx := hid ((Fb.new w #[.int .i64 v, .slice (some adr) N dc, .slice (some adt) N tc, .slice (some adb) N bc] 27).alloc (.cells #[.int .i64 0, .slice none 0 0, .slice none 0 0] 68))
  have Hrx := hid (show Fb ((w.alloc (.cells #[.int .i64 v, .slice (some adr) N dc, .slice (some adt) N tc, .slice (some adb) N bc] 27)).alloc (.cells #[.int .i64 0, .slice none 0 0, .slice none 0 0] 68)) (w.heap.size + 1) #[.int .i64 0, .slice none 0 0, .slice none 0 0] 68 from by
    have := Fb.new (w.alloc (.cells #[.int .i64 v, .slice (some adr) N dc, .slice (some adt) N tc, .slice (some adb) N bc] 27)) #[.int .i64 0, .slice none 0 0, .slice none 0 0] 68
    rwa [World.size_alloc] at this)
  go_enter Try.func54, Try.ntmps54
  go_wp2_with fail
  refine (Hv.out _ Hb1.out).mono ?_
  generalize (w.alloc (.cells #[.int .i64 v, .slice (some adr) N dc, .slice (some adt) N tc, .slice (some adb) N bc] 27)).alloc (.cells #[.int .i64 0, .slice none 0 0, .slice none 0 0] 68) = wa at *
  rintro e w2 ⟨rfl, hb2⟩
  have Hb2 := hid (below_step Hb1.out hb2)
  have Hsx2 := hid (Hsx.out.below hb2 Hsx.out.lt)
  have Hrx2 := hid (Hrx.out.below hb2 Hrx.out.lt)
  clear hb2 Hb1 Hsx Hrx Hv
  obtain ⟨c0, c1, c2, c3⟩ := Hsx2.out.four
  have HSA := hid (Wg.startA (s := ⟨v, ⟨some adr, N, dc, dl⟩, ⟨some adt, N, tc, tl⟩, ⟨some adb, N, bc, bl⟩⟩) (v := v) (N := N) HX.out Hsx2.out Hrx2.out Hb2.out)
  have HSB := hid (Wg.startB (s := ⟨v, ⟨some adr, N, dc, dl⟩, ⟨some adt, N, tc, tl⟩, ⟨some adb, N, bc, bl⟩⟩) (v := v) (N := N) HX.out Hsx2.out Hrx2.out Hb2.out)
  have hmk := run_mkarcs N (by omega)
  have hlr := Hrx2.out.lt
  have hls := Hsx2.out.lt
  go_upto_region 3 with fail
  go_cut [4] (fun a wd => ∃ (bW gI b0 : Nat) (ivs : List Value), a = .pointer (some ⟨bW, 0, none⟩) ∧ Hid (b0 ≤ wd.heap.size) ∧ Hid (Wg X w ⟨v, ⟨some adr, N, dc, dl⟩, ⟨some adt, N, tc, tl⟩, ⟨some adb, N, bc, bl⟩⟩ v N bW gI b0 (.slice none 0 0) (.slice none 0 0) [] [] [] ivs wd))
  case first =>
    go_region_law (fail)
    all_goals
      go_wp2_with fail
      go_meet
      first
      | exact ⟨_, _, _, _, rfl, hid HSA.out.1, hid HSA.out.2⟩
      | exact ⟨_, _, _, _, rfl, hid HSB.out.1, hid HSB.out.2⟩
  case rest =>
    obtain ⟨bW, gI, b0, ivs0, rfl, HBs0, HW0⟩ := hcut
    clear hmk c0 c1 c2 c3 hlr hls Hb2 Hsx2 Hrx2 HSA HSB
    generalize wc = w3 at *
    obtain ⟨c0, c1, c2, c3⟩ := (show Fb w3 w.heap.size #[.int .i64 v, .slice (some adr) N dc, .slice (some adt) N tc, .slice (some adb) N bc] _ from HW0.out.sx).four
    go_wp2_with fail
    go_loopw [5, 6, 8, 23] (fun _ _ _ kv wr => ∃ (k : Nat) (Bv : Value) (lB : List ZH) (done : List AL) (ivs : List Value), k ≤ N ∧ kv = .int .i64 k ∧ lB.length = k ∧ Hid (done.length = k) ∧ Hid (b0 ≤ wr.heap.size) ∧ Hid (Wg X w ⟨v, ⟨some adr, N, dc, dl⟩, ⟨some adt, N, tc, tl⟩, ⟨some adb, N, bc, bl⟩⟩ v N bW gI b0 Bv (.slice none 0 0) lB done [] ivs wr) ∧ Hid (WpB ⟨v, ⟨some adr, N, dc, dl⟩, ⟨some adt, N, tc, tl⟩, ⟨some adb, N, bc, bl⟩⟩ v lB) ∧ Hid (WpD ⟨v, ⟨some adr, N, dc, dl⟩, ⟨some adt, N, tc, tl⟩, ⟨some adb, N, bc, bl⟩⟩ v N done)) (fun _ _ _ kv _ => N - (intOf kv).toNat)
    case atStart => exact ⟨0, _, [], [], ivs0, by omega, rfl, rfl, hid rfl, HBs0, HW0, hid ⟨rfl, by simp⟩, hid ⟨rfl, by simp⟩⟩
    case round =>
      clear HBs0 HW0 c0 c1 c2 c3
      obtain ⟨k, Bv, lB, done, ivs, hk, rfl, hlB, Hdk, HBs, HS, HpB, HpD⟩ := hrel
      by_cases hlt : k < N
      · obtain ⟨r, hr, hrm⟩ := get_at (show dl.length = N from Hs.out.d.len) hlt
        obtain ⟨ad9, hA, hadr, hcr⟩ := (Hs.out.d.below HS.out.bel).cell hr
        obtain rfl := Option.some.inj hA
        obtain ⟨z, hz, hzm⟩ := get_at (show bl.length = N from Hs.out.b.len) hlt
        obtain ⟨ad9, hA2, had, hc0, hc1⟩ := Hs.out.b.cell hz
        obtain rfl := Option.some.inj hA2
        have hza := (Hs.out.b.all z hzm).arg
        obtain ⟨hzW, hzf⟩ := Ho.out.b z hzm
        have Hza := hid hza
        have hzn : z.n ≤ 100 := by rw [← hza.len, hzf.len]; unfold Bs.nw; omega
        have Had := hid had; have Hc0 := hid hc0; have Hc1 := hid hc1; have Hzg := hid (And.intro hzW hzf)
        have Hr := hid hr; have Hrm := hid hrm; have Hz := hid hz
        have n0 : (0 : Int) ≤ k := by omega
        have n1 : (k : Int) < N := by omega
        have n2 : (k : Int).toNat = k := by omega
        clear hr hrm hz hzm had hc0 hc1 hza hzW hzf
        go_upto_region 7 with fail
        generalize wr = w1 at *
        rename_i Kx hKx
        clear n0 n1 n2 hcr hadr
        refine wp_region_factsG (wbG b0 Bv (.slice none 0 0) lB []) (wbF (fun x => exW X (w.heap.size + 1) bW gI x (.slice none 0 0)) w1 w.heap.size bW b0 ⟨v, ⟨some adr, N, dc, dl⟩, ⟨some adt, N, tc, tl⟩, ⟨some adb, N, bc, bl⟩⟩ Bv lB k adb z) (WgK X w w1 ⟨v, ⟨some adr, N, dc, dl⟩, ⟨some adt, N, tc, tl⟩, ⟨some adb, N, bc, bl⟩⟩ v N bW gI Bv (.slice none 0 0) ivs) wbU (wbR Bv) Kx (fun _ _ h => h) 12 10 [some 28, some 29, some 30, some 31, some 32, some 33, some 34, some 35, some 36, some 37, some 38, none] (by kernel_rfl) (by kernel_rfl) (by kernel_rfl) (by kernel_rfl) (by kernel_rfl) (by kernel_rfl) (by decide)
          (wbF_st fun x => by simp [exW]) ?bs ?gs wbG_st ?ar ?en
        case bs => exact HS.out.k.below (Below.refl _ _).drew
        case gs =>
          intro c
          by_cases h9 : c = 9
          · subst h9; exact HS.out.oB.kept (grown_of_below (Below.refl w1.heap.size w1).drew none) (by cases Bv.ownBlock <;> simp)
          · unfold wbG; split <;> first | omega | trivial
        case ar =>
          intro j o f u ho hi hB hGi hpre K hK
          match j, ho, hpre, hK with
          | 0, ho, hpre, hK =>
            obtain rfl := Option.some.inj ho
            refine wpOp_step rfl fun K' hK' => ?_
            simp only [putL, updV]
            go_simp
            have hz := hK' _ _ (hK (.pointer (some ⟨bW, 1, none⟩)) (u) (hB) (wbR.refl _ _ _) (rfl))
            refine Eq.mp (congrArg (fun a => K' a (u)) ?_) hz
            kernel_rfl
          | 1, ho, hpre, hK =>
            obtain rfl := Option.some.inj ho
            obtain ⟨c0, c1, c2⟩ := hB.wx.three
            have hlt := hB.wx.lt
            have e0 : f 0 = .pointer (some ⟨bW, 1, none⟩) := hpre ⟨0, .data⟩ (by simp) rfl (.inl rfl)
            obtain ⟨f, rfl⟩ := fixG f 0 _ e0
            clear e0
            refine wpOp_step rfl fun K' hK' => ?_
            simp only [putL, updV]
            go_simp
            have hz := hK' _ _ (hK (Bv) (u) (hB) (wbR.refl _ _ _) (rfl))
            refine Eq.mp (congrArg (fun a => K' a (u)) ?_) hz
            kernel_rfl
          | 2, ho, hpre, hK =>
            obtain rfl := Option.some.inj ho
            refine wpOp_step rfl fun K' hK' => ?_
            simp only [putL, updV]
            go_simp
            have hz := hK' _ _ (hK (.pointer (some ⟨w.heap.size, 3, none⟩)) (u) (hB) (wbR.refl _ _ _) (rfl))
            refine Eq.mp (congrArg (fun a => K' a (u)) ?_) hz
            kernel_rfl
          | 3, ho, hpre, hK =>
            obtain rfl := Option.some.inj ho
            obtain ⟨c0, c1, c2, c3⟩ := (show Fb u w.heap.size #[.int .i64 v, .slice (some adr) N dc, .slice (some adt) N tc, .slice (some adb) N bc] _ from hB.sx).four
            have hlt := hB.sx.lt
            have e2 : f 2 = .pointer (some ⟨w.heap.size, 3, none⟩) := hpre ⟨2, .data⟩ (by simp) rfl (.inl rfl)
            obtain ⟨f, rfl⟩ := fixG f 2 _ e2
            clear e2
            refine wpOp_step rfl fun K' hK' => ?_
            simp only [putL, updV]
            go_simp
            have hz := hK' _ _ (hK (.slice (some adb) N bc) (u) (hB) (wbR.refl _ _ _) (rfl))
            refine Eq.mp (congrArg (fun a => K' a (u)) ?_) hz
            kernel_rfl
          | 4, ho, hpre, hK =>
            obtain rfl := Option.some.inj ho
            refine wpOp_step rfl fun K' hK' => ?_
            simp only [putL, updV]
            go_simp
            have hz := hK' _ _ (hK (.int .i64 (k : Int)) (u) (hB) (wbR.refl _ _ _) (rfl))
            refine Eq.mp (congrArg (fun a => K' a (u)) ?_) hz
            kernel_rfl
          | 5, ho, hpre, hK =>
            obtain rfl := Option.some.inj ho
            have k0 : (0 : Int) ≤ k := by omega
            have k1 : (k : Int) < N := by omega
            have k2 : (k : Int).toNat = k := by omega
            have e3 : f 3 = .slice (some adb) N bc := hpre ⟨3, .data⟩ (by simp) rfl (.inl rfl)
            have e4 : f 4 = .int .i64 (k : Int) := hpre ⟨4, .data⟩ (by simp) rfl (.inl rfl)
            obtain ⟨f, rfl⟩ := fixG f 3 _ e3
            rw [updV_ne _ _ (by decide)] at e4
            obtain ⟨f, rfl⟩ := fixG f 4 _ e4
            clear e3 e4
            refine wpOp_step rfl fun K' hK' => ?_
            simp only [putL, updV]
            go_simp
            have hz := hK' _ _ (hK (.pointer (some (adb.add (k * 2)))) (u) (hB) (wbR.refl _ _ _) (rfl))
            refine Eq.mp (congrArg (fun a => K' a (u)) ?_) hz
            kernel_rfl
          | 6, ho, hpre, hK =>
            obtain rfl := Option.some.inj ho
            have q0 := (hB.bel.cell (p := adb.add (k * 2)) (by rw [add_block]; exact Had.out)).trans Hc0.out
            have q1 := (hB.bel.cell (p := ⟨(adb.add (k * 2)).block, (adb.add (k * 2)).off + 1, none⟩) (by rw [add_block]; exact Had.out)).trans Hc1.out
            have e5 : f 5 = .pointer (some (adb.add (k * 2))) := hpre ⟨5, .data⟩ (by simp) rfl (.inl rfl)
            obtain ⟨f, rfl⟩ := fixG f 5 _ e5
            clear e5
            refine wpOp_step rfl fun K' hK' => ?_
            simp only [putL, updV]
            go_simp
            have hz := hK' _ _ (hK (.agg #[.int .i64 z.W, .slice z.A z.n z.c]) (u) (hB) (wbR.refl _ _ _) (rfl))
            refine Eq.mp (congrArg (fun a => K' a (u)) ?_) hz
            kernel_rfl
          | 7, ho, hpre, hK =>
            obtain rfl := Option.some.inj ho
            have e6 : f 6 = .agg #[.int .i64 z.W, .slice z.A z.n z.c] := hpre ⟨6, .data⟩ (by simp) rfl (.inl rfl)
            obtain ⟨f, rfl⟩ := fixG f 6 _ e6
            clear e6
            refine wpOp_step rfl fun K' hK' => ?_
            simp only [putL, updV]
            go_simp
            go_at_call 85
            refine (copiedSet_any z.W z.A z.n z.c z.ws _ (Hza.out.below hB.bel) hzn).mono ?_
            rintro e u5 ⟨A', c', rfl, hna, hb⟩
            have he := hna (exW X (w.heap.size + 1) bW gI Bv (.slice none 0 0)) (fun k hk => by have := HS.out.exlt k hk; have := hB.gx.size; omega)
            have hz := hK' _ _ (hK (.agg #[.int .i64 z.W, .slice A' z.n c']) (u5) (hB.below hb) (wbR.below hb) (⟨A', c', rfl, he⟩))
            refine Eq.mp (congrArg (fun a => K' a (u5)) ?_) hz
            kernel_rfl
          | 8, ho, hpre, hK =>
            obtain rfl := Option.some.inj ho
            obtain ⟨A, c, e7, he⟩ : ∃ (A : Option Addr) (c : Nat), f 7 = .agg #[.int .i64 z.W, .slice A z.n c] ∧ EAt u (exW X (w.heap.size + 1) bW gI Bv (.slice none 0 0)) A (words z.ws) := hpre ⟨7, .data⟩ (by simp) rfl (.inr rfl)
            obtain ⟨f, rfl⟩ := fixG f 7 _ e7
            clear e7
            have hbw := (Below.refl u.heap.size u).alloc (Nat.le_refl _) (.cells #[.int .i64 z.W, .slice A z.n c] 41)
            refine wpOp_step rfl fun K' hK' => ?_
            simp only [putL, updV]
            go_simp
            have hz := hK' _ _ (hK (.slice (some ⟨u.heap.size, 0, none⟩) 1 1) (u.alloc (.cells #[.int .i64 z.W, .slice A z.n c] 41)) (hB.below hbw) (wbR.below hbw) (⟨A, c, _, rfl, Fb.new _ _ _, he.go (Go2.below hbw)⟩))
            refine Eq.mp (congrArg (fun a => K' a (u.alloc (.cells #[.int .i64 z.W, .slice A z.n c] 41))) ?_) hz
            kernel_rfl
          | 9, ho, hpre, hK =>
            obtain rfl := Option.some.inj ho
            have e1 : f 1 = Bv := hpre ⟨1, .data⟩ (by simp) rfl (.inl rfl)
            obtain ⟨A, c, g, e8, hf, he⟩ : ∃ (A : Option Addr) (c g : Nat), f 8 = .slice (some ⟨g, 0, none⟩) 1 1 ∧ Fb u g #[.int .i64 z.W, .slice A z.n c] 41 ∧ EAt u (exW X (w.heap.size + 1) bW gI Bv (.slice none 0 0)) A (words z.ws) := hpre ⟨8, .data⟩ (by simp) rfl (.inr rfl)
            have ho : u.ownsRow b0 41 2 Bv lB.length (lB.flatMap ZH.cs) := hGi
            have hbase : b0 ≤ u.heap.size := by have := HBs.out; have := hB.gx.size; omega
            obtain ⟨f, rfl⟩ := fixG f 1 _ e1
            rw [updV_ne _ _ (by decide)] at e8
            obtain ⟨f, rfl⟩ := fixG f 8 _ e8
            clear e1 e8
            refine wpOp_step rfl fun K' hK' => ?_
            refine step_append_lies _ rfl (.tmp 29) (.tmp 36) 25 rfl b0 41 iB _ 2 32 Try.underlying25 HB.out HB0.out HB1.out HB2.out rfl (by decide) Bv lB.length (lB.flatMap ZH.cs) (by kernel_rfl) ho ⟨g, 0, none⟩ 1 1 [.int .i64 z.W, .slice A z.n c] (by kernel_rfl) rfl (fun j x hx => World.news_of_block hf j x hx) (one_zcs ⟨z.W, A, z.n, c, z.ws⟩) (by omega) (by unfold maxLen; omega) (by omega) hbase _ rfl ?_
            intro g9 q9 w9 hown hgr hat _
            have hB9 := hB.app HS.out (.inl rfl) ho hgr
            have hn9 := hat.imp (fun e => e) (fun e => show w1.heap.size ≤ g9 by rw [e]; exact hB.gx.size)
            have he9 := he.go (exW_go (A' := .slice (some ⟨g9, 0, none⟩) (lB.length + 1) q9) (B' := .slice none 0 0) ((GrX.refl u (exW X (w.heap.size + 1) bW gI Bv (.slice none 0 0))).step hgr (fun g e => .inl (by simp [exW]))) (fun k hk => by
              obtain rfl := Option.some.inj hk
              exact hat.imp (fun e => e) (fun e => by rw [e]; exact Nat.le_refl _)) (fun k hk => .inl hk))
            have hz := hK' _ _ (hK (.slice (some ⟨g9, 0, none⟩) (lB.length + 1) q9) (w9) (hB9) (⟨_, hgr, .inr ⟨rfl, rfl⟩⟩) (⟨A, c, g9, q9, rfl, hown, hn9, he9⟩))
            refine Eq.mp (congrArg (fun a => K' a (w9)) ?_) hz
            kernel_rfl
          | j + 10, ho, hpre, hK => exact absurd hi (by omega)
        case en =>
          intro Q2 hQ2 f u hB hF
          obtain ⟨A9, c9, g9, q9, e9, o9, n9, h9⟩ := hF 9 (by decide) rfl
          have HSn := hid (hB.pushB HS.out (y := ⟨z.W, A9, z.n, c9, z.ws⟩) o9 n9 (World.ownsRow_nil _ _ _ _) ⟨h9, Hza.out.len, Hza.out.ok⟩)
          have HBn := hid (show b0 ≤ (u.setCell ⟨bW, 1, none⟩ (.slice (some ⟨g9, 0, none⟩) (lB.length + 1) q9)).heap.size from by have := HBs.out; have := hB.gx.size; simp only [World.size_setCell]; omega)
          obtain ⟨x0, x1, x2⟩ := hB.wx.three
          have f1 := hB.wx.frozen 1
          have hltB := hB.wx.lt
          obtain ⟨f, rfl⟩ := fixG f 9 _ e9
          clear hF o9 n9 h9 e9 hB
          show wpAny _ _ _ _ 2 (tailArr 12 10) _ _
          generalize hA : putL _ _ _ _ = aa
          refine tail_two (i := 10) (j := 11) ?q1 ?q2 ?q3 rfl rfl hQ2 ?q4
          case q1 => kernel_rfl
          case q2 => kernel_rfl
          case q3 => kernel_rfl
          simp only [putL, updV] at hA
          rw [← hA]
          clear hA
          go_simp
          refine hKx _ _ ?_
          have HpB5 := hid (HpB.out.push (z := z) (y := ⟨z.W, A9, z.n, c9, z.ws⟩) (by rw [hlB]; exact Hz.out) rfl Hzg.out)
          have hl5 : (lB ++ [(⟨z.W, A9, z.n, c9, z.ws⟩ : ZH)]).length = k + 1 := by rw [List.length_append, hlB]; rfl
          rw [hlB] at HSn HBn
          generalize hlq : lB ++ [(⟨z.W, A9, z.n, c9, z.ws⟩ : ZH)] = lB5 at *
          clear hlq HpB HS HBs x0 x1 x2 f1 hltB Hc0 Hc1 Had Hza Hzg Hz
          generalize u.setCell ⟨bW, 1, none⟩ (.slice (some ⟨g9, 0, none⟩) (k + 1) q9) = w5 at *
          generalize Value.slice (some ⟨g9, 0, none⟩) (k + 1) q9 = Bv5 at *
          clear hlB
          have Hl5 := hid hl5
          clear hl5
          obtain ⟨rA, rn, rc, rl⟩ := r
          simp only at Hr Hrm ⊢
          have hrn : rn ≤ 256 := by
            have h1 := (Ho.out.d _ Hrm.out)
            have h2 := ris_len h1
            have h3 := (Hs.out.d.all _ Hrm.out).len
            simp only at h2 h3
            omega
          go_wp2_with fail
          go_loopw [8, 41] (fun _ jv wr => ∃ (j : Nat) (Iv : Value) (cur : List AH) (ivs2 : List Value), j ≤ rn ∧ jv = .int .i64 j ∧ Hid (cur.length = j) ∧ Hid (b0 ≤ wr.heap.size) ∧ Hid (Wg X w ⟨v, ⟨some adr, N, dc, dl⟩, ⟨some adt, N, tc, tl⟩, ⟨some adb, N, bc, bl⟩⟩ v N bW gI b0 Bv5 Iv lB5 done cur ivs2 wr) ∧ Hid (WpC ⟨v, ⟨some adr, N, dc, dl⟩, ⟨some adt, N, tc, tl⟩, ⟨some adb, N, bc, bl⟩⟩ v N ⟨rA, rn, rc, rl⟩ cur)) (fun _ jv _ => rn - (intOf jv).toNat)
          case atStart => exact ⟨0, _, [], ivs, by omega, rfl, hid rfl, HBn, HSn, hid ⟨rfl, by simp⟩⟩
          case round =>
            clear HBn HSn
            obtain ⟨j, Iv, cur, ivs2, hj, rfl, Hcl, HBs2, HS2, HpC⟩ := hrel
            by_cases hlt2 : j < rn
            · have hcl : cur.length ≤ 256 := by have := Hcl.out; omega
              obtain ⟨m0, hm, hmm⟩ := get_at (show rl.length = rn from (Hs.out.d.all _ Hrm.out).len) hlt2
              have hmr := (Ho.out.d _ Hrm.out).2 m0 hmm
              obtain ⟨m, rfl⟩ := Int.eq_ofNat_of_zero_le hmr.1
              have hmN : m < N := by omega
              obtain ⟨ad9, hA, had9, hcm⟩ := ((Hs.out.d.all _ Hrm.out).below HS2.out.bel).cell hm
              simp only at hA
              subst hA
              obtain ⟨y, hy, hym⟩ := get_at (show tl.length = N from Hs.out.t.len) hmN
              obtain ⟨ad8, hA8, had, hc0, hc1, hc2, hc3, hc4⟩ := Hs.out.t.cell hy
              obtain rfl := Option.some.inj hA8
              have Hy := hid (Hs.out.t.all y hym)
              have Hyo := hid (Ho.out.t y hym)
              have hy1 : y.G.n ≤ 100 := by
                obtain ⟨h1, -, -, -, -⟩ := validT_iff Hyo.out.ok
                have := (Bs.fit_of_valid h1 Hy.out.g.ok).len
                rw [Int.toNat_natCast] at this
                rw [← Hy.out.g.len, this]; unfold Bs.nw; omega
              have hy2 : y.K.n ≤ 100 := by
                obtain ⟨-, h1, -, -, -⟩ := validT_iff Hyo.out.ok
                have := (Bs.fit_of_valid h1 Hy.out.k.ok).len
                rw [Int.toNat_natCast] at this
                rw [← Hy.out.k.len, this]; unfold Bs.nw; omega
              have hy3 : y.k ≤ 100 := by
                obtain ⟨-, -, -, h1, -⟩ := validT_iff Hyo.out.ok
                rw [← Hy.out.len]; omega
              have Had := hid had; have Hc0 := hid hc0; have Hc1 := hid hc1; have Hc2 := hid hc2; have Hc3 := hid hc3; have Hc4 := hid hc4
              have Hm := hid hm; have Hyt := hid hy
              have Hiv := hid (show ivs2[k]? = some Iv from by have := HS2.out.i3 (by rw [Hdk.out]; exact hlt); rwa [Hdk.out] at this)
              have n0 : (0 : Int) ≤ j := by omega
              have n1 : (j : Int) < rn := by omega
              have n2 : (j : Int).toNat = j := by omega
              clear had hc0 hc1 hc2 hc3 hc4 hm hmm hy hym hmr
              go_upto_region 11 with fail
              generalize wr = w1 at *
              rename_i Kx hKx
              clear n0 n1 n2 hcm had9
              refine wp_region_factsG (waG b0 Iv cur) (waF (fun x => exW X (w.heap.size + 1) bW gI Bv5 x) w1 w.heap.size bW gI b0 N ⟨v, ⟨some adr, N, dc, dl⟩, ⟨some adt, N, tc, tl⟩, ⟨some adb, N, bc, bl⟩⟩ Iv cur k m adt y) (fun u => WgK X w w1 ⟨v, ⟨some adr, N, dc, dl⟩, ⟨some adt, N, tc, tl⟩, ⟨some adb, N, bc, bl⟩⟩ v N bW gI Bv5 Iv ivs2 u ∧ u.ownsRow b0 41 2 Bv5 lB5.length (lB5.flatMap ZH.cs)) waU (waR Iv) Kx (fun _ _ h => h) 20 18 [some 45, some 46, some 47, some 48, some 49, some 50, some 51, some 52, some 53, some 54, some 55, some 56, some 57, some 58, some 59, some 60, some 61, some 62, some 63, none] (by kernel_rfl) (by kernel_rfl) (by kernel_rfl) (by kernel_rfl) (by kernel_rfl) (by kernel_rfl) (by decide)
                (waF_st fun x => by simp [exW]) ?bs2 ?gs2 waG_st ?ar2 ?en2
              case bs2 => exact ⟨HS2.out.k.below (Below.refl _ _).drew, HS2.out.oB.kept (grown_of_below (Below.refl w1.heap.size w1).drew none) (by cases Bv5.ownBlock <;> simp)⟩
              case gs2 =>
                intro c
                by_cases h9 : c = 17
                · subst h9; exact HS2.out.oI.kept (grown_of_below (Below.refl w1.heap.size w1).drew none) (by cases Iv.ownBlock <;> simp)
                · unfold waG; split <;> first | omega | trivial
              case ar2 =>
                intro j o f u ho hi hB hGi hpre K hK
                match j, ho, hpre, hK with
                | 0, ho, hpre, hK =>
                  obtain rfl := Option.some.inj ho
                  refine wpOp_step rfl fun K' hK' => ?_
                  simp only [putL, updV]
                  go_simp
                  have hz := hK' _ _ (hK (.pointer (some ⟨bW, 2, none⟩)) (u) (hB) (waR.refl _ _ _) (rfl))
                  refine Eq.mp (congrArg (fun a => K' a (u)) ?_) hz
                  kernel_rfl
                | 1, ho, hpre, hK =>
                  obtain rfl := Option.some.inj ho
                  obtain ⟨c0, c1, c2⟩ := hB.1.wx.three
                  have hlt := hB.1.wx.lt
                  have e0 : f 0 = .pointer (some ⟨bW, 2, none⟩) := hpre ⟨0, .data⟩ (by simp) rfl (.inl rfl)
                  obtain ⟨f, rfl⟩ := fixG f 0 _ e0
                  clear e0
                  refine wpOp_step rfl fun K' hK' => ?_
                  simp only [putL, updV]
                  go_simp
                  have hz := hK' _ _ (hK (.slice (some ⟨gI, 0, none⟩) N N) (u) (hB) (waR.refl _ _ _) (rfl))
                  refine Eq.mp (congrArg (fun a => K' a (u)) ?_) hz
                  kernel_rfl
                | 2, ho, hpre, hK =>
                  obtain rfl := Option.some.inj ho
                  refine wpOp_step rfl fun K' hK' => ?_
                  simp only [putL, updV]
                  go_simp
                  have hz := hK' _ _ (hK (.int .i64 (k : Int)) (u) (hB) (waR.refl _ _ _) (rfl))
                  refine Eq.mp (congrArg (fun a => K' a (u)) ?_) hz
                  kernel_rfl
                | 3, ho, hpre, hK =>
                  obtain rfl := Option.some.inj ho
                  refine wpOp_step rfl fun K' hK' => ?_
                  simp only [putL, updV]
                  go_simp
                  have hz := hK' _ _ (hK (.pointer (some ⟨bW, 2, none⟩)) (u) (hB) (waR.refl _ _ _) (rfl))
                  refine Eq.mp (congrArg (fun a => K' a (u)) ?_) hz
                  kernel_rfl
                | 4, ho, hpre, hK =>
                  obtain rfl := Option.some.inj ho
                  obtain ⟨c0, c1, c2⟩ := hB.1.wx.three
                  have hlt := hB.1.wx.lt
                  have e3 : f 3 = .pointer (some ⟨bW, 2, none⟩) := hpre ⟨3, .data⟩ (by simp) rfl (.inl rfl)
                  obtain ⟨f, rfl⟩ := fixG f 3 _ e3
                  clear e3
                  refine wpOp_step rfl fun K' hK' => ?_
                  simp only [putL, updV]
                  go_simp
                  have hz := hK' _ _ (hK (.slice (some ⟨gI, 0, none⟩) N N) (u) (hB) (waR.refl _ _ _) (rfl))
                  refine Eq.mp (congrArg (fun a => K' a (u)) ?_) hz
                  kernel_rfl
                | 5, ho, hpre, hK =>
                  obtain rfl := Option.some.inj ho
                  refine wpOp_step rfl fun K' hK' => ?_
                  simp only [putL, updV]
                  go_simp
                  have hz := hK' _ _ (hK (.int .i64 (k : Int)) (u) (hB) (waR.refl _ _ _) (rfl))
                  refine Eq.mp (congrArg (fun a => K' a (u)) ?_) hz
                  kernel_rfl
                | 6, ho, hpre, hK =>
                  obtain rfl := Option.some.inj ho
                  have k0 : (0 : Int) ≤ k := by omega
                  have k1 : (k : Int) < N := by omega
                  have k2 : (k : Int).toNat = k := by omega
                  have e4 : f 4 = .slice (some ⟨gI, 0, none⟩) N N := hpre ⟨4, .data⟩ (by simp) rfl (.inl rfl)
                  have e5 : f 5 = .int .i64 (k : Int) := hpre ⟨5, .data⟩ (by simp) rfl (.inl rfl)
                  obtain ⟨f, rfl⟩ := fixG f 4 _ e4
                  rw [updV_ne _ _ (by decide)] at e5
                  obtain ⟨f, rfl⟩ := fixG f 5 _ e5
                  clear e4 e5
                  refine wpOp_step rfl fun K' hK' => ?_
                  simp only [putL, updV]
                  go_simp
                  have hz := hK' _ _ (hK (.pointer (some ⟨gI, k, none⟩)) (u) (hB) (waR.refl _ _ _) (rfl))
                  refine Eq.mp (congrArg (fun a => K' a (u)) ?_) hz
                  kernel_rfl
                | 7, ho, hpre, hK =>
                  obtain rfl := Option.some.inj ho
                  have c9 : u.cell? ⟨gI, k, none⟩ = some Iv := (hB.1.ix.cell k).trans (by rw [List.getElem?_toArray]; exact Hiv.out)
                  have e6 : f 6 = .pointer (some ⟨gI, k, none⟩) := hpre ⟨6, .data⟩ (by simp) rfl (.inl rfl)
                  obtain ⟨f, rfl⟩ := fixG f 6 _ e6
                  clear e6
                  refine wpOp_step rfl fun K' hK' => ?_
                  simp only [putL, updV]
                  go_simp
                  have hz := hK' _ _ (hK (Iv) (u) (hB) (waR.refl _ _ _) (rfl))
                  refine Eq.mp (congrArg (fun a => K' a (u)) ?_) hz
                  kernel_rfl
                | 8, ho, hpre, hK =>
                  obtain rfl := Option.some.inj ho
                  refine wpOp_step rfl fun K' hK' => ?_
                  simp only [putL, updV]
                  go_simp
                  have hz := hK' _ _ (hK (.int .i64 (m : Int)) (u) (hB) (waR.refl _ _ _) (rfl))
                  refine Eq.mp (congrArg (fun a => K' a (u)) ?_) hz
                  kernel_rfl
                | 9, ho, hpre, hK =>
                  obtain rfl := Option.some.inj ho
                  refine wpOp_step rfl fun K' hK' => ?_
                  simp only [putL, updV]
                  go_simp
                  have hz := hK' _ _ (hK (.pointer (some ⟨w.heap.size, 2, none⟩)) (u) (hB) (waR.refl _ _ _) (rfl))
                  refine Eq.mp (congrArg (fun a => K' a (u)) ?_) hz
                  kernel_rfl
                | 10, ho, hpre, hK =>
                  obtain rfl := Option.some.inj ho
                  obtain ⟨c0, c1, c2, c3⟩ := (show Fb u w.heap.size #[.int .i64 v, .slice (some adr) N dc, .slice (some adt) N tc, .slice (some adb) N bc] _ from hB.1.sx).four
                  have hlt := hB.1.sx.lt
                  have e9 : f 9 = .pointer (some ⟨w.heap.size, 2, none⟩) := hpre ⟨9, .data⟩ (by simp) rfl (.inl rfl)
                  obtain ⟨f, rfl⟩ := fixG f 9 _ e9
                  clear e9
                  refine wpOp_step rfl fun K' hK' => ?_
                  simp only [putL, updV]
                  go_simp
                  have hz := hK' _ _ (hK (.slice (some adt) N tc) (u) (hB) (waR.refl _ _ _) (rfl))
                  refine Eq.mp (congrArg (fun a => K' a (u)) ?_) hz
                  kernel_rfl
                | 11, ho, hpre, hK =>
                  obtain rfl := Option.some.inj ho
                  refine wpOp_step rfl fun K' hK' => ?_
                  simp only [putL, updV]
                  go_simp
                  have hz := hK' _ _ (hK (.int .i64 (m : Int)) (u) (hB) (waR.refl _ _ _) (rfl))
                  refine Eq.mp (congrArg (fun a => K' a (u)) ?_) hz
                  kernel_rfl
                | 12, ho, hpre, hK =>
                  obtain rfl := Option.some.inj ho
                  have k0 : (0 : Int) ≤ m := by omega
                  have k1 : (m : Int) < N := by omega
                  have k2 : (m : Int).toNat = m := by omega
                  have e10 : f 10 = .slice (some adt) N tc := hpre ⟨10, .data⟩ (by simp) rfl (.inl rfl)
                  have e11 : f 11 = .int .i64 (m : Int) := hpre ⟨11, .data⟩ (by simp) rfl (.inl rfl)
                  obtain ⟨f, rfl⟩ := fixG f 10 _ e10
                  rw [updV_ne _ _ (by decide)] at e11
                  obtain ⟨f, rfl⟩ := fixG f 11 _ e11
                  clear e10 e11
                  refine wpOp_step rfl fun K' hK' => ?_
                  simp only [putL, updV]
                  go_simp
                  have hz := hK' _ _ (hK (.pointer (some (adt.add (m * 5)))) (u) (hB) (waR.refl _ _ _) (rfl))
                  refine Eq.mp (congrArg (fun a => K' a (u)) ?_) hz
                  kernel_rfl
                | 13, ho, hpre, hK =>
                  obtain rfl := Option.some.inj ho
                  have q0 := (hB.1.bel.cell (p := adt.add (m * 5)) (by rw [add_block]; exact Had.out)).trans Hc0.out
                  have q12 := (hB.1.bel.cell (p := ⟨(adt.add (m * 5)).block, (adt.add (m * 5)).off + 1, none⟩) (by rw [add_block]; exact Had.out)).trans Hc1.out
                  have q22 := (hB.1.bel.cell (p := ⟨(adt.add (m * 5)).block, (adt.add (m * 5)).off + 2, none⟩) (by rw [add_block]; exact Had.out)).trans Hc2.out
                  have q32 := (hB.1.bel.cell (p := ⟨(adt.add (m * 5)).block, (adt.add (m * 5)).off + 3, none⟩) (by rw [add_block]; exact Had.out)).trans Hc3.out
                  have q42 := (hB.1.bel.cell (p := ⟨(adt.add (m * 5)).block, (adt.add (m * 5)).off + 4, none⟩) (by rw [add_block]; exact Had.out)).trans Hc4.out
                  have e12 : f 12 = .pointer (some (adt.add (m * 5))) := hpre ⟨12, .data⟩ (by simp) rfl (.inl rfl)
                  obtain ⟨f, rfl⟩ := fixG f 12 _ e12
                  clear e12
                  refine wpOp_step rfl fun K' hK' => ?_
                  simp only [putL, updV]
                  go_simp
                  have hz := hK' _ _ (hK (.agg #[.int .i64 y.G.W, .slice y.G.A y.G.n y.G.c, .int .i64 y.K.W, .slice y.K.A y.K.n y.K.c, .slice y.C y.k y.q]) (u) (hB) (waR.refl _ _ _) (rfl))
                  refine Eq.mp (congrArg (fun a => K' a (u)) ?_) hz
                  kernel_rfl
                | 14, ho, hpre, hK =>
                  obtain rfl := Option.some.inj ho
                  have e13 : f 13 = .agg #[.int .i64 y.G.W, .slice y.G.A y.G.n y.G.c, .int .i64 y.K.W, .slice y.K.A y.K.n y.K.c, .slice y.C y.k y.q] := hpre ⟨13, .data⟩ (by simp) rfl (.inl rfl)
                  obtain ⟨f, rfl⟩ := fixG f 13 _ e13
                  clear e13
                  refine wpOp_step rfl fun K' hK' => ?_
                  simp only [putL, updV]
                  go_simp
                  go_at_call 86
                  refine (copiedTransfer_any y ex u (Hy.out.below hB.1.bel) hy1 hy2 hy3).mono ?_
                  rintro e u5 ⟨A, c, B, d, C, q, rfl, ⟨n1, n2, n3⟩, hb⟩
                  have hx : ∀ k, some k ∈ exW X (w.heap.size + 1) bW gI Bv5 Iv → k < u.heap.size := fun k hk => by have := HS2.out.exlt k hk; have := hB.1.gx.size; omega
                  have hF : FHok u5 (exW X (w.heap.size + 1) bW gI Bv5 Iv) ⟨⟨y.G.W, A, y.G.n, c, y.G.ws⟩, ⟨y.K.W, B, y.K.n, d, y.K.ws⟩, C, y.k, q, y.cs⟩ := ⟨⟨n1 _ hx, Hy.out.g.len, Hy.out.g.ok⟩, ⟨n2 _ hx, Hy.out.k.len, Hy.out.k.ok⟩, n3 _ hx, Hy.out.len⟩
                  have hz := hK' _ _ (hK (.agg #[.int .i64 y.G.W, .slice A y.G.n c, .int .i64 y.K.W, .slice B y.K.n d, .slice C y.k q]) (u5) (And.intro (hB.1.below hb) (hB.2.kept (grown_of_below hb none) (by cases Bv5.ownBlock <;> simp))) (waR.below hb) (⟨A, c, B, d, C, q, rfl, hF⟩))
                  refine Eq.mp (congrArg (fun a => K' a (u5)) ?_) hz
                  kernel_rfl
                | 15, ho, hpre, hK =>
                  obtain rfl := Option.some.inj ho
                  have e8 : f 8 = .int .i64 (m : Int) := hpre ⟨8, .data⟩ (by simp) rfl (.inl rfl)
                  obtain ⟨A, c, B, d, C, q, e14, hF⟩ : ∃ (A : Option Addr) (c : Nat) (B : Option Addr) (d : Nat) (C : Option Addr) (q : Nat), f 14 = .agg #[.int .i64 y.G.W, .slice A y.G.n c, .int .i64 y.K.W, .slice B y.K.n d, .slice C y.k q] ∧ FHok u (exW X (w.heap.size + 1) bW gI Bv5 Iv) ⟨⟨y.G.W, A, y.G.n, c, y.G.ws⟩, ⟨y.K.W, B, y.K.n, d, y.K.ws⟩, C, y.k, q, y.cs⟩ := hpre ⟨14, .data⟩ (by simp) rfl (.inr rfl)
                  obtain ⟨f, rfl⟩ := fixG f 8 _ e8
                  rw [updV_ne _ _ (by decide)] at e14
                  obtain ⟨f, rfl⟩ := fixG f 14 _ e14
                  clear e8 e14
                  refine wpOp_step rfl fun K' hK' => ?_
                  simp only [putL, updV]
                  go_simp
                  have hz := hK' _ _ (hK (.agg #[.int .i64 (m : Int), .int .i64 y.G.W, .slice A y.G.n c, .int .i64 y.K.W, .slice B y.K.n d, .slice C y.k q]) (u) (hB) (waR.refl _ _ _) (⟨A, c, B, d, C, q, rfl, hF⟩))
                  refine Eq.mp (congrArg (fun a => K' a (u)) ?_) hz
                  kernel_rfl
                | 16, ho, hpre, hK =>
                  obtain rfl := Option.some.inj ho
                  obtain ⟨A, c, B, d, C, q, e15, hF⟩ : ∃ (A : Option Addr) (c : Nat) (B : Option Addr) (d : Nat) (C : Option Addr) (q : Nat), f 15 = .agg #[.int .i64 (m : Int), .int .i64 y.G.W, .slice A y.G.n c, .int .i64 y.K.W, .slice B y.K.n d, .slice C y.k q] ∧ FHok u (exW X (w.heap.size + 1) bW gI Bv5 Iv) ⟨⟨y.G.W, A, y.G.n, c, y.G.ws⟩, ⟨y.K.W, B, y.K.n, d, y.K.ws⟩, C, y.k, q, y.cs⟩ := hpre ⟨15, .data⟩ (by simp) rfl (.inr rfl)
                  obtain ⟨f, rfl⟩ := fixG f 15 _ e15
                  clear e15
                  have hbw := (Below.refl u.heap.size u).alloc (Nat.le_refl _) (.cells #[.int .i64 (m : Int), .int .i64 y.G.W, .slice A y.G.n c, .int .i64 y.K.W, .slice B y.K.n d, .slice C y.k q] 101)
                  refine wpOp_step rfl fun K' hK' => ?_
                  simp only [putL, updV]
                  go_simp
                  have hz := hK' _ _ (hK (.slice (some ⟨u.heap.size, 0, none⟩) 1 1) (u.alloc (.cells #[.int .i64 (m : Int), .int .i64 y.G.W, .slice A y.G.n c, .int .i64 y.K.W, .slice B y.K.n d, .slice C y.k q] 101)) (And.intro (hB.1.below hbw) (hB.2.kept (grown_of_below hbw none) (by cases Bv5.ownBlock <;> simp))) (waR.below hbw) (⟨A, c, B, d, C, q, _, rfl, Fb.new _ _ _, hF.below hbw⟩))
                  refine Eq.mp (congrArg (fun a => K' a (u.alloc (.cells #[.int .i64 (m : Int), .int .i64 y.G.W, .slice A y.G.n c, .int .i64 y.K.W, .slice B y.K.n d, .slice C y.k q] 101))) ?_) hz
                  kernel_rfl
                | 17, ho, hpre, hK =>
                  obtain rfl := Option.some.inj ho
                  have e7 : f 7 = Iv := hpre ⟨7, .data⟩ (by simp) rfl (.inl rfl)
                  obtain ⟨A, c, B, d, C, q, g, e16, hf, hF⟩ : ∃ (A : Option Addr) (c : Nat) (B : Option Addr) (d : Nat) (C : Option Addr) (q g : Nat), f 16 = .slice (some ⟨g, 0, none⟩) 1 1 ∧ Fb u g #[.int .i64 (m : Int), .int .i64 y.G.W, .slice A y.G.n c, .int .i64 y.K.W, .slice B y.K.n d, .slice C y.k q] 101 ∧ FHok u (exW X (w.heap.size + 1) bW gI Bv5 Iv) ⟨⟨y.G.W, A, y.G.n, c, y.G.ws⟩, ⟨y.K.W, B, y.K.n, d, y.K.ws⟩, C, y.k, q, y.cs⟩ := hpre ⟨16, .data⟩ (by simp) rfl (.inr rfl)
                  have ho : u.ownsRow b0 101 6 Iv cur.length (cur.flatMap AH.cells) := hGi
                  have hbase : b0 ≤ u.heap.size := by have := HBs2.out; have := hB.1.gx.size; omega
                  obtain ⟨f, rfl⟩ := fixG f 7 _ e7
                  rw [updV_ne _ _ (by decide)] at e16
                  obtain ⟨f, rfl⟩ := fixG f 16 _ e16
                  clear e7 e16
                  refine wpOp_step rfl fun K' hK' => ?_
                  refine step_append_lies _ rfl (.tmp 52) (.tmp 61) 99 rfl b0 101 iA _ 6 96 Try.underlying99 HA.out HA0.out HA1.out HA2.out rfl (by decide) Iv cur.length (cur.flatMap AH.cells) (by kernel_rfl) ho ⟨g, 0, none⟩ 1 1 [.int .i64 (m : Int), .int .i64 y.G.W, .slice A y.G.n c, .int .i64 y.K.W, .slice B y.K.n d, .slice C y.k q] (by kernel_rfl) rfl (fun j x hx => World.news_of_block hf j x hx) (one_ah ⟨m, ⟨⟨y.G.W, A, y.G.n, c, y.G.ws⟩, ⟨y.K.W, B, y.K.n, d, y.K.ws⟩, C, y.k, q, y.cs⟩⟩) (by omega) (by unfold maxLen; omega) (by omega) hbase _ rfl ?_
                  intro g9 q9 w9 hown hgr hat _
                  have hB9 := And.intro (hB.1.app HS2.out (.inr rfl) ho hgr) (hB.2.kept hgr (wne hB.2 ho (by decide)))
                  have hn9 := hat.imp (fun e => e) (fun e => show w1.heap.size ≤ g9 by rw [e]; exact hB.1.gx.size)
                  have he9 := hF.go (exW_go (A' := Bv5) (B' := .slice (some ⟨g9, 0, none⟩) (cur.length + 1) q9) ((GrX.refl u (exW X (w.heap.size + 1) bW gI Bv5 Iv)).step hgr (fun g e => .inl (by simp [exW]))) (fun k hk => .inl hk) (fun k hk => by
                    obtain rfl := Option.some.inj hk
                    exact hat.imp (fun e => e) (fun e => by rw [e]; exact Nat.le_refl _)))
                  have hz := hK' _ _ (hK (.slice (some ⟨g9, 0, none⟩) (cur.length + 1) q9) (w9) (hB9) (⟨_, hgr, .inr ⟨rfl, rfl⟩⟩) (⟨A, c, B, d, C, q, g9, q9, rfl, hown, hn9, he9⟩))
                  refine Eq.mp (congrArg (fun a => K' a (w9)) ?_) hz
                  kernel_rfl
                | j + 18, ho, hpre, hK => exact absurd hi (by omega)
              case en2 =>
                intro Q2 hQ2 f u hB hF
                have e1 : f 1 = .slice (some ⟨gI, 0, none⟩) N N := hF 1 (by decide) rfl
                have e2 : f 2 = .int .i64 (k : Int) := hF 2 (by decide) rfl
                obtain ⟨A, c, B, d, C, q, g9, q9, e17, o9, n9, h9⟩ := hF 17 (by decide) rfl
                have HSn := hid (hB.1.pushA HS2.out (by rw [Hdk.out]; exact hlt) (y := ⟨m, ⟨⟨y.G.W, A, y.G.n, c, y.G.ws⟩, ⟨y.K.W, B, y.K.n, d, y.K.ws⟩, C, y.k, q, y.cs⟩⟩) o9 n9 hB.2 h9)
                rw [Hdk.out] at HSn
                have HBn := hid (show b0 ≤ (u.setCell ⟨gI, k, none⟩ (.slice (some ⟨g9, 0, none⟩) (cur.length + 1) q9)).heap.size from by have := HBs2.out; have := hB.1.gx.size; simp only [World.size_setCell]; omega)
                have c9 : u.cell? ⟨gI, k, none⟩ = some Iv := (hB.1.ix.cell k).trans (by rw [List.getElem?_toArray]; exact Hiv.out)
                have f9 := hB.1.ix.frozen k
                have hl9 := hB.1.ix.lt
                obtain ⟨f, rfl⟩ := fixG f 1 _ e1
                rw [updV_ne _ _ (by decide)] at e2 e17
                obtain ⟨f, rfl⟩ := fixG f 2 _ e2
                rw [updV_ne _ _ (by decide)] at e17
                obtain ⟨f, rfl⟩ := fixG f 17 _ e17
                clear hF o9 n9 h9 e1 e2 e17 hB
                show wpAny _ _ _ _ 2 (tailArr 20 18) _ _
                generalize hA : putL _ _ _ _ = aa
                refine tail_two (i := 18) (j := 19) ?q12 ?q22 ?q32 rfl rfl hQ2 ?q42
                case q12 => kernel_rfl
                case q22 => kernel_rfl
                case q32 => kernel_rfl
                simp only [putL, updV] at hA
                rw [← hA]
                clear hA
                have k0 : (0 : Int) ≤ k := by omega
                have k1 : (k : Int) < N := by omega
                have k2 : (k : Int).toNat = k := by omega
                go_simp
                refine hKx _ _ ?_
                clear k0 k1 k2
                have HpC5 := hid (HpC.out.push (m := (m : Int)) (y := ⟨m, ⟨y.G.W, A, y.G.n, c, y.G.ws⟩, ⟨y.K.W, B, y.K.n, d, y.K.ws⟩, C, y.k, q, y.cs⟩) (by rw [Hcl.out]; exact Hm.out) (by
                  rw [SY.arc_at (f := y) Hyt.out]; rfl) ⟨⟨by show (0 : Int) ≤ m; omega, by show (m : Int) < N; omega⟩, ⟨Hyo.out.w1, Hyo.out.w2, Hyo.out.ok⟩⟩)
                have Hcl5 := hid (show (cur ++ [(⟨m, ⟨y.G.W, A, y.G.n, c, y.G.ws⟩, ⟨y.K.W, B, y.K.n, d, y.K.ws⟩, C, y.k, q, y.cs⟩ : AH)]).length = j + 1 by rw [List.length_append, Hcl.out]; rfl)
                go_wp2_with fail
                go_roundw
                case rel => exact ⟨j + 1, _, _, _, by omega, by go_num, Hcl5, HBn, HSn, HpC5⟩
                case measure => simp [intOf]; omega
            · obtain rfl : j = rn := by omega
              obtain ⟨A, c, e⟩ := own_slice3 HS2.out.oI
              subst e
              have hcl := Hcl.out
              have HSx := hid (HS2.out.next (by omega) (by omega) (by rw [Hdk.out]; exact hlt))
              have HpDx := hid (HpD.out.push (by rw [Hdk.out]; exact Hr.out) (by rw [hcl]; exact (Hs.out.d.all _ Hrm.out).len) HpC.out (by omega) A c)
              have Hdx := hid (show (done ++ [(⟨A, cur.length, c, cur⟩ : AL)]).length = k + 1 by rw [List.length_append, Hdk.out]; rfl)
              clear hcl
              go_wp2_with fail
              go_roundw
              case rel => exact ⟨k + 1, Bv5, lB5, _, ivs2, by omega, by go_num, Hl5.out, Hdx, HBs2, HSx, HpB5, HpDx⟩
              case measure => simp [intOf]; omega
      · obtain rfl : k = N := by omega
        obtain ⟨A, c, e⟩ := own_slice3 HS.out.oB
        rw [hlB] at e
        subst e
        have Hfin := hid (HS.out.fin Hs.out Ho.out hlB Hdk.out HpB.out HpD.out)
        obtain ⟨x0, x1, x2⟩ := HS.out.wx.three
        obtain ⟨r0, r1, r2⟩ := HS.out.rx.three
        have f0 := HS.out.rx.frozen 0
        have f1 := HS.out.rx.frozen 1
        have f2 := HS.out.rx.frozen 2
        have hlr := HS.out.rx.lt
        clear hlB
        go_wp2_with fail
        refine bodyPost_ret (v := .tuple #[.agg #[.int .i64 v, .slice A k c, .slice (some ⟨gI, 0, none⟩) k k], .int .i64 0]) (by simp [results, Try.results54, go_sem, x0, x1, x2, r0, r1, r2]) rfl ?_
        exact Hfin.out
end Go.Proofs.Ytbjaebbmajhjjaa

namespace Go.Proofs.Ytbjaebbmajhjjaa
set_option maxRecDepth 20000
set_option linter.unusedVariables false
set_option linter.unusedSimpArgs false
open Go.ChangeShapes Go.WideShapes Go.ChangeAt Go.RowKit

/-- What linked asks of a web. -/
structure WLk (x : WB) (N : Nat) : Prop where
  n1 : 1 ≤ N
  ris : ∀ r ∈ x.I.l, RisP N (r.l.map AH.m)
  tt : tot (x.I.l.map fun r => r.l.map AH.m) ≤ 1024
theorem WLk.link {x : WB} {v N : Nat} {w : World} {ex : List (Option Nat)} (h : WLk x N) (ho : WOk x v N) (hx : WBok w ex x) : linkB (x.I.l.map fun r => r.l.map AH.m) = true := by
  unfold linkB
  rw [List.length_map, hx.i.len, ho.inn]
  simp only [Bool.and_eq_true, decide_eq_true_eq, List.all_eq_true]
  refine ⟨⟨⟨h.n1, ho.n256⟩, fun l hm => ?_⟩, h.tt⟩
  obtain ⟨r, hr, rfl⟩ := List.mem_map.1 hm
  exact risB_iff.2 (h.ris r hr)
def exV (gD : Nat) (Iv : Value) : List (Option Nat) := [some gD, Iv.ownBlock]
structure Vg (w0 : World) (x : WB) (N gD b0 : Nat) (Iv : Value) (done : List RH) (cur : List Int) (ivs : List Value) (u : World) : Prop where
  wx : Fb u w0.heap.size #[.int .i64 x.W, .slice x.B.A x.B.n x.B.c, .slice x.I.A x.I.n x.I.c] 68
  ix : Fb u gD ivs.toArray 22
  h2 : w0.heap.size < gD
  h4 : gD < b0
  bel : Below w0.heap.size w0 u
  oI : u.ownsRow b0 3 1 Iv cur.length (ints cur)
  eD : ∀ y ∈ done, RHok u (exV gD Iv) y
  i1 : ivs.length = N
  i2 : ∀ (j : Nat) (y : RH), done[j]? = some y → ivs[j]? = some y.v
  i3 : done.length < N → ivs[done.length]? = some Iv
  i4 : ∀ j, done.length < j → j < N → ivs[j]? = some (.slice none 0 0)
structure VgK (w0 w1 : World) (x : WB) (gD : Nat) (Iv : Value) (ivs : List Value) (ba : Nat) (ca : Array Value) (u : World) : Prop where
  gx : GrX w1 (exV gD Iv) u
  wx : Fb u w0.heap.size #[.int .i64 x.W, .slice x.B.A x.B.n x.B.c, .slice x.I.A x.I.n x.I.c] 68
  ix : Fb u gD ivs.toArray 22
  bel : Below w0.heap.size w0 u
  ab : Fb u ba ca 101
section
variable {w0 w1 u u' : World} {x : WB} {N gD b0 ba : Nat} {ca : Array Value} {Iv : Value} {done : List RH} {cur : List Int} {ivs : List Value}
theorem vfar {w : World} {v : Value} {ty k n b : Nat} {xs : List Value} (h : w.ownsRow b ty k v n xs) {j : Nat} (hj : j < b) : v.ownBlock = none ∨ v.ownBlock ≠ some j := by
  cases hv : v.ownBlock with
  | none => exact .inl rfl
  | some g => exact .inr fun e => by have := (h.lt g hv).1; have := Option.some.inj e; omega
theorem Vg.below (h : Vg w0 x N gD b0 Iv done cur ivs u) (hb : Below u.heap.size u u') : Vg w0 x N gD b0 Iv done cur ivs u' :=
  ⟨h.wx.below hb h.wx.lt, h.ix.below hb h.ix.lt, h.h2, h.h4, below_step h.bel hb, h.oI.kept (grown_of_below hb none) (by cases Iv.ownBlock <;> simp), fun y hy => (h.eD y hy).below hb, h.i1, h.i2, h.i3, h.i4⟩
theorem Vg.k (h : Vg w0 x N gD b0 Iv done cur ivs w1) (hb : Fb w1 ba ca 101) : VgK w0 w1 x gD Iv ivs ba ca w1 := ⟨GrX.refl _ _, h.wx, h.ix, h.bel, hb⟩
theorem VgK.below (h : VgK w0 w1 x gD Iv ivs ba ca u) (hb : Below u.heap.size u u') : VgK w0 w1 x gD Iv ivs ba ca u' := ⟨h.gx.below hb, h.wx.below hb h.wx.lt, h.ix.below hb h.ix.lt, below_step h.bel hb, h.ab.below hb h.ab.lt⟩
theorem VgK.app {n : Nat} {xs : List Value} (h : VgK w0 w1 x gD Iv ivs ba ca u) (hs : Vg w0 x N gD b0 Iv done cur ivs w1) (ho : u.ownsRow b0 3 1 Iv n xs) (hg : u.grownBy u' Iv.ownBlock) : VgK w0 w1 x gD Iv ivs ba ca u' := by
  have h2 := hs.h2; have h4 := hs.h4
  have far : ∀ j, j < b0 → some j ≠ Iv.ownBlock := fun j hj e => by have := (ho.lt j e.symm).1; omega
  exact ⟨h.gx.step hg (fun g e => .inl (by simp [exV])), h.wx.grown hg (far _ (by omega)), h.ix.grown hg (far _ (by omega)), h.bel.grown hg h.bel.size (fun k hk => by have := (ho.lt k hk).1; omega),
    h.ab.grown hg (fun e => (h.ab.typ.ne (own_typ ho e.symm) (by decide)) rfl)⟩
theorem VgK.push (h : VgK w0 w1 x gD Iv ivs ba ca u) (hs : Vg w0 x N gD b0 Iv done cur ivs w1) (hk : done.length < N) {g q : Nat} {m : Int}
    (o : u.ownsRow b0 3 1 (.slice (some ⟨g, 0, none⟩) (cur.length + 1) q) (cur.length + 1) (ints cur ++ [.int .i64 m])) (hn : Iv.ownBlock = some g ∨ w1.heap.size ≤ g) :
    Vg w0 x N gD b0 (.slice (some ⟨g, 0, none⟩) (cur.length + 1) q) done (cur ++ [m]) (ivs.set done.length (.slice (some ⟨g, 0, none⟩) (cur.length + 1) q)) (u.setCell ⟨gD, done.length, none⟩ (.slice (some ⟨g, 0, none⟩) (cur.length + 1) q)) := by
  have h2 := hs.h2; have h4 := hs.h4
  generalize hv : Value.slice (some ⟨g, 0, none⟩) (cur.length + 1) q = Iv' at *
  have kB : Iv'.ownBlock = some g := by rw [← hv]; rfl
  have hG1 : Go2 w1 (exV gD Iv) u (exV gD Iv') := h.gx.go fun k hk hm => by
    simp only [exV, List.mem_cons, List.not_mem_nil, or_false, kB, Option.some.injEq] at hm ⊢
    rcases hm with e | e
    · exact .inl e
    · subst e
      rcases hn with n | n
      · exact .inr n.symm
      · omega
  have hS := setCell_grown u ⟨gD, done.length, none⟩ Iv'
  have hG := hG1.trans (Go2.same (ex := exV gD Iv') hS (.inr (by simp [exV])))
  have hix := h.ix.set done.length Iv'
  rw [List.setIfInBounds_toArray] at hix
  refine ⟨h.wx.far (by show w0.heap.size ≠ gD; omega) _, hix, h2, h4, h.bel.setCell (by show w0.heap.size ≤ gD; omega) _, ?_, fun y hy => (hs.eD y hy).go hG, by rw [List.length_set]; exact hs.i1, fun j y hj => ?_, fun _ => ?_, fun j hj hjN => ?_⟩
  · have o2 := o.kept hS (vfar o (by show gD < b0; omega))
    rw [List.length_append]
    have e : ints (cur ++ [m]) = ints cur ++ [.int .i64 m] := by simp [ints]
    rw [e]; exact o2
  · have := (List.getElem?_eq_some_iff.1 hj).1
    rw [List.getElem?_set_ne (by omega)]; exact hs.i2 j y hj
  · rw [List.getElem?_set_self (by rw [hs.i1]; exact hk)]
  · rw [List.getElem?_set_ne (by omega)]; exact hs.i4 j hj hjN
theorem Vg.next {A : Option Addr} {c : Nat} (h : Vg w0 x N gD b0 (.slice A cur.length c) done cur ivs u) (hl : cur.length ≤ 100000) (hk : done.length < N) :
    Vg w0 x N gD b0 (.slice none 0 0) (done ++ [⟨A, cur.length, c, cur⟩]) [] ivs u := by
  have h2 := h.h2; have h4 := h.h4
  have hG : Go2 u (exV gD (.slice A cur.length c)) u (exV gD (.slice none 0 0)) := Go2.less _ fun k hk => by
    simp only [exV, List.mem_cons, Value.ownBlock, reduceCtorEq, List.not_mem_nil, or_false] at hk ⊢
    exact .inl hk
  refine ⟨h.wx, h.ix, h2, h4, h.bel, World.ownsRow_nil _ _ _ _, ?_, h.i1, fun j y hj => ?_, fun hj => ?_, fun j hj hjN => ?_⟩
  · intro y hy
    rcases List.mem_append.1 hy with hy | hy
    · exact (h.eD y hy).go hG
    · rw [List.mem_singleton.1 hy]
      refine ⟨EAt.own h.oI fun g hg hm => ?_, rfl, by show cur.length ≤ _; omega⟩
      have hgb := (h.oI.lt g hg).1
      simp only [exV, List.mem_cons, Option.some.injEq, Value.ownBlock, reduceCtorEq, List.not_mem_nil, or_false] at hm
      omega
  · rcases Nat.lt_or_ge j done.length with hlt | hge
    · rw [List.getElem?_append_left hlt] at hj; exact h.i2 j y hj
    · rw [List.getElem?_append_right hge] at hj
      have e : j = done.length := by
        have := (List.getElem?_eq_some_iff.1 hj).1
        simp at this; omega
      subst e
      simp at hj
      subst hj
      exact h.i3 hk
  · rw [List.length_append] at hj ⊢
    exact h.i4 _ (by simp) hj
  · rw [List.length_append] at hj
    exact h.i4 j (by simp at hj; omega) hjN
/-- All rows stand. -/
theorem Vg.lh (h : Vg w0 x N gD b0 Iv done cur ivs u) (hN : done.length = N) (hn : N ≤ 100000) : LHok u [] ⟨some ⟨gD, 0, none⟩, N, N, done⟩ := by
  refine ⟨EAt.fb h.ix (by simp) (fun j z hz => ?_), hN, by show N ≤ _; omega, fun y hy => (h.eD y hy).go (Go2.less _ fun k hk => by cases hk)⟩
  rw [List.getElem?_map] at hz
  cases hy : done[j]? with
  | none => rw [hy] at hz; cases hz
  | some y =>
    rw [hy] at hz
    rw [List.getElem?_toArray, h.i2 j y hy]
    exact hz
end
/-- What the operations of the statement leave. -/
def vaF (w1 : World) (gD b0 N : Nat) (Iv : Value) (cur : List Int) (k ba : Nat) (m : Int) : Nat → Value → World → Prop
  | 0, v, _ => v = .slice (some ⟨gD, 0, none⟩) N N
  | 1, v, _ => v = .int .i64 k
  | 2, v, _ => v = .slice (some ⟨gD, 0, none⟩) N N
  | 3, v, _ => v = .int .i64 k
  | 4, v, _ => v = .pointer (some ⟨gD, k, none⟩)
  | 5, v, _ => v = Iv
  | 6, v, _ => v = .pointer (some ⟨ba, 0, none⟩)
  | 7, v, _ => v = .int .i64 m
  | 8, v, u => ∃ g, v = .slice (some ⟨g, 0, none⟩) 1 1 ∧ Fb u g #[.int .i64 m] 3
  | 9, v, u => ∃ g q, v = .slice (some ⟨g, 0, none⟩) (cur.length + 1) q ∧ u.ownsRow b0 3 1 (.slice (some ⟨g, 0, none⟩) (cur.length + 1) q) (cur.length + 1) (ints cur ++ [.int .i64 m]) ∧ (Iv.ownBlock = some g ∨ w1.heap.size ≤ g)
  | _, _, _ => True
def vaU : Nat → Option Nat
  | 8 => some 9
  | _ => none
def vaR (Iv : Value) (j : Nat) (u u' : World) : Prop := ∃ row, u.grownBy u' row ∧ (row = none ∨ (j = 9 ∧ row = Iv.ownBlock))
theorem vaR.below {Iv : Value} {j : Nat} {u u' : World} (h : Below u.heap.size u u') : vaR Iv j u u' := ⟨none, grown_of_below h _, .inl rfl⟩
theorem vaR.refl (Iv : Value) (j : Nat) (u : World) : vaR Iv j u u := vaR.below (Below.refl _ _)
theorem vaF_st {w1 : World} {gD b0 N : Nat} {Iv : Value} {cur : List Int} {k ba : Nat} {m : Int} (j : Nat) (u u' : World) (i : Nat) (v : Value) (hR : vaR Iv j u u') (hne : i ≠ j) (hu : vaU i ≠ some j) (h : vaF w1 gD b0 N Iv cur k ba m i v u) : vaF w1 gD b0 N Iv cur k ba m i v u' := by
  obtain ⟨row, hg, hr⟩ := hR
  have hN : j ≠ 9 → row = none := fun h9 => by rcases hr with e | ⟨e, _⟩; exact e; exact absurd e h9
  match i, hne, hu, h with
  | 0, _, _, h => exact h
  | 1, _, _, h => exact h
  | 2, _, _, h => exact h
  | 3, _, _, h => exact h
  | 4, _, _, h => exact h
  | 5, _, _, h => exact h
  | 6, _, _, h => exact h
  | 7, _, _, h => exact h
  | 8, _, hu, h =>
    obtain ⟨g, h1, h2⟩ := h
    have := hN fun e => hu (by rw [e]; rfl)
    subst this
    exact ⟨g, h1, h2.grown hg (by simp)⟩
  | 9, hne, _, h =>
    obtain ⟨g, q, h1, h2, h3⟩ := h
    have := hN hne.symm
    subst this
    exact ⟨g, q, h1, h2.kept hg (.inr (by simp [Value.ownBlock])), h3⟩
  | i + 10, _, _, h => trivial
def vaG (b0 : Nat) (Iv : Value) (cur : List Int) : Nat → World → Prop
  | 9, u => u.ownsRow b0 3 1 Iv cur.length (ints cur)
  | _, _ => True
theorem vaG_st {b0 : Nat} {Iv : Value} {cur : List Int} (j : Nat) (u u' : World) (c : Nat) (hR : vaR Iv j u u') (hne : c ≠ j) (h : vaG b0 Iv cur c u) : vaG b0 Iv cur c u' := by
  by_cases h9 : c = 9
  · subst h9
    obtain ⟨row, hg, hr⟩ := hR
    have : row = none := by rcases hr with e | ⟨e, _⟩; exact e; exact absurd e.symm hne
    subst this
    exact (show u.ownsRow _ _ _ _ _ _ from h).kept hg (by cases Iv.ownBlock <;> simp)
  · unfold vaG; split <;> first | omega | trivial
theorem infoRow : (Try.prog.info? 22).map (fun i => (i.zero, i.size, i.bytes)) = some (some (.slice none 0 0), 1, 24) := by kernel_rfl
theorem run_mkints (n : Nat) (hn : n ≤ 100000) (w : World) :
    (Instr.makeSlice 23 (.int .i64 (n : Int)) (.int .i64 (n : Int))).run Try.prog w = .ok (.slice (some ⟨w.heap.size, 0, none⟩) n n) (w.alloc (.cells (List.replicate n (Value.slice none 0 0)).toArray 22)) := by
  obtain ⟨i, hi, hz0, hz1, hz2⟩ := info_parts infoRow
  have h := run_make (P := Try.prog) w 23 22 i (.slice none 0 0) Try.underlying23 hi hz0 .i64 .i64 n n (by omega) (by omega) (by rw [hz2]; omega) (by omega)
  rw [h, hz1]
  simp only [Int.toNat_natCast, Nat.mul_one]
  have e2 : madeCells (Value.slice none 0 0).cells n = (List.replicate n (Value.slice none 0 0)).toArray := by
    rw [show (Value.slice none 0 0).cells = #[Value.slice none 0 0] from rfl]
    unfold madeCells
    apply Array.ext
    · simp
    · intro j h1 h2
      simp [Nat.mod_one]
  rw [e2]
end Go.Proofs.Ytbjaebbmajhjjaa

namespace Go.Proofs.Ytbjaebbmajhjjaa
set_option maxRecDepth 20000
open Go.ChangeShapes Go.WideShapes Go.ChangeAt Go.RowKit

/-- The bits that the copies from members lead to. -/
def tgt (W : Int) (ss : List Nat) (cs : List (Int × Int)) : List Int := (cs.filter fun p => Bs.hasB W ss p.1).map (·.2)
theorem tgt_snoc (W : Int) (ss : List Nat) (cs : List (Int × Int)) (p : Int × Int) : tgt W ss (cs ++ [p]) = tgt W ss cs ++ (if Bs.hasB W ss p.1 then [p.2] else []) := by
  unfold tgt; rw [List.filter_append, List.map_append]
  by_cases h : Bs.hasB W ss p.1 <;> simp [h]
theorem tgt_len (W : Int) (ss : List Nat) (cs : List (Int × Int)) : (tgt W ss cs).length ≤ cs.length := by
  unfold tgt; rw [List.length_map]; exact List.length_filter_le _ _
theorem mem_tgt {W : Int} {ss : List Nat} {cs : List (Int × Int)} {b : Int} : b ∈ tgt W ss cs ↔ ∃ a, (a, b) ∈ cs ∧ Bs.hasB W ss a = true := by
  unfold tgt; simp only [List.mem_map, List.mem_filter]
  constructor
  · rintro ⟨⟨a, c⟩, ⟨h1, h2⟩, rfl⟩; exact ⟨a, h1, h2⟩
  · rintro ⟨a, h1, h2⟩; exact ⟨(a, b), ⟨h1, h2⟩, rfl⟩

theorem mixR_ok (f : Bool → Bool → Bool) {W : Nat} {ws xs : List Nat} (hW : W ≤ 256) (h1 : Bs.Fit W ws) (h2 : Bs.Fit W xs) :
    mixR f W ws W xs = ((W : Int), Bs.ofP W (fun i => f (Bs.bit ws i) (Bs.bit xs i)) W, 0) := by
  unfold mixR
  rw [if_neg (by simp [Bs.valid_of_fit h1 hW, Bs.valid_of_fit h2 hW]), if_neg (by simp), Int.toNat_natCast]

theorem dev_value {W : Nat} (hW : W ≤ 256) {gs ks ss : List Nat} {cs : List (Int × Int)} (hk : Bs.Fit W ks) (hs : Bs.Fit W ss) (hc : ∀ p ∈ cs, inW W p = true) :
    orR W gs (orR W (Bs.ofP W (fun i => flag true false false (Bs.bit ss i) (Bs.bit ks i)) W) (Bs.ofP W (fun i => decide ((i : Int) ∈ tgt W ss cs)) W)) = valR gs ss (folB W ks cs) W := by
  unfold orR valR
  refine Bs.ofP_congr fun i hi => ?_
  rw [Bs.bit_ofP _ _ _ (Nat.le_refl _), Bs.bit_ofP _ _ _ (Nat.le_refl _), Bs.bit_ofP _ _ _ (Nat.le_refl _)]
  congr 1
  simp only [hi, decide_true, Bool.true_and]
  apply Bool.eq_iff_iff.2
  rw [List.any_eq_true]
  simp only [Bool.or_eq_true, decide_eq_true_eq, mem_tgt]
  constructor
  · rintro (h | ⟨a, ha, hb⟩)
    · refine ⟨i, List.mem_range.2 hi, ?_⟩
      unfold folB
      rw [Bs.hasB_nat hk hW]
      revert h
      cases Bs.bit ss i <;> cases Bs.bit ks i <;> simp [flag]
    · have h1 := hc _ ha
      simp [inW] at h1
      obtain ⟨x, rfl⟩ := Int.eq_ofNat_of_zero_le h1.1.1
      rw [Bs.hasB_nat hs hW] at hb
      refine ⟨x, List.mem_range.2 (by omega), ?_⟩
      unfold folB
      simp [hb, ha]
  · rintro ⟨x, hx, h⟩
    rw [List.mem_range] at hx
    unfold folB at h
    rw [Bs.hasB_nat hk hW] at h
    simp only [Bool.and_eq_true, Bool.or_eq_true, decide_eq_true_eq, Bool.not_eq_true'] at h
    obtain ⟨h1, ⟨h2, h3⟩ | h2⟩ := h
    · have : x = i := by omega
      subst this
      left; simp [flag, h1, h3]
    · exact .inr ⟨x, h2, by rw [Bs.hasB_nat hs hW]; exact h1⟩
theorem tgt_of {W : Nat} (hW : W ≤ 256) {ss : List Nat} {cs : List (Int × Int)} (hc : ∀ p ∈ cs, inW W p = true) :
    ofR W (tgt W ss cs) = ((W : Int), Bs.ofP W (fun i => decide ((i : Int) ∈ tgt W ss cs)) W, 0) := by
  unfold ofR
  rw [if_neg (by omega), if_neg, Int.toNat_natCast]
  intro h
  obtain ⟨b, hb, h2⟩ := List.any_eq_true.1 h
  obtain ⟨a, ha, _⟩ := mem_tgt.1 hb
  have h1 := hc _ ha
  simp [inW] at h1
  simp at h2
  omega
theorem inW_of_ok {W : Int} {cs : List (Int × Int)} (h : ∀ i, i < cs.length → okAt W cs i = true) : ∀ p ∈ cs, inW W p = true := by
  intro p hp
  obtain ⟨i, hi, e⟩ := List.getElem_of_mem hp
  have := h i hi
  unfold okAt at this
  rw [List.getD_eq_getElem?_getD, List.getElem?_eq_getElem hi, Option.getD_some, e] at this
  simp only [Bool.and_eq_true] at this
  exact this.1

section
variable {w : World} {W V X : Int} {A B C D : Option Addr} {n c m d k q x y : Nat} {wr w' : World}
theorem Applying.grown {row : Option Nat} (h : Applying w W V X A B C D n c m d k q x y wr) (hg : wr.grownBy w' row) (hr : ∀ g, row = some g → w.heap.size + 3 ≤ g) : Applying w W V X A B C D n c m d k q x y w' := by
  have ne : ∀ b, b < w.heap.size + 3 → some b ≠ row := fun b hb e => by have := hr b e.symm; omega
  exact ⟨h.1.grown hg (ne _ (by omega)), h.2.1.grown hg (ne _ (by omega)), h.2.2.1.grown hg (ne _ (by omega)), h.2.2.2.grown hg h.2.2.2.size (fun g e => by have := hr g e; omega)⟩
end
/-- While the targets are gathered. -/
def Aiming (w : World) (W V X : Int) (A B C D : Option Addr) (n c m d k q x y : Nat) (v : Value) (l : List Int) (wr : World) : Prop :=
  Applying w W V X A B C D n c m d k q x y wr ∧ wr.ownsRow (w.heap.size + 3) 3 1 v l.length (ints l) ∧ w.heap.size + 3 ≤ wr.heap.size
theorem Aiming.below {w : World} {W V X : Int} {A B C D : Option Addr} {n c m d k q x y : Nat} {v : Value} {l : List Int} {wr w' : World} (h : Aiming w W V X A B C D n c m d k q x y v l wr) (hb : Below wr.heap.size wr w') :
    Aiming w W V X A B C D n c m d k q x y v l w' := ⟨h.1.below hb, own_below h.2.1 hb, by have := hb.size; have := h.2.2; omega⟩
theorem Aiming.push {w : World} {W V X : Int} {A B C D : Option Addr} {n c m d k q x y : Nat} {v v' : Value} {l : List Int} {b : Int} {o : Obj} {wr w' : World} (h : Aiming w W V X A B C D n c m d k q x y v l wr)
    (ho : w'.ownsRow (w.heap.size + 3) 3 1 v' (l.length + 1) (ints l ++ [.int .i64 b])) (hg : (wr.alloc o).grownBy w' v.ownBlock) : Aiming w W V X A B C D n c m d k q x y v' (l ++ [b]) w' := by
  have h' := h.below ((Below.refl _ _).alloc (Nat.le_refl _) o)
  refine ⟨h'.1.grown hg (fun g e => (h.2.1.lt g e).1), ?_, ?_⟩
  · rw [ints_snoc, List.length_append]; exact ho
  · have := hg.size; have := h'.2.2; omega

set_option maxHeartbeats 1600000 in
theorem devApply_any (W V X : Int) (A B C D : Option Addr) (n c m d k q x y : Nat) (gs ks ss : List Nat) (cs : List (Int × Int)) (w : World)
    (hA : Arg w A n gs) (hB : Arg w B m ks) (hC : ArgC w C k cs) (hD : Arg w D x ss) :
    Calls Try.prog 93 #[.agg #[.int .i64 W, .slice A n c, .int .i64 V, .slice B m d, .slice C k q], .agg #[.int .i64 X, .slice D x y]] w
      (RetErr w (applyR W gs V ks cs X ss)) := by
  obtain ⟨i0, hi, hz0, hz1, hz2⟩ := info_parts info3
  have Hi := hid hi; have Hz0 := hid hz0; have Hz1 := hid hz1; have Hz2 := hid hz2
  have HA := hid hA; have HB := hid hB; have HC := hid hC; have HD := hid hD
  have H0 := hid (Applying.start w W V X A B C D n c m d k q x y)
  clear hA hB hC hD hi hz0 hz1 hz2
  go_enter Try.func93, Try.ntmps93
  go_wp2_with fail
  refine (devValidT_any W V A B C n c m d k q gs ks cs _ (HA.out.below H0.out.2.2.2) (HB.out.below H0.out.2.2.2) (HC.out.below H0.out.2.2.2)).mono ?_
  cases hv : validT W gs V ks cs with
  | false =>
    rintro e w1 ⟨rfl, hb1⟩
    have H1 := hid (H0.out.below hb1)
    have Hr := hid (show applyR W gs V ks cs X ss = (0, [], 1) by unfold applyR; rw [if_pos (.inl hv)])
    clear hb1 hv
    obtain ⟨⟨r0, r1⟩, f0, f1⟩ := H1.out.res
    go_wp2_with fail
    refine bodyPost_ret (v := .tuple #[.agg #[.int .i64 0, .slice none 0 0], .int .i64 1]) (by simp [results, Try.results93, go_sem, r0, r1]) rfl ?_
    rw [Hr.out]
    exact ⟨_, _, _, rfl, Arg.nil _ _, H1.out.stored _ _ _ _⟩
  | true =>
    have Hv := hid hv
    obtain ⟨h1, h2, h3, h4, h5⟩ := validT_iff hv
    have hk64 : k ≤ 64 := by rw [HC.out.len] at h4; exact h4
    have HK := hid hk64
    have Hin := hid (inW_of_ok h5)
    rintro e w1 ⟨rfl, hb1⟩
    have H1 := hid (H0.out.below hb1)
    clear hb1 hv h4 h5
    obtain ⟨s0, s1⟩ := And.intro H1.out.2.1.c0 H1.out.2.1.c1
    go_wp2_with fail
    refine (devValid_any X D x y ss _ (HD.out.below H1.out.2.2.2)).mono ?_
    clear s0 s1
    cases hs : Bs.validB X ss with
    | false =>
      rintro e w2 ⟨rfl, hb2⟩
      have H2 := hid (H1.out.below hb2)
      have Hr := hid (show applyR W gs V ks cs X ss = (0, [], 1) by unfold applyR; rw [if_pos (.inr hs)])
      clear hb2 hs h1 h2 h3
      obtain ⟨⟨r0, r1⟩, f0, f1⟩ := H2.out.res
      go_wp2_with fail
      refine bodyPost_ret (v := .tuple #[.agg #[.int .i64 0, .slice none 0 0], .int .i64 1]) (by simp [results, Try.results93, go_sem, r0, r1]) rfl ?_
      rw [Hr.out]
      exact ⟨_, _, _, rfl, Arg.nil _ _, H2.out.stored _ _ _ _⟩
    | true =>
      rintro e w2 ⟨rfl, hb2⟩
      have H2 := hid (H1.out.below hb2)
      have hz2 : w.heap.size + 3 ≤ w2.heap.size := by
        have e1 := H1.out.2.2.1.lt; have e2 := hb2.size; omega
      clear hb2
      obtain ⟨⟨r0, r1⟩, f0, f1⟩ := H2.out.res
      obtain ⟨s0, s1⟩ := And.intro H2.out.2.1.c0 H2.out.2.1.c1
      obtain ⟨t0, t1, t2, t3, t4⟩ := H2.out.1.five
      by_cases hWX : W = X
      · subst hWX
        subst h3
        have Hr := hid (show applyR W gs W ks cs W ss = (W, valR gs ss (folB W ks cs) W.toNat, 0) by unfold applyR; rw [if_neg (by simp [Hv.out, hs]), if_neg (by simp)])
        have hfg := Bs.fit_of_valid h1 HA.out.ok
        have hfk := Bs.fit_of_valid h2 HB.out.ok
        have hfs := Bs.fit_of_valid hs HD.out.ok
        obtain ⟨v, rfl⟩ := Int.eq_ofNat_of_zero_le (Bs.validB_iff.1 h1).1
        have hv256 : v ≤ 256 := by have := (Bs.validB_iff.1 h1).2.1; omega
        rw [Int.toNat_natCast] at hfg hfs hfk
        have Hfg := hid hfg; have Hfs := hid hfs; have Hfk := hid hfk; have Hv2 := hid hv256
        have Hst := hid (show Aiming w v v v A B C D n c m d k q x y (.slice none 0 0) (tgt v ss (cs.take 0)) w2 from ⟨H2.out, World.ownsRow_nil _ _ _ _, hz2⟩)
        clear h1 h2 hs hfg hfs hfk hv256 r0 r1 f0 f1 hz2
        go_wp2_with fail
        clear s0 s1 t0 t1 t2 t3 t4
        go_loopw [6, 8, 34] (fun u _ i wr => ∃ j : Nat, j ≤ k ∧ i = .int .i64 j ∧ Hid (Aiming w v v v A B C D n c m d k q x y u (tgt v ss (cs.take j)) wr)) (fun _ _ i _ => k - (intOf i).toNat)
        case atStart => exact ⟨0, by omega, rfl, Hst⟩
        case round =>
          obtain ⟨j, hj, rfl, hG⟩ := hrel
          clear Hst
          by_cases hlt : j < k
          · have hjl : j < cs.length := by rw [HC.out.len]; exact hlt
            have hget : cs[j]? = some cs[j] := List.getElem?_eq_getElem _
            have hsn := take_snoc cs j hjl
            generalize cs[j] = p at hget hsn
            obtain ⟨p1, p2⟩ := p
            obtain ⟨ad, rfl, had, g1, g2⟩ := (HC.out.below hG.out.1.2.2.2).cell hget
            have Hsn := hid hsn
            have hle := tgt_len v ss (cs.take j)
            rw [List.length_take] at hle
            have hle2 : (tgt (v : Int) ss (cs.take j)).length ≤ 64 := by have := HK.out; omega
            clear hget hsn hle
            have H5 := hid (hG.out.below ((Below.refl _ _).alloc (Nat.le_refl _) (.cells #[.int .i64 p1, .int .i64 p2] 98)))
            have Hbx := hid (Fb.new wr #[.int .i64 p1, .int .i64 p2] 98)
            obtain ⟨s0, s1⟩ := And.intro H5.out.1.2.1.c0 H5.out.1.2.1.c1
            obtain ⟨b0, b1⟩ := Hbx.out.two
            go_wp2_with fail
            clear g1 g2
            generalize wr.alloc (.cells #[.int .i64 p1, .int .i64 p2] 98) = wv at *
            generalize wr.heap.size = gv at *
            refine (devHas_any v D x y ss p1 _ (HD.out.below H5.out.1.2.2.2)).mono ?_
            rintro e w6 ⟨rfl, hb6⟩
            have H6 := hid (H5.out.below hb6)
            have hbx6 := hid (Hbx.out.below hb6 Hbx.out.lt)
            clear s0 s1 b0 b1 hb6
            obtain ⟨b0, b1⟩ := hbx6.out.two
            cases hh : Bs.hasB v ss p1 with
            | false =>
              have Hl := hid (show tgt v ss (cs.take (j + 1)) = tgt v ss (cs.take j) by rw [Hsn.out, tgt_snoc]; simp [hh])
              clear hh
              go_wp2_with fail
              go_roundw
              case rel => exact ⟨j + 1, by omega, by go_num, by rw [Hl.out]; exact H6⟩
              case measure => simp [intOf]; omega
            | true =>
              have Hl := hid (show tgt v ss (cs.take (j + 1)) = tgt v ss (cs.take j) ++ [p2] by rw [Hsn.out, tgt_snoc]; simp [hh])
              clear hh
              have Hle := hid hle2
              go_wp2_with (first
                | (at_builtin
                   refine wpList_append_own _ rfl _ _ 22 rfl (w.heap.size + 3) 3 i0 (.int .i64 0) 1 8 Try.underlying22 Hi.out Hz0.out Hz1.out Hz2.out rfl (by decide) _ _ _ rfl (H6.out.2.1.alloc _) ⟨w6.heap.size, 0, none⟩ 1 1 [.int .i64 p2] rfl rfl (new_one _ _ _) (one_int _ _) (by unfold maxLen; omega) (by omega) (by have := H6.out.2.2; rw [World.size_alloc]; omega) ?_
                   intro v' w7 hown7 hgr7 hnil7
                   have H7 := hid (H6.out.push hown7 hgr7)
                   clear hown7 hgr7 hnil7))
              go_roundw
              case rel => exact ⟨j + 1, by omega, by go_num, by rw [Hl.out]; exact H7⟩
              case measure => simp [intOf]; omega
          · have hjk : j = k := by omega
            subst hjk
            have hall : cs.take j = cs := List.take_of_length_le (by rw [HC.out.len]; omega)
            rw [hall] at hG
            have hle := tgt_len v ss cs
            have Hle := hid (show (tgt (v : Int) ss cs).length ≤ maxLen by have := HK.out; have := HC.out.len; unfold maxLen; omega)
            clear hall hle
            obtain ⟨A', c', e', hat, _⟩ := own_slice hG.out.2.1
            subst e'
            have Hat := hid (show IArg wr A' (tgt (v : Int) ss cs).length (tgt v ss cs) from ⟨hat, rfl⟩)
            clear hat
            obtain ⟨s0, s1⟩ := And.intro hG.out.1.2.1.c0 hG.out.1.2.1.c1
            obtain ⟨t0, t1, t2, t3, t4⟩ := hG.out.1.1.five
            go_wp2_with fail
            refine (devDiff_any v v D B x y m d ss ks _ (HD.out.below hG.out.1.2.2.2) (HB.out.below hG.out.1.2.2.2)).mono ?_
            rw [mixR_ok _ Hv2.out Hfs.out Hfk.out]
            generalize hS1 : Bs.ofP v (fun i => flag true false false (Bs.bit ss i) (Bs.bit ks i)) v = z1
            have Hz1f := hid (show Bs.Fit v z1 by rw [← hS1]; exact Bs.fit_ofP _ _ _ (Nat.le_refl _))
            have HS1 := hid hS1
            rintro e wd1 ⟨A1, n1, c1, rfl, ha1, hb1⟩
            have HG1 := hid (hG.out.below hb1)
            have Hat1 := hid (Hat.out.below hb1)
            have Ha1 := hid ha1
            clear ha1 hb1 s0 s1 t0 t1 t2 t3 t4 Hat hS1 hG
            have HG2 := hid (HG1.out.below ((Below.refl _ _).alloc (Nat.le_refl _) (.cells #[.int .i64 (v : Int), .slice A1 n1 c1] 41)))
            have Hat2 := hid (Hat1.out.alloc (.cells #[.int .i64 (v : Int), .slice A1 n1 c1] 41))
            have Ha2 := hid (Ha1.out.alloc (.cells #[.int .i64 (v : Int), .slice A1 n1 c1] 41))
            have HB1 := hid (Box.new wd1 (v : Int) A1 n1 c1)
            obtain ⟨s0, s1⟩ := And.intro HG2.out.1.2.1.c0 HG2.out.1.2.1.c1
            go_wp2_with fail
            clear HG1 Hat1 Ha1
            generalize wd1.alloc (.cells #[.int .i64 (v : Int), .slice A1 n1 c1] 41) = wd2 at *
            generalize wd1.heap.size = b1 at *
            refine (devOf_any v A' _ c' (tgt (v : Int) ss cs) _ Hat2.out Hle.out).mono ?_
            rw [tgt_of Hv2.out Hin.out]
            generalize hS2 : Bs.ofP v (fun i => decide ((i : Int) ∈ tgt v ss cs)) v = z2
            have Hz2f := hid (show Bs.Fit v z2 by rw [← hS2]; exact Bs.fit_ofP _ _ _ (Nat.le_refl _))
            have HS2 := hid hS2
            rintro e wd3 ⟨A2, n2, c2, rfl, ha2, hb2⟩
            have HG3 := hid (HG2.out.below hb2)
            have Ha3 := hid (Ha2.out.below hb2)
            have HB3 := hid (HB1.out.below hb2 HB1.out.lt)
            have Hb2 := hid ha2
            clear ha2 hb2 s0 s1 hS2 Hat2 Ha2 HB1 HG2
            have HG4 := hid (HG3.out.below ((Below.refl _ _).alloc (Nat.le_refl _) (.cells #[.int .i64 (v : Int), .slice A2 n2 c2] 41)))
            have Ha4 := hid (Ha3.out.alloc (.cells #[.int .i64 (v : Int), .slice A2 n2 c2] 41))
            have Hb4 := hid (Hb2.out.alloc (.cells #[.int .i64 (v : Int), .slice A2 n2 c2] 41))
            have HB4 := hid (HB3.out.alloc (.cells #[.int .i64 (v : Int), .slice A2 n2 c2] 41))
            have HC4 := hid (Box.new wd3 (v : Int) A2 n2 c2)
            obtain ⟨p0, p1⟩ := And.intro HB4.out.c0 HB4.out.c1
            obtain ⟨q0, q1⟩ := And.intro HC4.out.c0 HC4.out.c1
            go_wp2_with fail
            clear HG3 Ha3 HB3 Hb2
            generalize wd3.alloc (.cells #[.int .i64 (v : Int), .slice A2 n2 c2] 41) = wd4 at *
            generalize wd3.heap.size = b2 at *
            refine (devUnion_any v v A1 A2 n1 c1 n2 c2 z1 z2 _ Ha4.out Hb4.out).mono ?_
            rw [mixR_or Hv2.out Hz1f.out Hz2f.out]
            generalize hS3 : orR v z1 z2 = z3
            have Hz3f := hid (show Bs.Fit v z3 by rw [← hS3]; exact fit_orR _ _ _)
            have HS3 := hid hS3
            rintro e wd5 ⟨A3, n3, c3, rfl, ha3, hb3⟩
            have HG5 := hid (HG4.out.below hb3)
            have Ha5 := hid ha3
            clear ha3 hb3 hS3 p0 p1 q0 q1 Ha4 Hb4 HB4 HC4 HG4
            have HG6 := hid (HG5.out.below ((Below.refl _ _).alloc (Nat.le_refl _) (.cells #[.int .i64 (v : Int), .slice A3 n3 c3] 41)))
            have Ha6 := hid (Ha5.out.alloc (.cells #[.int .i64 (v : Int), .slice A3 n3 c3] 41))
            have HB6 := hid (Box.new wd5 (v : Int) A3 n3 c3)
            obtain ⟨t0, t1, t2, t3, t4⟩ := HG6.out.1.1.five
            obtain ⟨p0, p1⟩ := And.intro HB6.out.c0 HB6.out.c1
            go_wp2_with fail
            clear HG5 Ha5
            generalize wd5.alloc (.cells #[.int .i64 (v : Int), .slice A3 n3 c3] 41) = wd6 at *
            generalize wd5.heap.size = b3 at *
            refine (devUnion_any v v A A3 n c n3 c3 gs z3 _ (HA.out.below HG6.out.1.2.2.2) Ha6.out).mono ?_
            rw [mixR_or Hv2.out Hfg.out Hz3f.out]
            have hfin := dev_value Hv2.out Hfk.out Hfs.out Hin.out (gs := gs)
            rw [HS1.out, HS2.out, HS3.out] at hfin
            rw [hfin]
            rw [Int.toNat_natCast] at Hr
            clear hfin
            generalize valR gs ss (folB (v : Int) ks cs) v = z4 at *
            rintro e wd7 ⟨A4, n4, c4, rfl, ha4, hb4⟩
            have HG7 := hid (HG6.out.1.below hb4)
            have Ha7 := hid ha4
            clear ha4 hb4 t0 t1 t2 t3 t4 p0 p1 HG6 Ha6 HB6
            obtain ⟨⟨r0, r1⟩, f0, f1⟩ := HG7.out.res
            go_wp2_with fail
            refine bodyPost_ret (v := .tuple #[.agg #[.int .i64 v, .slice A4 n4 c4], .int .i64 0]) (by simp [results, Try.results93, go_sem, r0, r1]) rfl ?_
            rw [Hr.out]
            exact ⟨_, _, _, rfl, Ha7.out.store HG7.out.2.2.1 _ _ _ _, HG7.out.stored _ _ _ _⟩
      · have Hr := hid (show applyR W gs V ks cs X ss = (0, [], 2) by unfold applyR; rw [if_neg (by simp [Hv.out, hs]), if_pos hWX])
        have t : (W != X) = true := by simp [hWX]
        clear hWX h1 h2 h3 hs
        go_wp2_with fail
        refine bodyPost_ret (v := .tuple #[.agg #[.int .i64 0, .slice none 0 0], .int .i64 2]) (by simp [results, Try.results93, go_sem, r0, r1]) rfl ?_
        rw [Hr.out]
        exact ⟨_, _, _, rfl, Arg.nil _ _, H2.out.stored _ _ _ _⟩
end Go.Proofs.Ytbjaebbmajhjjaa

namespace Go.Proofs.Ytbjaebbmajhjjaa
set_option maxRecDepth 20000
set_option linter.unusedVariables false
set_option linter.unusedSimpArgs false
open Go.ChangeShapes Go.WideShapes Go.ChangeAt Go.RowKit

/-- A set came back. -/
def RetA (w : World) (v : Nat) (zs : List Nat) (e : Ending) (w' : World) : Prop :=
  ∃ (A : Option Addr) (n c : Nat), e = .returned (.agg #[.int .i64 v, .slice A n c]) ∧ Arg w' A n zs ∧ Below w.heap.size w w'
/-- While two sets are joined: the boxes of the set and of the arc, the result's box, the values. -/
structure Jn (w0 : World) (v : Nat) (A : Option Addr) (n c : Nat) (ss : List Nat) (m : Nat) (f : FH) (V : Addr) (Y : Option Addr) (yn yc : Nat) (ys : List Nat) (u : World) : Prop where
  sx : Fb u w0.heap.size #[.int .i64 v, .slice A n c] 41
  ax : Fb u (w0.heap.size + 1) #[.int .i64 m, .int .i64 f.G.W, .slice f.G.A f.G.n f.G.c, .int .i64 f.K.W, .slice f.K.A f.K.n f.K.c, .slice f.C f.k f.q] 101
  rx : Fb u (w0.heap.size + 2) #[.int .i64 0, .slice none 0 0] 41
  set : Arg u A n ss
  arg : FArg u f.G.A f.G.n f.K.A f.K.n f.C f.k f.G.ws f.K.ws f.cs
  val : Arg u Y yn ys
  v0 : u.cell? (V.add (m * 2)) = some (.int .i64 v)
  v1 : u.cell? ⟨(V.add (m * 2)).block, (V.add (m * 2)).off + 1, none⟩ = some (.slice Y yn yc)
  vl : V.block < w0.heap.size
  bel : Below w0.heap.size w0 u
  sz : w0.heap.size + 3 ≤ u.heap.size
theorem Jn.below {w0 u u' : World} {v : Nat} {A : Option Addr} {n c : Nat} {ss : List Nat} {m : Nat} {f : FH} {V : Addr} {Y : Option Addr} {yn yc : Nat} {ys : List Nat} (h : Jn w0 v A n c ss m f V Y yn yc ys u) (hb : Below u.heap.size u u') : Jn w0 v A n c ss m f V Y yn yc ys u' := by
  have hz := h.sz
  have hv := h.vl
  exact ⟨h.sx.below hb h.sx.lt, h.ax.below hb h.ax.lt, h.rx.below hb h.rx.lt, h.set.below hb, h.arg.below hb, h.val.below hb, (hb.cell (by rw [add_block]; omega)).trans h.v0, (hb.cell (by simp only [add_block]; omega)).trans h.v1, hv, below_step h.bel hb, by have := hb.size; omega⟩
/-- After the value has been computed: the box of it. -/
structure Jn2 (w0 : World) (v : Nat) (A : Option Addr) (n c : Nat) (ss : List Nat) (b : Nat) (A2 : Option Addr) (n2 k2 : Nat) (zs : List Nat) (u : World) : Prop where
  sx : Fb u w0.heap.size #[.int .i64 v, .slice A n c] 41
  rx : Fb u (w0.heap.size + 2) #[.int .i64 0, .slice none 0 0] 41
  px : Fb u b #[.int .i64 v, .slice A2 n2 k2] 41
  set : Arg u A n ss
  pv : Arg u A2 n2 zs
  bel : Below w0.heap.size w0 u
theorem Jn2.below {w0 u u' : World} {v : Nat} {A : Option Addr} {n c : Nat} {ss : List Nat} {b : Nat} {A2 : Option Addr} {n2 k2 : Nat} {zs : List Nat} (h : Jn2 w0 v A n c ss b A2 n2 k2 zs u) (hb : Below u.heap.size u u') : Jn2 w0 v A n c ss b A2 n2 k2 zs u' :=
  ⟨h.sx.below hb h.sx.lt, h.rx.below hb h.rx.lt, h.px.below hb h.px.lt, h.set.below hb, h.pv.below hb, below_step h.bel hb⟩
theorem Jn.one {w0 u : World} {v : Nat} {A : Option Addr} {n c : Nat} {ss : List Nat} {m : Nat} {f : FH} {V : Addr} {Y : Option Addr} {yn yc : Nat} {ys : List Nat} (h : Jn w0 v A n c ss m f V Y yn yc ys u) {b : Nat} {A2 : Option Addr} {n2 k2 : Nat} {zs : List Nat}
    (hb : Fb u b #[.int .i64 0, .slice none 0 0] 41) (hg : w0.heap.size + 3 ≤ b) (ha : Arg u A2 n2 zs) :
    Jn2 w0 v A n c ss b A2 n2 k2 zs ((u.setCell ⟨b, 0, none⟩ (.int .i64 v)).setCell ⟨b, 1, none⟩ (.slice A2 n2 k2)) :=
  ⟨(h.sx.far (by simp; omega) _).far (by simp; omega) _, (h.rx.far (by simp; omega) _).far (by simp; omega) _, (hb.set 0 _).set 1 _, Arg.store h.set (show Box u b 0 none 0 0 from hb) v A2 n2 k2, Arg.store ha (show Box u b 0 none 0 0 from hb) v A2 n2 k2,
    (h.bel.setCell (by simp; omega) _).setCell (by simp; omega) _⟩
theorem Jn.two {w0 u : World} {v : Nat} {A : Option Addr} {n c : Nat} {ss : List Nat} {m : Nat} {f : FH} {V : Addr} {Y : Option Addr} {yn yc : Nat} {ys : List Nat} (h : Jn w0 v A n c ss m f V Y yn yc ys u) {A2 : Option Addr} {n2 k2 : Nat} {zs : List Nat} (ha : Arg u A2 n2 zs) :
    Jn2 w0 v A n c ss u.heap.size A2 n2 k2 zs (u.alloc (.cells #[.int .i64 v, .slice A2 n2 k2] 41)) := by
  have hb := (Below.refl u.heap.size u).alloc (Nat.le_refl _) (.cells #[.int .i64 v, .slice A2 n2 k2] 41)
  exact ⟨h.sx.below hb h.sx.lt, h.rx.below hb h.rx.lt, Fb.new u _ _, h.set.below hb, ha.below hb, below_step h.bel hb⟩
theorem Fb.six {w : World} {g t : Nat} {a b c d e f : Value} (h : Fb w g #[a, b, c, d, e, f] t) :
    w.cell? ⟨g, 0, none⟩ = some a ∧ w.cell? ⟨g, 1, none⟩ = some b ∧ w.cell? ⟨g, 2, none⟩ = some c ∧ w.cell? ⟨g, 3, none⟩ = some d ∧ w.cell? ⟨g, 4, none⟩ = some e ∧ w.cell? ⟨g, 5, none⟩ = some f :=
  ⟨h.cell 0, h.cell 1, h.cell 2, h.cell 3, h.cell 4, h.cell 5⟩
set_option maxHeartbeats 3200000 in
theorem join_any (v : Nat) (hv : v ≤ 256) (A : Option Addr) (n c : Nat) (ss : List Nat) (m : Nat) (f : FH) (V : Addr) (vn vc : Nat) (Y : Option Addr) (yn yc : Nat) (ys : List Nat) (w : World)
    (hs : Arg w A n ss) (hsf : Bs.Fit v ss) (hf : FArg w f.G.A f.G.n f.K.A f.K.n f.C f.k f.G.ws f.K.ws f.cs) (hw1 : f.G.W = v) (hw2 : f.K.W = v) (hfv : validT v f.G.ws v f.K.ws f.cs = true)
    (hm : m < vn) (hc0 : w.cell? (V.add (m * 2)) = some (.int .i64 v)) (hc1 : w.cell? ⟨(V.add (m * 2)).block, (V.add (m * 2)).off + 1, none⟩ = some (.slice Y yn yc)) (hVb : V.block < w.heap.size) (hy : Arg w Y yn ys) (hyf : Bs.Fit v ys) :
    Calls Try.prog 117 #[.agg #[.int .i64 v, .slice A n c], .agg #[.int .i64 m, .int .i64 f.G.W, .slice f.G.A f.G.n f.G.c, .int .i64 f.K.W, .slice f.K.A f.K.n f.K.c, .slice f.C f.k f.q], .slice (some V) vn vc] w
      (RetA w v (orR v ss (valR f.G.ws ys (folB v f.K.ws f.cs) v))) := by
  have Happ := hid (show applyR v f.G.ws v f.K.ws f.cs v ys = ((v : Int), valR f.G.ws ys (folB v f.K.ws f.cs) v, 0) by
    unfold applyR; rw [if_neg (by simp [hfv, Bs.valid_of_fit hyf hv]), if_neg (by simp), Int.toNat_natCast])
  have Hun := hid (mixR_or hv hsf (fit_valR f.G.ws ys (folB v f.K.ws f.cs) v))
  have HJ := hid (show Jn w v A n c ss m f V Y yn yc ys (((w.alloc (.cells #[.int .i64 v, .slice A n c] 41)).alloc (.cells #[.int .i64 m, .int .i64 f.G.W, .slice f.G.A f.G.n f.G.c, .int .i64 f.K.W, .slice f.K.A f.K.n f.K.c, .slice f.C f.k f.q] 101)).alloc (.cells #[.int .i64 0, .slice none 0 0] 41)) from by
    have hb := (Below.refl w.heap.size w).alloc (Nat.le_refl _) (.cells #[.int .i64 v, .slice A n c] 41)
    have hb2 := hb.alloc hb.size (.cells #[.int .i64 m, .int .i64 f.G.W, .slice f.G.A f.G.n f.G.c, .int .i64 f.K.W, .slice f.K.A f.K.n f.K.c, .slice f.C f.k f.q] 101)
    have hb3 := hb2.alloc hb2.size (.cells #[.int .i64 0, .slice none 0 0] 41)
    refine ⟨((Fb.new w _ _).alloc _).alloc _, ?_, ?_, hs.below hb3, hf.below hb3, hy.below hb3, (hb3.cell (by rw [add_block]; exact hVb)).trans hc0, (hb3.cell (by simp only [add_block]; exact hVb)).trans hc1, hVb, hb3, by simp only [World.size_alloc]; omega⟩
    · have := (Fb.new (w.alloc (.cells #[.int .i64 v, .slice A n c] 41)) #[.int .i64 m, .int .i64 f.G.W, .slice f.G.A f.G.n f.G.c, .int .i64 f.K.W, .slice f.K.A f.K.n f.K.c, .slice f.C f.k f.q] 101).alloc (.cells #[.int .i64 0, .slice none 0 0] 41)
      rwa [World.size_alloc] at this
    · have := Fb.new ((w.alloc (.cells #[.int .i64 v, .slice A n c] 41)).alloc (.cells #[.int .i64 m, .int .i64 f.G.W, .slice f.G.A f.G.n f.G.c, .int .i64 f.K.W, .slice f.K.A f.K.n f.K.c, .slice f.C f.k f.q] 101)) #[.int .i64 0, .slice none 0 0] 41
      rwa [World.size_alloc, World.size_alloc] at this)
  clear hs hsf hf hfv hc0 hc1 hVb hy hyf
  obtain ⟨⟨GW, GA, gn, gc, gs⟩, ⟨KW, KA, kn, kc, ks⟩, C, k, q, cs⟩ := f
  simp only at *
  subst hw1
  subst hw2
  have Hap := hid (fun (u : World) (hu : Jn w v A n c ss m ⟨⟨v, GA, gn, gc, gs⟩, ⟨v, KA, kn, kc, ks⟩, C, k, q, cs⟩ V Y yn yc ys u) => devApply_any v v v GA KA C Y gn gc kn kc k q yn yc gs ks ys cs u hu.arg.gen hu.arg.kill hu.arg.cops hu.val)
  have Hc := hid (fun (u : World) (hu : Jn w v A n c ss m ⟨⟨v, GA, gn, gc, gs⟩, ⟨v, KA, kn, kc, ks⟩, C, k, q, cs⟩ V Y yn yc ys u) => And.intro hu.ax.six (And.intro hu.v0 hu.v1))
  rw [Happ.out] at Hap
  simp only at Hap Hc
  go_enter Try.func117, Try.ntmps117
  go_wp2_with fail
  generalize ((w.alloc (.cells #[.int .i64 v, .slice A n c] 41)).alloc (.cells #[.int .i64 m, .int .i64 v, .slice GA gn gc, .int .i64 v, .slice KA kn kc, .slice C k q] 101)).alloc (.cells #[.int .i64 0, .slice none 0 0] 41) = w1 at *
  have HJ := hid (HJ.out.below (Below.refl _ _).drew)
  have hm2 : (m : Int) < vn := by omega
  have Ha := hid (HJ.out.below ((Below.refl _ _).alloc (Nat.le_refl _) (.cells #[.int .i64 0, .slice none 0 0] 41)))
  have c6a : (w1.alloc (.cells #[.int .i64 0, .slice none 0 0] 41)).cell? (V.add (m * 2)) = some (.int .i64 v) := Ha.out.v0
  have c7a : (w1.alloc (.cells #[.int .i64 0, .slice none 0 0] 41)).cell? ⟨(V.add (m * 2)).block, (V.add (m * 2)).off + 1, none⟩ = some (.slice Y yn yc) := Ha.out.v1
  have hsixa : Fb (w1.alloc (.cells #[.int .i64 0, .slice none 0 0] 41)) (w.heap.size + 1) #[.int .i64 m, .int .i64 v, .slice GA gn gc, .int .i64 v, .slice KA kn kc, .slice C k q] 101 := Ha.out.ax
  obtain ⟨d0, d1, d2, d3, d4, d5⟩ := hsixa.six
  clear hsixa
  have c6b : (w1.drew.alloc (.cells #[.int .i64 0, .slice none 0 0] 41)).cell? (V.add (m * 2)) = some (.int .i64 v) := Ha.out.v0
  have c7b : (w1.drew.alloc (.cells #[.int .i64 0, .slice none 0 0] 41)).cell? ⟨(V.add (m * 2)).block, (V.add (m * 2)).off + 1, none⟩ = some (.slice Y yn yc) := Ha.out.v1
  have hz1 : w.heap.size + 3 ≤ w1.heap.size := HJ.out.sz
  go_cut [7] (fun a wd => ∃ (b : Nat) (A2 : Option Addr) (n2 k2 : Nat), a = .pointer (some ⟨b, 0, none⟩) ∧ Hid (Jn2 w v A n c ss b A2 n2 k2 (valR gs ys (folB v ks cs) v) wd))
  case first =>
    obtain ⟨⟨c0, c1, c2, c3, c4, c5⟩, c6, c7⟩ := Hc.out _ HJ.out
    go_region_law (
      (go_simp
       go_at_call 93
       refine (Hap.out _ (by first | exact HJ.out | exact HJ.out.below ((Below.refl _ _).alloc (Nat.le_refl _) _))).mono ?_
       rintro e u2 ⟨A2, n2, k2, rfl, ha2, hb2⟩
       have HA2 := hid ha2
       have HJ2 := hid (Jn.below (by first | exact HJ.out | exact HJ.out.below ((Below.refl _ _).alloc (Nat.le_refl _) _)) hb2)
       have hpl := HJ2.out.sz
       try (have hbx : Fb u2 w1.heap.size #[.int .i64 0, .slice none 0 0] 41 := (Fb.new w1.drew _ _).below hb2 (by simp)
            have x0 := hbx.cell 0
            have x1 := hbx.cell 1
            have y0 := hbx.frozen 0
            have y1 := hbx.frozen 1
            have hbl := hbx.lt)
       clear ha2 hb2))
    all_goals
      go_wp2_with fail
      go_meet
      first
      | exact ⟨_, A2, n2, k2, rfl, hid (Jn.one HJ2.out hbx hz1 HA2.out)⟩
      | exact ⟨_, A2, n2, k2, rfl, hid (Jn.two HJ2.out HA2.out)⟩
  case rest =>
    obtain ⟨b, A2, n2, k2, rfl, H2⟩ := hcut
    clear HJ Hap Hc Ha c6a c7a c6b c7b d0 d1 d2 d3 d4 d5
    obtain ⟨s0, s1⟩ := H2.out.sx.two
    obtain ⟨p0, p1⟩ := H2.out.px.two
    go_wp2_with fail
    refine (devUnion_any v v A A2 n c n2 k2 ss (valR gs ys (folB v ks cs) v) _ H2.out.set H2.out.pv).mono ?_
    rw [Hun.out]
    rintro e u3 ⟨A3, n3, k3, rfl, ha3, hb3⟩
    clear s0 s1 p0 p1
    have hba := (Below.refl u3.heap.size u3).alloc (Nat.le_refl _) (.cells #[.int .i64 v, .slice A3 n3 k3] 41)
    have H3 := hid ((H2.out.below hb3).below hba)
    have HA3 := hid (ha3.below hba)
    have HF3 := hid (Fb.new u3 #[.int .i64 v, .slice A3 n3 k3] 41)
    clear ha3 hb3 hba
    obtain ⟨r0, r1⟩ := H3.out.rx.two
    have f0 := H3.out.rx.frozen 0
    have f1 := H3.out.rx.frozen 1
    have hrl := H3.out.rx.lt
    go_wp2_with fail
    refine bodyPost_ret (v := .agg #[.int .i64 v, .slice A3 n3 k3]) (by simp [results, Try.results117, go_sem, r0, r1]) rfl ?_
    exact ⟨A3, n3, k3, rfl, Arg.store HA3.out (show Box _ (w.heap.size + 2) 0 none 0 0 from H3.out.rx) v A3 n3 k3, (H3.out.bel.setCell (by simp; omega) _).setCell (by simp; omega) _⟩
end Go.Proofs.Ytbjaebbmajhjjaa

namespace Go.Proofs.Ytbjaebbmajhjjaa
set_option maxRecDepth 20000
set_option linter.unusedVariables false
set_option linter.unusedSimpArgs false
open Go.ChangeShapes Go.WideShapes Go.ChangeAt Go.RowKit

theorem vset_fit {v : Nat} (hv : v ≤ 256) {l : List ZH} (h : ∀ s ∈ l, s.W = v ∧ Bs.Fit v s.ws) : l.all (zfitB v) = true := by
  rw [List.all_eq_true]
  intro s hs
  obtain ⟨h1, h2⟩ := h s hs
  unfold zfitB
  rw [h1, Bs.valid_of_fit h2 hv]; simp
theorem rows_snoc {il : List AL} {k : Nat} {r : AL} (h : il[k]? = some r) {done : List RH} (hd : done.map RH.l = (il.take k).map fun r => r.l.map AH.m) (A : Option Addr) (n c : Nat) : (done ++ [(⟨A, n, c, r.l.map AH.m⟩ : RH)]).map RH.l = (il.take (k + 1)).map fun r => r.l.map AH.m := by
  rw [List.take_add_one, h, List.map_append, List.map_append, hd]; rfl
set_option maxHeartbeats 12800000 in
theorem validWeb_any (x : WB) (v N : Nat) (ex : List (Option Nat)) (w : World) (h : WBok w ex x) (ho : WOk x v N) (hk : WLk x N) :
    Calls Try.prog 74 #[x.a] w fun e w' => e = .returned (.bool true) ∧ Below w.heap.size w w' := by
  obtain ⟨iI, hi, hz0, hz1, hz2⟩ := info_parts info3
  have HI := hid hi; have HI0 := hid hz0; have HI1 := hid hz1; have HI2 := hid hz2
  clear hi hz0 hz1 hz2
  have hv := ho.v256
  have hN := ho.n256
  have hN1 := hk.n1
  have Ho := hid ho
  have Hx := hid h
  have Hlk := hid (hk.link ho h)
  have hW := ho.w
  have hbn := ho.bn
  have hin := ho.inn
  clear h ho hk
  obtain ⟨W, ⟨BA, bn, bc, bl⟩, ⟨IA, inn, ic, il⟩⟩ := x
  simp only at hW hbn hin
  subst hW
  have hbn := hbn.symm
  subst hbn
  have hin := hin.symm
  subst hin
  obtain ⟨x0, hx0, -⟩ := get_at (show il.length = N from Hx.out.i.len) hN1
  obtain ⟨adi, hA, -, -⟩ := Hx.out.i.cell hx0
  clear hx0 x0
  simp only at hA
  subst hA
  unfold WB.a at *
  simp only at *
  have Hlk : Hid (linkB (il.map fun r => r.l.map AH.m) = true) := Hlk
  have hmk := run_mkints N (by omega)
  have HW0 := hid (show Vg w ⟨v, ⟨BA, N, bc, bl⟩, ⟨some adi, N, ic, il⟩⟩ N (w.heap.size + 1) (w.heap.size + 2) (.slice none 0 0) [] [] (List.replicate N (.slice none 0 0)) ((w.alloc (.cells #[.int .i64 v, .slice BA N bc, .slice (some adi) N ic] 68)).alloc (.cells (List.replicate N (Value.slice none 0 0)).toArray 22)) from by
    have hb := (Below.refl w.heap.size w).alloc (Nat.le_refl _) (.cells #[.int .i64 v, .slice BA N bc, .slice (some adi) N ic] 68)
    have ix := Fb.new (w.alloc (.cells #[.int .i64 v, .slice BA N bc, .slice (some adi) N ic] 68)) (List.replicate N (Value.slice none 0 0)).toArray 22
    rw [World.size_alloc] at ix
    exact ⟨(Fb.new w _ _).alloc _, ix, by omega, by omega, hb.alloc hb.size _, World.ownsRow_nil _ _ _ _, by simp, by simp, by simp, fun h => List.getElem?_replicate_of_lt h, fun j _ h => List.getElem?_replicate_of_lt h⟩)
  have HBs0 := hid (show w.heap.size + 2 ≤ ((w.alloc (.cells #[.int .i64 v, .slice BA N bc, .slice (some adi) N ic] 68)).alloc (.cells (List.replicate N (Value.slice none 0 0)).toArray 22)).heap.size by simp)
  generalize hrq : List.replicate N (Value.slice none 0 0) = ivs0 at *
  clear hrq
  go_enter Try.func74, Try.ntmps74
  go_wp2_with fail
  clear hmk
  generalize (w.alloc (.cells #[.int .i64 v, .slice BA N bc, .slice (some adi) N ic] 68)).alloc (.cells ivs0.toArray 22) = w3 at *
  generalize hg1 : w.heap.size + 1 = gD at *
  generalize hg2 : w.heap.size + 2 = b0 at *
  clear hg1 hg2
  go_loopw [4, 5, 7, 15] (fun _ _ _ kv wr => ∃ (k : Nat) (done : List RH) (ivs : List Value), k ≤ N ∧ kv = .int .i64 k ∧ Hid (done.length = k) ∧ Hid (b0 ≤ wr.heap.size) ∧ Hid (Vg w ⟨v, ⟨BA, N, bc, bl⟩, ⟨some adi, N, ic, il⟩⟩ N gD b0 (.slice none 0 0) done [] ivs wr) ∧ Hid (done.map RH.l = (il.take k).map fun r => r.l.map AH.m)) (fun _ _ _ kv _ => N - (intOf kv).toNat)
  case atStart => exact ⟨0, [], ivs0, by omega, rfl, hid rfl, HBs0, HW0, hid rfl⟩
  case round =>
    clear HBs0 HW0
    obtain ⟨k, done, ivs, hk, rfl, Hdk, HBs0, HS0, Hp⟩ := hrel
    by_cases hlt : k < N
    · obtain ⟨r, hr, hrm⟩ := get_at (show il.length = N from Hx.out.i.len) hlt
      obtain ⟨ad9, hA, hadr, hcr⟩ := (Hx.out.i.below HS0.out.bel).cell hr
      obtain rfl := Option.some.inj hA
      have hrn := (Ho.out.arcs r hrm).1
      have Hr := hid hr; have Hrm := hid hrm
      have n0 : (0 : Int) ≤ k := by omega
      have n1 : (k : Int) < N := by omega
      have n2 : (k : Int).toNat = k := by omega
      clear hr hrm hadr
      obtain ⟨rA, rn, rc, rl⟩ := r
      simp only at Hr Hrm hcr hrn ⊢
      obtain ⟨w0', w1', w2'⟩ := HS0.out.wx.three
      go_wp2_with fail
      clear w0' w1' w2' n0 n1 n2 hcr
      go_loopw [7, 22] (fun _ jv wr => ∃ (j : Nat) (Iv : Value) (cur : List Int) (ivs : List Value), j ≤ rn ∧ jv = .int .i64 j ∧ Hid (cur = (rl.take j).map AH.m) ∧ Hid (cur.length = j) ∧ Hid (b0 ≤ wr.heap.size) ∧ Hid (Vg w ⟨v, ⟨BA, N, bc, bl⟩, ⟨some adi, N, ic, il⟩⟩ N gD b0 Iv done cur ivs wr)) (fun _ jv _ => rn - (intOf jv).toNat)
      case atStart => exact ⟨0, _, [], ivs, by omega, rfl, hid rfl, hid rfl, HBs0, HS0⟩
      case round =>
        clear HBs0 HS0 ivs
        obtain ⟨j, Iv, cur, ivs, hj, rfl, Hcp, Hcl, HBs, HS⟩ := hrel
        by_cases hlt2 : j < rn
        · obtain ⟨a, ha, ham⟩ := get_at (show rl.length = rn from (Hx.out.i.all _ Hrm.out).len) hlt2
          obtain ⟨ad9, hA, had, hc0, hc1, hc2, hc3, hc4, hc5⟩ := ((Hx.out.i.all _ Hrm.out).below HS.out.bel).cell ha
          simp only at hA
          subst hA
          have Haf := hid (((Hx.out.i.all _ Hrm.out).all a ham).below HS.out.bel)
          have Hao := hid ((Ho.out.arcs _ Hrm.out).2 a ham)
          have Ha := hid ha
          obtain ⟨m, f0⟩ := a
          simp only at hc0 hc1 hc2 hc3 hc4 hc5
          have n0 : (0 : Int) ≤ j := by omega
          have n1 : (j : Int) < rn := by omega
          have n2 : (j : Int).toNat = j := by omega
          have hcl : cur.length ≤ 256 := by have := Hcl.out; omega
          have hba := (Below.refl wr.heap.size wr).alloc (Nat.le_refl _) (.cells #[.int .i64 m, .int .i64 f0.G.W, .slice f0.G.A f0.G.n f0.G.c, .int .i64 f0.K.W, .slice f0.K.A f0.K.n f0.K.c, .slice f0.C f0.k f0.q] 101)
          have HSa := hid (HS.out.below hba)
          have Haf2 := hid (Haf.out.below hba)
          have Hab2 := hid (Fb.new wr #[.int .i64 m, .int .i64 f0.G.W, .slice f0.G.A f0.G.n f0.G.c, .int .i64 f0.K.W, .slice f0.K.A f0.K.n f0.K.c, .slice f0.C f0.k f0.q] 101)
          have HBa := hid (show b0 ≤ (wr.alloc (.cells #[.int .i64 m, .int .i64 f0.G.W, .slice f0.G.A f0.G.n f0.G.c, .int .i64 f0.K.W, .slice f0.K.A f0.K.n f0.K.c, .slice f0.C f0.k f0.q] 101)).heap.size by have := HBs.out; have := hba.size; omega)
          have Hfit := hid (show (f0.vB && decide (f0.G.W = (v : Int))) = true by
            unfold FH.vB
            rw [Hao.out.2.w1, Hao.out.2.w2, Hao.out.2.ok]; simp)
          clear hba Haf HS HBs ha ham
          go_upto_region 8 with fail
          clear hc0 hc1 hc2 hc3 hc4 hc5 had n0 n1 n2
          generalize hbq : wr.heap.size = ba at *
          clear hbq
          generalize wr.alloc (.cells #[.int .i64 m, .int .i64 f0.G.W, .slice f0.G.A f0.G.n f0.G.c, .int .i64 f0.K.W, .slice f0.K.A f0.K.n f0.K.c, .slice f0.C f0.k f0.q] 101) = wb at *
          obtain ⟨d0, d1, d2, d3, d4, d5⟩ := Hab2.out.six
          obtain ⟨w0', w1', w2'⟩ := HSa.out.wx.three
          go_wp2_with fail
          refine (fits_any f0 v _ _ Haf2.out).mono ?_
          rw [Hfit.out]
          rintro e w1 ⟨rfl, hb1⟩
          have HS := hid (HSa.out.below hb1)
          have Hab := hid (Hab2.out.below hb1 Hab2.out.lt)
          have HBs := hid (show b0 ≤ w1.heap.size by have := HBa.out; have := hb1.size; omega)
          have Hiv := hid (show ivs[k]? = some Iv from by have := HS.out.i3 (by rw [Hdk.out]; exact hlt); rwa [Hdk.out] at this)
          clear d0 d1 d2 d3 d4 d5 w0' w1' w2' hb1 HSa Hab2 HBa Haf2
          go_upto_region 10 with fail
          rename_i Kx hKx
          refine wp_region_factsG (vaG b0 Iv cur) (vaF w1 gD b0 N Iv cur k ba m) (VgK w w1 ⟨v, ⟨BA, N, bc, bl⟩, ⟨some adi, N, ic, il⟩⟩ gD Iv ivs ba #[.int .i64 m, .int .i64 f0.G.W, .slice f0.G.A f0.G.n f0.G.c, .int .i64 f0.K.W, .slice f0.K.A f0.K.n f0.K.c, .slice f0.C f0.k f0.q]) vaU (vaR Iv) Kx (fun _ _ h => h) 12 10 [some 32, some 33, some 34, some 35, some 36, some 37, some 38, some 39, some 40, some 41, some 42, none] (by kernel_rfl) (by kernel_rfl) (by kernel_rfl) (by kernel_rfl) (by kernel_rfl) (by kernel_rfl) (by decide)
            vaF_st ?bs ?gs vaG_st ?ar ?en
          case bs => exact (HS.out.k Hab.out).below (Below.refl _ _).drew
          case gs =>
            intro c
            by_cases h9 : c = 9
            · subst h9; exact HS.out.oI.kept (grown_of_below (Below.refl w1.heap.size w1).drew none) (by cases Iv.ownBlock <;> simp)
            · unfold vaG; split <;> first | omega | trivial
          case ar =>
            intro j o f u ho hi hB hGi hpre K hK
            match j, ho, hpre, hK with
            | 0, ho, hpre, hK =>
              obtain rfl := Option.some.inj ho
              refine wpOp_step rfl fun K' hK' => ?_
              simp only [putL, updV]
              go_simp
              have hz := hK' _ _ (hK (.slice (some ⟨gD, 0, none⟩) N N) (u) (hB) (vaR.refl _ _ _) (rfl))
              refine Eq.mp (congrArg (fun a => K' a (u)) ?_) hz
              kernel_rfl
            | 1, ho, hpre, hK =>
              obtain rfl := Option.some.inj ho
              refine wpOp_step rfl fun K' hK' => ?_
              simp only [putL, updV]
              go_simp
              have hz := hK' _ _ (hK (.int .i64 (k : Int)) (u) (hB) (vaR.refl _ _ _) (rfl))
              refine Eq.mp (congrArg (fun a => K' a (u)) ?_) hz
              kernel_rfl
            | 2, ho, hpre, hK =>
              obtain rfl := Option.some.inj ho
              refine wpOp_step rfl fun K' hK' => ?_
              simp only [putL, updV]
              go_simp
              have hz := hK' _ _ (hK (.slice (some ⟨gD, 0, none⟩) N N) (u) (hB) (vaR.refl _ _ _) (rfl))
              refine Eq.mp (congrArg (fun a => K' a (u)) ?_) hz
              kernel_rfl
            | 3, ho, hpre, hK =>
              obtain rfl := Option.some.inj ho
              refine wpOp_step rfl fun K' hK' => ?_
              simp only [putL, updV]
              go_simp
              have hz := hK' _ _ (hK (.int .i64 (k : Int)) (u) (hB) (vaR.refl _ _ _) (rfl))
              refine Eq.mp (congrArg (fun a => K' a (u)) ?_) hz
              kernel_rfl
            | 4, ho, hpre, hK =>
              obtain rfl := Option.some.inj ho
              have k0 : (0 : Int) ≤ k := by omega
              have k1 : (k : Int) < N := by omega
              have k2 : (k : Int).toNat = k := by omega
              have e2 : f 2 = .slice (some ⟨gD, 0, none⟩) N N := hpre ⟨2, .data⟩ (by simp) rfl (.inl rfl)
              have e3 : f 3 = .int .i64 (k : Int) := hpre ⟨3, .data⟩ (by simp) rfl (.inl rfl)
              obtain ⟨f, rfl⟩ := fixG f 2 _ e2
              rw [updV_ne _ _ (by decide)] at e3
              obtain ⟨f, rfl⟩ := fixG f 3 _ e3
              clear e2 e3
              refine wpOp_step rfl fun K' hK' => ?_
              simp only [putL, updV]
              go_simp
              have hz := hK' _ _ (hK (.pointer (some ⟨gD, k, none⟩)) (u) (hB) (vaR.refl _ _ _) (rfl))
              refine Eq.mp (congrArg (fun a => K' a (u)) ?_) hz
              kernel_rfl
            | 5, ho, hpre, hK =>
              obtain rfl := Option.some.inj ho
              have c9 : u.cell? ⟨gD, k, none⟩ = some Iv := (hB.ix.cell k).trans (by rw [List.getElem?_toArray]; exact Hiv.out)
              have e4 : f 4 = .pointer (some ⟨gD, k, none⟩) := hpre ⟨4, .data⟩ (by simp) rfl (.inl rfl)
              obtain ⟨f, rfl⟩ := fixG f 4 _ e4
              clear e4
              refine wpOp_step rfl fun K' hK' => ?_
              simp only [putL, updV]
              go_simp
              have hz := hK' _ _ (hK (Iv) (u) (hB) (vaR.refl _ _ _) (rfl))
              refine Eq.mp (congrArg (fun a => K' a (u)) ?_) hz
              kernel_rfl
            | 6, ho, hpre, hK =>
              obtain rfl := Option.some.inj ho
              refine wpOp_step rfl fun K' hK' => ?_
              simp only [putL, updV]
              go_simp
              have hz := hK' _ _ (hK (.pointer (some ⟨ba, 0, none⟩)) (u) (hB) (vaR.refl _ _ _) (rfl))
              refine Eq.mp (congrArg (fun a => K' a (u)) ?_) hz
              kernel_rfl
            | 7, ho, hpre, hK =>
              obtain rfl := Option.some.inj ho
              have c9 : u.cell? ⟨ba, 0, none⟩ = some (.int .i64 m) := hB.ab.cell 0
              have e6 : f 6 = .pointer (some ⟨ba, 0, none⟩) := hpre ⟨6, .data⟩ (by simp) rfl (.inl rfl)
              obtain ⟨f, rfl⟩ := fixG f 6 _ e6
              clear e6
              refine wpOp_step rfl fun K' hK' => ?_
              simp only [putL, updV]
              go_simp
              have hz := hK' _ _ (hK (.int .i64 m) (u) (hB) (vaR.refl _ _ _) (rfl))
              refine Eq.mp (congrArg (fun a => K' a (u)) ?_) hz
              kernel_rfl
            | 8, ho, hpre, hK =>
              obtain rfl := Option.some.inj ho
              have e7 : f 7 = .int .i64 m := hpre ⟨7, .data⟩ (by simp) rfl (.inl rfl)
              obtain ⟨f, rfl⟩ := fixG f 7 _ e7
              clear e7
              have hbw := (Below.refl u.heap.size u).alloc (Nat.le_refl _) (.cells #[.int .i64 m] 3)
              refine wpOp_step rfl fun K' hK' => ?_
              simp only [putL, updV]
              go_simp
              have hz := hK' _ _ (hK (.slice (some ⟨u.heap.size, 0, none⟩) 1 1) (u.alloc (.cells #[.int .i64 m] 3)) (hB.below hbw) (vaR.below hbw) (⟨_, rfl, Fb.new _ _ _⟩))
              refine Eq.mp (congrArg (fun a => K' a (u.alloc (.cells #[.int .i64 m] 3))) ?_) hz
              kernel_rfl
            | 9, ho, hpre, hK =>
              obtain rfl := Option.some.inj ho
              have e5 : f 5 = Iv := hpre ⟨5, .data⟩ (by simp) rfl (.inl rfl)
              obtain ⟨g, e8, hf⟩ : ∃ g, f 8 = .slice (some ⟨g, 0, none⟩) 1 1 ∧ Fb u g #[.int .i64 m] 3 := hpre ⟨8, .data⟩ (by simp) rfl (.inr rfl)
              have ho : u.ownsRow b0 3 1 Iv cur.length (ints cur) := hGi
              have hbase : b0 ≤ u.heap.size := by have := HBs.out; have := hB.gx.size; omega
              obtain ⟨f, rfl⟩ := fixG f 5 _ e5
              rw [updV_ne _ _ (by decide)] at e8
              obtain ⟨f, rfl⟩ := fixG f 8 _ e8
              clear e5 e8
              refine wpOp_step rfl fun K' hK' => ?_
              refine step_append_lies _ rfl (.tmp 37) (.tmp 40) 22 rfl b0 3 iI _ 1 8 Try.underlying22 HI.out HI0.out HI1.out HI2.out rfl (by decide) Iv cur.length (ints cur) (by kernel_rfl) ho ⟨g, 0, none⟩ 1 1 [.int .i64 m] (by kernel_rfl) rfl (fun j x hx => World.news_of_block hf j x hx) (one_int1 m) (by omega) (by unfold maxLen; omega) (by omega) hbase _ rfl ?_
              intro g9 q9 w9 hown hgr hat _
              have hB9 := hB.app HS.out ho hgr
              have hn9 := hat.imp (fun e => e) (fun e => show w1.heap.size ≤ g9 by rw [e]; exact hB.gx.size)
              have hz := hK' _ _ (hK (.slice (some ⟨g9, 0, none⟩) (cur.length + 1) q9) (w9) (hB9) (⟨_, hgr, .inr ⟨rfl, rfl⟩⟩) (⟨g9, q9, rfl, hown, hn9⟩))
              refine Eq.mp (congrArg (fun a => K' a (w9)) ?_) hz
              kernel_rfl
            | j + 10, ho, hpre, hK => exact absurd hi (by omega)
          case en =>
            intro Q2 hQ2 f u hB hF
            have e0 : f 0 = .slice (some ⟨gD, 0, none⟩) N N := hF 0 (by decide) rfl
            have e1 : f 1 = .int .i64 (k : Int) := hF 1 (by decide) rfl
            obtain ⟨g9, q9, e9, o9, n9⟩ := hF 9 (by decide) rfl
            have HSn := hid (hB.push HS.out (by rw [Hdk.out]; exact hlt) o9 n9)
            rw [Hdk.out] at HSn
            have HBn := hid (show b0 ≤ (u.setCell ⟨gD, k, none⟩ (.slice (some ⟨g9, 0, none⟩) (cur.length + 1) q9)).heap.size from by have := HBs.out; have := hB.gx.size; simp only [World.size_setCell]; omega)
            have c9 : u.cell? ⟨gD, k, none⟩ = some Iv := (hB.ix.cell k).trans (by rw [List.getElem?_toArray]; exact Hiv.out)
            have f9 := hB.ix.frozen k
            have hl9 := hB.ix.lt
            obtain ⟨f, rfl⟩ := fixG f 0 _ e0
            rw [updV_ne _ _ (by decide)] at e1 e9
            obtain ⟨f, rfl⟩ := fixG f 1 _ e1
            rw [updV_ne _ _ (by decide)] at e9
            obtain ⟨f, rfl⟩ := fixG f 9 _ e9
            clear hF o9 n9 e0 e1 e9 hB
            show wpAny _ _ _ _ 2 (tailArr 12 10) _ _
            generalize hA : putL _ _ _ _ = aa
            refine tail_two (i := 10) (j := 11) ?q1 ?q2 ?q3 rfl rfl hQ2 ?q4
            case q1 => kernel_rfl
            case q2 => kernel_rfl
            case q3 => kernel_rfl
            simp only [putL, updV] at hA
            rw [← hA]
            clear hA
            have k0 : (0 : Int) ≤ k := by omega
            have k1 : (k : Int) < N := by omega
            have k2 : (k : Int).toNat = k := by omega
            go_simp
            refine hKx _ _ ?_
            clear k0 k1 k2
            have Hcp5 := hid (show cur ++ [m] = (rl.take (j + 1)).map AH.m by
              rw [List.take_add_one, Ha.out, List.map_append, Hcp.out]; rfl)
            have Hcl5 := hid (show (cur ++ [m]).length = j + 1 by rw [List.length_append, Hcl.out]; rfl)
            go_wp2_with fail
            go_roundw
            case rel => exact ⟨j + 1, _, cur ++ [m], _, by omega, by go_num, Hcp5, Hcl5, HBn, HSn⟩
            case measure => simp [intOf]; omega
        · obtain rfl : j = rn := by omega
          obtain ⟨A, c, e⟩ := own_slice3 HS.out.oI
          subst e
          have hcl := Hcl.out
          have HSx := hid (HS.out.next (by omega) (by rw [Hdk.out]; exact hlt))
          have hcu : cur = rl.map AH.m := by
            have := Hcp.out
            rwa [List.take_of_length_le (by rw [(Hx.out.i.all _ Hrm.out).len]; exact Nat.le_refl _)] at this
          have Hpx := hid (show (done ++ [(⟨A, cur.length, c, cur⟩ : RH)]).map RH.l = (il.take (k + 1)).map fun r => r.l.map AH.m by
            have := rows_snoc Hr.out Hp.out A cur.length c
            rw [← this]
            simp only [List.map_append, List.map_cons, List.map_nil, hcu])
          have Hdx := hid (show (done ++ [(⟨A, cur.length, c, cur⟩ : RH)]).length = k + 1 by rw [List.length_append, Hdk.out]; rfl)
          clear hcl hcu
          go_wp2_with fail
          go_roundw
          case rel => exact ⟨k + 1, _, ivs, by omega, by go_num, Hdx, HBs, HSx, Hpx⟩
          case measure => simp [intOf]; omega
    · obtain rfl : k = N := by omega
      have Hlh := hid (HS0.out.lh Hdk.out (by omega))
      have Hpl := hid (show done.map RH.l = il.map fun r => r.l.map AH.m by
        have := Hp.out
        rwa [List.take_of_length_le (by rw [Hx.out.i.len]; exact Nat.le_refl _)] at this)
      obtain ⟨w0', w1', w2'⟩ := HS0.out.wx.three
      go_wp2_with fail
      refine (linked_any ⟨some ⟨gD, 0, none⟩, k, k, done⟩ [] _ Hlh.out).mono ?_
      rw [show LH.v ⟨some ⟨gD, 0, none⟩, k, k, done⟩ = il.map fun r => r.l.map AH.m from Hpl.out, Hlk.out]
      rintro e w5 ⟨rfl, rfl⟩
      have HS5 := HS0
      clear w0' w1' w2'
      obtain ⟨w0', w1', w2'⟩ := HS5.out.wx.three
      go_wp2_with fail
      refine (allFit_any ⟨BA, k, bc, bl⟩ k v ex _ (Hx.out.b.below HS5.out.bel) (by omega)).mono ?_
      rw [show (decide ((⟨BA, k, bc, bl⟩ : ZL).n = k) && (⟨BA, k, bc, bl⟩ : ZL).l.all (zfitB v)) = true by
        simp only [decide_true, Bool.true_and]; exact vset_fit hv Ho.out.bd]
      rintro e w6 ⟨rfl, hb6⟩
      have Hb := hid (below_step HS5.out.bel hb6)
      clear hb6
      go_wp2_with fail
      go_ret
      exact ⟨rfl, Hb.out⟩
end Go.Proofs.Ytbjaebbmajhjjaa

namespace Go.Proofs.Ytbjaebbmajhjjaa
set_option maxRecDepth 20000
set_option linter.unusedVariables false
set_option linter.unusedSimpArgs false
open Go.ChangeShapes Go.WideShapes Go.ChangeAt Go.RowKit

theorem NewAt.arg {w w' : World} {A : Option Addr} {n : Nat} {ws : List Nat} (h : NewAt w w' A (words ws)) (hl : ws.length = n) (hok : ∀ y ∈ ws, y < Bs.W64) : Arg w' A n ws := ⟨(h [] (by simp)).at, hl, hok⟩
/-- While a right side is computed: the box of the web, the result's box, the box of the side. -/
structure Rs (w0 : World) (v : Nat) (wa wb : Value) (b : Nat) (A : Option Addr) (n c : Nat) (zs : List Nat) (u : World) : Prop where
  wx : Fb u w0.heap.size #[.int .i64 v, wa, wb] 68
  rx : Fb u (w0.heap.size + 1) #[.int .i64 0, .slice none 0 0] 41
  px : Fb u b #[.int .i64 v, .slice A n c] 41
  gb : w0.heap.size + 2 ≤ b
  pv : Arg u A n zs
  fit : Bs.Fit v zs
  bel : Below w0.heap.size w0 u
theorem Rs.below {w0 u u' : World} {v : Nat} {wa wb : Value} {b : Nat} {A : Option Addr} {n c : Nat} {zs : List Nat} (h : Rs w0 v wa wb b A n c zs u) (hb : Below u.heap.size u u') : Rs w0 v wa wb b A n c zs u' :=
  ⟨h.wx.below hb h.wx.lt, h.rx.below hb h.rx.lt, h.px.below hb h.px.lt, h.gb, h.pv.below hb, h.fit, below_step h.bel hb⟩
theorem Rs.put {w0 u : World} {v : Nat} {wa wb : Value} {b : Nat} {A : Option Addr} {n c : Nat} {zs : List Nat} (h : Rs w0 v wa wb b A n c zs u) {A2 : Option Addr} {n2 c2 : Nat} {zs2 : List Nat} (ha : Arg u A2 n2 zs2) (hf : Bs.Fit v zs2) :
    Rs w0 v wa wb b A2 n2 c2 zs2 ((u.setCell ⟨b, 0, none⟩ (.int .i64 v)).setCell ⟨b, 1, none⟩ (.slice A2 n2 c2)) := by
  have hg := h.gb
  exact ⟨(h.wx.far (by simp; omega) _).far (by simp; omega) _, (h.rx.far (by simp; omega) _).far (by simp; omega) _, (h.px.set 0 _).set 1 _, hg, Arg.store ha (show Box u b v A n c from h.px) v A2 n2 c2, hf,
    (h.bel.setCell (by simp; omega) _).setCell (by simp; omega) _⟩
/-- The two boxes ahead. -/
structure Rs0 (w0 : World) (v : Nat) (wa wb : Value) (u : World) : Prop where
  wx : Fb u w0.heap.size #[.int .i64 v, wa, wb] 68
  rx : Fb u (w0.heap.size + 1) #[.int .i64 0, .slice none 0 0] 41
  bel : Below w0.heap.size w0 u
  sz : w0.heap.size + 2 ≤ u.heap.size
theorem Rs0.below {w0 u u' : World} {v : Nat} {wa wb : Value} (h : Rs0 w0 v wa wb u) (hb : Below u.heap.size u u') : Rs0 w0 v wa wb u' :=
  ⟨h.wx.below hb h.wx.lt, h.rx.below hb h.rx.lt, below_step h.bel hb, by have := hb.size; have := h.sz; omega⟩
theorem Rs0.one {w0 u : World} {v : Nat} {wa wb : Value} (h : Rs0 w0 v wa wb u) {b : Nat} {A2 : Option Addr} {n2 c2 : Nat} {zs : List Nat} (hb : Fb u b #[.int .i64 0, .slice none 0 0] 41) (hg : w0.heap.size + 2 ≤ b) (ha : Arg u A2 n2 zs) (hf : Bs.Fit v zs) :
    Rs w0 v wa wb b A2 n2 c2 zs ((u.setCell ⟨b, 0, none⟩ (.int .i64 v)).setCell ⟨b, 1, none⟩ (.slice A2 n2 c2)) :=
  ⟨(h.wx.far (by simp; omega) _).far (by simp; omega) _, (h.rx.far (by simp; omega) _).far (by simp; omega) _, (hb.set 0 _).set 1 _, hg, Arg.store ha (show Box u b 0 none 0 0 from hb) v A2 n2 c2, hf,
    (h.bel.setCell (by simp; omega) _).setCell (by simp; omega) _⟩
theorem Rs0.two {w0 u : World} {v : Nat} {wa wb : Value} (h : Rs0 w0 v wa wb u) {A2 : Option Addr} {n2 c2 : Nat} {zs : List Nat} (ha : Arg u A2 n2 zs) (hf : Bs.Fit v zs) :
    Rs w0 v wa wb u.heap.size A2 n2 c2 zs (u.alloc (.cells #[.int .i64 v, .slice A2 n2 c2] 41)) := by
  have hb := (Below.refl u.heap.size u).alloc (Nat.le_refl _) (.cells #[.int .i64 v, .slice A2 n2 c2] 41)
  exact ⟨h.wx.below hb h.wx.lt, h.rx.below hb h.rx.lt, Fb.new u _ _, h.sz, ha.below hb, hf, below_step h.bel hb⟩
set_option maxHeartbeats 6400000 in
theorem rightSide_any (x : WB) (y : ZL) (v N k : Nat) (ex ex' : List (Option Nat)) (w : World) (hx : WBok w ex x) (hy : ZLok w ex' y) (ho : WOk x v N) (hvo : VOk y v N) (hk : k < N) :
    Calls Try.prog 94 #[x.a, .slice y.A y.n y.c, .int .i64 k] w (RetA w v (x.pw.right y.vs k)) := by
  have hv := ho.v256
  have hN := ho.n256
  obtain ⟨s, hs, hsm⟩ := get_at (show x.B.l.length = N by rw [hx.b.len, ho.bn]) hk
  obtain ⟨r, hr, hrm⟩ := get_at (show x.I.l.length = N by rw [hx.i.len, ho.inn]) hk
  obtain ⟨hsW, hsf⟩ := ho.bd s hsm
  obtain ⟨hrn, hra⟩ := ho.arcs r hrm
  have hvn : x.pw.v = v := by show x.W.toNat = v; rw [ho.w]; simp
  have Hgoal := hid (show x.pw.right y.vs k = side v y.vs s.ws ((r.l.take r.n).map AH.pa) by
    unfold PW.right
    rw [hvn, WB.arcs_at hr, show at0 x.pw.bd k = s.ws from at0_get (by show (x.B.l.map ZH.ws)[k]? = _; rw [List.getElem?_map, hs]; rfl), List.take_of_length_le (by rw [((hx.i.all r hrm).len)]; exact Nat.le_refl _)]
    rfl)
  have hW := ho.w
  have hbn := ho.bn
  have hin := ho.inn
  have hyn := hvo.n
  have HX := hid (fun (u : World) (hu : Below w.heap.size w u) => hx.below hu)
  have HY := hid (fun (u : World) (hu : Below w.heap.size w u) => hy.below hu)
  have Hra := hid hra; have Hs := hid hs; have Hr := hid hr; have Hsm := hid hsm; have Hrm := hid hrm
  have Hvo := hid hvo
  have Hsf := hid hsf
  have hsl := hsf.len
  have hsn : s.n ≤ 100 := by rw [← (hx.b.all s hsm).len, hsl]; unfold Bs.nw; omega
  have Hrl := hid (hx.i.all r hrm).len
  clear hx hy ho hvo hs hr hsm hrm hsf hra hsl
  generalize x.pw.right y.vs k = G at *
  obtain ⟨XW, ⟨BA, bn, bc, bl⟩, ⟨IA, inn, ic, il⟩⟩ := x
  obtain ⟨YA, yn, yc, yl⟩ := y
  unfold WB.a at *
  simp only at *
  subst XW
  subst bn
  subst inn
  subst yn
  have H0 := hid (show Rs0 w v (.slice BA N bc) (.slice IA N ic) ((w.alloc (.cells #[.int .i64 v, .slice BA N bc, .slice IA N ic] 68)).alloc (.cells #[.int .i64 0, .slice none 0 0] 41)) from by
    have hb := (Below.refl w.heap.size w).alloc (Nat.le_refl _) (.cells #[.int .i64 v, .slice BA N bc, .slice IA N ic] 68)
    have hb2 := hb.alloc hb.size (.cells #[.int .i64 0, .slice none 0 0] 41)
    refine ⟨(Fb.new w _ _).alloc _, ?_, hb2, by simp only [World.size_alloc]; omega⟩
    have := Fb.new (w.alloc (.cells #[.int .i64 v, .slice BA N bc, .slice IA N ic] 68)) #[.int .i64 0, .slice none 0 0] 41
    rwa [World.size_alloc] at this)
  go_enter Try.func94, Try.ntmps94
  go_wp2_with fail
  generalize (w.alloc (.cells #[.int .i64 v, .slice BA N bc, .slice IA N ic] 68)).alloc (.cells #[.int .i64 0, .slice none 0 0] 41) = w1 at *
  have H0 := hid (H0.out.below (Below.refl _ _).drew)
  have hz1 : w.heap.size + 2 ≤ w1.heap.size := H0.out.sz
  have k0 : (0 : Int) ≤ k := by omega
  have k1 : (k : Int) < N := by omega
  have k2 : (k : Int).toNat = k := by omega
  go_cut [7] (fun a wd => ∃ (b : Nat) (A2 : Option Addr) (n2 c2 : Nat), a = .pointer (some ⟨b, 0, none⟩) ∧ Hid (Rs w v (.slice BA N bc) (.slice IA N ic) b A2 n2 c2 s.ws wd))
  case first =>
    have Ha := hid (H0.out.below ((Below.refl _ _).alloc (Nat.le_refl _) (.cells #[.int .i64 0, .slice none 0 0] 41)))
    obtain ⟨ad, hA, had, c0, c1⟩ := (HX.out _ H0.out.bel).b.cell Hs.out
    obtain ⟨ad2, hA2, had2, e0, e1⟩ := (HX.out _ Ha.out.bel).b.cell Hs.out
    simp only at hA hA2
    subst hA
    obtain rfl := Option.some.inj hA2
    have e1a : (w1.alloc (.cells #[.int .i64 0, .slice none 0 0] 41)).cell? ⟨(ad.add (k * 2)).block, (ad.add (k * 2)).off + 1, none⟩ = some (.slice s.A s.n s.c) := e1
    obtain ⟨q0, q1, q2⟩ := H0.out.wx.three
    have hwa : Fb (w1.alloc (.cells #[.int .i64 0, .slice none 0 0] 41)) w.heap.size #[.int .i64 v, .slice (some ad) N bc, .slice IA N ic] 68 := Ha.out.wx
    obtain ⟨d0, d1, d2⟩ := hwa.three
    have HC := hid (fun (u : World) (hu : Below w.heap.size w u) => cloneW_any s.A s.n s.c s.ws u ((HX.out u hu).b.all s Hsm.out).arg hsn)
    have HZ := hid ((HX.out _ H0.out.bel).b.all s Hsm.out)
    clear hwa e0 c0 hA2
    go_region_law (
      (go_simp
       go_at_call 112
       refine (HC.out _ (by first | exact H0.out.bel | exact Ha.out.bel)).mono ?_
       rintro e u2 ⟨A2, k2', rfl, ha2, hb2⟩
       have HA2 := hid (ha2.arg HZ.out.len HZ.out.ok)
       have H2 := hid (Rs0.below (by first | exact H0.out | exact Ha.out) hb2)
       obtain ⟨z0, z1, z2⟩ := H2.out.wx.three
       have hwl := H2.out.wx.lt
       have hwb : Fb (u2.alloc (.cells #[.int .i64 0, .slice none 0 0] 41)) w.heap.size #[.int .i64 v, .slice (some ad) N bc, .slice IA N ic] 68 := H2.out.wx.alloc _
       obtain ⟨z3, z4, z5⟩ := hwb.three
       clear hwb z1 z2 z4 z5
       try (have hbx : Fb u2 w1.heap.size #[.int .i64 0, .slice none 0 0] 41 := (Fb.new w1.drew _ _).below hb2 (by simp)
            have x0 := hbx.cell 0
            have x1 := hbx.cell 1
            have y0 := hbx.frozen 0
            have y1 := hbx.frozen 1
            have hbl := hbx.lt)
       clear ha2 hb2))
    all_goals
      go_wp2_with fail
      go_meet
      first
      | exact ⟨_, A2, _, k2', rfl, hid (Rs0.one H2.out hbx hz1 HA2.out Hsf.out)⟩
      | exact ⟨_, A2, _, k2', rfl, hid (Rs0.two H2.out HA2.out Hsf.out)⟩
  case rest =>
    obtain ⟨b, A2, n2, c2, rfl, H1⟩ := hcut
    clear H0 hz1
    generalize hvs : ZL.vs ⟨YA, N, yc, yl⟩ = vs at *
    have Hvs := hid (fun (i : Nat) (t : ZH) (h : yl[i]? = some t) => show at0 vs i = t.ws by rw [← hvs]; exact ZL.vs_at h)
    clear hvs
    obtain ⟨rA, rn, rc, rl⟩ := r
    simp only at *
    obtain ⟨q0, q1, q2⟩ := H1.out.wx.three
    obtain ⟨adI, hI, hadI, i0⟩ := (HX.out _ H1.out.bel).i.cell Hr.out
    simp only at hI
    subst hI
    have Hst := hid (fun (j : Nat) (a : AH) (h : rl[j]? = some a) => side_take (v := v) (vals := vs) (s := s.ws) (r := ⟨rA, rn, rc, rl⟩) h)
    simp only at Hst
    go_wp2_with fail
    clear q0 q1 q2 i0 k0 k1 k2
    have H1' := hid (show Rs w v (.slice BA N bc) (.slice (some adI) N ic) b A2 n2 c2 (side v vs s.ws ((rl.take 0).map AH.pa)) wc from H1.out)
    go_loopw [9, 26] (fun _ iv wr => ∃ (j : Nat) (A3 : Option Addr) (n3 c3 : Nat), j ≤ rn ∧ iv = .int .i64 j ∧ Hid (Rs w v (.slice BA N bc) (.slice (some adI) N ic) b A3 n3 c3 (side v vs s.ws ((rl.take j).map AH.pa)) wr)) (fun _ iv _ => rn - (intOf iv).toNat)
    case atStart => exact ⟨0, A2, n2, c2, by omega, rfl, H1'⟩
    case round =>
      clear H1 H1'
      obtain ⟨j, A3, n3, c3, hj, rfl, HI⟩ := hrel
      by_cases hlt : j < rn
      · obtain ⟨a, ha, ham⟩ := get_at Hrl.out hlt
        have HE := hid (Hst.out j a ha)
        generalize side v vs s.ws ((rl.take j).map AH.pa) = zs at *
        generalize hz2 : side v vs s.ws ((rl.take (j + 1)).map AH.pa) = zs2 at *
        have Hz2 := hid hz2
        clear hz2
        obtain ⟨⟨hm0, hm1⟩, hfo⟩ := Hra.out a ham
        have hRow := (HX.out _ HI.out.bel).i.all _ Hrm.out
        obtain ⟨ad, hA, had, c0, c1', c2', c3', c4, c5⟩ := hRow.cell ha
        simp only at hA
        subst hA
        have HFa := hid (hRow.all a ham)
        clear hRow ha ham
        obtain ⟨am, f⟩ := a
        simp only at *
        obtain ⟨mn, rfl⟩ := Int.eq_ofNat_of_zero_le hm0
        have hmN : mn < N := by omega
        obtain ⟨t, ht, htm⟩ := get_at (show yl.length = N from (HY.out w (Below.refl _ _)).len) hmN
        have hba := (Below.refl wr.heap.size wr).alloc (Nat.le_refl _) (.cells #[.int .i64 (mn : Int), .int .i64 f.G.W, .slice f.G.A f.G.n f.G.c, .int .i64 f.K.W, .slice f.K.A f.K.n f.K.c, .slice f.C f.k f.q] 101)
        have HI2 := hid (HI.out.below hba)
        have HF2 := hid (HFa.out.below hba)
        have hY := HY.out _ HI2.out.bel
        obtain ⟨adV, hV, hadV, v0, v1⟩ := hY.cell ht
        simp only at hV
        subst hV
        have Hvt := hid (hY.all t htm)
        obtain ⟨htW, htf⟩ := Hvo.out.all t htm
        have Htf := hid htf
        have Hfo := hid hfo
        have HE2 := hid (show zs2 = orR v zs (valR f.G.ws t.ws (folB v f.K.ws f.cs) v) by
          rw [HE.out]
          simp only [Int.toNat_natCast, AH.pa]
          rw [Hvs.out mn t ht]
          rfl)
        clear HE hY hba htf hfo ht htm hm0 hm1
        obtain ⟨p0, p1⟩ := HI2.out.px.two
        obtain ⟨TW, TA, tn, tc, ts⟩ := t
        simp only at *
        subst htW
        have HJ := hid (join_any v hv A3 n3 c3 zs mn f adV N yc TA tn tc ts _ HI2.out.pv HI2.out.fit HF2.out.arg Hfo.out.w1 Hfo.out.w2 Hfo.out.ok hmN v0 v1 hadV Hvt.out.arg Htf.out)
        clear v0 v1 hadV
        obtain ⟨⟨GW, GA, gn, gc, gs⟩, ⟨KW, KA, kn, kc, ks⟩, C, kq, q, cs⟩ := f
        simp only at *
        go_wp2_with fail
        refine HJ.out.mono ?_
        rintro e w5 ⟨A4, n4, c4', rfl, ha4, hb4⟩
        clear p0 p1 c0 c1' c2' c3' c4 c5
        have HI5 := hid (HI2.out.below hb4)
        have Hfin := hid (show Rs w v (.slice BA N bc) (.slice (some adI) N ic) b A4 n4 c4' zs2 ((w5.setCell ⟨b, 0, none⟩ (.int .i64 v)).setCell ⟨b, 1, none⟩ (.slice A4 n4 c4')) from by
          rw [HE2.out]
          exact HI5.out.put ha4 (fit_orR _ _ _))
        obtain ⟨p0, p1⟩ := HI5.out.px.two
        have f0 := HI5.out.px.frozen 0
        have f1 := HI5.out.px.frozen 1
        have hpl := HI5.out.px.lt
        clear ha4 hb4
        go_wp2_with fail
        go_roundw
        case rel => exact ⟨j + 1, A4, n4, c4', by omega, by go_num, by rw [Hz2.out]; exact Hfin⟩
        case measure => simp [intOf]; omega
      · obtain rfl : j = rn := by omega
        obtain ⟨p0, p1⟩ := HI.out.px.two
        obtain ⟨r0, r1⟩ := HI.out.rx.two
        have f0 := HI.out.rx.frozen 0
        have f1 := HI.out.rx.frozen 1
        have hrl := HI.out.rx.lt
        go_wp2_with fail
        refine bodyPost_ret (v := .agg #[.int .i64 v, .slice A3 n3 c3]) (by simp [results, Try.results94, go_sem, r0, r1]) rfl ?_
        rw [Hgoal.out]
        exact ⟨A3, n3, c3, rfl, Arg.store HI.out.pv (show Box _ (w.heap.size + 1) 0 none 0 0 from HI.out.rx) v A3 n3 c3, (HI.out.bel.setCell (by simp) _).setCell (by simp) _⟩
end Go.Proofs.Ytbjaebbmajhjjaa

namespace Go.Proofs.Ytbjaebbmajhjjaa
set_option maxRecDepth 20000
set_option linter.unusedVariables false
set_option linter.unusedSimpArgs false
open Go.ChangeShapes Go.WideShapes Go.ChangeAt Go.RowKit

/-- The web of values of a valid web in memory. -/
structure PWok (p : PW) (v N : Nat) : Prop where
  v : p.v = v
  n : p.n = N
  ok : p.Ok
  inn : p.In
theorem WOk.pw {x : WB} {v N : Nat} {w : World} {ex : List (Option Nat)} (h : WOk x v N) (hx : WBok w ex x) : PWok x.pw v N := by
  have hn : x.pw.n = N := by show (x.I.l.map AL.pa).length = N; rw [List.length_map, hx.i.len, h.inn]
  have hv : x.pw.v = v := by show x.W.toNat = v; rw [h.w]; simp
  refine ⟨hv, hn, ⟨by rw [hn]; show (x.B.l.map ZH.ws).length = N; rw [List.length_map, hx.b.len, h.bn], fun s hs => ?_⟩, fun l hl a ha => ?_⟩
  · obtain ⟨z, hz, rfl⟩ := List.mem_map.1 hs
    rw [hv]
    exact (h.bd z hz).2
  · rw [hn]
    obtain ⟨r, hr, rfl⟩ := List.mem_map.1 hl
    obtain ⟨b, hb, rfl⟩ := List.mem_map.1 ha
    have := ((h.arcs r hr).2 b hb).1
    show b.m.toNat < N
    omega
/-- A row of sets of width v came back, made by the call. -/
def RetV (w : World) (v N : Nat) (vals : List (List Nat)) (e : Ending) (w' : World) : Prop :=
  ∃ (g : Nat) (l : List ZH), e = .returned (.slice (some ⟨g, 0, none⟩) N N) ∧ w.heap.size ≤ g ∧ VRow w' g N l ∧ (∀ z ∈ l, z.W = v ∧ Bs.Fit v z.ws) ∧ l.map ZH.ws = vals ∧ Below w.heap.size w w'
/-- The first k elements are done. -/
def Done (v k : Nat) (f : Nat → List Nat) (l : List ZH) : Prop := ∀ i, i < k → ∃ z, l[i]? = some z ∧ z.W = v ∧ z.ws = f i ∧ Bs.Fit v z.ws
theorem Done.put {v k : Nat} {f : Nat → List Nat} {l : List ZH} (h : Done v k f l) (hk : k < l.length) {z : ZH} (h1 : z.W = v) (h2 : z.ws = f k) (h3 : Bs.Fit v z.ws) : Done v (k + 1) f (l.set k z) := by
  intro i hi
  by_cases e : i = k
  · subst e
    exact ⟨z, by rw [List.getElem?_set_self hk], h1, h2, h3⟩
  · obtain ⟨y, hy, hr⟩ := h i (by omega)
    exact ⟨y, by rw [List.getElem?_set_ne (by omega)]; exact hy, hr⟩
theorem Done.all {v N : Nat} {f : Nat → List Nat} {l : List ZH} (h : Done v N f l) (hl : l.length = N) : (∀ z ∈ l, z.W = v ∧ Bs.Fit v z.ws) ∧ l.map ZH.ws = (List.range N).map f := by
  constructor
  · intro z hz
    obtain ⟨i, hi, e⟩ := List.mem_iff_getElem.1 hz
    obtain ⟨y, hy, h1, h2, h3⟩ := h i (by omega)
    rw [List.getElem?_eq_getElem hi, e] at hy
    obtain rfl := Option.some.inj hy
    exact ⟨h1, h3⟩
  · refine vals_ext (n := N) (by rw [List.length_map]; exact hl) (by simp) fun i hi => ?_
    obtain ⟨y, hy, h1, h2, h3⟩ := h i hi
    rw [at0_map hi, ← h2]
    exact at0_get (by rw [List.getElem?_map, hy]; rfl)
/-- While the right sides are computed. -/
structure Rss (w0 : World) (v N g : Nat) (wa wb : Value) (l : List ZH) (u : World) : Prop where
  wx : Fb u w0.heap.size #[.int .i64 v, wa, wb] 68
  row : VRow u g N l
  gb : w0.heap.size < g
  bel : Below w0.heap.size w0 u
section
variable {w0 u u' : World} {v N g : Nat} {wa wb : Value} {l : List ZH}
theorem Rss.below (h : Rss w0 v N g wa wb l u) (hb : Below u.heap.size u u') : Rss w0 v N g wa wb l u' := ⟨h.wx.below hb h.wx.lt, h.row.below hb, h.gb, below_step h.bel hb⟩
theorem Rss.put (h : Rss w0 v N g wa wb l u) {k : Nat} (hk : k < N) {z : ZH} (hz : Arg u z.A z.n z.ws) :
    Rss w0 v N g wa wb (l.set k z) ((u.setCell ⟨g, k * 2, none⟩ (.int .i64 z.W)).setCell ⟨g, k * 2 + 1, none⟩ (.slice z.A z.n z.c)) := by
  have hg := h.gb
  exact ⟨(h.wx.far (by simp; omega) _).far (by simp; omega) _, h.row.put hk hz, hg, (h.bel.setCell (by simp; omega) _).setCell (by simp; omega) _⟩
end
set_option maxHeartbeats 6400000 in
theorem rightSides_any (x : WB) (y : ZL) (v N : Nat) (ex ex' : List (Option Nat)) (w : World) (hx : WBok w ex x) (hy : ZLok w ex' y) (ho : WOk x v N) (hvo : VOk y v N) :
    Calls Try.prog 59 #[x.a, .slice y.A y.n y.c] w (RetV w v N (x.pw.rights y.vs)) := by
  have hN := ho.n256
  have hp := ho.pw hx
  have Hgoal := hid (show x.pw.rights y.vs = (List.range N).map (x.pw.right y.vs) by unfold PW.rights; rw [hp.n])
  have Hfit := hid (fun (k : Nat) (hk : k < N) => show Bs.Fit v (x.pw.right y.vs k) by
    have := hp.ok.right y.vs (k := k) (by rw [hp.n]; exact hk)
    rwa [hp.v] at this)
  have HR := hid (fun (u : World) (hu : Below w.heap.size w u) (k : Nat) (hk : k < N) => rightSide_any x y v N k ex ex' u (hx.below hu) (hy.below hu) ho hvo hk)
  have hW := ho.w
  have hbn := ho.bn
  have hin := ho.inn
  clear hx hy ho hvo hp
  generalize x.pw.rights y.vs = G at *
  generalize x.pw.right y.vs = f at *
  obtain ⟨XW, ⟨BA, bn, bc, bl⟩, ⟨IA, inn, ic, il⟩⟩ := x
  obtain ⟨YA, yn, yc, yl⟩ := y
  unfold WB.a at *
  simp only at *
  subst XW
  subst bn
  subst inn
  have hmk := run_mksets N (by omega)
  have H0 := hid (show Rss w v N (w.heap.size + 1) (.slice BA N bc) (.slice IA N ic) (List.replicate N z0) ((w.alloc (.cells #[.int .i64 v, .slice BA N bc, .slice IA N ic] 68)).alloc (.cells ((List.replicate N z0).flatMap ZH.cs).toArray 41)) from by
    have hb := (Below.refl w.heap.size w).alloc (Nat.le_refl _) (.cells #[.int .i64 v, .slice BA N bc, .slice IA N ic] 68)
    have hr := VRow.new (w.alloc (.cells #[.int .i64 v, .slice BA N bc, .slice IA N ic] 68)) N
    rw [World.size_alloc] at hr
    exact ⟨(Fb.new w _ _).alloc _, hr, by omega, hb.alloc hb.size _⟩)
  have H0' := hid (show Done v 0 f (List.replicate N z0) from fun i hi => by omega)
  generalize hl0 : List.replicate N z0 = l0 at *
  clear hl0
  go_enter Try.func59, Try.ntmps59
  go_wp2_with fail
  clear hmk
  generalize (w.alloc (.cells #[.int .i64 v, .slice BA N bc, .slice IA N ic] 68)).alloc (.cells (l0.flatMap ZH.cs).toArray 41) = w1 at *
  generalize hg1 : w.heap.size + 1 = g at *
  have Hg := hid hg1
  clear hg1
  go_loopw [6, 13] (fun _ iv wr => ∃ (k : Nat) (l : List ZH), k ≤ N ∧ iv = .int .i64 k ∧ Hid (Rss w v N g (.slice BA N bc) (.slice IA N ic) l wr) ∧ Hid (Done v k f l)) (fun _ iv _ => N - (intOf iv).toNat)
  case atStart => exact ⟨0, l0, by omega, rfl, H0, H0'⟩
  case round =>
    clear H0 H0'
    obtain ⟨k, l, hk, rfl, HI, HD⟩ := hrel
    by_cases hlt : k < N
    · obtain ⟨q0, q1, q2⟩ := HI.out.wx.three
      go_wp2_with fail
      refine (HR.out _ HI.out.bel k hlt).mono ?_
      rintro e w5 ⟨A, n, c, rfl, ha, hb⟩
      clear q0 q1 q2
      have HI5 := hid (HI.out.below hb)
      have Hfin := hid (HI5.out.put (k := k) hlt (z := ⟨v, A, n, c, f k⟩) ha)
      have HD5 := hid (HD.out.put (k := k) (by rw [HI.out.row.len]; exact hlt) (z := ⟨v, A, n, c, f k⟩) rfl rfl (Hfit.out k hlt))
      simp only at Hfin
      obtain ⟨y, hy, -⟩ := get_at HI5.out.row.len hlt
      obtain ⟨p0, p1⟩ := HI5.out.row.cells hy
      have f0 := HI5.out.row.fb.frozen (k * 2)
      have f1 := HI5.out.row.fb.frozen (k * 2 + 1)
      have hpl := HI5.out.row.lt
      have ea : (⟨g, 0, none⟩ : Addr).add (k * 2) = ⟨g, k * 2, none⟩ := add_of g (k * 2)
      clear ha hb hy
      go_wp2_with fail
      go_roundw
      case rel => exact ⟨k + 1, l.set k ⟨v, A, n, c, f k⟩, by omega, by go_num, Hfin, HD5⟩
      case measure => simp [intOf]; omega
    · obtain rfl : k = N := by omega
      obtain ⟨h1, h2⟩ := HD.out.all HI.out.row.len
      have Hr := hid (show RetV w v k G (.returned (.slice (some ⟨g, 0, none⟩) k k)) wr from ⟨g, l, rfl, by have := HI.out.gb; omega, HI.out.row, h1, h2.trans Hgoal.out.symm, HI.out.bel⟩)
      clear h1 h2
      go_wp2_with fail
      go_ret
      exact Hr.out
end Go.Proofs.Ytbjaebbmajhjjaa

namespace Go.Proofs.Ytbjaebbmajhjjaa
set_option maxRecDepth 20000
set_option linter.unusedVariables false
set_option linter.unusedSimpArgs false
open Go.ChangeShapes Go.WideShapes Go.ChangeAt Go.RowKit

/-- A block that holds bools. -/
structure BRow (w : World) (g N : Nat) (bs : List Bool) : Prop where
  fb : Fb w g (bs.map Value.bool).toArray 4
  len : bs.length = N
theorem BRow.below {w w' : World} {g N : Nat} {bs : List Bool} (h : BRow w g N bs) (hb : Below w.heap.size w w') : BRow w' g N bs := ⟨h.fb.below hb h.fb.lt, h.len⟩
theorem BRow.cell {w : World} {g N : Nat} {bs : List Bool} (h : BRow w g N bs) {k : Nat} {b : Bool} (hk : bs[k]? = some b) : w.cell? ⟨g, k, none⟩ = some (.bool b) := by
  rw [h.fb.cell]
  simp [hk]
theorem BRow.put {w : World} {g N : Nat} {bs : List Bool} (h : BRow w g N bs) (k : Nat) (b : Bool) : BRow (w.setCell ⟨g, k, none⟩ (.bool b)) g N (bs.set k b) := by
  refine ⟨?_, by rw [List.length_set]; exact h.len⟩
  have h1 := h.fb.set k (.bool b)
  have h2 : ((bs.map Value.bool).toArray.setIfInBounds k (.bool b)) = ((bs.set k b).map Value.bool).toArray := by
    rw [List.map_set]; simp
  rw [← h2]
  exact h1
theorem BRow.not_word {w : World} {g N : Nat} {bs : List Bool} (h : BRow w g N bs) {p : Addr} {x : Int} (hp : w.cell? p = some (.int .u64 x)) : p.block ≠ g := by
  rintro rfl
  have h1 := h.fb
  unfold Fb at h1
  unfold World.cell? at hp
  rw [h1] at hp
  simp only [] at hp
  split at hp
  · simp at hp
  · simp at hp
theorem BRow.arg_far {w : World} {g N : Nat} {bs : List Bool} (h : BRow w g N bs) {A : Option Addr} {n : Nat} {ws : List Nat} (ha : Arg w A n ws) : ws = [] ∨ ∀ ad, A = some ad → ad.block ≠ g := by
  cases ws with
  | nil => exact .inl rfl
  | cons x ws =>
    refine .inr fun ad e => ?_
    obtain ⟨ad', e', _, hc⟩ := ha.lies.cell (j := 0) (u := .int .u64 x) rfl
    rw [e] at e'
    obtain rfl := Option.some.inj e'
    have := h.not_word hc
    rwa [add_block] at this
/-- Writing bools leaves rows of sets alone. -/
theorem VRow.bools {w : World} {g N g' N' : Nat} {l : List ZH} {bs : List Bool} (h : VRow w g N l) (h' : BRow w g' N' bs) (hne : g ≠ g') (j : Nat) (u : Value) : VRow (w.setCell ⟨g', j, none⟩ u) g N l :=
  ⟨h.fb.far hne u, h.len, fun z hz => (h.all z hz).far (h'.arg_far (h.all z hz)) u⟩
theorem BRow.sets {w : World} {g N g' N' : Nat} {l : List ZH} {bs : List Bool} (h : BRow w g N bs) (hne : g ≠ g') (j : Nat) (u : Value) : BRow (w.setCell ⟨g', j, none⟩ u) g N bs := ⟨h.fb.far hne u, h.len⟩
theorem infoBool : (Try.prog.info? 4).map (fun i => (i.zero, i.size, i.bytes)) = some (some (.bool false), 1, 1) := by kernel_rfl
theorem run_mkbools (n : Nat) (hn : n ≤ 100000) (w : World) :
    (Instr.makeSlice 109 (.int .i64 (n : Int)) (.int .i64 (n : Int))).run Try.prog w = .ok (.slice (some ⟨w.heap.size, 0, none⟩) n n) (w.alloc (.cells ((List.replicate n false).map Value.bool).toArray 4)) := by
  obtain ⟨i, hi, hz0, hz1, hz2⟩ := info_parts infoBool
  have h := run_make (P := Try.prog) w 109 4 i (.bool false) Try.underlying109 hi hz0 .i64 .i64 n n (by omega) (by omega) (by rw [hz2]; omega) (by omega)
  rw [h, hz1]
  simp only [Int.toNat_natCast, Nat.mul_one]
  have e2 : madeCells (Value.bool false).cells n = ((List.replicate n false).map Value.bool).toArray := by
    apply Array.toList_inj.1
    rw [show (Value.bool false).cells = #[Value.bool false] from rfl, toList_madeCells_one]
    simp
  rw [e2]
theorem BRow.new (w : World) (N : Nat) : BRow (w.alloc (.cells ((List.replicate N false).map Value.bool).toArray 4)) w.heap.size N (List.replicate N false) := ⟨Fb.new w _ _, List.length_replicate⟩
set_option maxHeartbeats 1600000 in
theorem indexB_any (g N : Nat) (bs : List Bool) (w : World) (h : BRow w g N bs) (hN : N ≤ 100000) :
    Calls Try.prog 116 #[.slice (some ⟨g, 0, none⟩) N N, .bool true] w fun e w' => ∃ r : Int, e = .returned (.int .i64 r) ∧ decide (0 ≤ r) = bs.any id ∧ w = w' := by
  have HB := hid h
  clear h
  go_enter Try.func116, Try.ntmps116
  go_wp2_with fail
  go_loop [5, 8] (fun _ iv => ∃ k : Nat, k ≤ N ∧ iv = .int .i64 k ∧ Hid (∀ b ∈ bs.take k, (!b) = true)) (fun _ iv => N - (intOf iv).toNat)
  case atStart => exact ⟨0, by omega, rfl, hid (by simp)⟩
  case round =>
    obtain ⟨k, hk, rfl, hE⟩ := hrel
    by_cases hlt : k < N
    · obtain ⟨b, hb, hbm⟩ := get_at HB.out.len hlt
      have hc := HB.out.cell hb
      have hl := HB.out.fb.lt
      cases b with
      | true =>
        have Hr := hid (show decide (0 ≤ (k : Int)) = bs.any id by
          rw [List.any_eq_true.2 ⟨true, hbm, rfl⟩]; simp)
        clear hb hbm
        go_wp2_with fail
        go_ret
        exact ⟨k, rfl, Hr.out, rfl⟩
      | false =>
        have Hr := hid (all_take hE.out hb rfl)
        clear hb hbm
        go_wp2_with fail
        go_round
        case rel => exact ⟨k + 1, by omega, by go_num, Hr⟩
        case measure => simp [intOf]; omega
    · obtain rfl : k = N := by omega
      have Hr := hid (show decide ((0 : Int) ≤ -1) = bs.any id by
        have : bs.any id = false := List.any_eq_false.2 fun b hb => by
          have := hE.out b (by rw [List.take_of_length_le (by rw [HB.out.len]; exact Nat.le_refl _)]; exact hb)
          simpa using this
        rw [this]; rfl)
      go_wp2_with fail
      go_ret
      exact ⟨-1, rfl, Hr.out, rfl⟩
theorem containsB_any (g N : Nat) (bs : List Bool) (w : World) (h : BRow w g N bs) (hN : N ≤ 100000) :
    Calls Try.prog 88 #[.slice (some ⟨g, 0, none⟩) N N, .bool true] w fun e w' => e = .returned (.bool (bs.any id)) ∧ w = w' := by
  have HI := hid (indexB_any g N bs w h hN)
  clear h
  go_enter Try.func88, Try.ntmps88
  go_wp2_with fail
  refine HI.out.mono ?_
  rintro e w1 ⟨r, rfl, hr, rfl⟩
  have Hr := hid hr
  clear hr
  go_wp2_with fail
  go_ret
  exact ⟨ret_b Hr.out.symm, rfl⟩
end Go.Proofs.Ytbjaebbmajhjjaa

namespace Go.Proofs.Ytbjaebbmajhjjaa
set_option maxRecDepth 20000
set_option linter.unusedVariables false
set_option linter.unusedSimpArgs false
open Go.ChangeShapes Go.WideShapes Go.ChangeAt Go.RowKit

structure Adv (w0 : World) (v N gv gn gc gd : Nat) (x : WB) (lv l : List ZH) (cs ds : List Bool) (u : World) : Prop where
  wx : Fb u w0.heap.size #[.int .i64 v, .slice x.B.A x.B.n x.B.c, .slice x.I.A x.I.n x.I.c] 68
  rv : VRow u gv N lv
  rn : VRow u gn N l
  bc : BRow u gc N cs
  bd : BRow u gd N ds
  wk : WBok u [some gn, some gd] x
  gr : w0.grownBy u (some gn)
  nvn : gv ≠ gn
  ncn : gc ≠ gn
  lv : gv < w0.heap.size
  ln : gn < w0.heap.size
  lc : gc < w0.heap.size
  ld : w0.heap.size < gd
section
variable {w0 u u' : World} {v N gv gn gc gd : Nat} {x : WB} {lv l : List ZH} {cs ds : List Bool}
theorem Adv.below (h : Adv w0 v N gv gn gc gd x lv l cs ds u) (hb : Below u.heap.size u u') : Adv w0 v N gv gn gc gd x lv l cs ds u' :=
  ⟨h.wx.below hb h.wx.lt, h.rv.below hb, h.rn.below hb, h.bc.below hb, h.bd.below hb, h.wk.below hb, grown_trans h.gr (grown_of_below hb _), h.nvn, h.ncn, h.lv, h.ln, h.lc, h.ld⟩
/-- An element of the next values is written. -/
theorem Adv.put (h : Adv w0 v N gv gn gc gd x lv l cs ds u) {k : Nat} (hk : k < N) {z : ZH} (hz : Arg u z.A z.n z.ws) :
    Adv w0 v N gv gn gc gd x lv (l.set k z) cs ds ((u.setCell ⟨gn, k * 2, none⟩ (.int .i64 z.W)).setCell ⟨gn, k * 2 + 1, none⟩ (.slice z.A z.n z.c)) := by
  have hl := h.ln
  have hd := h.ld
  have g1 := setCell_grown u ⟨gn, k * 2, none⟩ (.int .i64 z.W)
  have g2 := setCell_grown (u.setCell ⟨gn, k * 2, none⟩ (.int .i64 z.W)) ⟨gn, k * 2 + 1, none⟩ (.slice z.A z.n z.c)
  have e : ∀ {A : Option Addr} {n : Nat} {ws : List Nat}, Arg u A n ws → Arg ((u.setCell ⟨gn, k * 2, none⟩ (.int .i64 z.W)).setCell ⟨gn, k * 2 + 1, none⟩ (.slice z.A z.n z.c)) A n ws := fun ha =>
    (ha.far (p := ⟨gn, k * 2, none⟩) (h.rn.arg_far ha) _).far (p := ⟨gn, k * 2 + 1, none⟩) (h.rn.arg_far ha) _
  exact ⟨(h.wx.far (by simp; omega) _).far (by simp; omega) _, ⟨(h.rv.fb.far h.nvn _).far h.nvn _, h.rv.len, fun y hy => e (h.rv.all y hy)⟩, h.rn.put hk hz, ⟨(h.bc.fb.far h.ncn _).far h.ncn _, h.bc.len⟩, ⟨(h.bd.fb.far (by simp; omega) _).far (by simp; omega) _, h.bd.len⟩,
    (h.wk.go (Go2.same g1 (.inr (by simp)))).go (Go2.same g2 (.inr (by simp))), grown_trans (grown_trans h.gr g1) g2, h.nvn, h.ncn, h.lv, h.ln, h.lc, h.ld⟩
/-- What differs is noted. -/
theorem Adv.note (h : Adv w0 v N gv gn gc gd x lv l cs ds u) (k : Nat) (b : Bool) : Adv w0 v N gv gn gc gd x lv l cs (ds.set k b) (u.setCell ⟨gd, k, none⟩ (.bool b)) := by
  have hv := h.lv
  have hl := h.ln
  have hc := h.lc
  have hd := h.ld
  have g1 := setCell_grown u ⟨gd, k, none⟩ (.bool b)
  exact ⟨h.wx.far (by simp; omega) _, h.rv.bools h.bd (by omega) _ _, h.rn.bools h.bd (by omega) _ _, ⟨h.bc.fb.far (by simp; omega) _, h.bc.len⟩, h.bd.put k b, h.wk.go (Go2.same g1 (.inr (by simp))), grown_set_new h.gr (by simp; omega) _, h.nvn, h.ncn, h.lv, h.ln, h.lc, h.ld⟩
theorem WBok.ext {w w' : World} {ex ex' : List (Option Nat)} {x : WB} (h : WBok w ex x) (hb : Below w.heap.size w w') (he : ∀ k, k < w.heap.size → some k ∈ ex' → some k ∈ ex) : WBok w' ex' x := h.go (Go2.grown (grown_of_below hb none) (.inl rfl) he)
/-- When it begins. -/
theorem Adv.start {w : World} {v N gv gn gc : Nat} {x : WB} {lv l : List ZH} {cs : List Bool} (hx : WBok w [some gn] x) (hW : x.W = v) (hv : VRow w gv N lv) (hn : VRow w gn N l) (hc : BRow w gc N cs) (hvn : gv ≠ gn) (hcn : gc ≠ gn) :
    Adv w v N gv gn gc (w.heap.size + 1) x lv l cs (List.replicate N false) ((w.alloc (.cells #[.int .i64 v, .slice x.B.A x.B.n x.B.c, .slice x.I.A x.I.n x.I.c] 68)).alloc (.cells ((List.replicate N false).map Value.bool).toArray 4)) := by
  have hb := (Below.refl w.heap.size w).alloc (Nat.le_refl _) (.cells #[.int .i64 v, .slice x.B.A x.B.n x.B.c, .slice x.I.A x.I.n x.I.c] 68)
  have hb2 := hb.alloc hb.size (.cells ((List.replicate N false).map Value.bool).toArray 4)
  have hd := BRow.new (w.alloc (.cells #[.int .i64 v, .slice x.B.A x.B.n x.B.c, .slice x.I.A x.I.n x.I.c] 68)) N
  rw [World.size_alloc] at hd
  exact ⟨(Fb.new w _ _).alloc _, hv.below hb2, hn.below hb2, hc.below hb2, hd, hx.ext hb2 (fun k hk hm => by
    simp only [List.mem_cons, Option.some.injEq, List.not_mem_nil, or_false] at hm
    rcases hm with rfl | rfl
    · simp
    · omega), grown_of_below hb2 _, hvn, hcn, hv.lt, hn.lt, hc.fb.lt, by omega⟩
/-- What comes back. -/
def RetAdv (w : World) (v N gv gn gc : Nat) (lv : List ZH) (cs : List Bool) (f : Nat → List Nat) (e : Ending) (w' : World) : Prop :=
  ∃ (gd : Nat) (l : List ZH) (ds : List Bool), e = .returned (.slice (some ⟨gd, 0, none⟩) N N) ∧ w.heap.size ≤ gd ∧ VRow w' gv N lv ∧ VRow w' gn N l ∧ BRow w' gd N ds ∧
    ((∀ z ∈ l, z.W = v ∧ Bs.Fit v z.ws) ∧ l.map ZH.ws = (List.range N).map f) ∧ ds = (List.range N).map (fun k => !decide (f k = at0 (lv.map ZH.ws) k)) ∧ w.grownBy w' (some gn)
end
end Go.Proofs.Ytbjaebbmajhjjaa

namespace Go.Proofs.Ytbjaebbmajhjjaa
set_option maxRecDepth 20000
set_option linter.unusedVariables false
set_option linter.unusedSimpArgs false
open Go.ChangeShapes Go.WideShapes Go.ChangeAt Go.RowKit

def zsame (p : ZH × ZH) : Bool := sameB p.1.W p.1.ws p.2.W p.2.ws
set_option maxHeartbeats 3200000 in
theorem sameSets_any (x y : ZL) (ex ex' : List (Option Nat)) (w : World) (hx : ZLok w ex x) (hy : ZLok w ex' y) (hf : ∀ z ∈ x.l, z.n ≤ maxLen) :
    Calls Try.prog 33 #[.slice x.A x.n x.c, .slice y.A y.n y.c] w fun e w' => e = .returned (.bool (decide (x.n = y.n) && (x.l.zip y.l).all zsame)) ∧ Below w.heap.size w w' := by
  have HX := hid hx
  have HY := hid hy
  have HL := hid hx.len
  have HM := hid hy.len
  have hxf := hx.few
  have hyf := hy.few
  have Hf := hid hf
  clear hx hy hf
  obtain ⟨A, n, c, l⟩ := x
  obtain ⟨B, m, d, k'⟩ := y
  simp only at *
  go_enter Try.func33, Try.ntmps33
  by_cases h1 : n = m
  · subst h1
    have t1 : ((n : Int) != (n : Int)) = false := by simp
    have Hd := hid (show (decide (n = n) && (l.zip k').all zsame) = (l.zip k').all zsame by simp)
    generalize (decide (n = n) && (l.zip k').all zsame) = R at *
    have HZ := hid (show (l.zip k').length = n by rw [List.length_zip, HL.out, HM.out]; simp)
    go_wp2_with fail
    clear t1
    go_loopw [5] (fun iv wr => ∃ k : Nat, k ≤ n ∧ iv = .int .i64 k ∧ Hid (Below w.heap.size w wr) ∧ Hid (∀ p ∈ (l.zip k').take k, zsame p = true)) (fun iv _ => n - (intOf iv).toNat)
    case atStart => exact ⟨0, by omega, rfl, hid (Below.refl _ _), hid (by simp)⟩
    case round =>
      obtain ⟨k, hk, rfl, HB, hE⟩ := hrel
      by_cases hlt : k < n
      · obtain ⟨a, ha, ham⟩ := get_at HL.out hlt
        obtain ⟨b, hb, hbm⟩ := get_at HM.out hlt
        have hz : (l.zip k')[k]? = some (a, b) := List.getElem?_zip_eq_some.2 ⟨ha, hb⟩
        have hBd := HB.out.drew
        obtain ⟨ad, hA, had, c0, c1⟩ := (HX.out.below hBd).cell ha
        obtain ⟨ad2, hB, had2, e0, e1⟩ := (HY.out.below hBd).cell hb
        simp only at hA hB
        subst hA
        subst hB
        have Hno := hid (fun hp : zsame (a, b) = false => Hd.out.trans (all_no hz hp))
        have Hyes := hid (fun hp : zsame (a, b) = true => all_take hE.out hz hp)
        have HC := hid (refSame_any a.W b.W a.A b.A a.n a.c b.n b.c a.ws b.ws wr.drew ((HX.out.below hBd).all a ham).arg ((HY.out.below hBd).all b hbm).arg (Hf.out a ham))
        have HBd := hid hBd
        unfold zsame at Hno Hyes
        simp only at Hno Hyes
        clear ha hb ham hbm hz hBd
        have k0 : (0 : Int) ≤ k := by omega
        have k1 : (k : Int) < n := by omega
        have k2 : (k : Int).toNat = k := by omega
        cases hs : sameB a.W a.ws b.W b.ws with
        | false =>
          rw [hs] at HC
          have Hr := hid (Hno.out hs)
          clear hs Hno Hyes
          go_wp2_with fail
          go_region_with (first
            | (go_at_call 44
               go_must (
               refine HC.out.mono ?_
               rintro e w6 ⟨rfl, hb6⟩
               have HB6 := hid (below_step HBd.out hb6)
               clear hb6)))
          all_goals
            go_wp2_with fail
            go_ret
            exact ⟨ret_b Hr.out, HB6.out⟩
        | true =>
          rw [hs] at HC
          have Hr := hid (Hyes.out hs)
          clear hs Hno Hyes
          go_wp2_with fail
          go_region_with (first
            | (go_at_call 44
               go_must (
               refine HC.out.mono ?_
               rintro e w6 ⟨rfl, hb6⟩
               have HB6 := hid (below_step HBd.out hb6)
               clear hb6)))
          all_goals
            go_wp2_with fail
            go_roundw
            case rel => exact ⟨k + 1, by omega, by go_num, HB6, Hr⟩
            case measure => simp [intOf]; omega
      · obtain rfl : k = n := by omega
        have Hr := hid (Hd.out.trans (all_yes HZ.out hE.out))
        go_wp2_with fail
        go_ret
        exact ⟨ret_b Hr.out, HB.out⟩
  · have t1 : ((n : Int) != (m : Int)) = true := by simp; omega
    have Hr := hid (show (decide (n = m) && (l.zip k').all zsame) = false by simp [h1])
    clear h1
    go_wp2_with fail
    go_ret
    exact ⟨ret_b Hr.out, Below.refl _ _⟩
end Go.Proofs.Ytbjaebbmajhjjaa

namespace Go.Proofs.Ytbjaebbmajhjjaa
set_option maxRecDepth 20000
set_option linter.unusedVariables false
set_option linter.unusedSimpArgs false
open Go.ChangeShapes Go.WideShapes Go.ChangeAt Go.RowKit

/-- The side while the arcs into an unknown are gone through. -/
def advS (v : Nat) (vals : List (List Nat)) (ch : Nat → Bool) (s : List Nat) (rl : List AH) (j : Nat) : List Nat := side v vals s (((rl.take j).map AH.pa).filter fun a => ch a.1)
theorem advS_zero (v : Nat) (vals : List (List Nat)) (ch : Nat → Bool) (s : List Nat) (rl : List AH) : advS v vals ch s rl 0 = s := rfl
theorem advS_next {v : Nat} {vals : List (List Nat)} {ch : Nat → Bool} {s : List Nat} {rl : List AH} {j : Nat} {a : AH} (h : rl[j]? = some a) : advS v vals ch s rl (j + 1) = if ch a.m.toNat then orR v (advS v vals ch s rl j) (a.f.pf.vl v (at0 vals a.m.toNat)) else advS v vals ch s rl j := by
  unfold advS
  rw [List.take_add_one, h, List.map_append, List.filter_append]
  show side v vals s (_ ++ [a.pa].filter fun a => ch a.1) = _
  cases hc : ch a.m.toNat with
  | true =>
    rw [show [a.pa].filter (fun a => ch a.1) = [a.pa] by rw [List.filter_cons, if_pos (show ch a.pa.1 = true from hc)]; rfl]
    exact side_snoc _ _ _ _ _
  | false =>
    rw [show [a.pa].filter (fun a => ch a.1) = [] by rw [List.filter_cons, if_neg (show ¬ ch a.pa.1 = true by rw [show ch a.pa.1 = false from hc]; decide)]; rfl, List.append_nil]
    rfl
theorem fit_advS {v : Nat} {vals : List (List Nat)} {ch : Nat → Bool} {s : List Nat} {rl : List AH} {j : Nat} (h : Bs.Fit v s) : Bs.Fit v (advS v vals ch s rl j) := fit_side h
theorem Adv.drew {w0 u : World} {v N gv gn gc gd : Nat} {x : WB} {lv l : List ZH} {cs ds : List Bool} (h : Adv w0 v N gv gn gc gd x lv l cs ds u) : Adv w0 v N gv gn gc gd x lv l cs ds u.drew := h.below (Below.refl _ _).drew
set_option maxHeartbeats 12800000 in
theorem advance_any (x : WB) (lv l0 : List ZH) (cs : List Bool) (v N gv gn gc : Nat) (w : World) (hx : WBok w [some gn] x) (ho : WOk x v N) (hv : VRow w gv N lv) (hvo : ∀ z ∈ lv, z.W = v ∧ Bs.Fit v z.ws) (hn : VRow w gn N l0) (hc : BRow w gc N cs) (hvn : gv ≠ gn) (hcn : gc ≠ gn) :
    Calls Try.prog 89 #[x.a, .slice (some ⟨gv, 0, none⟩) N N, .slice (some ⟨gn, 0, none⟩) N N, .slice (some ⟨gc, 0, none⟩) N N] w
      (RetAdv w v N gv gn gc lv cs (x.pw.adv (lv.map ZH.ws) (fun m => cs.getD m false))) := by
  have hN := ho.n256
  have hv256 := ho.v256
  have hp := ho.pw hx
  have HA0 := hid (Adv.start hx ho.w hv hn hc hvn hcn)
  have Hlv := hid hv.len
  have Hvo := hid hvo
  have Hcl := hid hc.len
  have hW := ho.w
  have hbn := ho.bn
  have hin := ho.inn
  have Harcs := hid ho.arcs
  have Hil := hid (show x.I.l.length = N by rw [hx.i.len, ho.inn])
  have Hadv := hid (fun (k : Nat) (r : AL) (hr : x.I.l[k]? = some r) => show x.pw.adv (lv.map ZH.ws) (fun m => cs.getD m false) k = side v (lv.map ZH.ws) (at0 (lv.map ZH.ws) k) ((r.l.map AH.pa).filter fun a => cs.getD a.1 false) by
    unfold PW.adv; rw [hp.v, WB.arcs_at hr]; rfl)
  clear hx ho hv hvo hn hc hp
  generalize x.pw.adv (lv.map ZH.ws) (fun m => cs.getD m false) = f at *
  have Hvs := hid (fun (i : Nat) (t : ZH) (h : lv[i]? = some t) => show at0 (lv.map ZH.ws) i = t.ws from at0_get (by rw [List.getElem?_map, h]; rfl))
  obtain ⟨XW, ⟨BA, bn, bc, bl⟩, ⟨IA, inn, ic, il⟩⟩ := x
  unfold WB.a at *
  simp only at *
  subst XW
  subst bn
  subst inn
  generalize hX : (⟨v, ⟨BA, N, bc, bl⟩, ⟨IA, N, ic, il⟩⟩ : WB) = X at *
  have Hwx := hid (fun (gd : Nat) (l : List ZH) (ds : List Bool) (u : World) (h : Adv w v N gv gn gc gd X lv l cs ds u) => show (u.cell? ⟨w.heap.size, 0, none⟩ = some (.int .i64 v) ∧ u.cell? ⟨w.heap.size, 1, none⟩ = some (.slice BA N bc) ∧ u.cell? ⟨w.heap.size, 2, none⟩ = some (.slice IA N ic)) from by
    have := h.wx
    rw [← hX] at this
    exact this.three)
  have Hi := hid (fun (gd : Nat) (l : List ZH) (ds : List Bool) (u : World) (h : Adv w v N gv gn gc gd X lv l cs ds u) => show AMok u [some gn, some gd] ⟨IA, N, ic, il⟩ from by
    have := h.wk.i
    rw [← hX] at this
    exact this)
  have hmk := run_mkbools N (by omega)
  have HD0 := hid (show Done v 0 f l0 from fun i hi => by omega)
  have HE0 := hid (show ∀ i, i < 0 → (List.replicate N false)[i]? = some (!decide (f i = at0 (lv.map ZH.ws) i)) from fun i hi => by omega)
  have HEl := hid (show (List.replicate N false).length = N from List.length_replicate)
  have HA1 := hid (show Adv w v N gv gn gc (w.heap.size + 1) X lv l0 cs (List.replicate N false) ((w.alloc (.cells #[.int .i64 v, .slice BA N bc, .slice IA N ic] 68)).alloc (.cells ((List.replicate N false).map Value.bool).toArray 4)) from by
    have := HA0.out
    rw [← hX] at this ⊢
    exact this)
  clear HA0 hX
  generalize hds : List.replicate N false = ds0 at *
  clear hds
  go_enter Try.func89, Try.ntmps89
  go_wp2_with fail
  clear hmk
  generalize (w.alloc (.cells #[.int .i64 v, .slice BA N bc, .slice IA N ic] 68)).alloc (.cells (ds0.map Value.bool).toArray 4) = w1 at *
  generalize hg1 : w.heap.size + 1 = gd at *
  have Hg := hid hg1
  clear hg1
  go_loopw [10, 11, 12, 20] (fun _ _ _ iv wr => ∃ (k : Nat) (l : List ZH) (ds : List Bool), k ≤ N ∧ iv = .int .i64 k ∧ Hid (Adv w v N gv gn gc gd X lv l cs ds wr) ∧ Hid (Done v k f l) ∧ Hid (∀ i, i < k → ds[i]? = some (!decide (f i = at0 (lv.map ZH.ws) i)))) (fun _ _ _ iv _ => N - (intOf iv).toNat)
  case atStart => exact ⟨0, l0, ds0, by omega, rfl, HA1, HD0, HE0⟩
  case round =>
    clear HA1 HD0 HE0
    obtain ⟨k, l, ds, hk, rfl, HI, HD, HE⟩ := hrel
    by_cases hlt : k < N
    · obtain ⟨r, hr, hrm⟩ := get_at Hil.out hlt
      obtain ⟨adI, hI, hadI, i0⟩ := (Hi.out _ _ _ _ HI.out).cell hr
      simp only at hI
      obtain ⟨t, ht, htm⟩ := get_at Hlv.out hlt
      obtain ⟨v0, v1⟩ := HI.out.rv.cells ht
      obtain ⟨y, hy, -⟩ := get_at HI.out.rn.len hlt
      obtain ⟨p0, p1⟩ := HI.out.rn.cells hy
      have f0 := HI.out.rn.fb.frozen (k * 2)
      have f1 := HI.out.rn.fb.frozen (k * 2 + 1)
      have hpl := HI.out.rn.lt
      have hvl := HI.out.rv.lt
      have htA := HI.out.rv.all t htm
      obtain ⟨htW, htf⟩ := Hvo.out t htm
      have Hput := hid (HI.out.put (k := k) hlt (z := t) htA)
      have Hr := hid hr
      have Hrm := hid hrm
      have Hfk := hid (Hadv.out k r hr)
      have Hrl := hid ((Hi.out _ _ _ _ HI.out).all r hrm).len
      have Hak := hid (Hvs.out k t ht)
      have Ht := hid ht
      have Htm := hid htm
      have Htf := hid htf
      have Hly := hid (show (l.set k t)[k]? = some t from by rw [List.getElem?_set_self (by rw [HI.out.rn.len]; exact hlt)])
      have HDp := hid (show Done v k f (l.set k t) from fun i hi => by
        obtain ⟨q, hq, hq2⟩ := HD.out i hi
        exact ⟨q, by rw [List.getElem?_set_ne (by omega)]; exact hq, hq2⟩)
      obtain ⟨q0, q1, q2⟩ := Hwx.out _ _ _ _ HI.out
      subst hI
      clear hr hrm ht htm hy htA htf
      obtain ⟨TW, TA, tn, tc, ts⟩ := t
      simp only at *
      subst htW
      go_wp2_with fail
      generalize (wr.setCell ⟨gn, k * 2, none⟩ (.int .i64 v)).setCell ⟨gn, k * 2 + 1, none⟩ (.slice TA tn tc) = w5 at *
      clear v0 v1 p0 p1 f0 f1 hpl hvl q0 q1 q2 i0 hadI
      obtain ⟨rA, rn, rc, rl⟩ := r
      simp only at *
      obtain ⟨hrn, hra⟩ := Harcs.out _ Hrm.out
      have Hra := hid hra
      clear hra
      simp only at hrn Hra
      have Hl1 := hid (show (l.set k ⟨v, TA, tn, tc, ts⟩)[k]? = some ⟨v, TA, tn, tc, ts⟩ ∧ ((⟨v, TA, tn, tc, ts⟩ : ZH).W = v ∧ (⟨v, TA, tn, tc, ts⟩ : ZH).ws = advS v (lv.map ZH.ws) (fun m => cs.getD m false) ts rl 0) from ⟨Hly.out, rfl, rfl⟩)
      have Hfe := hid (show f k = advS v (lv.map ZH.ws) (fun m => cs.getD m false) ts rl rn from by
        rw [Hfk.out, Hak.out]
        unfold advS
        rw [List.take_of_length_le (by rw [Hrl.out]; exact Nat.le_refl _)])
      clear Hfk Hly
      go_loopw [12, 34] (fun _ jv wr => ∃ (j : Nat) (l1 : List ZH) (z : ZH), j ≤ rn ∧ jv = .int .i64 j ∧ Hid (Adv w v N gv gn gc gd X lv l1 cs ds wr) ∧ Hid (Done v k f l1) ∧ Hid (l1[k]? = some z ∧ (z.W = v ∧ z.ws = advS v (lv.map ZH.ws) (fun m => cs.getD m false) ts rl j))) (fun _ jv _ => rn - (intOf jv).toNat)
      case atStart => exact ⟨0, _, _, by omega, rfl, Hput, HDp, Hl1⟩
      case round =>
        clear Hput HDp Hl1 HI HD
        obtain ⟨j, l1, z, hj, rfl, HI1, HD1, HZ⟩ := hrel
        by_cases hlj : j < rn
        · obtain ⟨a, ha, ham⟩ := get_at Hrl.out hlj
          have hrow := (Hi.out _ _ _ _ HI1.out).all _ Hrm.out
          obtain ⟨ad, hA, had, c0, c1, c2, c3, c4, c5⟩ := hrow.cell ha
          simp only at hA
          subst hA
          obtain ⟨⟨hm0, hm1⟩, hfo⟩ := Hra.out a ham
          have hFa := hrow.all a ham
          have HE1 := hid (advS_next (v := v) (vals := lv.map ZH.ws) (ch := fun m => cs.getD m false) (s := ts) ha)
          clear hrow ha ham
          obtain ⟨am, fh⟩ := a
          simp only at *
          obtain ⟨mn, rfl⟩ := Int.eq_ofNat_of_zero_le hm0
          have hmN : mn < N := by omega
          have k0 : (0 : Int) ≤ mn := hm0
          have k1 : (mn : Int) < N := hm1
          have k2 : (mn : Int).toNat = mn := by omega
          have j0 : (0 : Int) ≤ j := by omega
          have j1 : (j : Int) < rn := by omega
          have j2 : (j : Int).toNat = j := by omega
          have n0 : (0 : Int) ≤ k := by omega
          have n1 : (k : Int) < N := by omega
          have n2 : (k : Int).toNat = k := by omega
          obtain ⟨bb, hbb, -⟩ := get_at Hcl.out hmN
          have hcb := HI1.out.bc.cell hbb
          have hbd : cs.getD mn false = bb := by rw [List.getD_eq_getElem?_getD, hbb]; rfl
          have hgl := HI1.out.bc.fb.lt
          rw [k2, hbd] at HE1
          cases bb with
          | false =>
            have HZ2 := hid (show l1[k]? = some z ∧ (z.W = v ∧ z.ws = advS v (lv.map ZH.ws) (fun m => cs.getD m false) ts rl (j + 1)) from ⟨HZ.out.1, HZ.out.2.1, HZ.out.2.2.trans HE1.out.symm⟩)
            clear hbb hbd hFa hfo hm0 hm1 HE1
            go_wp2_with fail
            go_roundw
            case rel => exact ⟨j + 1, l1, z, by omega, by go_num, HI1, HD1, HZ2⟩
            case measure => simp [intOf]; omega
          | true =>
            obtain ⟨t2, ht2, ht2m⟩ := get_at Hlv.out hmN
            obtain ⟨v0, v1⟩ := HI1.out.rv.cells ht2
            obtain ⟨p0, p1⟩ := HI1.out.rn.cells HZ.out.1
            obtain ⟨ht2W, ht2f⟩ := Hvo.out t2 ht2m
            have hzm : z ∈ l1 := List.mem_of_getElem? HZ.out.1
            have hzA := HI1.out.rn.all z hzm
            have hzf : Bs.Fit v z.ws := by rw [HZ.out.2.2]; exact fit_advS Htf.out
            have hzW := HZ.out.2.1
            have ht2A := HI1.out.rv.all t2 ht2m
            have hE2 : advS v (lv.map ZH.ws) (fun m => cs.getD m false) ts rl (j + 1) = orR v z.ws (valR fh.G.ws t2.ws (folB v fh.K.ws fh.cs) v) := by
              rw [HE1.out, HZ.out.2.2, Hvs.out mn t2 ht2]; rfl
            have HE2 := hid hE2
            clear hE2 HE1
            have HId := hid HI1.out.drew
            obtain ⟨TW2, TA2, tn2, tc2, ts2⟩ := t2
            obtain ⟨ZW, ZA, zn, zc, zs⟩ := z
            simp only at *
            subst ht2W
            subst hzW
            have bd := (Below.refl wr.heap.size wr).drew
            have HJ := hid (join_any v hv256 ZA zn zc zs mn fh ⟨gv, 0, none⟩ N N TA2 tn2 tc2 ts2 wr.drew (hzA.below bd) hzf (hFa.below bd).arg hfo.w1 hfo.w2 hfo.ok hmN (by rw [add_of]; exact v0) (by rw [add_of]; exact v1) HId.out.rv.lt (ht2A.below bd) ht2f)
            obtain ⟨⟨GW, GA, gn', gc', gs⟩, ⟨KW, KA, kn, kc, ks⟩, C, kq, q, css⟩ := fh
            simp only at *
            have d0 : wr.drew.cell? (ad.add (j * 6)) = _ := c0
            have d1 : wr.drew.cell? ⟨(ad.add (j * 6)).block, (ad.add (j * 6)).off + 1, none⟩ = _ := c1
            have d2 : wr.drew.cell? ⟨(ad.add (j * 6)).block, (ad.add (j * 6)).off + 2, none⟩ = _ := c2
            have d3 : wr.drew.cell? ⟨(ad.add (j * 6)).block, (ad.add (j * 6)).off + 3, none⟩ = _ := c3
            have d4 : wr.drew.cell? ⟨(ad.add (j * 6)).block, (ad.add (j * 6)).off + 4, none⟩ = _ := c4
            have d5 : wr.drew.cell? ⟨(ad.add (j * 6)).block, (ad.add (j * 6)).off + 5, none⟩ = _ := c5
            have d6 : wr.drew.cell? ⟨gn, k * 2, none⟩ = _ := p0
            have d7 : wr.drew.cell? ⟨gn, k * 2 + 1, none⟩ = _ := p1
            clear hbb hbd hFa hfo hm0 hm1 v0 v1 hzA hzf ht2A ht2f ht2 ht2m hzm bd
            go_wp2_with fail
            go_region_with (first
              | (go_at_call 117
                 go_must (
                 refine HJ.out.mono ?_
                 rintro e w6 ⟨A6, n6, c6, rfl, ha6, hb6⟩
                 have HI6 := hid (HId.out.below hb6)
                 have Hfin := hid (HI6.out.put (k := k) hlt (z := ⟨v, A6, n6, c6, orR v zs (valR gs ts2 (folB v ks css) v)⟩) ha6)
                 obtain ⟨p60, p61⟩ := HI6.out.rn.cells HZ.out.1
                 have f60 := HI6.out.rn.fb.frozen (k * 2)
                 have f61 := HI6.out.rn.fb.frozen (k * 2 + 1)
                 have hl6 := HI6.out.rn.lt
                 clear ha6 hb6)))
            all_goals
              go_wp2_with fail
              go_roundw
              case rel => exact ⟨j + 1, l1.set k ⟨v, A6, n6, c6, orR v zs (valR gs ts2 (folB v ks css) v)⟩, ⟨v, A6, n6, c6, orR v zs (valR gs ts2 (folB v ks css) v)⟩, by omega, by go_num, Hfin,
                hid (fun i hi => by
                  obtain ⟨q, hq, hq2⟩ := HD1.out i hi
                  exact ⟨q, by rw [List.getElem?_set_ne (by omega)]; exact hq, hq2⟩),
                hid ⟨by rw [List.getElem?_set_self (by rw [HI1.out.rn.len]; exact hlt)], rfl, HE2.out.symm⟩⟩
              case measure => simp [intOf]; omega
        · obtain rfl : j = rn := by omega
          have HId := hid HI1.out.drew
          have hzm : z ∈ l1 := List.mem_of_getElem? HZ.out.1
          have hzA := HId.out.rn.all z hzm
          have hzf : Bs.Fit v z.ws := by rw [HZ.out.2.2]; exact fit_advS Htf.out
          have hzW := HZ.out.2.1
          have hfk : f k = z.ws := Hfe.out.trans HZ.out.2.2.symm
          have htA := HId.out.rv.all _ Htm.out
          have hzn : z.n ≤ maxLen := by
            have h1 := hzA.len
            have h2 := hzf.len
            rw [← h1, h2]
            unfold Bs.nw maxLen
            omega
          have Hlast := hid (show Done v (k + 1) f l1 from fun i hi => by
            by_cases e : i = k
            · subst e
              exact ⟨z, HZ.out.1, hzW, hfk.symm, hzf⟩
            · exact HD1.out i (by omega))
          obtain ⟨b0, hb0, -⟩ := get_at HId.out.bd.len hlt
          have hbk := HId.out.bd.cell hb0
          obtain ⟨p0, p1⟩ := HId.out.rn.cells HZ.out.1
          obtain ⟨v0, v1⟩ := HId.out.rv.cells Ht.out
          have hnl := HId.out.rn.lt
          have hvl := HId.out.rv.lt
          have hEq : equalB v z.ws v ts = decide (f k = at0 (lv.map ZH.ws) k) := by
            unfold equalB sameB
            rw [Bs.valid_of_fit hzf hv256, Bs.valid_of_fit Htf.out hv256, hfk, Hak.out]
            simp
          have HC := hid (devEqual_any v v z.A TA z.n z.c tn tc z.ws ts wr.drew hzA htA hzn)
          rw [hEq] at HC
          have n0 : (0 : Int) ≤ k := by omega
          have n1 : (k : Int) < N := by omega
          have n2 : (k : Int).toNat = k := by omega
          have HE2 := hid (show ∀ i, i < k + 1 → (ds.set k (!decide (f k = at0 (lv.map ZH.ws) k)))[i]? = some (!decide (f i = at0 (lv.map ZH.ws) i)) from fun i hi => by
            by_cases e : i = k
            · subst e
              rw [List.getElem?_set_self (by rw [HId.out.bd.len]; exact hlt)]
            · rw [List.getElem?_set_ne (by omega)]
              exact HE.out i (by omega))
          generalize hbb : decide (f k = at0 (lv.map ZH.ws) k) = bb at *
          obtain ⟨ZW, ZA, zn, zc, zs⟩ := z
          simp only at *
          subst hzW
          clear hzm hzA hzf hfk htA hzn hEq hb0 hbb HE HD1 Hfe
          go_wp2_with fail
          go_region_with (first
            | (go_at_call 57
               go_must (
               refine HC.out.mono ?_
               rintro e w6 ⟨rfl, hb6⟩
               have HI6 := hid (HId.out.below hb6)
               have Hfin := hid (HI6.out.note k (!bb))
               have hb60 := hb6.cell (p := ⟨gd, k, none⟩) HId.out.bd.fb.lt
               have hbk6 := hb60.trans hbk
               have f60 := HI6.out.bd.fb.frozen k
               have hl6 := HI6.out.bd.fb.lt
               clear hb60 hb6)))
          all_goals
            go_wp2_with fail
            go_roundw
            case rel => exact ⟨k + 1, l1, ds.set k (!bb), by omega, by go_num, Hfin, Hlast, HE2⟩
            case measure => simp [intOf]; omega
    · obtain rfl : k = N := by omega
      have hal := HD.out.all HI.out.rn.len
      have hdse : ds = (List.range k).map (fun i => !decide (f i = at0 (lv.map ZH.ws) i)) := by
        apply List.ext_getElem?
        intro i
        by_cases hi : i < k
        · rw [HE.out i hi, List.getElem?_map, List.getElem?_range hi]; rfl
        · rw [List.getElem?_eq_none (by rw [HI.out.bd.len]; omega), List.getElem?_eq_none (by simp; omega)]
      have Hr := hid (show RetAdv w v k gv gn gc lv cs f (.returned (.slice (some ⟨gd, 0, none⟩) k k)) wr from ⟨gd, l, ds, rfl, by have := HI.out.ld; omega, HI.out.rv, HI.out.rn, HI.out.bd, hal, hdse, HI.out.gr⟩)
      clear hal hdse
      go_wp2_with fail
      go_ret
      exact Hr.out
end Go.Proofs.Ytbjaebbmajhjjaa
