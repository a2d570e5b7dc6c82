/- The tape's SpoilSet returns some set, and changes nothing but the tape. -/
import Derived.Test.YtopkmeceakjocaaSet
import Derived.Deep.AppendLies
import Derived.Deep.RegionHeld3
import Derived.Deep.RegionLaw
namespace Go.Proofs.Ytopkmeceakjocaa
set_option maxRecDepth 10000
open Go.ChangeShapes Go.WideShapes Go.ChangeAt Go.RowKit

/-- append onto a row of the call's own that is not nil, as a step of a region: where the new slice lies. -/
theorem step_app {P : Program} {ops : Array Oper} {o : Oper} {a : Act} {w : World} {K : Act → World → Prop} {Q : Exit → Act → World → Prop} {E : Prop} (hgd : o.guard = none) (s x : Operand) (t : TypeId)
    (ho : o.op = .call { callee := .builtin .append, args := #[s, x], argTypes := #[t, t] })
    (base : Nat) (e : TypeId) (i : TypeInfo) (z : Value) (bytes : Nat) (ht : P.underlying t = some (.slice e)) (hi : P.info? e = some i) (hz : i.zero = some z)
    (hsize : i.size = 1) (hby : i.bytes = bytes) (hzs : z.cells.size = 1)
    (g0 n c0 : Nat) (xs : List Value) (hs : a.eval s = .slice (some ⟨g0, 0, none⟩) n c0) (hown : w.ownsRow base e 1 (.slice (some ⟨g0, 0, none⟩) n c0) n xs)
    (ad : Addr) (m c : Nat) (news : List Value) (hx : a.eval x = .slice (some ad) m c) (hl : news.length = m) (hnews : ∀ j u, news[j]? = some u → w.cell? (ad.add j) = some u) (h1 : ∀ u ∈ news, u.oneCell' = true)
    (h63 : n + m ≤ maxLen) (hbytes : (n + m) * bytes ≤ 140737488355328) (hbase : base ≤ w.heap.size)
    (h : ∀ g cap w', w'.ownsRow base e 1 (.slice (some ⟨g, 0, none⟩) (n + m) cap) (n + m) (xs ++ news) → w.grownBy w' (some g0) → (g = g0 ∨ g = w.heap.size) → K (a.put o.dst (.slice (some ⟨g, 0, none⟩) (n + m) cap)) w') :
    if Region.wanted o (yielded ops a.tmps) = true then Oper.wp P o a w K Q else E := by
  have hw : Region.wanted o (yielded ops a.tmps) = true := by simp [Region.wanted, hgd]
  rw [if_pos hw]
  obtain ⟨v', w', hrun, h2, h3, h4, h5⟩ := run_append_own_at (P := P) w base t o.type e i z 1 bytes ht hi hz hsize hby hzs (by decide) (.slice (some ⟨g0, 0, none⟩) n c0) n xs hown ad m c news (by omega) hnews h1 h63 hbytes hbase
  have hne : v' ≠ .slice none 0 0 := by intro hv; exact absurd (h4.1 hv).1 (by simp)
  rcases h2.2 with ⟨hv, _⟩ | ⟨g, cap, cur, rfl, hb⟩
  · exact absurd hv hne
  · have h5' : g = g0 ∨ g = w.heap.size := by simpa [Value.ownBlock] using h5
    unfold Oper.wp execOp
    simp only [ho, resolve, invoke, builtin, Sem.run_bind, Sem.run_pure, Result.andThen_ok, List.map_toArray, List.map_cons, List.map_nil, hs, hx, hrun]
    exact h g cap w' h2 h3 h5'

theorem Arg.cells {w w1 : World} {ad : Addr} {n : Nat} {ws : List Nat} (h : Arg w (some ad) n ws) (hb : Below w.heap.size w w1) : ∀ j u, (words ws)[j]? = some u → w1.cell? (ad.add j) = some u := by
  intro j u hu
  obtain ⟨ad', e, hlt, hc⟩ := h.lies.cell hu
  injection e with e
  subst e
  exact (hb.cell (by rw [add_block]; exact hlt)).trans hc

theorem info62' : (Try.prog.info? 93).map (fun i => (i.zero, i.size, i.bytes)) = some (some (.int .u64 0), 1, 8) := by kernel_rfl

/-- Some set came back; nothing but the tape has changed. -/
def GenAny (w : World) (T : Nat) (e : Ending) (w' : World) : Prop :=
  ∃ (W : Int) (ad : Addr) (n c : Nat) (ws : List Nat), e = .returned (.agg #[.int .i64 W, .slice (some ad) n c]) ∧ n ≤ 60 ∧ Arg w' (some ad) n ws ∧ Tape w' T ∧ w.grownBy w' (some T)

/-- The copy that is spoiled: its variable b, its own words, the result's cell, the tape. -/
def Spoiled (w : World) (T b : Nat) (V : Int) (g n c : Nat) (ws : List Nat) (wr : World) : Prop :=
  Box wr b V (some ⟨g, 0, none⟩) n c ∧ wr.ownsRow (w.heap.size + 1 + 1) 93 1 (.slice (some ⟨g, 0, none⟩) n c) n (words ws) ∧ (∀ x ∈ ws, x < Bs.W64) ∧ w.heap.size + 1 + 1 ≤ b ∧ Box wr (w.heap.size + 1) 0 none 0 0 ∧ Tape wr T ∧ w.grownBy wr (some T)

theorem empty_own (w : World) (base k : Nat) (h : base ≤ w.heap.size) (hk : k = w.heap.size) : (w.alloc (.cells #[] 93)).ownsRow base 93 1 (.slice (some ⟨k, 0, none⟩) 0 0) 0 [] := by
  subst hk; exact World.ownsRow_lit w #[] 0 h (by simp [maxLen]) rfl
theorem Box.at_new {w : World} {W : Int} {A : Option Addr} {n c k : Nat} (hk : k = w.heap.size) : Box (w.alloc (.cells #[.int .i64 W, .slice A n c] 50)) k W A n c := by
  subst hk; exact Box.new _ _ _ _ _
theorem Box.drew {w : World} {b : Nat} {W : Int} {A : Option Addr} {n c : Nat} (h : Box w b W A n c) : Box w.drew b W A n c := h

theorem ord1 (w : World) (W : Int) (A : Option Addr) (n c : Nat) :
    World.ownsRow (World.drew (((w.alloc (.cells #[.int .i64 W, .slice A n c] 50)).alloc (.cells #[.int .i64 0, .slice none 0 0] 50)).alloc (.cells #[] 93))) (w.heap.size + 1 + 1) 93 1 (.slice (some ⟨w.heap.size + 1 + 1, 0, none⟩) 0 0) 0 [] ∧
    Box (World.drew (((w.alloc (.cells #[.int .i64 W, .slice A n c] 50)).alloc (.cells #[.int .i64 0, .slice none 0 0] 50)).alloc (.cells #[] 93))) w.heap.size W A n c ∧
    Box (World.drew (((w.alloc (.cells #[.int .i64 W, .slice A n c] 50)).alloc (.cells #[.int .i64 0, .slice none 0 0] 50)).alloc (.cells #[] 93))) (w.heap.size + 1) 0 none 0 0 ∧
    Below w.heap.size w (World.drew (((w.alloc (.cells #[.int .i64 W, .slice A n c] 50)).alloc (.cells #[.int .i64 0, .slice none 0 0] 50)).alloc (.cells #[] 93))) :=
  ⟨(empty_own _ _ _ (by simp) (by simp)).drew, (((Box.new w _ _ _ _).alloc _).alloc _).drew, ((Box.at_new (by simp)).alloc _).drew, ((below2 w _ _).alloc (by simp only [World.size_alloc]; omega) _).drew⟩
theorem ord2 (w : World) (W : Int) (A : Option Addr) (n c : Nat) :
    World.ownsRow (World.drew ((((w.alloc (.cells #[.int .i64 W, .slice A n c] 50)).alloc (.cells #[.int .i64 0, .slice none 0 0] 50)).alloc (.cells #[] 93)).alloc (.cells #[.int .i64 0, .slice none 0 0] 50))) (w.heap.size + 1 + 1) 93 1 (.slice (some ⟨w.heap.size + 1 + 1, 0, none⟩) 0 0) 0 [] ∧
    Box (World.drew ((((w.alloc (.cells #[.int .i64 W, .slice A n c] 50)).alloc (.cells #[.int .i64 0, .slice none 0 0] 50)).alloc (.cells #[] 93)).alloc (.cells #[.int .i64 0, .slice none 0 0] 50))) w.heap.size W A n c ∧
    Box (World.drew ((((w.alloc (.cells #[.int .i64 W, .slice A n c] 50)).alloc (.cells #[.int .i64 0, .slice none 0 0] 50)).alloc (.cells #[] 93)).alloc (.cells #[.int .i64 0, .slice none 0 0] 50))) (w.heap.size + 1) 0 none 0 0 ∧
    Box (World.drew ((((w.alloc (.cells #[.int .i64 W, .slice A n c] 50)).alloc (.cells #[.int .i64 0, .slice none 0 0] 50)).alloc (.cells #[] 93)).alloc (.cells #[.int .i64 0, .slice none 0 0] 50))) (w.heap.size + 1 + 1 + 1) 0 none 0 0 ∧
    Below w.heap.size w (World.drew ((((w.alloc (.cells #[.int .i64 W, .slice A n c] 50)).alloc (.cells #[.int .i64 0, .slice none 0 0] 50)).alloc (.cells #[] 93)).alloc (.cells #[.int .i64 0, .slice none 0 0] 50))) :=
  ⟨((empty_own _ _ _ (by simp) (by simp)).alloc _).drew, ((((Box.new w _ _ _ _).alloc _).alloc _).alloc _).drew, (((Box.at_new (by simp)).alloc _).alloc _).drew, (Box.at_new (by simp)).drew, (((below2 w _ _).alloc (by simp only [World.size_alloc]; omega) _).alloc (by simp only [World.size_alloc]; omega) _).drew⟩
theorem ord3 (w : World) (W : Int) (A : Option Addr) (n c : Nat) :
    World.ownsRow (World.drew ((((w.alloc (.cells #[.int .i64 W, .slice A n c] 50)).alloc (.cells #[.int .i64 0, .slice none 0 0] 50)).alloc (.cells #[.int .i64 0, .slice none 0 0] 50)).alloc (.cells #[] 93))) (w.heap.size + 1 + 1) 93 1 (.slice (some ⟨w.heap.size + 1 + 1 + 1, 0, none⟩) 0 0) 0 [] ∧
    Box (World.drew ((((w.alloc (.cells #[.int .i64 W, .slice A n c] 50)).alloc (.cells #[.int .i64 0, .slice none 0 0] 50)).alloc (.cells #[.int .i64 0, .slice none 0 0] 50)).alloc (.cells #[] 93))) w.heap.size W A n c ∧
    Box (World.drew ((((w.alloc (.cells #[.int .i64 W, .slice A n c] 50)).alloc (.cells #[.int .i64 0, .slice none 0 0] 50)).alloc (.cells #[.int .i64 0, .slice none 0 0] 50)).alloc (.cells #[] 93))) (w.heap.size + 1) 0 none 0 0 ∧
    Box (World.drew ((((w.alloc (.cells #[.int .i64 W, .slice A n c] 50)).alloc (.cells #[.int .i64 0, .slice none 0 0] 50)).alloc (.cells #[.int .i64 0, .slice none 0 0] 50)).alloc (.cells #[] 93))) (w.heap.size + 1 + 1) 0 none 0 0 ∧
    Below w.heap.size w (World.drew ((((w.alloc (.cells #[.int .i64 W, .slice A n c] 50)).alloc (.cells #[.int .i64 0, .slice none 0 0] 50)).alloc (.cells #[.int .i64 0, .slice none 0 0] 50)).alloc (.cells #[] 93))) :=
  ⟨(empty_own _ _ _ (by simp only [World.size_alloc]; omega) (by simp)).drew, ((((Box.new w _ _ _ _).alloc _).alloc _).alloc _).drew, (((Box.at_new (by simp)).alloc _).alloc _).drew, ((Box.at_new (by simp)).alloc _).drew, (((below2 w _ _).alloc (by simp only [World.size_alloc]; omega) _).alloc (by simp only [World.size_alloc]; omega) _).drew⟩

theorem some_ne {a b : Nat} (h : a ≠ b) : some a ≠ some b := fun e => h (by injection e)
theorem cell_farS (w : World) {b g i j : Nat} (h : g ≠ b) (u : Value) : (w.setCell ⟨b, j, none⟩ u).cell? ⟨g, i, none⟩ = w.cell? ⟨g, i, none⟩ :=
  World.cell?_setCell_other w _ _ u (by intro e; injection e with e; exact h e.symm)
theorem Box.own_ne {w : World} {b g : Nat} {W : Int} {A : Option Addr} {n c base m d : Nat} {xs : List Value} (h : Box w b W A n c) (ho : w.ownsRow base 93 1 (.slice (some ⟨g, 0, none⟩) m d) m xs) : g ≠ b := by
  rintro rfl
  rcases ho.2 with ⟨hv, _⟩ | ⟨g', cap, cur, hv, _, hg, _⟩
  · cases hv
  · injection hv with h1 _ _
    injection h1 with h1
    injection h1 with h1
    subst h1
    unfold Box at h
    rw [h] at hg
    injection hg with hg
    injection hg with _ hg
    cases hg
theorem own_far {w : World} {b g base m d : Nat} {xs : List Value} (ho : w.ownsRow base 93 1 (.slice (some ⟨g, 0, none⟩) m d) m xs) (hne : g ≠ b) (j : Nat) (u : Value) : (w.setCell ⟨b, j, none⟩ u).ownsRow base 93 1 (.slice (some ⟨g, 0, none⟩) m d) m xs :=
  ho.kept (grown_set w b rfl u) (.inr (some_ne hne))
theorem own_ge {w : World} {g base m d : Nat} {xs : List Value} (ho : w.ownsRow base 93 1 (.slice (some ⟨g, 0, none⟩) m d) m xs) : base ≤ g ∧ g < w.heap.size := ho.lt g rfl
/-- Storing a new width and new words into the spoiled copy's variable. -/
theorem Spoiled.store {w wr : World} {T b : Nat} {V V' : Int} {A : Option Addr} {n c g' n' c' : Nat} {ws' : List Nat} (h : Box wr b V A n c) (hown : wr.ownsRow (w.heap.size + 1 + 1) 93 1 (.slice (some ⟨g', 0, none⟩) n' c') n' (words ws'))
    (hok : ∀ x ∈ ws', x < Bs.W64) (hb : w.heap.size + 1 + 1 ≤ b) (hr : Box wr (w.heap.size + 1) 0 none 0 0) (ht : Tape wr T) (hT : T < w.heap.size) (hg : w.grownBy wr (some T)) :
    Spoiled w T b V' g' n' c' ws' ((wr.setCell ⟨b, 0, none⟩ (.int .i64 V')).setCell ⟨b, 1, none⟩ (.slice (some ⟨g', 0, none⟩) n' c')) := by
  have hne := h.own_ne hown
  exact ⟨h.set _ _ _ _, own_far (own_far hown hne 0 _) hne 1 _, hok, hb, (hr.far (by simp; omega) _).far (by simp; omega) _, (ht.far (by simp; omega) _).far (by simp; omega) _, grown_set_new (grown_set_new hg (by simp; omega) _) (by simp; omega) _⟩
theorem Spoiled.tape {w wr w' : World} {T b : Nat} {V : Int} {g n c : Nat} {ws : List Nat} (h : Spoiled w T b V g n c ws wr) (hT : T < w.heap.size) (ht : Tape w' T) (hg : wr.grownBy w' (some T)) : Spoiled w T b V g n c ws w' := by
  obtain ⟨h1, h2, h3, h4, h5, _, h7⟩ := h
  have hge := own_ge h2
  refine ⟨h1.grown hg (some_ne (by omega)), h2.kept hg (.inr (some_ne ?_)), h3, h4, h5.grown hg (some_ne (by omega)), ht, grown_trans h7 hg⟩
  show g ≠ T
  omega
theorem Spoiled.drew {w wr : World} {T b : Nat} {V : Int} {g n c : Nat} {ws : List Nat} (h : Spoiled w T b V g n c ws wr) : Spoiled w T b V g n c ws wr.drew := by
  obtain ⟨h1, h2, h3, h4, h5, h6, h7⟩ := h
  exact ⟨h1, h2.drew, h3, h4, h5, h6.keep fun _ _ => rfl, grown_trans h7 (grown_drew _ _)⟩
theorem Spoiled.alloc {w wr : World} {T b : Nat} {V : Int} {g n c : Nat} {ws : List Nat} (h : Spoiled w T b V g n c ws wr) (o : Obj) : Spoiled w T b V g n c ws (wr.alloc o) := by
  obtain ⟨h1, h2, h3, h4, h5, h6, h7⟩ := h
  exact ⟨h1.alloc _, h2.alloc _, h3, h4, h5.alloc _, h6.alloc _, grown_trans h7 (grown_of_below ((Below.refl _ _).alloc (Nat.le_refl _) _) _)⟩
theorem Spoiled.width {w wr : World} {T b : Nat} {V : Int} {g n c : Nat} {ws : List Nat} (h : Spoiled w T b V g n c ws wr) (hT : T < w.heap.size) (V' : Int) : Spoiled w T b V' g n c ws (wr.setCell ⟨b, 0, none⟩ (.int .i64 V')) := by
  obtain ⟨h1, h2, h3, h4, h5, h6, h7⟩ := h
  have hne := h1.own_ne h2
  refine ⟨?_, own_far h2 hne 0 _, h3, h4, h5.far (by simp; omega) _, h6.far (by simp; omega) _, grown_set_new h7 (by simp; omega) _⟩
  unfold Box at h1 ⊢
  simp [World.setCell, Array.getElem?_modify, h1]
theorem Spoiled.slice {w wr : World} {T b : Nat} {V : Int} {A : Option Addr} {n c g' n' c' : Nat} {ws' : List Nat} (h1 : Box wr b V A n c) (h2 : wr.ownsRow (w.heap.size + 1 + 1) 93 1 (.slice (some ⟨g', 0, none⟩) n' c') n' (words ws'))
    (h3 : ∀ x ∈ ws', x < Bs.W64) (h4 : w.heap.size + 1 + 1 ≤ b) (h5 : Box wr (w.heap.size + 1) 0 none 0 0) (h6 : Tape wr T) (hT : T < w.heap.size) (h7 : w.grownBy wr (some T)) :
    Spoiled w T b V g' n' c' ws' (wr.setCell ⟨b, 1, none⟩ (.slice (some ⟨g', 0, none⟩) n' c')) := by
  have hne := h1.own_ne h2
  refine ⟨?_, own_far h2 hne 1 _, h3, h4, h5.far (by simp; omega) _, h6.far (by simp; omega) _, grown_set_new h7 (by simp; omega) _⟩
  unfold Box at h1 ⊢
  simp [World.setCell, Array.getElem?_modify, h1]
theorem Spoiled.vars {w wr : World} {T b : Nat} {V : Int} {g n c : Nat} {ws : List Nat} (h : Spoiled w T b V g n c ws wr) :
    ((wr.cell? ⟨b, 0, none⟩ = some (.int .i64 V) ∧ wr.cell? ⟨b, 1, none⟩ = some (.slice (some ⟨g, 0, none⟩) n c)) ∧ wr.frozen? ⟨b, 0, none⟩ = false ∧ wr.frozen? ⟨b, 1, none⟩ = false) ∧
    ((wr.cell? ⟨w.heap.size + 1, 0, none⟩ = some (.int .i64 0) ∧ wr.cell? ⟨w.heap.size + 1, 1, none⟩ = some (.slice none 0 0)) ∧ wr.frozen? ⟨w.heap.size + 1, 0, none⟩ = false ∧ wr.frozen? ⟨w.heap.size + 1, 1, none⟩ = false) ∧ w.heap.size + 1 ≠ b ∧ ws.length = n := by
  obtain ⟨h1, h2, h3, h4, h5, h6, h7⟩ := h
  exact ⟨⟨⟨h1.c0, h1.c1⟩, h1.f 0, h1.f 1⟩, ⟨⟨h5.c0, h5.c1⟩, h5.f 0, h5.f 1⟩, by omega, by have := h2.1; rw [words_len] at this; omega⟩
/-- The copy is handed back. -/
theorem Spoiled.done {w wr : World} {T b : Nat} {V : Int} {g n c : Nat} {ws : List Nat} (h : Spoiled w T b V g n c ws wr) (hT : T < w.heap.size) (hn : n ≤ 60) :
    GenAny w T (.returned (.agg #[.int .i64 V, .slice (some ⟨g, 0, none⟩) n c])) ((wr.setCell ⟨w.heap.size + 1, 0, none⟩ (.int .i64 V)).setCell ⟨w.heap.size + 1, 1, none⟩ (.slice (some ⟨g, 0, none⟩) n c)) := by
  obtain ⟨h1, h2, h3, h4, h5, h6, h7⟩ := h
  have hne := h5.own_ne h2
  have ho := own_far (own_far h2 hne 0 (.int .i64 V)) hne 1 (.slice (some ⟨g, 0, none⟩) n c)
  obtain ⟨A, c'', e, hat, hl⟩ := own_slice ho
  injection e with e1 e2 e3
  subst e1
  exact ⟨V, _, n, c, ws, rfl, hn, ⟨hat, by rw [← hl, words_len], h3⟩, (h6.far (by simp; omega) _).far (by simp; omega) _, grown_set_new (grown_set_new h7 (by simp) _) (by simp) _⟩
theorem wrap_small (k : Nat) (h : k < 64) : IntKind.u64.wrap (k : Int) = k := IntWalk.u64_in _ (by omega)
theorem words_snoc (ws : List Nat) (k : Nat) (h : k < 64) : words ws ++ [.int .u64 (IntKind.u64.wrap (k : Int))] = words (ws ++ [k]) := by
  rw [wrap_small k h]; simp [words, u64]
theorem words_set (ws : List Nat) (j x : Nat) : (words ws).set j (.int .u64 (x : Int)) = words (ws.set j x) := by
  unfold words u64; rw [List.map_set]
/-- Storing one word of the spoiled copy. -/
theorem Spoiled.word {w wr : World} {T b : Nat} {V : Int} {g n c : Nat} {ws : List Nat} (h : Spoiled w T b V g n c ws wr) (hT : T < w.heap.size) (j x : Nat) (hx : x < Bs.W64) : Spoiled w T b V g n c (ws.set j x) (wr.setCell ⟨g, j, none⟩ (.int .u64 (x : Int))) := by
  obtain ⟨h1, h2, h3, h4, h5, h6, h7⟩ := h
  have hne := h1.own_ne h2
  have hge := own_ge h2
  have hs := h2.stored j (.int .u64 (x : Int))
  rw [words_set] at hs
  refine ⟨h1.far (by simpa using Ne.symm hne) _, hs.1, ?_, h4, h5.far (by simp; omega) _, h6.far (by simp; omega) _, grown_set_new h7 (by simp; omega) _⟩
  intro y hy
  rcases List.mem_or_eq_of_mem_set hy with h | h
  · exact h3 y h
  · subst h; exact hx
theorem Spoiled.atWord {w wr : World} {T b : Nat} {V : Int} {g n c : Nat} {ws : List Nat} (h : Spoiled w T b V g n c ws wr) {j : Nat} (hj : j < n) :
    (wr.cell? ⟨g, j, none⟩ = some (.int .u64 (Bs.wd ws j)) ∧ wr.frozen? ⟨g, j, none⟩ = false) ∧ Bs.wd ws j < Bs.W64 ∧ g ≠ b := by
  obtain ⟨h1, h2, h3, h4, h5, h6, h7⟩ := h
  have hl : ws.length = n := by have := h2.1; rw [words_len] at this; omega
  exact ⟨⟨by rw [h2.cellAt j (by omega)]; exact words_get (by omega), h2.frozenAt j⟩, Bs.wd_lt h3 j, h1.own_ne h2⟩
theorem after_app {w W1 w3 : World} {g0 : Nat} (hB : Below w.heap.size w W1) (hg : W1.grownBy w3 (some g0)) (h0 : w.heap.size ≤ g0) : Below w.heap.size w w3 :=
  hB.grown hg hB.size (by intro k hk; injection hk with hk; omega)

set_option maxHeartbeats 1600000 in
theorem spoil_any (T : Nat) (W : Int) (ad : Addr) (n c : Nat) (ws : List Nat) (w : World) (ht : Tape w T) (hA : Arg w (some ad) n ws) (hn : n ≤ 50) (hW0 : 0 ≤ W) (hW1 : W ≤ 256) :
    Calls Try.prog 36 #[.pointer (some ⟨T, 0, none⟩), .agg #[.int .i64 W, .slice (some ad) n c]] w (GenAny w T) := by
  have hTl := ht.lt
  obtain ⟨i0, hi, hz0, hz1, hz2⟩ := info_parts info62'
  have Hi := hid hi; have Hz0 := hid hz0; have Hz1 := hid hz1; have Hz2 := hid hz2
  have HA := hid hA; have Ht := hid ht
  clear hA ht hi hz0 hz1 hz2
  go_enter Try.func36, Try.ntmps36
  go_upto_region 1 with fail
  go_cut [5] (fun s5 wc => ∃ b g c' : Nat, s5 = .pointer (some ⟨b, 0, none⟩) ∧ Hid (Spoiled w T b W g n c' ws wc))
  case first =>
    go_region_held3 (fun w' => w'.cell? ⟨w.heap.size, 0, none⟩ = some (.int .i64 W) ∧ w'.cell? ⟨w.heap.size, 1, none⟩ = some (.slice (some ad) n c))
      (first | go_keep | (refine ⟨?_, ?_⟩ <;> (rw [cell_farS _ (by omega), cell_farS _ (by omega)]; assumption)))
      (first
        | ((refine step_app (by rfl) _ _ 48 (by rfl) (w.heap.size + 1 + 1) 93 i0 _ 8 Try.underlying48 Hi.out Hz0.out Hz1.out Hz2.out rfl (w.heap.size + 1 + 1) 0 0 [] (by rfl)
              (by exact (ord1 w W (some ad) n c).1)
              ad n c (words ws) (by rfl) (by rw [words_len]; exact HA.out.len)
              (by exact HA.out.cells (ord1 w W (some ad) n c).2.2.2)
              (words_one ws) (by unfold maxLen; omega) (by omega) (by simp) ?_)
           intro g3 c3 w3 hown3 hgr3 hat3
           have hbx := (ord1 w W (some ad) n c).2.1.grown hgr3 (some_ne (by omega))
           have hbr := (ord1 w W (some ad) n c).2.2.1.grown hgr3 (some_ne (by omega))
           have hbw := after_app (ord1 w W (some ad) n c).2.2.2 hgr3 (by omega)
           have k0 := hbx.c0
           have k1 := hbx.c1
           have hown4 : w3.ownsRow (w.heap.size + 1 + 1) 93 1 (.slice (some ⟨g3, 0, none⟩) n c3) n (words ws) := (by simpa using hown3); have Hown3 := hid hown4; have hz3 := hbw.size; have hlt3 := hbr.lt; have Hbr := hid hbr; have Hbw := hid hbw
           clear hown3 hown4 hgr3 hbx hbr hbw)
        | ((refine step_app (by rfl) _ _ 48 (by rfl) (w.heap.size + 1 + 1) 93 i0 _ 8 Try.underlying48 Hi.out Hz0.out Hz1.out Hz2.out rfl (w.heap.size + 1 + 1) 0 0 [] (by rfl)
              (by exact (ord2 w W (some ad) n c).1)
              ad n c (words ws) (by rfl) (by rw [words_len]; exact HA.out.len)
              (by exact HA.out.cells (ord2 w W (some ad) n c).2.2.2.2)
              (words_one ws) (by unfold maxLen; omega) (by omega) (by simp) ?_)
           intro g3 c3 w3 hown3 hgr3 hat3
           have hbx := (ord2 w W (some ad) n c).2.1.grown hgr3 (some_ne (by omega))
           have hbr := (ord2 w W (some ad) n c).2.2.1.grown hgr3 (some_ne (by omega))
           have hb5 := (ord2 w W (some ad) n c).2.2.2.1.grown hgr3 (some_ne (by omega))
           have hbw := after_app (ord2 w W (some ad) n c).2.2.2.2 hgr3 (by omega)
           have k0 := hbx.c0
           have k1 := hbx.c1
           have k2 := hb5.c0
           have k3 := hb5.c1
           have k4 := hb5.f 0
           have k5 := hb5.f 1
           have Hb5 := hid hb5
           clear hb5
           have hown4 : w3.ownsRow (w.heap.size + 1 + 1) 93 1 (.slice (some ⟨g3, 0, none⟩) n c3) n (words ws) := (by simpa using hown3); have Hown3 := hid hown4; have hz3 := hbw.size; have hlt3 := hbr.lt; have Hbr := hid hbr; have Hbw := hid hbw
           clear hown3 hown4 hgr3 hbx hbr hbw)
        | ((refine step_app (by rfl) _ _ 48 (by rfl) (w.heap.size + 1 + 1) 93 i0 _ 8 Try.underlying48 Hi.out Hz0.out Hz1.out Hz2.out rfl (w.heap.size + 1 + 1 + 1) 0 0 [] (by rfl)
              (by exact (ord3 w W (some ad) n c).1)
              ad n c (words ws) (by rfl) (by rw [words_len]; exact HA.out.len)
              (by exact HA.out.cells (ord3 w W (some ad) n c).2.2.2.2)
              (words_one ws) (by unfold maxLen; omega) (by omega) (by simp) ?_)
           intro g3 c3 w3 hown3 hgr3 hat3
           have hbx := (ord3 w W (some ad) n c).2.1.grown hgr3 (some_ne (by omega))
           have hbr := (ord3 w W (some ad) n c).2.2.1.grown hgr3 (some_ne (by omega))
           have hb5 := (ord3 w W (some ad) n c).2.2.2.1.grown hgr3 (some_ne (by omega))
           have hbw := after_app (ord3 w W (some ad) n c).2.2.2.2 hgr3 (by omega)
           have k0 := hbx.c0
           have k1 := hbx.c1
           have k2 := hb5.c0
           have k3 := hb5.c1
           have k4 := hb5.f 0
           have k5 := hb5.f 1
           have Hb5 := hid hb5
           clear hb5
           have hown4 : w3.ownsRow (w.heap.size + 1 + 1) 93 1 (.slice (some ⟨g3, 0, none⟩) n c3) n (words ws) := (by simpa using hown3); have Hown3 := hid hown4; have hz3 := hbw.size; have hlt3 := hbr.lt; have Hbr := hid hbr; have Hbw := hid hbw
           clear hown3 hown4 hgr3 hbx hbr hbw)
        )
    · go_wp2_with fail
      go_meet
      exact ⟨_, g3, c3, rfl, hid ⟨Box.new _ _ _ _ _, Hown3.out.alloc _, HA.out.ok, by omega, Hbr.out.alloc _, (Ht.out.below Hbw.out hTl).alloc _, grown_of_below (Hbw.out.alloc hz3 _) _⟩⟩
    · go_wp2_with fail
      go_meet
      exact ⟨_, g3, c3, rfl, hid (Spoiled.store Hb5.out Hown3.out HA.out.ok (by omega) Hbr.out (Ht.out.below Hbw.out hTl) hTl (grown_of_below Hbw.out _))⟩
    · go_wp2_with fail
      go_meet
      exact ⟨_, g3, c3, rfl, hid (Spoiled.store Hb5.out Hown3.out HA.out.ok (by omega) Hbr.out (Ht.out.below Hbw.out hTl) hTl (grown_of_below Hbw.out _))⟩
  case rest =>
    obtain ⟨b, g, c', rfl, hS⟩ := hcut
    have htt := hS.out.2.2.2.2.2.1
    have Htt := hid htt
    clear htt HA Ht
    go_wp2_with fail
    refine (next_any T 4 _ Htt.out (by omega)).mono ?_
    rintro e w4 ⟨r4, rfl, h40, h41, ht4, hg4, hs4⟩
    have hS4 := hid (hS.out.tape hTl ht4 hg4)
    clear h41 ht4 hg4 hs4 hS Htt
    obtain ⟨⟨⟨x0, x1⟩, y0, y1⟩, ⟨⟨u0, u1⟩, v0, v1⟩, hne, hlen⟩ := hS4.out.vars
    have Hlen := hid hlen
    clear hlen
    by_cases c0 : r4 = 0
    · have t0 : (r4 == 0) = true := by simp [c0]
      clear c0
      go_wp2_with fail
      go_region_with (first
        | (go_at_call 10
           go_must (
           refine (next_any T 5 _ (by exact hS4.out.drew.2.2.2.2.2.1) (by omega)).mono ?_
           rintro e w5 ⟨r5, rfl, h50, h51, ht5, hg5, hs5⟩
           have hr5 : r5 < 5 := (by omega)
           have hS5 := hid (hS4.out.drew.tape hTl ht5 hg5)
           have hS6 := hid (hS5.out.width hTl (W + (r5 - 2)))
           obtain ⟨⟨⟨x0, x1⟩, y0, y1⟩, ⟨⟨u0, u1⟩, v0, v1⟩, hne, hlen⟩ := hS5.out.vars
           clear h51 ht5 hg5 hs5 hlen)))
      all_goals
        obtain ⟨_, ⟨⟨z0, z1⟩, _⟩, _⟩ := hS6.out.vars
        go_wp2_with fail
        exact bodyPost_ret (v := .agg #[.int .i64 (W + (r5 - 2)), .slice (some ⟨g, 0, none⟩) n c']) (by simp [results, Try.results36, go_sem, z0, z1]) rfl (hS6.out.done hTl (by omega))
    · have t0 : (r4 == 0) = false := by simp [c0]
      clear c0
      by_cases c1 : r4 = 1
      · have t1 : (r4 == 1) = true := by simp [c1]
        clear c1
        go_wp2_with fail
        go_region_law (first
          | ((refine step_app (by rfl) _ _ 48 (by rfl) (w.heap.size + 1 + 1) 93 i0 _ 8 Try.underlying48 Hi.out Hz0.out Hz1.out Hz2.out rfl g n c' (words ws) (by rfl)
                (by exact (hS5.out.alloc _).2.1)
                ⟨w5.heap.size, 0, none⟩ 1 1 [.int .u64 (IntKind.u64.wrap (k5 : Int))] (by rfl) rfl (by exact new_one _ _ _) (one_int _ _) (by unfold maxLen; omega) (by omega) (by have := own_ge hS5.out.2.1; simp only [World.size_alloc]; omega) ?_)
             intro g3 c3 w3 hown3 hgr3 hat3
             rw [words_snoc _ _ (by omega)] at hown3
             have hq := hS5.out.alloc (.cells #[.int .u64 (IntKind.u64.wrap (k5 : Int))] 93)
             have hqo := hq.1.own_ne hq.2.1
             have hqg := own_ge hS5.out.2.1
             have hbx3 := hq.1.grown hgr3 (some_ne (by omega))
             have hbr3 := hq.2.2.2.2.1.grown hgr3 (some_ne (by omega))
             have htp3 : Tape w3 T := hq.2.2.2.2.2.1.keep (fun k hk => hgr3.block k (by have := hq.2.2.2.2.2.1.lt; omega) (some_ne (by omega)))
             have hgw3 : w.grownBy w3 (some T) := ⟨hgr3.os.trans hq.2.2.2.2.2.2.os, hgr3.tape.trans hq.2.2.2.2.2.2.tape, hgr3.output.trans hq.2.2.2.2.2.2.output, Nat.le_trans hq.2.2.2.2.2.2.size hgr3.size, fun i hi hi2 => (hgr3.block i (by have := hq.2.2.2.2.2.2.size; omega) (some_ne (by omega))).trans (hq.2.2.2.2.2.2.block i hi hi2)⟩
             have hS6 := hid (Spoiled.slice (ws' := ws ++ [k5]) hbx3 hown3 (by intro x hx; rcases List.mem_append.1 hx with h | h; exact hq.2.2.1 x h; simp at h; subst h; unfold Bs.W64; omega) hq.2.2.2.1 hbr3 htp3 hTl hgw3)
             have x0 := hbx3.c0
             have x1 := hbx3.c1
             have y1 := hbx3.f 1
             obtain ⟨_, ⟨⟨z0, z1⟩, z2, z3⟩, z4, _⟩ := hS6.out.vars
             have u0 := hbr3.c0
             have u1 := hbr3.c1
             have v0 := hbr3.f 0
             have v1 := hbr3.f 1
             clear hown3 hgr3 hq hbx3 hbr3 htp3 hgw3)
          | (go_simp
             go_at_call 10
             go_must (
             refine (next_any T 2 _ (by exact hS4.out.drew.2.2.2.2.2.1) (by omega)).mono ?_
             rintro e w5 ⟨r5, rfl, h50, h51, ht5, hg5, hs5⟩
             obtain ⟨k5, rfl⟩ := Int.eq_ofNat_of_zero_le h50
             have hr5 : k5 < 2 := (by omega)
             have hS5 := hid (hS4.out.drew.tape hTl ht5 hg5)
             have hbl5 := hS5.out.1.lt
             obtain ⟨⟨⟨x0, x1⟩, y0, y1⟩, ⟨⟨u0, u1⟩, v0, v1⟩, hne, hlen⟩ := hS5.out.vars
             clear h51 ht5 hg5 hs5 hlen)))
        all_goals
          go_wp2_with fail
          exact bodyPost_ret (v := .agg #[.int .i64 W, .slice (some ⟨g3, 0, none⟩) (n + 1) c3]) (by simp [results, Try.results36, go_sem, z0, z1]) rfl (hS6.out.done hTl (by omega))
      · have t1 : (r4 == 1) = false := by simp [c1]
        clear c1
        by_cases c2 : r4 = 2
        · have t2 : (r4 == 2) = true := by simp [c2]
          clear c2
          by_cases hn0 : 0 < n
          · obtain ⟨m, rfl⟩ : ∃ m, n = m + 1 := ⟨n - 1, by omega⟩
            have hj : m < m + 1 := by omega
            obtain ⟨⟨q0, q1⟩, q2, q3⟩ := hS4.out.atWord hj
            generalize hx : Bs.wd ws m = x at q0 q2
            have Hx := hid hx; have Q2 := hid q2
            clear hx q2
            have hwr : IntKind.i64.wrap (m : Int) = m := IntWalk.i64_in _ (by omega)
            have hm0 : (0 : Int) ≤ m := by omega
            have hm1 : (m : Int).toNat = m := by omega
            have hm2 : (m : Int) < (m : Int) + 1 := by omega
            go_wp2_with fail
            go_region_with (first
              | (go_at_call 10
                 go_must (
                 refine (next_any T 64 _ (by exact hS4.out.drew.2.2.2.2.2.1) (by omega)).mono ?_
                 rintro e w5 ⟨r5, rfl, h50, h51, ht5, hg5, hs5⟩
                 obtain ⟨k5, rfl⟩ := Int.eq_ofNat_of_zero_le h50
                 have hr5 : k5 < 64 := (by omega)
                 have hS5 := hid (hS4.out.drew.tape hTl ht5 hg5)
                 obtain ⟨⟨⟨x0, x1⟩, y0, y1⟩, ⟨⟨u0, u1⟩, v0, v1⟩, hne, hlen⟩ := hS5.out.vars
                 obtain ⟨⟨q0, q1⟩, q2, q3⟩ := hS5.out.atWord hj
                 rw [Hx.out] at q0
                 have hS6 := hid (hS5.out.word hTl m (x ||| 2 ^ k5) (Nat.or_lt_two_pow (n := 64) Q2.out (Nat.pow_lt_pow_right (by decide) hr5)))
                 have hw6 : IntKind.u64.wrap (2 ^ min (IntKind.u64.wrap (k5 : Int)).toNat 64) = IntKind.u64.wrap (2 ^ k5) := (by rw [wrap_small k5 hr5, Int.toNat_natCast, Nat.min_eq_left (by omega)])
                 have hw7 : bits BinOp.or IntKind.u64 (x : Int) (IntKind.u64.wrap (2 ^ min (IntKind.u64.wrap (k5 : Int)).toNat 64)) = ((x ||| 2 ^ k5 : Nat) : Int) := (by rw [hw6]; exact or_bit x k5 Q2.out hr5)
                 have Hw7 := hid hw7
                 clear h51 ht5 hg5 hs5 hlen q2 hw6 hw7)))
            all_goals
              rw [Hw7.out]
              obtain ⟨⟨⟨x0, x1⟩, y0, y1⟩, ⟨⟨z0, z1⟩, z2, z3⟩, hne, hlen⟩ := hS6.out.vars
              have Hlen6 := hid hlen
              clear hlen
              go_wp2_with fail
              exact bodyPost_ret (v := .agg #[.int .i64 W, .slice (some ⟨g, 0, none⟩) (m + 1) c']) (by simp [results, Try.results36, go_sem, z0, z1]) rfl (hS6.out.done hTl (by omega))
          · have t3 : decide (0 < (n : Int)) = false := by simp; omega
            go_wp2_with fail
            exact bodyPost_ret (v := .agg #[.int .i64 W, .slice (some ⟨g, 0, none⟩) n c']) (by simp [results, Try.results36, go_sem, u0, u1]) rfl (hS4.out.done hTl (by omega))
        · have t2 : (r4 == 2) = false := by simp [c2]
          clear c2
          go_wp2_with fail
          refine (next_any T 4 _ (hS4.out.alloc _).2.2.2.2.2.1 (by omega)).mono ?_
          rintro e w5 ⟨r5, rfl, h50, h51, ht5, hg5, hs5⟩
          obtain ⟨v, hv⟩ : ∃ v : Int, w5.cell? ⟨w4.heap.size, r5.toNat, none⟩ = some (.int .i64 v) := by
            have hh := heap_alloc_new w4 (Obj.cells #[.int .i64 (-1), .int .i64 257, .int .i64 320, .int .i64 0] 3)
            have hblk := hg5.block w4.heap.size (by rw [World.size_alloc]; omega) (some_ne (by have := hS4.out.2.2.2.2.2.1.lt; omega))
            rw [hh] at hblk
            have h4 : r5 = 0 ∨ r5 = 1 ∨ r5 = 2 ∨ r5 = 3 := by omega
            rcases h4 with rfl | rfl | rfl | rfl
            · exact ⟨-1, by simp [World.cell?, hblk]⟩
            · exact ⟨257, by simp [World.cell?, hblk]⟩
            · exact ⟨320, by simp [World.cell?, hblk]⟩
            · exact ⟨0, by simp [World.cell?, hblk]⟩
          have hr5 : r5 < 4 := by omega
          have hS5 := hid ((hS4.out.alloc _).tape hTl ht5 hg5)
          have hS6 := hid (hS5.out.width hTl v)
          obtain ⟨⟨⟨x0, x1⟩, y0, y1⟩, ⟨⟨u0, u1⟩, v0, v1⟩, hne, hlen⟩ := hS5.out.vars
          obtain ⟨_, ⟨⟨z0, z1⟩, _⟩, _⟩ := hS6.out.vars
          clear h51 ht5 hg5 hs5 hlen
          go_wp2_with fail
          exact bodyPost_ret (v := .agg #[.int .i64 v, .slice (some ⟨g, 0, none⟩) n c']) (by simp [results, Try.results36, go_sem, z0, z1]) rfl (hS6.out.done hTl (by omega))
end Go.Proofs.Ytopkmeceakjocaa
