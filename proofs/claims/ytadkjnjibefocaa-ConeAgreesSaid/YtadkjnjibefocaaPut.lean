/- The reference's Empty makes the set without members, and its Put the set with one more. -/
import Derived.Test.YtadkjnjibefocaaMem
namespace Go.Proofs.Ytadkjnjibefocaa
open Go.ChangeShapes Go.WideShapes Go.ChangeAt Go.RowKit

theorem run_words (W : Nat) (hW : W ≤ 100000) (w : World) :
    (Instr.makeSlice 45 (.int .i64 (((W : Int) + 63) / 64)) (.int .i64 (((W : Int) + 63) / 64))).run Try.prog w = .ok (.slice (some ⟨w.heap.size, 0, none⟩) (Bs.nw W) (Bs.nw W)) (w.alloc (.cells (words (Bs.emp W)).toArray 72)) := by
  obtain ⟨i, hi, hz0, hz1, hz2⟩ := info_parts info62
  have e : ((W : Int) + 63) / 64 = ((Bs.nw W : Nat) : Int) := by unfold Bs.nw; simp
  have hle : Bs.nw W ≤ 100000 := by unfold Bs.nw; omega
  rw [e]
  have h := run_make (P := Try.prog) w 45 72 i (.int .u64 0) Try.underlying45 hi hz0 .i64 .i64 (Bs.nw W) (Bs.nw W) (by omega) (by omega) (by rw [hz2]; omega) (by omega)
  rw [h, hz1]
  simp only [Int.toNat_natCast, Nat.mul_one]
  have e2 : madeCells (Value.int IntKind.u64 0).cells (Bs.nw W) = (words (Bs.emp W)).toArray := by
    unfold Bs.emp; rw [← zeros_words]; rfl
  rw [e2]

theorem refEmpty_any (W : Nat) (w : World) (hW : W ≤ 100000) :
    Calls Try.prog 15 #[.int .i64 W] w (NewSet w W (Bs.emp W)) := by
  have hm := run_words W hW
  go_enter Try.func15, Try.ntmps15
  go_wp2
  refine bodyPost_ret (v := .agg #[.int .i64 W, .slice (some ⟨w.heap.size + 1, 0, none⟩) (Bs.nw W) (Bs.nw W)]) (by simp [results, Try.results15, go_sem]) rfl ⟨w.heap.size + 1, ?_, by omega, ?_, ?_⟩
  · simp [Bs.emp]
  · have h := heap_alloc_new (w.alloc (Obj.cells #[Value.int IntKind.i64 ↑W, Value.slice (some { block := w.heap.size + 1, off := 0 }) (Bs.nw W) (Bs.nw W)] 47)) (Obj.cells (words (Bs.emp W)).toArray 72)
    rw [World.size_alloc] at h
    exact h
  · exact ((Below.refl _ _).alloc (Nat.le_refl _) _).alloc (by simp) _

theorem len_emp (W : Nat) : (Bs.emp W).length = Bs.nw W := by simp [Bs.emp]
theorem splice_all {α : Type} (L cs : List α) (h : cs.length = L.length) : splice L 0 cs = cs := by
  unfold splice
  rw [Nat.zero_add, h, List.drop_length]; simp

theorem words_len (ws : List Nat) : (words ws).length = ws.length := by simp [words]
theorem words_one (ws : List Nat) : ∀ v ∈ words ws, v.oneCell' = true := by
  intro v hv
  unfold words at hv
  obtain ⟨x, _, rfl⟩ := List.mem_map.1 hv
  rfl

theorem info62_one : (Try.prog.info? 72).map (·.size) = some 1 := by kernel_rfl

/-- Go's 'x | 1 << j' on words. -/
theorem or_bit (x j : Nat) (hx : x < Bs.W64) (hj : j < 64) : bits BinOp.or IntKind.u64 (x : Int) (IntKind.u64.wrap (2 ^ j)) = ((x ||| 2 ^ j : Nat) : Int) := by
  have hp : 2 ^ j < 18446744073709551616 := by
    have : (2 : Nat) ^ j < 2 ^ 64 := Nat.pow_lt_pow_right (by decide) hj
    simpa using this
  have e : IntKind.u64.wrap (2 ^ j) = ((2 ^ j : Nat) : Int) := by
    rw [show ((2 : Int) ^ j) = ((2 ^ j : Nat) : Int) from by simp]
    generalize 2 ^ j = p at hp
    exact IntWalk.u64_in _ (by omega)
  rw [e]
  exact u64_or_nat x (2 ^ j) hx hp

/-- Copying words over the whole of a row of the call's own. -/
theorem copy_words {w : World} {ops : Array Oper} {rest : List Oper} {o : Oper} {a : Act} {Q : Exit → Act → World → Prop} (hgd : o.guard = none) (d s : Operand)
    (ho : o.op = .call { callee := .builtin .copy, args := #[d, s], argTypes := #[45, 45] })
    (g n c : Nat) (ad : Addr) (hd : a.eval d = .slice (some ⟨g, 0, none⟩) n n) (hs : a.eval s = .slice (some ad) n c)
    (old ws : List Nat) (hr : Row w g old) (hold : old.length = n) (hA : At w w.heap.size (some ad) (words ws)) (hn : ws.length = n)
    (h : ∀ w2, Hid (Row w2 g ws) → Hid (w.grownBy w2 (some g)) → w2.heap.size = w.heap.size → wpList Try.prog ops Q rest (a.put o.dst (goInt (words ws).length)) w2) :
    wpList Try.prog ops Q (o :: rest) a w := by
  refine wpList_copy_own hgd d s 45 45 ho 72 Try.underlying45 info62_one g 0 n n ad n c hd hs (words old).toArray 72 hr (words ws) (by rw [words_len, hn]; simp) ?_ (by simp [words_len, hn, hold]) (words_one ws) ?_
  · intro j v hv
    obtain ⟨ad', e, _, hc⟩ := hA.cell hv
    injection e with e; subst e; exact hc
  · have e : (((words old).toArray.toList.take 0 ++ (words ws ++ (words old).toArray.toList.drop (0 + (words ws).length))).toArray) = (words ws).toArray := by
      simp [hn, hold, words]
    rw [e]
    refine h _ ?_ ?_ ?_
    · exact hid (setRow_heap w g _ _ 72 _ hr)
    · exact hid ⟨rfl, rfl, rfl, by simp [World.setRow], fun k _ hk => setRow_other w g k _ (by intro h; subst h; exact hk rfl)⟩
    · simp [World.setRow]

theorem refPut_any (W : Nat) (A : Option Addr) (n c : Nat) (ws : List Nat) (b : Nat) (w : World) (hA : Arg w A n ws) (hW : W ≤ 100000) (hl : ws.length = Bs.nw W) (hb : b < W) :
    Calls Try.prog 29 #[.agg #[.int .i64 W, .slice A n c], .int .i64 b] w (NewSet w W (Bs.put ws b)) := by
  have hq : b / 64 < ws.length := by rw [hl]; exact Bs.lt_nw hb
  obtain ⟨ad, rfl, had, hh⟩ := hA.lies.cell (words_get hq)
  clear hh
  have hlen := hA.len
  have hqn : b / 64 < Bs.nw W := Bs.lt_nw hb
  have HA := hid hA
  have Hl := hid hl
  rw [hl] at hlen
  subst hlen
  clear hA hl hq
  go_enter Try.func29, Try.ntmps29
  go_wp2_with (first
    | (go_at_call 15; refine (refEmpty_any W _ hW).mono ?_; rintro e w1 ⟨g, rfl, hg, hr, hbl⟩; obtain ⟨hc, hf⟩ := bcell hbl; rw [len_emp]; have hz : w.heap.size + 1 < w1.heap.size := (by have := hbl.size; simp at this; omega); have hz0 : w.heap.size < w1.heap.size := (by omega); have hgl := hr.lt; have Hr := hid hr; have Hbl := hid hbl; clear hr hbl)
    | (with_reducible refine copy_words rfl (.tmp 10) (.tmp 12) rfl _ _ _ _ rfl rfl (Bs.emp W) ws (Hr.out.alloc _) (len_emp W) (((HA.out.alloc _).alloc _).below Hbl.out |>.alloc _).lies Hl.out ?_
       intro w2 hr2 hg2 hs2
       simp only [World.size_alloc] at hg
       have x1 : w2.cell? ⟨w1.heap.size, 1, none⟩ = some (.slice (some ⟨g, 0, none⟩) (Bs.nw W) (Bs.nw W)) := hg2.out.cell (by go_simp) (by simp; omega)
       have x0 : w2.cell? ⟨w1.heap.size, 0, none⟩ = some (.int .i64 W) := hg2.out.cell (by go_simp) (by simp; omega)
       have cg : w2.cell? ⟨g, b / 64, none⟩ = some (.int .u64 (Bs.wd ws (b / 64))) := by rw [hr2.out.cell]; exact words_get (by rw [Hl.out]; exact hqn)
       have fg : w2.frozen? ⟨g, b / 64, none⟩ = false := hr2.out.frozen _
       have r0 : w2.cell? ⟨w.heap.size + 1, 0, none⟩ = some (.int .i64 0) := hg2.out.cell (by go_simp) (by simp; omega)
       have r1 : w2.cell? ⟨w.heap.size + 1, 1, none⟩ = some (.slice none 0 0) := hg2.out.cell (by go_simp) (by simp; omega)
       have q0 : w2.frozen? ⟨w.heap.size + 1, 0, none⟩ = false := (World.frozen?_of_block (hg2.out.block _ (by simp; omega) (by simp; omega))).trans (by go_simp)
       have q1 : w2.frozen? ⟨w.heap.size + 1, 1, none⟩ = false := (World.frozen?_of_block (hg2.out.block _ (by simp; omega) (by simp; omega))).trans (by go_simp)
       have hne : w.heap.size + 1 < g := (by omega)
       clear hc hf
       generalize hws : Bs.wd ws (b / 64) = x at cg
       have Hws := hid hws
       clear hws))
  refine bodyPost_ret (v := .agg #[.int .i64 W, .slice (some ⟨g, 0, none⟩) (Bs.nw W) (Bs.nw W)]) (by simp [results, Try.results29, go_sem, r0, r1]) rfl ⟨g, ?_, by omega, ?_, ?_⟩
  · rw [Bs.length_put, Hl.out]
  · rw [or_bit x (b % 64) (by rw [← Hws.out]; exact Bs.wd_lt HA.out.ok _) (by omega)]
    have hs := hr2.out.set (b / 64) (x ||| 2 ^ (b % 64))
    rw [← Hws.out] at hs ⊢
    exact (hs.far (by simp; omega) _).far (by simp; omega) _
  · have h1 : Below w.heap.size w w1 := (((Below.refl _ _).alloc (Nat.le_refl _) _).alloc (by simp) _).trans (Hbl.out.mono (by simp; omega))
    have h2 : Below w.heap.size w w2 := (h1.alloc (by omega) _).grown hg2.out (by simp; omega) (by intro k hk; injection hk with hk; omega)
    exact ((h2.setCell (by simp; omega) _).setCell (by simp) _).setCell (by simp) _
end Go.Proofs.Ytadkjnjibefocaa
