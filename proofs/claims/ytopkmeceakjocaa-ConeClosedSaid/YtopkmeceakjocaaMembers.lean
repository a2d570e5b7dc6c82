/- The reference's Members returns the members of a valid set in ascending order, and none of an invalid one. -/
import Derived.Test.YtopkmeceakjocaaThree
namespace Go.Proofs.Ytopkmeceakjocaa
open Go.ChangeShapes Go.WideShapes Go.ChangeAt Go.RowKit

/-- The members below k, ascending. -/
def memsTo (ws : List Nat) : Nat → List Int
  | 0 => []
  | k + 1 => if Bs.bit ws k then memsTo ws k ++ [(k : Int)] else memsTo ws k
theorem memsTo_len (ws : List Nat) (k : Nat) : (memsTo ws k).length ≤ k := by
  induction k with
  | zero => simp [memsTo]
  | succ k ih =>
    unfold memsTo; split
    · rw [List.length_append]; simp; omega
    · omega
def memsB (W : Int) (ws : List Nat) : List Int := if Bs.validB W ws then memsTo ws W.toNat else []
theorem memsB_len (W : Int) (ws : List Nat) : (memsB W ws).length ≤ 256 := by
  unfold memsB; split
  · next h => have := (Bs.validB_iff.1 h).2.1; have := memsTo_len ws W.toNat; omega
  · simp

/-- Whole numbers, as an argument: where they lie and how many they are. -/
structure IArg (w : World) (A : Option Addr) (n : Nat) (l : List Int) : Prop where
  lies : At w w.heap.size A (ints l)
  len : l.length = n
theorem IArg.below {w w' : World} {A : Option Addr} {n : Nat} {l : List Int} (h : IArg w A n l) (hb : Below w.heap.size w w') : IArg w' A n l :=
  ⟨h.lies.below hb hb.size, h.len⟩
theorem IArg.alloc {w : World} {A : Option Addr} {n : Nat} {l : List Int} (h : IArg w A n l) (o : Obj) : IArg (w.alloc o) A n l :=
  h.below ((Below.refl _ _).alloc (Nat.le_refl _) o)
def RetInts (w : World) (l : List Int) (e : Ending) (w' : World) : Prop :=
  ∃ (A : Option Addr) (n c : Nat), e = .returned (.slice A n c) ∧ IArg w' A n l ∧ Below w.heap.size w w'

theorem own_below {w w' : World} {base : Nat} {ty : TypeId} {size : Nat} {v : Value} {n : Nat} {xs : List Value} (h : w.ownsRow base ty size v n xs) (hb : Below w.heap.size w w') : w'.ownsRow base ty size v n xs :=
  h.kept (grown_of_below hb none) (by cases v.ownBlock with | none => exact .inl rfl | some k => exact .inr (by simp))
theorem own_slice {w : World} {base : Nat} {ty : TypeId} {v : Value} {n : Nat} {xs : List Value} (h : w.ownsRow base ty 1 v n xs) :
    ∃ A c, v = .slice A n c ∧ At w w.heap.size A xs ∧ xs.length = n := by
  have hl := h.1
  rcases h.2 with ⟨rfl, rfl⟩ | ⟨g, cap, cur, rfl, _, hg, _⟩
  · have hx : xs = [] := List.eq_nil_of_length_eq_zero (by omega)
    subst hx
    exact ⟨none, 0, rfl, .inl rfl, rfl⟩
  · refine ⟨_, cap, rfl, .inr ⟨_, rfl, ?_, h.cells rfl⟩, by omega⟩
    rcases Nat.lt_or_ge g w.heap.size with hlt | hge
    · exact hlt
    · rw [Array.getElem?_eq_none hge] at hg; cases hg

theorem new_one (w : World) (v : Value) (ty : TypeId) : ∀ j u, [v][j]? = some u → (w.alloc (.cells #[v] ty)).cell? ((⟨w.heap.size, 0, none⟩ : Addr).add j) = some u := by
  intro j u h
  rw [add_of]
  match j, h with
  | 0, h => simp at h; subst h; rw [World.cell?_alloc_at _ _ _ _ rfl]; rfl
  | j + 1, h => simp at h
theorem one_int (k : IntKind) (x : Int) : ∀ u ∈ [Value.int k x], u.oneCell' = true := by intro u hu; simp at hu; subst hu; rfl
theorem own_row {w : World} {base : Nat} {ty : TypeId} {size : Nat} {v : Value} {n : Nat} {xs : List Value} (h : w.ownsRow base ty size v n xs) {k : Nat} (hk : k < base) : some k ≠ v.ownBlock := by
  intro he
  have := h.lt k he.symm
  omega
theorem info3 : (Try.prog.info? 3).map (fun i => (i.zero, i.size, i.bytes)) = some (some (.int .i64 0), 1, 8) := by kernel_rfl
theorem ints_snoc (l : List Int) (x : Int) : ints (l ++ [x]) = ints l ++ [.int .i64 x] := by simp [ints]

theorem mem_bad (W : Int) (A : Option Addr) (n c : Nat) (ws : List Nat) (w : World) (hA : Arg w A n ws) (h : Bs.validB W ws = false) :
    Calls Try.prog 103 #[.agg #[.int .i64 W, .slice A n c]] w (RetInts w (memsB W ws)) := by
  have hr : memsB W ws = [] := by unfold memsB; rw [h]; rfl
  rw [hr]
  have HA := hid hA; have H := hid h
  clear hA h hr
  go_enter Try.func103, Try.ntmps103
  go_wp2_with fail
  refine wp_loop_rounds 1 ?_
  rw [rounds_succ]
  go_wp2_with (go_at_call 62; refine (refValid_any W A n c ws _ (HA.out.alloc _).lies HA.out.ok HA.out.len).mono ?_; rw [H.out]; rintro e w1 ⟨rfl, hbl⟩; have Hbl := hid hbl; clear hbl)
  go_ret
  exact ⟨none, 0, 0, rfl, ⟨.inl rfl, rfl⟩, ((Below.refl _ _).alloc (Nat.le_refl _) _).trans (Hbl.out.mono (by simp))⟩

/-- While the members are gathered. -/
def Gathering (w : World) (W : Int) (A : Option Addr) (n c : Nat) (v : Value) (l : List Int) (wr : World) : Prop :=
  Box wr w.heap.size W A n c ∧ wr.ownsRow (w.heap.size + 1) 3 1 v l.length (ints l) ∧ Below w.heap.size w wr
theorem Gathering.below {w wr w' : World} {W : Int} {A : Option Addr} {n c : Nat} {v : Value} {l : List Int} (h : Gathering w W A n c v l wr) (hb : Below wr.heap.size wr w') : Gathering w W A n c v l w' :=
  ⟨h.1.below hb h.1.lt, own_below h.2.1 hb, h.2.2.trans (hb.mono h.2.2.size)⟩

theorem Gathering.push {w wr w' : World} {W : Int} {A : Option Addr} {n c : Nat} {v v' : Value} {l : List Int} {x : Int} {o : Obj} (h : Gathering w W A n c v l wr) (ho : w'.ownsRow (w.heap.size + 1) 3 1 v' (l.length + 1) (ints l ++ [.int .i64 x])) (hg : (wr.alloc o).grownBy w' v.ownBlock) : Gathering w W A n c v' (l ++ [x]) w' := by
  have hs := h.2.2.size
  have hl := h.1.lt
  refine ⟨(h.1.alloc o).grown hg (own_row h.2.1 (by omega)), ?_, ?_⟩
  · rw [ints_snoc, List.length_append]; exact ho
  · exact (h.2.2.alloc hs o).grown hg (by rw [World.size_alloc]; omega) (fun k hk => by have := h.2.1.lt k hk; omega)

set_option maxHeartbeats 800000 in
theorem mem_in (W : Nat) (A : Option Addr) (n c : Nat) (ws : List Nat) (w : World) (hA : Arg w A n ws) (h : Bs.validB W ws = true) :
    Calls Try.prog 103 #[.agg #[.int .i64 W, .slice A n c]] w (RetInts w (memsTo ws W)) := by
  have hW : W ≤ 256 := by have := (Bs.validB_iff.1 h).2.1; omega
  obtain ⟨i0, hi, hz0, hz1, hz2⟩ := info_parts info3
  have HA := hid hA; have H := hid h; have Hi := hid hi; have Hz0 := hid hz0; have Hz1 := hid hz1; have Hz2 := hid hz2
  clear hA h hi hz0 hz1 hz2
  have hinv : Gathering w W A n c (.slice none 0 0) (memsTo ws 0) (w.alloc (.cells #[.int .i64 W, .slice A n c] 50)) :=
    ⟨Box.new _ _ _ _ _, World.ownsRow_nil _ _ _ _, (Below.refl _ _).alloc (Nat.le_refl _) _⟩
  have Hinv := hid hinv
  clear hinv
  go_enter Try.func103, Try.ntmps103
  go_wp2_with fail
  go_loopw [3, 4] (fun v i wr => ∃ k : Nat, k ≤ W ∧ i = .int .i64 k ∧ Hid (Gathering w W A n c v (memsTo ws k) wr)) (fun _ i _ => W - (intOf i).toNat)
  case atStart => exact ⟨0, by omega, rfl, Hinv⟩
  case round =>
    obtain ⟨k, hk, rfl, hG⟩ := hrel
    have hc0 := hG.out.1.c0
    have hc1 := hG.out.1.c1
    go_wp2_with fail
    refine (refValid_any W A n c ws _ (HA.out.below hG.out.2.2).lies HA.out.ok HA.out.len).mono ?_
    rw [H.out]
    rintro e w1 ⟨rfl, hb1⟩
    have hG1 := hid (hG.out.below hb1)
    have hc10 := hG1.out.1.c0
    have hc11 := hG1.out.1.c1
    clear hb1 hc0 hc1
    by_cases hlt : k < W
    · go_wp2_with fail
      refine (refHas_any W A n c ws k _ (HA.out.below hG1.out.2.2)).mono ?_
      rw [show Bs.hasB W ws k = Bs.bit ws k from Bs.hasB_nat (Bs.fit_of_valid H.out HA.out.ok) hW k]
      rintro e w2 ⟨rfl, hb2⟩
      have hG2 := hid (hG1.out.below hb2)
      clear hb2 hc10 hc11
      cases hv : Bs.bit ws k with
      | false =>
        have hl : memsTo ws (k + 1) = memsTo ws k := by simp [memsTo, hv]
        have Hl := hid hl
        clear hl hv
        go_wp2_with fail
        go_roundw
        case rel => exact ⟨k + 1, by omega, by go_num, by rw [Hl.out]; exact hG2⟩
        case measure => simp [intOf]; omega
      | true =>
        have hl : memsTo ws (k + 1) = memsTo ws k ++ [(k : Int)] := by simp [memsTo, hv]
        have Hl := hid hl
        have hlen := memsTo_len ws k
        clear hl hv
        go_wp2_with (first
          | (at_builtin
             refine wpList_append_own _ rfl _ _ 22 rfl (w.heap.size + 1) 3 i0 (.int .i64 0) 1 8 Try.underlying22 Hi.out Hz0.out Hz1.out Hz2.out rfl (by decide) _ _ _ rfl (hG2.out.2.1.alloc _) ⟨w2.heap.size, 0, none⟩ 1 1 [.int .i64 (k : Int)] rfl rfl (new_one _ _ _) (one_int _ _) (by unfold maxLen; omega) (by omega) (by have := hG2.out.1.lt; rw [World.size_alloc]; omega) ?_
             intro v' w3 hown3 hgr3 hnil3
             have hG3 := hid (hG2.out.push hown3 hgr3)
             clear hown3 hgr3 hnil3))
        go_roundw
        case rel => exact ⟨k + 1, by omega, by go_num, by rw [Hl.out]; exact hG3⟩
        case measure => simp [intOf]; omega
    · have hkW : k = W := by omega
      subst hkW
      go_wp2_with fail
      go_ret
      obtain ⟨A', c', e', h1, h2⟩ := own_slice hG1.out.2.1
      subst e'
      exact ⟨A', _, c', rfl, ⟨h1, rfl⟩, hG1.out.2.2⟩

theorem refMembers_any (W : Int) (A : Option Addr) (n c : Nat) (ws : List Nat) (w : World) (hA : Arg w A n ws) :
    Calls Try.prog 103 #[.agg #[.int .i64 W, .slice A n c]] w (RetInts w (memsB W ws)) := by
  cases h : Bs.validB W ws with
  | false => exact mem_bad W A n c ws w hA h
  | true =>
    obtain ⟨v, rfl⟩ := Int.eq_ofNat_of_zero_le (Bs.validB_iff.1 h).1
    have hr : memsB (v : Int) ws = memsTo ws v := by unfold memsB; rw [if_pos h, Int.toNat_natCast]
    rw [hr]
    exact mem_in v A n c ws w hA h
end Go.Proofs.Ytopkmeceakjocaa
