/- The reference's Same returns whether two sets have the same width and the same words. -/
import Derived.Test.YtopkmeceakjocaaTape
namespace Go.Proofs.Ytopkmeceakjocaa
open Go.ChangeShapes Go.WideShapes Go.ChangeAt Go.RowKit

def sameB (W : Int) (a : List Nat) (V : Int) (b : List Nat) : Bool := decide (W = V) && decide (a = b)

theorem refSame_len (W V : Int) (A B : Option Addr) (n c m d : Nat) (xs ys : List Nat) (w : World) (hA : Arg w A n xs) (hB : Arg w B m ys) (hno : W ≠ V ∨ n ≠ m) :
    Calls Try.prog 49 #[.agg #[.int .i64 W, .slice A n c], .agg #[.int .i64 V, .slice B m d]] w fun e w' => e = .returned (.bool (sameB W xs V ys)) ∧ Below w.heap.size w w' := by
  have hres : sameB W xs V ys = false := by
    unfold sameB
    rcases hno with h | h
    · simp [h]
    · have : xs ≠ ys := by rintro rfl; exact h (hA.len.symm.trans hB.len)
      simp [this]
  have Hres := hid hres
  clear hres hA hB
  by_cases h1 : W = V
  · have t1 : (W != V) = false := by simp [h1]
    have t2 : ((n : Int) != (m : Int)) = true := by simp; omega
    have t3 : (n != m) = true := by simp; omega
    clear h1 hno
    go_enter Try.func49, Try.ntmps49
    go_wp2
    go_ret
    exact ⟨ret_bool Hres.out.symm, ((Below.refl _ _).alloc (Nat.le_refl _) _).alloc (by simp) _⟩
  · have t1 : (W != V) = true := by simp [h1]
    clear h1 hno
    go_enter Try.func49, Try.ntmps49
    go_wp2
    go_ret
    exact ⟨ret_bool Hres.out.symm, ((Below.refl _ _).alloc (Nat.le_refl _) _).alloc (by simp) _⟩

theorem wd_ext {a b : List Nat} (hl : a.length = b.length) (h : ∀ j, j < a.length → Bs.wd a j = Bs.wd b j) : a = b :=
  List.ext_getElem hl fun i h1 h2 => by have := h i h1; rwa [Bs.wd_get h1, Bs.wd_get h2] at this

theorem refSame_in (W V : Int) (A B : Option Addr) (n c d : Nat) (xs ys : List Nat) (w : World) (hA : Arg w A n xs) (hB : Arg w B n ys) (hWV : W = V) (hn : n ≤ maxLen) :
    Calls Try.prog 49 #[.agg #[.int .i64 W, .slice A n c], .agg #[.int .i64 V, .slice B n d]] w fun e w' => e = .returned (.bool (sameB W xs V ys)) ∧ Below w.heap.size w w' := by
  unfold maxLen at hn
  have HA := hid hA; have HB := hid hB; have HWV := hid hWV
  have t1 : (W != V) = false := by simp [hWV]
  have t2 : ((n : Int) != (n : Int)) = false := by simp
  clear hA hB hWV
  go_enter Try.func49, Try.ntmps49
  go_wp2
  clear t1 t2
  go_loopw [5] (fun i wr => ∃ k : Nat, k ≤ n ∧ i = .int .i64 k ∧ Hid (∀ j, j < k → Bs.wd xs j = Bs.wd ys j) ∧ ∃ q : Nat, wr = ((w.alloc (Obj.cells #[Value.int IntKind.i64 W, Value.slice A n c] 50)).alloc (Obj.cells #[Value.int IntKind.i64 V, Value.slice B n d] 50)).drewN q) (fun i _ => n - (intOf i).toNat)
  case atStart => exact ⟨0, by omega, rfl, fun j h => by omega, 0, rfl⟩
  case round =>
    obtain ⟨k, hk, rfl, hb, q, rfl⟩ := hrel
    by_cases hlt : k < n
    · obtain ⟨ad, rfl, had, hcA⟩ := HA.out.lies.cell (words_get (i := k) (by rw [HA.out.len]; exact hlt))
      obtain ⟨bd, rfl, hbd, hcB⟩ := HB.out.lies.cell (words_get (i := k) (by rw [HB.out.len]; exact hlt))
      generalize hx : Bs.wd xs k = x at hcA
      generalize hy : Bs.wd ys k = y at hcB
      have Hx := hid hx; have Hy := hid hy
      clear hx hy
      have hcA2 : ((w.alloc (Obj.cells #[Value.int IntKind.i64 W, Value.slice (some ad) n c] 50)).alloc (Obj.cells #[Value.int IntKind.i64 V, Value.slice (some bd) n d] 50)).cell? (ad.add k) = some (.int .u64 x) := by
        rw [World.cell?_alloc_lt _ _ _ (by rw [add_block]; simp; omega), World.cell?_alloc_lt _ _ _ (by rw [add_block]; exact had)]; exact hcA
      have hcB2 : ((w.alloc (Obj.cells #[Value.int IntKind.i64 W, Value.slice (some ad) n c] 50)).alloc (Obj.cells #[Value.int IntKind.i64 V, Value.slice (some bd) n d] 50)).cell? (bd.add k) = some (.int .u64 y) := by
        rw [World.cell?_alloc_lt _ _ _ (by rw [add_block]; simp; omega), World.cell?_alloc_lt _ _ _ (by rw [add_block]; exact hbd)]; exact hcB
      clear hcA hcB
      have hk0 : (0 : Int) ≤ k := by omega
      have hkn : (k : Int).toNat = k := by omega
      have hk1 : (k : Int) < n := by omega
      by_cases hxy : x = y
      · have t : ((x : Int) != (y : Int)) = false := by simp [hxy]
        have t' : (x != y) = false := by simp [hxy]
        have Hxy := hid hxy
        clear hxy
        go_wp2_with fail
        go_quiet (fail)
        go_wp2
        go_roundw
        case rel =>
          refine ⟨k + 1, by omega, by go_num, fun j hj => ?_, _, rfl⟩
          by_cases e : j = k
          · rw [e, Hx.out, Hy.out]; exact Hxy.out
          · exact hb.out j (by omega)
        case measure => simp [intOf]; omega
      · have t : ((x : Int) != (y : Int)) = true := by simp; omega
        have t' : (x != y) = true := by simp [hxy]
        have Hxy := hid hxy
        clear hxy
        go_wp2_with fail
        go_quiet (fail)
        go_wp2
        go_ret
        refine ⟨ret_bool ?_, below_drewN (below_drewN (((Below.refl _ _).alloc (Nat.le_refl _) _).alloc (by simp) _) _) _⟩
        have : xs ≠ ys := by rintro rfl; exact Hxy.out (Hx.out.symm.trans Hy.out)
        unfold sameB; simp [this]
    · go_wp2
      go_ret
      refine ⟨ret_bool ?_, below_drewN (((Below.refl _ _).alloc (Nat.le_refl _) _).alloc (by simp) _) _⟩
      have e : xs = ys := wd_ext (HA.out.len.trans HB.out.len.symm) fun j hj => hb.out j (by have := HA.out.len; omega)
      unfold sameB; rw [e, HWV.out]; simp

theorem refSame_any (W V : Int) (A B : Option Addr) (n c m d : Nat) (xs ys : List Nat) (w : World) (hA : Arg w A n xs) (hB : Arg w B m ys) (hn : n ≤ maxLen) :
    Calls Try.prog 49 #[.agg #[.int .i64 W, .slice A n c], .agg #[.int .i64 V, .slice B m d]] w fun e w' => e = .returned (.bool (sameB W xs V ys)) ∧ Below w.heap.size w w' := by
  by_cases h : W ≠ V ∨ n ≠ m
  · exact refSame_len W V A B n c m d xs ys w hA hB h
  · have h1 : W = V := by omega
    have h2 : n = m := by omega
    subst h2
    exact refSame_in W V A B n c d xs ys w hA hB h1 hn
end Go.Proofs.Ytopkmeceakjocaa
