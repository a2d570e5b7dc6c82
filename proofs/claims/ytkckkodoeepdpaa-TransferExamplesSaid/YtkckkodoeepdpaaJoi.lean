/- The package's Join: the canonical function whose values are the unions of those of two functions. -/
import Derived.Test.YtkckkodoeepdpaaCct
namespace Go.Proofs.Ytkckkodoeepdpaa
set_option maxRecDepth 20000
open Go.ChangeShapes Go.WideShapes Go.ChangeAt Go.RowKit

theorem Arg.skip {w w' : World} {A : Option Addr} {n : Nat} {ws : List Nat} {R : Nat} (h : Arg w A n ws) (ha : ws = [] ∨ ∃ ad, A = some ad ∧ ad.block ≠ R) (hg : w.grownBy w' (some R)) : Arg w' A n ws := by
  refine ⟨?_, h.len, h.ok⟩
  rcases ha with rfl | ⟨ad, rfl, hne⟩
  · exact .inl rfl
  · rcases h.lies with h0 | ⟨ad', e, hb, hc⟩
    · exact .inl h0
    · cases e
      exact .inr ⟨ad, rfl, by have := hg.size; omega, fun j u hu => hg.cell (hc j u hu) (by rw [add_block]; intro e; injection e with e; exact hne e)⟩
theorem ArgC.skip {w w' : World} {A : Option Addr} {n : Nat} {cs : List (Int × Int)} {R : Nat} (h : ArgC w A n cs) (ha : cs = [] ∨ ∃ ad, A = some ad ∧ ad.block ≠ R) (hg : w.grownBy w' (some R)) : ArgC w' A n cs := by
  refine ⟨?_, h.len⟩
  rcases ha with rfl | ⟨ad, rfl, hne⟩
  · exact .inl rfl
  · rcases h.lies with h0 | ⟨ad', e, hb, hc⟩
    · exact .inl h0
    · cases e
      exact .inr ⟨ad, rfl, by have := hg.size; omega, fun j u hu => hg.cell (hc j u hu) (by rw [add_block]; intro e; injection e with e; exact hne e)⟩
theorem grown_stored5 {w0 w : World} {R : Nat} (h : w0.grownBy w (some R)) (a b c d e : Value) : w0.grownBy (stored5 w R a b c d e) (some R) :=
  grown_trans (grown_trans (grown_trans (grown_trans (grown_trans h (grown_set _ R rfl a)) (grown_set _ R rfl b)) (grown_set _ R rfl c)) (grown_set _ R rfl d)) (grown_set _ R rfl e)

/-- The bits of both. -/
def andR (W : Nat) (ws xs : List Nat) : List Nat := Bs.ofP W (fun i => Bs.bit ws i && Bs.bit xs i) W
theorem fit_andR (W : Nat) (ws xs : List Nat) : Bs.Fit W (andR W ws xs) := Bs.fit_ofP _ _ _ (Nat.le_refl _)
theorem mixR_and {W : Nat} {ws xs : List Nat} (hW : W ≤ 256) (h1 : Bs.Fit W ws) (h2 : Bs.Fit W xs) : mixR (flag false false true) W ws W xs = ((W : Int), andR W ws xs, 0) := by
  rw [mixR_ok _ hW h1 h2]
  congr 2
  refine Bs.ofP_congr fun i _ => ?_
  cases Bs.bit ws i <;> cases Bs.bit xs i <;> rfl

/-- The canonical function, or the error, as a value. -/
def cnR (W : Nat) (gs ks : List Nat) (cs : List (Int × Int)) : Int × List Nat × List Nat × List (Int × Int) × Int :=
  if (ord (cs.filter (restB W gs))).length ≤ 64 then (W, gs, killC W gs ks cs, ord (cs.filter (restB W gs)), 0) else (0, [], [], [], 7)
theorem RetCanon.val {w w' : World} {W : Nat} {gs ks : List Nat} {cs : List (Int × Int)} {e : Ending} (hh : RetCanon w W gs ks cs e w') : RetR w (cnR W gs ks cs) e w' := by
  unfold RetCanon at hh
  unfold cnR
  by_cases h : (ord (cs.filter (restB W gs))).length ≤ 64
  · rw [if_pos h] at hh ⊢; exact hh
  · rw [if_neg h] at hh ⊢; exact hh

/-- P3.5. -/
def joinR (W : Int) (gs : List Nat) (V : Int) (ks : List Nat) (cs : List (Int × Int)) (W' : Int) (gs' : List Nat) (V' : Int) (ks' : List Nat) (cs' : List (Int × Int)) : Int × List Nat × List Nat × List (Int × Int) × Int :=
  if validT W gs V ks cs = false ∨ validT W' gs' V' ks' cs' = false then (0, [], [], [], 1)
  else if W ≠ W' then (0, [], [], [], 2)
  else cnR W.toNat (orR W.toNat gs gs') (andR W.toNat ks ks') (cs ++ cs')

/-- Two functions and the empty result in three new blocks. -/
def Three (w : World) (W V : Int) (A B C : Option Addr) (n c m d k q : Nat) (W' V' : Int) (A' B' C' : Option Addr) (n' c' m' d' k' q' : Nat) (wr : World) : Prop :=
  Fb wr w.heap.size #[.int .i64 W, .slice A n c, .int .i64 V, .slice B m d, .slice C k q] 29 ∧ Fb wr (w.heap.size + 1) #[.int .i64 W', .slice A' n' c', .int .i64 V', .slice B' m' d', .slice C' k' q'] 29 ∧
    Fb wr (w.heap.size + 2) #[.int .i64 0, .slice none 0 0, .int .i64 0, .slice none 0 0, .slice none 0 0] 29 ∧ Below w.heap.size w wr
section
variable {w : World} {W V : Int} {A B C : Option Addr} {n c m d k q : Nat} {W' V' : Int} {A' B' C' : Option Addr} {n' c' m' d' k' q' : Nat} {wr w' : World}
theorem Three.start (w : World) (W V : Int) (A B C : Option Addr) (n c m d k q : Nat) (W' V' : Int) (A' B' C' : Option Addr) (n' c' m' d' k' q' : Nat) :
    Three w W V A B C n c m d k q W' V' A' B' C' n' c' m' d' k' q' (((w.alloc (.cells #[.int .i64 W, .slice A n c, .int .i64 V, .slice B m d, .slice C k q] 29)).alloc (.cells #[.int .i64 W', .slice A' n' c', .int .i64 V', .slice B' m' d', .slice C' k' q'] 29)).alloc (.cells #[.int .i64 0, .slice none 0 0, .int .i64 0, .slice none 0 0, .slice none 0 0] 29)) := by
  have h := TwoT.start w W V A B C n c m d k q W' V' A' B' C' n' c' m' d' k' q'
  have hS := Fb.new ((w.alloc (.cells #[.int .i64 W, .slice A n c, .int .i64 V, .slice B m d, .slice C k q] 29)).alloc (.cells #[.int .i64 W', .slice A' n' c', .int .i64 V', .slice B' m' d', .slice C' k' q'] 29)) #[.int .i64 0, .slice none 0 0, .int .i64 0, .slice none 0 0, .slice none 0 0] 29
  simp only [World.size_alloc] at hS
  exact ⟨h.1.alloc _, h.2.1.alloc _, hS, h.2.2.alloc (by simp; omega) _⟩
theorem Three.below (h : Three w W V A B C n c m d k q W' V' A' B' C' n' c' m' d' k' q' wr) (hb : Below wr.heap.size wr w') : Three w W V A B C n c m d k q W' V' A' B' C' n' c' m' d' k' q' w' :=
  ⟨h.1.below hb h.1.lt, h.2.1.below hb h.2.1.lt, h.2.2.1.below hb h.2.2.1.lt, h.2.2.2.trans (hb.mono h.2.2.2.size)⟩
end
end Go.Proofs.Ytkckkodoeepdpaa
