/- The reference's Union, Inter and Diff return what mix makes by their flags. -/
import Derived.Test.YtadkjnjibefocaaMix
namespace Go.Proofs.Ytadkjnjibefocaa
open Go.ChangeShapes Go.WideShapes Go.ChangeAt Go.RowKit

/-- Words do not lie in a variable that holds a set. -/
theorem Box.apart {w : World} {b : Nat} {W : Int} {A B : Option Addr} {n c m : Nat} {ws : List Nat} (h : Box w b W A n c) (ha : Arg w B m ws) : ws = [] ∨ ∀ ad, B = some ad → ad.block ≠ b := by
  rcases ws with _ | ⟨x, ws⟩
  · exact .inl rfl
  · refine .inr fun ad he hb => ?_
    obtain ⟨ad', he', _, hc⟩ := ha.lies.cell (j := 0) (u := u64 x) rfl
    rw [he] at he'
    injection he' with he'
    subst he'
    have hz : ad.add 0 = ad := by unfold Addr.add; simp
    rw [hz] at hc
    unfold Box at h
    unfold World.cell? at hc
    rw [hb, h] at hc
    simp only at hc
    split at hc
    · cases hc
    · match hoff : ad.off, hc with
      | 0, hc => simp [u64] at hc
      | 1, hc => simp [u64] at hc
      | k + 2, hc => simp at hc
theorem Arg.far {w : World} {B : Option Addr} {m : Nat} {ws : List Nat} {p : Addr} (ha : Arg w B m ws) (hn : ws = [] ∨ ∀ ad, B = some ad → ad.block ≠ p.block) (u : Value) : Arg (w.setCell p u) B m ws := by
  refine ⟨?_, ha.len, ha.ok⟩
  have hs : (w.setCell p u).heap.size = w.heap.size := by simp [World.setCell]
  rcases hn with rfl | hn
  · exact .inl rfl
  · rcases ha.lies with h0 | ⟨ad, e, hb, hc⟩
    · exact .inl h0
    · exact .inr ⟨ad, e, by omega, fun j v hj => (World.cell?_of_block (Below.heap_setCell w p u _ (by rw [add_block]; exact hn ad e))).trans (hc j v hj)⟩
theorem Box.store {w : World} {b : Nat} {W : Int} {A B : Option Addr} {n c m : Nat} {ws : List Nat} (h : Box w b W A n c) (ha : Arg w B m ws) (u v : Value) : Arg ((w.setCell ⟨b, 0, none⟩ u).setCell ⟨b, 1, none⟩ v) B m ws :=
  (ha.far (p := ⟨b, 0, none⟩) (h.apart ha) u).far (p := ⟨b, 1, none⟩) (h.apart ha) v

end Go.Proofs.Ytadkjnjibefocaa
