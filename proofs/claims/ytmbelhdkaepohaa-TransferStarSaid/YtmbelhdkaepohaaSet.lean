/- The tape's Set makes a valid set of the given width and changes nothing else but the tape. -/
import Derived.Test.YtmbelhdkaepohaaEqual
namespace Go.Proofs.Ytmbelhdkaepohaa
open Go.ChangeShapes Go.WideShapes Go.ChangeAt Go.RowKit

/-- A valid set of width W came back; nothing but the tape has changed. -/
def GenSetW (w : World) (T W : Nat) (e : Ending) (w' : World) : Prop :=
  ∃ (ad : Addr) (n c : Nat) (ws : List Nat), e = .returned (.agg #[.int .i64 W, .slice (some ad) n c]) ∧ Bs.Fit W ws ∧ Arg w' (some ad) n ws ∧ Tape w' T ∧ w.grownBy w' (some T)

theorem Growing.tape {w wr w' : World} {T b r v : Nat} (h : Growing w T b r v wr) (ht : Tape w' T) (hg : wr.grownBy w' (some T)) (hTw : T < w.heap.size) (hb : T ≠ b) (hr : T ≠ r) : Growing w T b r v w' := by
  obtain ⟨g, ws, h1, h2, h3, h4, h5, h6, h7⟩ := h
  exact ⟨g, ws, h1, h2.grown hg (by simp; omega), (hg.block g h3.lt (by simp; omega)).trans h3, h4, h5.grown hg (by simp; omega), ht, grown_trans h7 hg⟩
theorem Growing.put {w wr w5 : World} {T b r v g5 : Nat} {zs : List Nat} (h : Growing w T b r v wr) (hT : T < w.heap.size) (hbw : w.heap.size ≤ b) (hbr : b ≠ r) (hf : Bs.Fit v zs) (hg : wr.heap.size ≤ g5) (hrow : Row w5 g5 zs) (hb : Below wr.heap.size wr w5) :
    Growing w T b r v ((w5.setCell ⟨b, 0, none⟩ (.int .i64 v)).setCell ⟨b, 1, none⟩ (.slice (some ⟨g5, 0, none⟩) (Bs.nw v) (Bs.nw v))) := by
  obtain ⟨g, ws, h1, h2, h3, h4, h5, h6, h7⟩ := h
  have l2 := h2.lt
  have l5 := h5.lt
  have l7 := h7.size
  exact ⟨g5, zs, hf, (h2.below hb l2).set _ _ _ _, (hrow.far (by simp; omega) _).far (by simp; omega) _, by omega, ((h5.below hb l5).far (by simp; omega) _).far (by simp; omega) _, ((h6.below hb (by omega)).far (by simp; omega) _).far (by simp; omega) _, grown_set_new (grown_set_new (grown_trans h7 (grown_of_below hb _)) (by simpa using hbw) _) (by simpa using hbw) _⟩

end Go.Proofs.Ytmbelhdkaepohaa
