/- same: whether two lists of tokens are equal; and the sanity check. -/
import Derived.Test.YtmbelhdkaepohaaGreatDoorDsc
import Derived.Test.YtmbelhdkaepohaaGreatDoorKw
import Derived.Deep.Slices
namespace Go.Proofs.YtmbelhdkaepohaaGreatDoor
set_option maxRecDepth 20000
set_option linter.unusedVariables false
open Go.ChangeShapes Go.WideShapes Go.ChangeAt Go.RowKit

theorem TArg.cell {w : World} {A : Option Addr} {n : Nat} {l : List Tok} (h : TArg w A n l) {i : Nat} (hi : i < l.length) :
    ∃ ad : Addr, A = some ad ∧ ad.block < w.heap.size ∧ (w.cell? (ad.add (i * 4)) = some (.int .i64 (l[i]).kind) ∧ w.cell? ⟨(ad.add (i * 4)).block, (ad.add (i * 4)).off + 1, none⟩ = some (.string (l[i]).text)) ∧
      (w.cell? ⟨(ad.add (i * 4)).block, (ad.add (i * 4)).off + 2, none⟩ = some (.int .i64 ((l[i]).line : Int)) ∧ w.cell? ⟨(ad.add (i * 4)).block, (ad.add (i * 4)).off + 3, none⟩ = some (.int .i64 ((l[i]).col : Int))) := by
  obtain ⟨g0, g1, g2, g3⟩ := tcells_get hi
  obtain ⟨ad, e, hb, hc⟩ := h.lies.cell g0
  obtain ⟨ad1, e1, _, hc1⟩ := h.lies.cell g1
  obtain ⟨ad2, e2, _, hc2⟩ := h.lies.cell g2
  obtain ⟨ad3, e3, _, hc3⟩ := h.lies.cell g3
  rw [e] at e1 e2 e3
  cases e1; cases e2; cases e3
  refine ⟨ad, e, hb, ⟨hc, ?_⟩, ?_, ?_⟩
  · rw [show (⟨(ad.add (i * 4)).block, (ad.add (i * 4)).off + 1, none⟩ : Addr) = (ad.add (i * 4)).add 1 from rfl, Go.Deep.add_add]; exact hc1
  · rw [show (⟨(ad.add (i * 4)).block, (ad.add (i * 4)).off + 2, none⟩ : Addr) = (ad.add (i * 4)).add 2 from rfl, Go.Deep.add_add]; exact hc2
  · rw [show (⟨(ad.add (i * 4)).block, (ad.add (i * 4)).off + 3, none⟩ : Addr) = (ad.add (i * 4)).add 3 from rfl, Go.Deep.add_add]; exact hc3

set_option maxHeartbeats 1600000 in
/-- Of equal lists it is true. -/
theorem scan1 : scanR ⟨#[120, 32, 61, 32, 121, 32, 59, 32, 114, 101, 116, 117, 114, 110]⟩ = ([⟨1, ⟨#[120]⟩, 1, 1⟩, ⟨2, ⟨#[61]⟩, 1, 3⟩, ⟨1, ⟨#[121]⟩, 1, 5⟩, ⟨3, ByteArray.empty, 1, 7⟩, ⟨1, ⟨#[114, 101, 116, 117, 114, 110]⟩, 1, 9⟩, ⟨3, ByteArray.empty, 1, 15⟩], 0, 0, 0) := by kernel_rfl
theorem scan2 : scanR ⟨#[120, 32, 61, 32, 49, 121]⟩ = ([], 1, 5, 4) := by kernel_rfl
theorem scan3 : scanR ⟨#[10, 32, 35, 32, 97, 59, 32, 98, 10, 10]⟩ = ([], 0, 0, 0) := by kernel_rfl

def scanOk : List Tok := [⟨1, ⟨#[120]⟩, 1, 1⟩, ⟨2, ⟨#[61]⟩, 1, 3⟩, ⟨1, ⟨#[121]⟩, 1, 5⟩, ⟨3, ByteArray.empty, 1, 7⟩, ⟨1, ⟨#[114, 101, 116, 117, 114, 110]⟩, 1, 9⟩, ⟨3, ByteArray.empty, 1, 15⟩]
theorem cells_ok {w' : World} {g : Nat} (h : Fb w' g (tcells scanOk).toArray 78) : TArg w' (some ⟨g, 0, none⟩) 6 scanOk :=
  ⟨.inr ⟨_, rfl, h.lt, fun j u hu => by rw [add_of, h.cell]; simpa using hu⟩, rfl⟩
end Go.Proofs.YtmbelhdkaepohaaGreatDoor
