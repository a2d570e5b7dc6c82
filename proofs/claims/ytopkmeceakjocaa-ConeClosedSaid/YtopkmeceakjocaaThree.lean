/- The reference's Union, Inter and Diff return what mix makes by their flags. -/
import Derived.Test.YtopkmeceakjocaaMix
namespace Go.Proofs.Ytopkmeceakjocaa
open Go.ChangeShapes Go.WideShapes Go.ChangeAt Go.RowKit

/-- Words do not lie in a variable that holds a set. -/
theorem Box.apart {w : World} {b : Nat} {W : Int} {A B : Option Addr} {n c m : Nat} {ws : List Nat} (h : Box w b W A n c) (ha : Arg w B m ws) : ws = [] ∨ ∀ ad, B = some ad → ad.block ≠ b := by
  rcases ws with _ | ⟨x, ws⟩
  · exact .inl rfl
  · refine .inr fun ad he hb => ?_
    obtain ⟨ad', he', _, hc⟩ := ha.lies.cell (j := 0) (u := u64 x) rfl
    rw [he] at he'
    injection he' with he'
    subst he'
    have hz : ad.add 0 = ad := by unfold Addr.add; simp
    rw [hz] at hc
    unfold Box at h
    unfold World.cell? at hc
    rw [hb, h] at hc
    simp only at hc
    split at hc
    · cases hc
    · match hoff : ad.off, hc with
      | 0, hc => simp [u64] at hc
      | 1, hc => simp [u64] at hc
      | k + 2, hc => simp at hc
theorem Arg.far {w : World} {B : Option Addr} {m : Nat} {ws : List Nat} {p : Addr} (ha : Arg w B m ws) (hn : ws = [] ∨ ∀ ad, B = some ad → ad.block ≠ p.block) (u : Value) : Arg (w.setCell p u) B m ws := by
  refine ⟨?_, ha.len, ha.ok⟩
  have hs : (w.setCell p u).heap.size = w.heap.size := by simp [World.setCell]
  rcases hn with rfl | hn
  · exact .inl rfl
  · rcases ha.lies with h0 | ⟨ad, e, hb, hc⟩
    · exact .inl h0
    · exact .inr ⟨ad, e, by omega, fun j v hj => (World.cell?_of_block (Below.heap_setCell w p u _ (by rw [add_block]; exact hn ad e))).trans (hc j v hj)⟩
theorem Box.store {w : World} {b : Nat} {W : Int} {A B : Option Addr} {n c m : Nat} {ws : List Nat} (h : Box w b W A n c) (ha : Arg w B m ws) (u v : Value) : Arg ((w.setCell ⟨b, 0, none⟩ u).setCell ⟨b, 1, none⟩ v) B m ws :=
  (ha.far (p := ⟨b, 0, none⟩) (h.apart ha) u).far (p := ⟨b, 1, none⟩) (h.apart ha) v

theorem refUnion_any (W V : Int) (A B : Option Addr) (n c m d : Nat) (ws xs : List Nat) (w : World) (hA : Arg w A n ws) (hB : Arg w B m xs) :
    Calls Try.prog 54 #[.agg #[.int .i64 W, .slice A n c], .agg #[.int .i64 V, .slice B m d]] w (RetErr w (mixR (flag true true true) W ws V xs)) := by
  have HA := hid hA; have HB := hid hB
  clear hA hB
  obtain ⟨hx1, hx2, hx3⟩ := box3 w W V A B n c m d
  have hx4 := below3 w (.cells #[.int .i64 W, .slice A n c] 50) (.cells #[.int .i64 V, .slice B m d] 50) (.cells #[.int .i64 0, .slice none 0 0] 50)
  have Hx3 := hid hx3; have Hx4 := hid hx4
  clear hx1 hx2 hx3 hx4
  generalize hr : mixR (flag true true true) W ws V xs = r
  have Hr := hid hr
  clear hr
  go_enter Try.func54, Try.ntmps54
  go_wp2_with fail
  refine (mix_any W V A B n c m d ws xs _ _ _ _ (HA.out.below Hx4.out) (HB.out.below Hx4.out)).mono ?_
  rw [Hr.out]
  rintro e w1 ⟨A1, n1, c1, rfl, ha, hb⟩
  have hq := Hx3.out.below hb (by simp)
  have hq0 := hq.c0
  have hq1 := hq.c1
  have hf0 := hq.f 0
  have hf1 := hq.f 1
  have Ha := hid ha; have Hb := hid hb; have Hq := hid hq
  clear hq ha hb
  go_wp2_with fail
  refine bodyPost_ret (v := .tuple #[.agg #[.int .i64 r.1, .slice A1 n1 c1], .int .i64 r.2.2]) (by simp [results, Try.results54, go_sem, hq0, hq1]) rfl ⟨A1, n1, c1, rfl, ?_, ?_⟩
  · exact Hq.out.store Ha.out _ _
  · exact ((Hx4.out.trans (Hb.out.mono (by simp only [World.size_alloc]; omega))).setCell (by simp; omega) _).setCell (by simp; omega) _

theorem refDiff_any (W V : Int) (A B : Option Addr) (n c m d : Nat) (ws xs : List Nat) (w : World) (hA : Arg w A n ws) (hB : Arg w B m xs) :
    Calls Try.prog 102 #[.agg #[.int .i64 W, .slice A n c], .agg #[.int .i64 V, .slice B m d]] w (RetErr w (mixR (flag true false false) W ws V xs)) := by
  have HA := hid hA; have HB := hid hB
  clear hA hB
  obtain ⟨hx1, hx2, hx3⟩ := box3 w W V A B n c m d
  have hx4 := below3 w (.cells #[.int .i64 W, .slice A n c] 50) (.cells #[.int .i64 V, .slice B m d] 50) (.cells #[.int .i64 0, .slice none 0 0] 50)
  have Hx3 := hid hx3; have Hx4 := hid hx4
  clear hx1 hx2 hx3 hx4
  generalize hr : mixR (flag true false false) W ws V xs = r
  have Hr := hid hr
  clear hr
  go_enter Try.func102, Try.ntmps102
  go_wp2_with fail
  refine (mix_any W V A B n c m d ws xs _ _ _ _ (HA.out.below Hx4.out) (HB.out.below Hx4.out)).mono ?_
  rw [Hr.out]
  rintro e w1 ⟨A1, n1, c1, rfl, ha, hb⟩
  have hq := Hx3.out.below hb (by simp)
  have hq0 := hq.c0
  have hq1 := hq.c1
  have hf0 := hq.f 0
  have hf1 := hq.f 1
  have Ha := hid ha; have Hb := hid hb; have Hq := hid hq
  clear hq ha hb
  go_wp2_with fail
  refine bodyPost_ret (v := .tuple #[.agg #[.int .i64 r.1, .slice A1 n1 c1], .int .i64 r.2.2]) (by simp [results, Try.results102, go_sem, hq0, hq1]) rfl ⟨A1, n1, c1, rfl, ?_, ?_⟩
  · exact Hq.out.store Ha.out _ _
  · exact ((Hx4.out.trans (Hb.out.mono (by simp only [World.size_alloc]; omega))).setCell (by simp; omega) _).setCell (by simp; omega) _
end Go.Proofs.Ytopkmeceakjocaa
