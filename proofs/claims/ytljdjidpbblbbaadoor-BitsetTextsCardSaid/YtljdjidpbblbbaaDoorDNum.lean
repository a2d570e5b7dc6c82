/- The package's number reads a numeral; strings.Cut at one byte. -/
import Derived.Test.YtljdjidpbblbbaaDoorPSpec
import Derived.Test.YtljdjidpbblbbaaDoorParse
import Derived.Test.YtljdjidpbblbbaaDoorShelfB
import Derived.Lib.AtoiErrMem
namespace Go.Proofs.YtljdjidpbblbbaaDoor
set_option maxRecDepth 20000
open Go.ChangeShapes Go.WideShapes Go.ChangeAt Go.RowKit

/-- What the library's functions want of the world: the table of powers of ten, the two error variables, the bound that Index reads. -/
structure Libs (w : World) : Prop where
  tab : Tab w
  e1 : ∃ te pe, w.cell? ⟨1, 0, none⟩ = some (.iface te pe)
  e2 : ∃ te pe, w.cell? ⟨2, 0, none⟩ = some (.iface te pe)
  mx : ∃ m, w.cell? ⟨0, 0, none⟩ = some (.int .i64 m)
theorem Libs.below {B : Nat} {w w' : World} (h : Libs w) (hb : Below B w w') (hB : 3 < B) : Libs w' := by
  obtain ⟨te, pe, h1⟩ := h.e1
  obtain ⟨te2, pe2, h2⟩ := h.e2
  obtain ⟨m, h3⟩ := h.mx
  exact ⟨h.tab.below hb hB, ⟨te, pe, (hb.cell (p := ⟨1, 0, none⟩) (by show 1 < B; omega)).trans h1⟩, ⟨te2, pe2, (hb.cell (p := ⟨2, 0, none⟩) (by show 2 < B; omega)).trans h2⟩, ⟨m, (hb.cell (p := ⟨0, 0, none⟩) (by show 0 < B; omega)).trans h3⟩⟩
theorem Libs.step {w w' : World} (h : Libs w) (hb : Below w.heap.size w w') : Libs w' := h.below hb h.tab.lt
/-- A change of one block behind the variables. -/
theorem below_one {w w' : World} {g : Nat} (hg : w.grownBy w' (some g)) (h : g ≤ w.heap.size) : Below g w w' :=
  ⟨hg.os, hg.tape, hg.output, hg.size, fun k hk => hg.block k (by omega) (some_ne (by omega))⟩
theorem Libs.grown {w w' : World} {g : Nat} (h : Libs w) (hg : w.grownBy w' (some g)) (h1 : 3 < g) (h2 : g ≤ w.heap.size) : Libs w' := h.below (below_one hg h2) h1

theorem cut_any (s : ByteArray) (c : UInt8) (w : World) (hs : s.size ≤ 100000) (hL : Libs w) :
    Calls Tryd.prog 57 #[.string s, .string ⟨#[c]⟩] w fun e w' => ∃ a b f, e = .returned (.tuple #[.string a, .string b, .bool f]) ∧ Lib.cut s.data.toList [c] = (a.data.toList, b.data.toList, f) ∧ Below w.heap.size w w' := by
  obtain ⟨m, hm⟩ := hL.mx
  refine (Tryd.strings_Cut s ⟨#[c]⟩ m w (by omega) hm).mono ?_
  rintro e w' ⟨rfl, n, rfl⟩
  exact ⟨_, _, _, rfl, rfl, below_drewN (Below.refl _ _) n⟩

theorem number_fail (s : ByteArray) (w : World) (hc : Calls Tryd.prog 75 #[.string s] w fun e w' => ∃ v te pe, e = .returned (.tuple #[.int .i64 v, .iface te pe]) ∧ Below w.heap.size w w') :
    Calls Tryd.prog 58 #[.string s] w fun e w' => e = .returned (.tuple #[.int .i64 0, .bool false]) ∧ Below w.heap.size w w' := by
  go_enter Tryd.func58, Tryd.ntmps58
  go_wp2_with (go_at_call 75; refine hc.mono ?_; rintro e w1 ⟨v, te, pe, rfl, hb⟩; have Hb := hid hb; clear hb)
  exact bodyPost_ret (v := .tuple #[.int .i64 0, .bool false]) (by simp [results, Tryd.results58]) rfl ⟨rfl, Hb.out⟩

theorem number_good (s : ByteArray) (v : Int) (w : World) (h0 : -9223372036854775808 ≤ v) (h1 : v ≤ 9223372036854775807) (hL : Libs w)
    (hc : Calls Tryd.prog 75 #[.string s] w fun e w' => e = .returned (.tuple #[.int .i64 v, .nilIface]) ∧ Below w.heap.size w w') :
    Calls Tryd.prog 58 #[.string s] w fun e w' => e = .returned (.tuple #[.int .i64 (if Lib.itoa v = s.data.toList then v else 0), .bool (decide (Lib.itoa v = s.data.toList))]) ∧ Below w.heap.size w w' := by
  have HL := hid hL
  clear hL
  by_cases he : Lib.itoa v = s.data.toList
  · rw [if_pos he, decide_eq_true he]
    have hq := fun w => neq_str_yes (Lib.itoa v) s he w
    have hg := fun x y w => guard_neq (Lib.itoa v) s x y w
    generalize hl : Lib.itoa v = l at hq hg
    have Hl := hid hl
    clear he hl
    go_enter Tryd.func58, Tryd.ntmps58
    go_wp2_with (first
      | (go_at_call 75; refine hc.mono ?_; rintro e w1 ⟨rfl, hb⟩; have Hb := hid hb; clear hb)
      | (go_at_call 60; refine (Tryd.strconv_Itoa v h0 h1 _ (HL.out.step Hb.out).tab).mono ?_; rw [Hl.out, show Value.string ⟨l.toArray⟩ = str l from rfl]; rintro e w2 ⟨rfl, hb⟩
         have Hb2 : Hid (Below w.heap.size w w2) := hid (by obtain ⟨k, os, rfl⟩ := hb; exact Hb.out.trans (((below_drewN (Below.refl _ _) k).trans (below_grow (by simp) os)).mono Hb.out.size))
         clear hb))
    exact bodyPost_ret (v := .tuple #[.int .i64 v, .bool true]) (by simp [results, Tryd.results58]) rfl ⟨rfl, Hb2.out⟩
  · rw [if_neg he, decide_eq_false he]
    have hq := fun w => neq_str_no (Lib.itoa v) s he w
    have hg := fun x y w => guard_neq (Lib.itoa v) s x y w
    generalize hl : Lib.itoa v = l at hq hg
    have Hl := hid hl
    clear he hl
    go_enter Tryd.func58, Tryd.ntmps58
    go_wp2_with (first
      | (go_at_call 75; refine hc.mono ?_; rintro e w1 ⟨rfl, hb⟩; have Hb := hid hb; clear hb)
      | (go_at_call 60; refine (Tryd.strconv_Itoa v h0 h1 _ (HL.out.step Hb.out).tab).mono ?_; rw [Hl.out, show Value.string ⟨l.toArray⟩ = str l from rfl]; rintro e w2 ⟨rfl, hb⟩
         have Hb2 : Hid (Below w.heap.size w w2) := hid (by obtain ⟨k, os, rfl⟩ := hb; exact Hb.out.trans (((below_drewN (Below.refl _ _) k).trans (below_grow (by simp) os)).mono Hb.out.size))
         clear hb))
    exact bodyPost_ret (v := .tuple #[.int .i64 0, .bool false]) (by simp [results, Tryd.results58]) rfl ⟨rfl, Hb2.out⟩

theorem devNumber_any (s : ByteArray) (w : World) (hs : s.size ≤ 100000) (hL : Libs w) :
    Calls Tryd.prog 58 #[.string s] w fun e w' => ∃ v ok, e = .returned (.tuple #[.int .i64 v, .bool ok]) ∧ NumQ s.data.toList v ok ∧ Below w.heap.size w w' := by
  have none : (∀ u, Lib.atoiAll s.data.toList ≠ .ok u) → NumQ s.data.toList 0 false := fun h => .inr ⟨rfl, rfl, fun m hm hd => h (m : Int) (by rw [← hd]; exact atoi_dec m (by omega))⟩
  rcases hh : Lib.atoiAll s.data.toList with v | _ | _
  · obtain ⟨h0, h1⟩ := atoi_range hh
    have hc := (Tryd.strconv_Atoi_ok s (by omega) v hh w).mono (R' := fun e w' => e = .returned (.tuple #[.int .i64 v, .nilIface]) ∧ Below w.heap.size w w') (by
      rintro e w' ⟨rfl, rfl | ⟨t, rfl⟩⟩
      · exact ⟨rfl, Below.refl _ _⟩
      · exact ⟨rfl, Lib.bytesWorld_below _ _ _⟩)
    refine (number_good s v w h0 h1 hL hc).mono ?_
    rintro e w' ⟨rfl, hb⟩
    refine ⟨_, _, rfl, ?_, hb⟩
    by_cases he : Lib.itoa v = s.data.toList
    · rw [if_pos he]; exact .inl ⟨by simpa using he, he, h0, h1⟩
    · rw [if_neg he]
      refine .inr ⟨by simpa using he, rfl, fun m hm hd => he ?_⟩
      have := atoi_dec m (by omega)
      rw [hd, hh] at this
      injection this with this
      rw [this, itoa_nat, hd]
  · obtain ⟨te, pe, he⟩ := hL.e1
    have hc := (Any.strconv_Atoi_syntax Tryd.laysC172 s (by omega) hh _ w he (.inr ⟨te, pe, rfl⟩)).mono (R' := fun e w' => ∃ v te pe, e = .returned (.tuple #[.int .i64 v, .iface te pe]) ∧ Below w.heap.size w w') (by
      rintro e w' ⟨N, rfl, _, _, hb⟩
      exact ⟨_, _, _, rfl, hb⟩)
    refine (number_fail s w hc).mono ?_
    rintro e w' ⟨rfl, hb⟩
    exact ⟨_, _, rfl, none (fun u h => by rw [hh] at h; cases h), hb⟩
  · obtain ⟨te, pe, he⟩ := hL.e2
    have hc := (Any.strconv_Atoi_range Tryd.laysC172 s (by omega) hh _ w he (.inr ⟨te, pe, rfl⟩)).mono (R' := fun e w' => ∃ v te pe, e = .returned (.tuple #[.int .i64 v, .iface te pe]) ∧ Below w.heap.size w w') (by
      rintro e w' ⟨N, rfl, _, _, hb⟩
      exact ⟨_, _, _, rfl, hb⟩)
    refine (number_fail s w hc).mono ?_
    rintro e w' ⟨rfl, hb⟩
    exact ⟨_, _, rfl, none (fun u h => by rw [hh] at h; cases h), hb⟩
end Go.Proofs.YtljdjidpbblbbaaDoor
