/- The walk of BitsetTexts: it returns true for every list of choices and every string, and writes new memory only. -/
import Derived.Test.YtljdjidpbblbbaaDoorParses
import Derived.Test.YtljdjidpbblbbaaDoorDBytes
import Derived.Test.YtljdjidpbblbbaaDoorLawMakes
import Derived.Laws.IdiomStrings
namespace Go.Proofs.YtljdjidpbblbbaaDoor
set_option maxRecDepth 20000
open Go.ChangeShapes Go.WideShapes Go.ChangeAt Go.RowKit

theorem text_len (v : Nat) (ws : List Nat) (hv : v ≤ 256) : (textB v ws).length ≤ 90000 := by
  unfold textB
  split
  · have h1 := memsTo_len ws v
    have h2 := joinTo_len (memsTo ws v) (fun x hx => by have := memsTo_range ws v x hx; omega) (memsTo ws v).length (Nat.le_refl _)
    have h3 := dec_len v
    rw [Int.toNat_natCast]
    simp only [List.length_append, List.length_singleton]
    omega
  · simp
theorem text_pos (v : Nat) (ws : List Nat) (h : Bs.validB v ws = true) : 0 < (textB v ws).length := by
  unfold textB
  rw [if_pos h]
  simp only [List.length_append, List.length_singleton]
  omega
theorem size_of (l : List UInt8) : (⟨l.toArray⟩ : ByteArray).size = l.length := by simp [ByteArray.size]
theorem parseR_self {v : Nat} {ws : List Nat} (h : Bs.validB v ws = true) {tx : List UInt8} (ht : textB v ws = tx) : ParseR (⟨tx.toArray⟩ : ByteArray).data.toList ((v : Int), ws, 0) :=
  .inl ⟨rfl, h, by simpa using ht⟩
/-- The bytes of a conversion. -/
theorem bytes_at (w : World) (tx : List UInt8) : At (Lib.bytesWorld w 5 ⟨tx.toArray⟩) (Lib.bytesWorld w 5 ⟨tx.toArray⟩).heap.size (some ⟨w.heap.size, 0, none⟩) (bys tx) := by
  refine .inr ⟨_, rfl, by rw [Lib.bytesWorld_size]; show w.heap.size < _; omega, fun j u hu => ?_⟩
  have hj : j < (bys tx).length := (List.getElem?_eq_some_iff.1 hu).1
  rw [bys_len] at hj
  rw [add_of, Lib.bytesWorld_cell w 5 ⟨tx.toArray⟩ j (by rw [size_of]; exact hj), ← hu, bys_get hj]
theorem back_any (w : World) (base g n c : Nat) (l : List UInt8) (h : OwnB w base g n c l) : (convert 49 9 (.slice (some ⟨g, 0, none⟩) n c)).run Tryd.prog w = .ok (.string ⟨l.toArray⟩) w := by
  have hl := h.len
  subst hl
  refine run_convert_bytes_back w 49 9 5 ⟨g, 0, none⟩ c l Tryd.underlying49 Tryd.underlying5 Tryd.underlying9 fun j hj => ?_
  rw [add_of, World.ownsRow.cellAt h j (by omega), bys_get hj, List.getD_eq_getElem?_getD, List.getElem?_eq_getElem hj]
  rfl

theorem pick9 (cs : Array Value) (hcs : ∀ j, j < 9 → ∃ t : ByteArray, cs[j]? = some (.string t) ∧ t.size ≤ 3) (r : Int) (h0 : 0 ≤ r) (h1 : r < 9) (w w1 : World) {T : Nat} (hg : (w.alloc (.cells cs 9)).grownBy w1 (some T)) (hT : w.heap.size ≠ T) :
    ∃ t : ByteArray, t.size ≤ 3 ∧ w1.cell? ⟨w.heap.size, r.toNat, none⟩ = some (.string t) := by
  have hh := heap_alloc_new w (.cells cs 9)
  have hblk := hg.block w.heap.size (by rw [World.size_alloc]; omega) (some_ne hT)
  rw [hh] at hblk
  obtain ⟨t, h2, h3⟩ := hcs r.toNat (by omega)
  exact ⟨t, h3, by simp [World.cell?, hblk, h2]⟩

set_option maxHeartbeats 6400000 in
theorem lawTexts (At : Option Addr) (nt ct : Nat) (zs : List Int) (s : ByteArray) (w : World) (ht : IArg w At nt zs) (hnt : nt ≤ maxLen) (hL : Libs w) :
    Calls Tryd.prog 7 #[.slice At nt ct, .string s] w fun e w' => e = .returned (.bool true) ∧ Below w.heap.size w w' := by
  have hinv : Going w w.heap.size (w.alloc (.cells #[.slice At nt ct, .int .i64 0] 58)) := ⟨tape_new ht hnt, (Below.refl _ _).alloc (Nat.le_refl _) _, Nat.le_refl _⟩
  have Hinv := hid hinv; have HL := hid hL
  have h3T := hL.tab.lt
  clear hinv ht hL
  go_enter Tryd.func7, Tryd.ntmps7
  go_wp2_with (go_at_call 9; refine (new_any At nt ct _).mono ?_; rintro e w1 ⟨rfl, rfl⟩)
  generalize hT : w.heap.size = T at *
  have HT := hid hT
  clear hT
  have hLib : ∀ wr, Going w T wr → Libs wr := fun wr h => HL.out.below h.2.1 (by rw [HT.out]; exact h3T)
  have HLib := hid hLib
  clear hLib
  go_loopw [6] (fun i wr => ∃ k : Nat, k ≤ 5 ∧ i = .int .i64 k ∧ Hid (Going w T wr)) (fun i _ => 5 - (intOf i).toNat)
  case atStart => exact ⟨0, by omega, rfl, Hinv⟩
  case round =>
    obtain ⟨k, hk, rfl, hG⟩ := hrel
    clear Hinv
    by_cases hlt : k < 5
    · have htt := hid hG.out.1
      go_wp2_with fail
      refine (wide_any T _ htt.out).mono ?_
      rintro e w1 ⟨v, ax, nx, cx, sx, rfl, hv, hfx, hax, ht1, hg1⟩
      have hG1 := hid ((hG.out.step ht1 hg1).alloc (.cells #[.int .i64 v, .slice (some ax) nx cx] 25))
      have hnx := fit_len hfx hax hv
      have hval := Bs.valid_of_fit hfx hv
      have Hx := hid (Box.new w1 v (some ax) nx cx)
      have Hax := hid (hax.alloc (.cells #[.int .i64 v, .slice (some ax) nx cx] 25))
      generalize htx : textB v sx = tx
      have htl := text_len v sx hv
      have htp := text_pos v sx hval
      rw [htx] at htl htp
      have Htx := hid htx; have Hval := hid hval
      clear ht1 hg1 hfx hax hG htt htx hval
      have hc0 := Hx.out.c0
      have hc1 := Hx.out.c1
      go_wp2_with fail
      refine (devText_any v (some ax) nx cx sx _ Hax.out (.inr (HLib.out _ hG1.out).tab)).mono ?_
      rw [Htx.out]
      rintro e w2 ⟨rfl, hb2⟩
      have hG2 := hid (hG1.out.below hb2)
      have Hx2 := hid (Hx.out.below hb2 (by simp))
      have Hax2 := hid (Hax.out.below hb2)
      clear hb2 hc0 hc1 Hx Hax hG1
      go_wp2_with fail
      refine (devParse_any ⟨tx.toArray⟩ _ (by rw [size_of]; omega) (HLib.out _ hG2.out)).mono ?_
      rintro e w3 ⟨r, hpr, A3, n3, c3, rfl, ha3, hb3⟩
      obtain rfl : r = ((v : Int), sx, 0) := parse_unique hpr (parseR_self Hval.out Htx.out) ha3.ok Hax2.out.ok
      have hG3 := hid ((hG2.out.below hb3).alloc (.cells #[.int .i64 v, .slice A3 n3 c3] 25))
      have hx3 := (Hx2.out.below hb3 Hx2.out.lt).alloc (.cells #[.int .i64 v, .slice A3 n3 c3] 25)
      have Hax3 := hid ((Hax2.out.below hb3).alloc (.cells #[.int .i64 v, .slice A3 n3 c3] 25))
      have Hay3 := hid (ha3.alloc (.cells #[.int .i64 v, .slice A3 n3 c3] 25))
      have hy3 := Box.new w3 v A3 n3 c3
      have x0 := hx3.c0
      have x1 := hx3.c1
      have y0 := hy3.c0
      have y1 := hy3.c1
      have Hx3 := hid hx3
      clear hpr ha3 hb3 hx3 hy3 hG2 Hx2 Hax2
      simp only []
      go_wp2_with fail
      refine (refSame_any v v (some ax) A3 nx cx n3 c3 sx sx _ Hax3.out Hay3.out (by unfold maxLen; omega)).mono ?_
      rw [sameB_self]
      rintro e w4 ⟨rfl, hb4⟩
      have hG4 := hid (hG3.out.below hb4)
      have Hx4 := hid (Hx3.out.below hb4 Hx3.out.lt)
      have Hax4 := hid (Hax3.out.below hb4)
      have x40 := Hx4.out.c0
      have x41 := Hx4.out.c1
      clear hb4 x0 x1 y0 y1 hG3 Hx3 Hax3 Hay3
      go_wp2_with fail
      refine (refText_any v (some ax) nx cx sx _ Hax4.out).mono ?_
      rw [Htx.out]
      rintro e w5 ⟨rfl, hb5⟩
      have hG5 := hid (hG4.out.below hb5)
      have hG6 := hid (hG5.out.below (Lib.bytesWorld_below w5 5 ⟨tx.toArray⟩))
      have hcv : (convert 9 49 (str tx)).run Tryd.prog w5 = .ok (.slice (some ⟨w5.heap.size, 0, none⟩) tx.length (grownCap w5 tx.length 0 5)) (Lib.bytesWorld w5 5 ⟨tx.toArray⟩) := by
        have h := Lib.run_convert_string_bytes (P := Tryd.prog) w5 9 49 5 ⟨tx.toArray⟩ Tryd.underlying9 Tryd.underlying49 Tryd.underlying5
        rw [size_of] at h
        exact h
      have Hby := hid (bytes_at w5 tx)
      clear hb5 x40 x41 Hx4 hG4 Hax4
      generalize Lib.bytesWorld w5 5 ⟨tx.toArray⟩ = w6 at *
      generalize grownCap w5 tx.length 0 5 = c6 at *
      go_wp2_with fail
      refine (bytes_any T ⟨w5.heap.size, 0, none⟩ tx.length c6 tx w6 hG6.out.1 Hby.out rfl htp (by omega)).mono ?_
      rintro e w7 ⟨g, m, c7, l7, rfl, hm, hbag⟩
      have hcv7 := back_any w7 w6.heap.size g m c7 l7 hbag.1
      have hG7 := hid (hG6.out.step hbag.2.1 hbag.2.2.1)
      have hl7 := hbag.1.len
      clear hcv Hby hbag hG6 hG5
      go_wp2_with fail
      refine (parses_any ⟨l7.toArray⟩ _ (by rw [size_of]; omega) (HLib.out _ hG7.out)).mono ?_
      rintro e w8 ⟨rfl, hb8⟩
      have hG8 := hid (hG7.out.below hb8)
      clear hb8 hcv7 hG7
      go_wp2_with fail
      refine (next_any T 7 _ hG8.out.1 (by omega)).mono ?_
      rintro e w9 ⟨q, rfl, hq0, hq1, ht9, hg9, hz9⟩
      obtain ⟨j0, rfl⟩ := Int.eq_ofNat_of_zero_le hq0
      have hj0 : j0 ≤ 6 := by omega
      have hG9 := hid (hG8.out.step ht9 hg9)
      clear hq1 ht9 hg9 hz9 hG8
      go_wp2_with fail
      go_loopw [10, 11] (fun z n wr => ∃ (zz : ByteArray) (j : Nat), z = .string zz ∧ n = .int .i64 j ∧ j ≤ 6 ∧ zz.size + 3 * j ≤ 18 ∧ Hid (Going w T wr)) (fun _ n _ => (intOf n).toNat)
      case atStart => exact ⟨⟨#[]⟩, j0, rfl, rfl, hj0, by show 0 + 3 * j0 ≤ 18; omega, hG9⟩
      case round =>
        obtain ⟨zz, j, rfl, rfl, hj6, hzz, hM⟩ := hrel
        clear hG9
        by_cases hjp : 0 < j
        · have htt := hid hM.out.1
          go_wp2_with fail
          refine (next_any T 9 _ (htt.out.alloc _) (by omega)).mono ?_
          rintro e w10 ⟨r6, rfl, h60, h61, ht10, hg10, hz10⟩
          obtain ⟨t, ht3, hcell⟩ := pick9 _ (by
            intro i hi
            have : i = 0 ∨ i = 1 ∨ i = 2 ∨ i = 3 ∨ i = 4 ∨ i = 5 ∨ i = 6 ∨ i = 7 ∨ i = 8 := by omega
            rcases this with rfl | rfl | rfl | rfl | rfl | rfl | rfl | rfl | rfl <;> exact ⟨_, rfl, by decide⟩) r6 h60 (by omega) _ w10 hg10 (by have := htt.out.lt; omega)
          have hM10 := hid ((hM.out.alloc _).step ht10 hg10)
          have h62 : r6 < 9 := by omega
          clear h61 ht10 hg10 hz10 hM htt
          go_wp2_with fail
          go_roundw
          case rel => exact ⟨_, j - 1, rfl, by rw [show ((j - 1 : Nat) : Int) = (j : Int) - 1 from by omega], by omega, by rw [ByteArray.size_append]; omega, hM10⟩
          case measure => simp [intOf]; omega
        · go_wp2_with fail
          refine (parses_any zz _ (by omega) (HLib.out _ hM.out)).mono ?_
          rintro e w11 ⟨rfl, hb11⟩
          have hG11 := hid (hM.out.below hb11)
          clear hb11 hM
          go_wp2_with fail
          go_roundw
          case rel => exact ⟨k + 1, by omega, by go_num, hG11⟩
          case measure => simp [intOf]; omega
    · have H4 := hid hG.out.2.1
      have HG := hid hG.out
      clear hG
      by_cases c1 : 200 < s.size
      · have t1 : decide (200 < (s.size : Int)) = true := by simp; omega
        have t1' : decide (200 < s.size) = true := by simp; omega
        go_wp2_with fail
        go_ret
        refine ⟨ret_bool (by simp), ?_⟩
        rw [HT.out]; exact HT.out ▸ H4.out
      · have t1 : decide (200 < (s.size : Int)) = false := by simp; omega
        go_wp2_with fail
        refine (parses_any s _ (by omega) (HLib.out _ HG.out)).mono ?_
        rintro e w5 ⟨rfl, hb5⟩
        have Hb5 := hid (H4.out.trans (hb5.mono H4.out.size))
        clear hb5
        go_wp2_with fail
        refine (sane_any _).mono ?_
        rintro e w6 ⟨rfl, hb6⟩
        have Hb6 := hid (Hb5.out.trans (hb6.mono Hb5.out.size))
        clear hb6
        go_wp2_with fail
        go_ret
        exact ⟨ret_bool (by simp), Hb6.out⟩
end Go.Proofs.YtljdjidpbblbbaaDoor
