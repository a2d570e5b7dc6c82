/- slices.Concat of two rows of copies: the copies of the one and then those of the other, in new memory. -/
import Derived.Test.YtbcnipnjlmobfaaDck
import Derived.Lib.AppendZeros
namespace Go.Proofs.Ytbcnipnjlmobfaa
set_option maxRecDepth 20000
open Go.ChangeShapes Go.WideShapes Go.ChangeAt Go.RowKit

theorem zc_size (n : Nat) : (Builtin.zeroCells #[Value.int .i64 0, Value.int .i64 0] n).size = n * 2 := by simp [Builtin.zeroCells]

/-- slices.Grow of no slice: a row of one's own without elements. -/
theorem grow_any (n : Nat) (w : World) (hn : n ≤ 10000) :
    Calls Try.prog 86 #[.slice none 0 0, .int .i64 n] w fun e w' => ∃ C q, e = .returned (.slice C 0 q) ∧ Cops w' w.heap.size (.slice C 0 q) [] ∧ Below w.heap.size w w' := by
  by_cases h0 : n = 0
  · subst h0
    go_enter Try.func86, Try.ntmps86
    go_wp2
    go_ret
    exact ⟨none, 0, rfl, World.ownsRow_nil _ _ _ _, Below.refl _ _⟩
  · obtain ⟨i0, hi, hz0, hz1, hz2⟩ := info_parts info35
    have hr : ∀ ty, (Builtin.append_ #[26, 3] ty #[.slice none 0 0, .int .i64 n]).run Try.prog w = .ok (.slice (some ⟨w.heap.size, 0, none⟩) n (grownCap w n 0 51)) (w.drew.alloc (.cells (Builtin.zeroCells #[Value.int .i64 0, Value.int .i64 0] n ++ Builtin.zeroCells #[Value.int .i64 0, Value.int .i64 0] (grownCap w n 0 51 - n)) 51)) := fun ty => by
      have := Lib.run_append_nil_zeros (P := Try.prog) w 26 3 ty 51 i0 _ .i64 .i64 Try.underlying26 Try.underlying3 hi hz0 n (by omega) (by rw [hz1]; omega) (by omega) (by rw [hz2]; omega)
      exact this
    have hge := grownCap_ge w n 0 51
    have hle : grownCap w n 0 51 ≤ maxLen := grownCap_le_maxLen w n 0 51 (by unfold maxLen; omega)
    have Hr := hid hr
    generalize grownCap w n 0 51 = G at *
    have Hrow := hid (show Cops (w.drew.alloc (.cells (Builtin.zeroCells #[Value.int .i64 0, Value.int .i64 0] n ++ Builtin.zeroCells #[Value.int .i64 0, Value.int .i64 0] (G - n)) 51)) w.heap.size (.slice (some ⟨w.heap.size, 0, none⟩) 0 G) [] from
      ⟨rfl, .inr ⟨w.heap.size, G, _, rfl, Nat.le_refl _, heap_alloc_new w.drew _, Nat.zero_le _, hle, by rw [Array.size_append, zc_size, zc_size]; omega, by simp [pairs]⟩⟩)
    have Hb := hid (show Below w.heap.size w (w.drew.alloc (.cells (Builtin.zeroCells #[Value.int .i64 0, Value.int .i64 0] n ++ Builtin.zeroCells #[Value.int .i64 0, Value.int .i64 0] (G - n)) 51)) from (Below.refl _ _).drew.alloc (Nat.le_refl _) _)
    have hn0 : (0 : Int) < (n : Int) := by omega
    unfold maxLen at hle
    clear hr hi hz0 hz1 hz2
    go_enter Try.func86, Try.ntmps86
    go_wp2_with (at_builtin; refine Lib.wpList_append_run _ rfl _ _ _ _ rfl _ _ rfl rfl _ _ (Hr.out _) ?_)
    go_ret
    exact ⟨_, _, rfl, Hrow.out, Hb.out⟩

theorem run_app_none (w : World) (C A : Option Addr) (n qr m q : Nat) (h : n ≤ qr) (hm : m = 0) (ty : TypeId) : (Builtin.append_ #[26, 26] ty #[.slice C n qr, .slice A m q]).run Try.prog w = .ok (.slice C n qr) w := by
  subst hm
  cases C with
  | none => cases A with
    | none => go_simp
    | some a => go_simp
  | some g => cases A with
    | none => go_simp
    | some a => go_simp
theorem Cops.cap {w : World} {base q n : Nat} {C : Option Addr} {rs : List (Int × Int)} (h : Cops w base (.slice C n q) rs) : rs.length ≤ q := by
  rcases h.2 with ⟨_, h0⟩ | ⟨g, cap, cur, e, _, _, hc, _⟩
  · omega
  · injection e with _ _ e; omega

/-- Both rows and what has been gathered of them. -/
def Catting (w : World) (g : Nat) (X Y : Option Addr) (kx qx ky qy : Nat) (v : Value) (rs : List (Int × Int)) (wr : World) : Prop :=
  (wr.cell? ⟨g, 0, none⟩ = some (.slice X kx qx) ∧ wr.cell? ⟨g, 1, none⟩ = some (.slice Y ky qy)) ∧ Cops wr w.heap.size v rs ∧ Below w.heap.size w wr
theorem Catting.row {w wr w' : World} {g : Nat} {X Y : Option Addr} {kx qx ky qy : Nat} {v v' : Value} {rs rs' : List (Int × Int)} (h : Catting w g X Y kx qx ky qy v rs wr) (hgl : g < w.heap.size) (hg : wr.grownBy w' v.ownBlock) (hc : Cops w' w.heap.size v' rs') : Catting w g X Y kx qx ky qy v' rs' w' := by
  have ne : ∀ k, v.ownBlock = some k → w.heap.size ≤ k := own_base h.2.1
  have hs := h.2.2.size
  have hb : w'.heap[g]? = wr.heap[g]? := hg.block g (by omega) (by
    intro e; have := ne g e.symm; omega)
  exact ⟨⟨(World.cell?_of_block (a := ⟨g, 0, none⟩) hb).trans h.1.1, (World.cell?_of_block (a := ⟨g, 1, none⟩) hb).trans h.1.2⟩, hc, h.2.2.grown hg hs ne⟩
theorem pairs_app (a b : List (Int × Int)) : pairs (a ++ b) = pairs a ++ pairs b := by simp [pairs]
theorem pairs_one (cs : List (Int × Int)) : ∀ u ∈ pairs cs, u.oneCell' = true := by
  intro u hu
  unfold pairs at hu
  obtain ⟨p, _, hp⟩ := List.mem_flatMap.1 hu
  simp at hp
  rcases hp with rfl | rfl <;> rfl
theorem ArgC.cells {w w' : World} {ad : Addr} {n : Nat} {cs : List (Int × Int)} (h : ArgC w (some ad) n cs) (hb : Below w.heap.size w w') : ∀ j u, (pairs cs)[j]? = some u → w'.cell? (ad.add j) = some u := by
  intro j u hu
  rcases h.lies with h0 | ⟨ad', e, hl, hc⟩
  · rw [h0] at hu; simp at hu
  · cases e
    exact (hb.cell (by rw [add_block]; exact hl)).trans (hc j u hu)

set_option maxHeartbeats 1600000 in
theorem concat_any (g c : Nat) (X Y : Option Addr) (kx qx ky qy : Nat) (xs ys : List (Int × Int)) (w : World) (hg : g < w.heap.size) (h0 : w.cell? ⟨g, 0, none⟩ = some (.slice X kx qx)) (h1 : w.cell? ⟨g, 1, none⟩ = some (.slice Y ky qy))
    (hX : ArgC w X kx xs) (hY : ArgC w Y ky ys) (hkx : kx ≤ 64) (hky : ky ≤ 64) :
    Calls Try.prog 63 #[.slice (some ⟨g, 0, none⟩) 2 c] w fun e w' => ∃ C q, e = .returned (.slice C (xs ++ ys).length q) ∧ ArgC w' C (xs ++ ys).length (xs ++ ys) ∧ Below w.heap.size w w' := by
  obtain ⟨i0, hi, hz0, hz1, hz2⟩ := info_parts info35
  have Hi := hid hi; have Hz0 := hid hz0; have Hz1 := hid hz1; have Hz2 := hid hz2
  have HX := hid hX; have HY := hid hY; have H0 := hid h0; have H1 := hid h1
  clear hi hz0 hz1 hz2 hX hY
  go_enter Try.func63, Try.ntmps63
  go_wp2_with fail
  go_loopw [3, 5, 11] (fun s _ i wr => ((i = .int .i64 (0 : Nat) ∧ s = .int .i64 (0 : Nat)) ∨ (i = .int .i64 (1 : Nat) ∧ s = .int .i64 (kx : Nat)) ∨ (i = .int .i64 (2 : Nat) ∧ s = .int .i64 (kx + ky : Nat))) ∧ wr = w) (fun _ _ i _ => 2 - (intOf i).toNat)
  case atStart => exact ⟨.inl ⟨rfl, rfl⟩, rfl⟩
  case round =>
    obtain ⟨⟨rfl, rfl⟩ | ⟨rfl, rfl⟩ | ⟨rfl, rfl⟩, hw⟩ := hrel
    all_goals subst wr
    · go_wp2
      go_roundw
      case rel => exact ⟨.inr (.inl ⟨rfl, by go_num⟩), by trivial⟩
      case measure => simp [intOf]
    · go_wp2
      go_roundw
      case rel => exact ⟨.inr (.inr ⟨rfl, by go_num⟩), by trivial⟩
      case measure => simp [intOf]
    · go_wp2_with fail
      have Hg := hid hg
      have hgr := grow_any (kx + ky) w (by omega)
      rw [Int.natCast_add] at hgr
      refine hgr.mono ?_
      rintro e w3 ⟨C0, q0, rfl, hc0, hb3⟩
      have H3 := hid (show Catting w g X Y kx qx ky qy (.slice C0 0 q0) [] w3 from ⟨⟨(hb3.cell hg).trans h0, (hb3.cell hg).trans h1⟩, hc0, hb3⟩)
      clear hc0 hb3 hgr h0 h1
      go_wp2_with fail
      go_loopw [6, 8, 27] (fun v _ i wr => ∃ (Cr : Option Addr) (qr : Nat), (i = .int .i64 (0 : Nat) ∧ v = .slice Cr ([] : List (Int × Int)).length qr ∧ Hid (Catting w g X Y kx qx ky qy (.slice Cr ([] : List (Int × Int)).length qr) [] wr)) ∨ (i = .int .i64 (1 : Nat) ∧ v = .slice Cr xs.length qr ∧ Hid (Catting w g X Y kx qx ky qy (.slice Cr xs.length qr) xs wr)) ∨ (i = .int .i64 (2 : Nat) ∧ v = .slice Cr (xs ++ ys).length qr ∧ Hid (Catting w g X Y kx qx ky qy (.slice Cr (xs ++ ys).length qr) (xs ++ ys) wr))) (fun _ _ i _ => 2 - (intOf i).toNat)
      case atStart => exact ⟨C0, q0, .inl ⟨rfl, rfl, H3.out⟩⟩
      case round =>
        obtain ⟨Cr, qr, ⟨rfl, rfl, hK⟩ | ⟨rfl, rfl, hK⟩ | ⟨rfl, rfl, hK⟩⟩ := hrel
        · obtain ⟨c0, c1⟩ := hK.out.1
          by_cases hz : kx = 0
          · have e0 : xs = [] := List.eq_nil_of_length_eq_zero (by rw [HX.out.len]; exact hz)
            have Hz := hid hz
            clear hz
            have E0 := hid e0
            clear e0
            have hcap := hK.out.2.1.cap
            go_wp2_with (at_builtin; refine Lib.wpList_append_run _ rfl _ _ _ _ rfl _ _ rfl rfl _ _ (run_app_none _ _ _ _ _ _ _ hcap Hz.out _) ?_)
            go_roundw
            case rel => exact ⟨Cr, qr, .inr (.inl ⟨rfl, by rw [E0.out]; rfl, by rw [E0.out]; exact hK⟩)⟩
            case measure => simp [intOf]
          · obtain ⟨ad, rfl⟩ : ∃ ad, X = some ad := by
              rcases HX.out.lies with h | ⟨ad, e, _⟩
              · exfalso
                have := HX.out.len
                have h2 := pairs_length xs
                rw [h] at h2; simp at h2; omega
              · exact ⟨ad, e⟩
            go_wp2_with ((
                 at_builtin
                 refine wpList_append_own _ rfl _ _ 26 rfl w.heap.size 51 i0 _ 2 16 Try.underlying26 Hi.out Hz0.out Hz1.out Hz2.out rfl (by decide) (.slice Cr (([] : List (Int × Int))).length qr) (([] : List (Int × Int))).length (pairs (([] : List (Int × Int)))) rfl hK.out.2.1 ad kx qx (pairs xs) rfl (by rw [pairs_length, HX.out.len]; omega) (HX.out.cells hK.out.2.2) (pairs_one _) (by unfold maxLen; (try simp only [List.length_nil]); omega) (by (try simp only [List.length_nil]); omega) hK.out.2.2.size ?_
                 intro v' w7 hown7 hgr7 hnil7
                 have hl7 : ∃ C7 q7, v' = .slice C7 (([] : List (Int × Int)) ++ xs).length q7 := by
                   rcases hown7.2 with ⟨_, h0⟩ | ⟨g7, cap7, cur7, e7, _⟩
                   · omega
                   · exact ⟨_, cap7, by rw [e7, List.length_append, HX.out.len]⟩
                 obtain ⟨C7, q7, rfl⟩ := hl7
                 have H7 := hid (hK.out.row Hg.out hgr7 (show Cops w7 w.heap.size (.slice C7 (([] : List (Int × Int)) ++ xs).length q7) (([] : List (Int × Int)) ++ xs) from by have e : (([] : List (Int × Int)) ++ xs).length = (([] : List (Int × Int))).length + kx := (by rw [List.length_append, HX.out.len]); have hh := hown7; rw [← e, ← pairs_app] at hh; exact hh))
                 clear hown7 hgr7 hnil7))
            go_roundw
            case rel => exact ⟨C7, q7, .inr (.inl ⟨rfl, by first | rfl | rw [List.length_append], H7⟩)⟩
            case measure => simp [intOf]
        · obtain ⟨c0, c1⟩ := hK.out.1
          have hlx : xs.length ≤ 64 := by have := HX.out.len; omega
          by_cases hz : ky = 0
          · have e0 : ys = [] := List.eq_nil_of_length_eq_zero (by rw [HY.out.len]; exact hz)
            have Hz := hid hz
            clear hz
            have E0 := hid e0
            clear e0
            have hcap := hK.out.2.1.cap
            go_wp2_with (at_builtin; refine Lib.wpList_append_run _ rfl _ _ _ _ rfl _ _ rfl rfl _ _ (run_app_none _ _ _ _ _ _ _ hcap Hz.out _) ?_)
            go_roundw
            case rel => exact ⟨Cr, qr, .inr (.inr ⟨rfl, by rw [E0.out, List.append_nil], by rw [E0.out, List.append_nil]; exact hK⟩)⟩
            case measure => simp [intOf]
          · obtain ⟨ad, rfl⟩ : ∃ ad, Y = some ad := by
              rcases HY.out.lies with h | ⟨ad, e, _⟩
              · exfalso
                have := HY.out.len
                have h2 := pairs_length ys
                rw [h] at h2; simp at h2; omega
              · exact ⟨ad, e⟩
            go_wp2_with ((
                 at_builtin
                 refine wpList_append_own _ rfl _ _ 26 rfl w.heap.size 51 i0 _ 2 16 Try.underlying26 Hi.out Hz0.out Hz1.out Hz2.out rfl (by decide) (.slice Cr (xs).length qr) (xs).length (pairs (xs)) rfl hK.out.2.1 ad ky qy (pairs ys) rfl (by rw [pairs_length, HY.out.len]; omega) (HY.out.cells hK.out.2.2) (pairs_one _) (by unfold maxLen; (try simp only [List.length_nil]); omega) (by (try simp only [List.length_nil]); omega) hK.out.2.2.size ?_
                 intro v' w7 hown7 hgr7 hnil7
                 have hl7 : ∃ C7 q7, v' = .slice C7 (xs ++ ys).length q7 := by
                   rcases hown7.2 with ⟨_, h0⟩ | ⟨g7, cap7, cur7, e7, _⟩
                   · omega
                   · exact ⟨_, cap7, by rw [e7, List.length_append, HY.out.len]⟩
                 obtain ⟨C7, q7, rfl⟩ := hl7
                 have H7 := hid (hK.out.row Hg.out hgr7 (show Cops w7 w.heap.size (.slice C7 (xs ++ ys).length q7) (xs ++ ys) from by have e : (xs ++ ys).length = (xs).length + ky := (by rw [List.length_append, HY.out.len]); have hh := hown7; rw [← e, ← pairs_app] at hh; exact hh))
                 clear hown7 hgr7 hnil7))
            go_roundw
            case rel => exact ⟨C7, q7, .inr (.inr ⟨rfl, by first | rfl | rw [List.length_append], H7⟩)⟩
            case measure => simp [intOf]
        · go_wp2_with fail
          go_ret
          exact ⟨Cr, qr, rfl, ⟨own_at hK.out.2.1, rfl⟩, hK.out.2.2⟩
end Go.Proofs.Ytbcnipnjlmobfaa
