/- Part 1 of the texts that YtmbelhdkaepohaaCmbAll leans on. -/
import Derived.Test.YtmbelhdkaepohaaDck
import Derived.Lib.AppendZeros
import Derived.Deep.AppendLies
import Derived.Test.YtmbelhdkaepohaaRt1
import Derived.Laws.OwnMore
import Derived.Test.YtmbelhdkaepohaaRgv
namespace Go.Proofs.Ytmbelhdkaepohaa
set_option maxRecDepth 20000
open Go.ChangeShapes Go.WideShapes Go.ChangeAt Go.RowKit

theorem zc_size (n : Nat) : (Builtin.zeroCells #[Value.int .i64 0, Value.int .i64 0] n).size = n * 2 := by simp [Builtin.zeroCells]

/-- slices.Grow of no slice: a row of one's own without elements. -/
theorem grow_any (n : Nat) (w : World) (hn : n ≤ 10000) :
    Calls Try.prog 74 #[.slice none 0 0, .int .i64 n] w fun e w' => ∃ C q, e = .returned (.slice C 0 q) ∧ Cops w' w.heap.size (.slice C 0 q) [] ∧ Below w.heap.size w w' := by
  by_cases h0 : n = 0
  · subst h0
    go_enter Try.func74, Try.ntmps74
    go_wp2
    go_ret
    exact ⟨none, 0, rfl, World.ownsRow_nil _ _ _ _, Below.refl _ _⟩
  · obtain ⟨i0, hi, hz0, hz1, hz2⟩ := info_parts info35
    have hr : ∀ ty, (Builtin.append_ #[26, 3] ty #[.slice none 0 0, .int .i64 n]).run Try.prog w = .ok (.slice (some ⟨w.heap.size, 0, none⟩) n (grownCap w n 0 48)) (w.drew.alloc (.cells (Builtin.zeroCells #[Value.int .i64 0, Value.int .i64 0] n ++ Builtin.zeroCells #[Value.int .i64 0, Value.int .i64 0] (grownCap w n 0 48 - n)) 48)) := fun ty => by
      have := Lib.run_append_nil_zeros (P := Try.prog) w 26 3 ty 48 i0 _ .i64 .i64 Try.underlying26 Try.underlying3 hi hz0 n (by omega) (by rw [hz1]; omega) (by omega) (by rw [hz2]; omega)
      exact this
    have hge := grownCap_ge w n 0 48
    have hle : grownCap w n 0 48 ≤ maxLen := grownCap_le_maxLen w n 0 48 (by unfold maxLen; omega)
    have Hr := hid hr
    generalize grownCap w n 0 48 = G at *
    have Hrow := hid (show Cops (w.drew.alloc (.cells (Builtin.zeroCells #[Value.int .i64 0, Value.int .i64 0] n ++ Builtin.zeroCells #[Value.int .i64 0, Value.int .i64 0] (G - n)) 48)) w.heap.size (.slice (some ⟨w.heap.size, 0, none⟩) 0 G) [] from
      ⟨rfl, .inr ⟨w.heap.size, G, _, rfl, Nat.le_refl _, heap_alloc_new w.drew _, Nat.zero_le _, hle, by rw [Array.size_append, zc_size, zc_size]; omega, by simp [pairs]⟩⟩)
    have Hb := hid (show Below w.heap.size w (w.drew.alloc (.cells (Builtin.zeroCells #[Value.int .i64 0, Value.int .i64 0] n ++ Builtin.zeroCells #[Value.int .i64 0, Value.int .i64 0] (G - n)) 48)) from (Below.refl _ _).drew.alloc (Nat.le_refl _) _)
    have hn0 : (0 : Int) < (n : Int) := by omega
    unfold maxLen at hle
    clear hr hi hz0 hz1 hz2
    go_enter Try.func74, Try.ntmps74
    go_wp2_with (at_builtin; refine Lib.wpList_append_run _ rfl _ _ _ _ rfl _ _ rfl rfl _ _ (Hr.out _) ?_)
    go_ret
    exact ⟨_, _, rfl, Hrow.out, Hb.out⟩

theorem run_app_none (w : World) (C A : Option Addr) (n qr m q : Nat) (h : n ≤ qr) (hm : m = 0) (ty : TypeId) : (Builtin.append_ #[26, 26] ty #[.slice C n qr, .slice A m q]).run Try.prog w = .ok (.slice C n qr) w := by
  subst hm
  cases C with
  | none => cases A with
    | none => go_simp
    | some a => go_simp
  | some g => cases A with
    | none => go_simp
    | some a => go_simp
theorem Cops.cap {w : World} {base q n : Nat} {C : Option Addr} {rs : List (Int × Int)} (h : Cops w base (.slice C n q) rs) : rs.length ≤ q := by
  rcases h.2 with ⟨_, h0⟩ | ⟨g, cap, cur, e, _, _, hc, _⟩
  · omega
  · injection e with _ _ e; omega

/-- Both rows and what has been gathered of them. -/
def Catting (w : World) (g : Nat) (X Y : Option Addr) (kx qx ky qy : Nat) (v : Value) (rs : List (Int × Int)) (wr : World) : Prop :=
  (wr.cell? ⟨g, 0, none⟩ = some (.slice X kx qx) ∧ wr.cell? ⟨g, 1, none⟩ = some (.slice Y ky qy)) ∧ Cops wr w.heap.size v rs ∧ Below w.heap.size w wr
theorem Catting.row {w wr w' : World} {g : Nat} {X Y : Option Addr} {kx qx ky qy : Nat} {v v' : Value} {rs rs' : List (Int × Int)} (h : Catting w g X Y kx qx ky qy v rs wr) (hgl : g < w.heap.size) (hg : wr.grownBy w' v.ownBlock) (hc : Cops w' w.heap.size v' rs') : Catting w g X Y kx qx ky qy v' rs' w' := by
  have ne : ∀ k, v.ownBlock = some k → w.heap.size ≤ k := own_base h.2.1
  have hs := h.2.2.size
  have hb : w'.heap[g]? = wr.heap[g]? := hg.block g (by omega) (by
    intro e; have := ne g e.symm; omega)
  exact ⟨⟨(World.cell?_of_block (a := ⟨g, 0, none⟩) hb).trans h.1.1, (World.cell?_of_block (a := ⟨g, 1, none⟩) hb).trans h.1.2⟩, hc, h.2.2.grown hg hs ne⟩
theorem pairs_app (a b : List (Int × Int)) : pairs (a ++ b) = pairs a ++ pairs b := by simp [pairs]
theorem pairs_one (cs : List (Int × Int)) : ∀ u ∈ pairs cs, u.oneCell' = true := by
  intro u hu
  unfold pairs at hu
  obtain ⟨p, _, hp⟩ := List.mem_flatMap.1 hu
  simp at hp
  rcases hp with rfl | rfl <;> rfl
theorem ArgC.cells {w w' : World} {ad : Addr} {n : Nat} {cs : List (Int × Int)} (h : ArgC w (some ad) n cs) (hb : Below w.heap.size w w') : ∀ j u, (pairs cs)[j]? = some u → w'.cell? (ad.add j) = some u := by
  intro j u hu
  rcases h.lies with h0 | ⟨ad', e, hl, hc⟩
  · rw [h0] at hu; simp at hu
  · cases e
    exact (hb.cell (by rw [add_block]; exact hl)).trans (hc j u hu)

set_option maxHeartbeats 1600000 in
theorem concat_any (g c : Nat) (X Y : Option Addr) (kx qx ky qy : Nat) (xs ys : List (Int × Int)) (w : World) (hg : g < w.heap.size) (h0 : w.cell? ⟨g, 0, none⟩ = some (.slice X kx qx)) (h1 : w.cell? ⟨g, 1, none⟩ = some (.slice Y ky qy))
    (hX : ArgC w X kx xs) (hY : ArgC w Y ky ys) (hkx : kx ≤ 64) (hky : ky ≤ 64) :
    Calls Try.prog 49 #[.slice (some ⟨g, 0, none⟩) 2 c] w fun e w' => ∃ C q, e = .returned (.slice C (xs ++ ys).length q) ∧ ArgC w' C (xs ++ ys).length (xs ++ ys) ∧ Below w.heap.size w w' := by
  obtain ⟨i0, hi, hz0, hz1, hz2⟩ := info_parts info35
  have Hi := hid hi; have Hz0 := hid hz0; have Hz1 := hid hz1; have Hz2 := hid hz2
  have HX := hid hX; have HY := hid hY; have H0 := hid h0; have H1 := hid h1
  clear hi hz0 hz1 hz2 hX hY
  go_enter Try.func49, Try.ntmps49
  go_wp2_with fail
  go_loopw [3, 5, 11] (fun s _ i wr => ((i = .int .i64 (0 : Nat) ∧ s = .int .i64 (0 : Nat)) ∨ (i = .int .i64 (1 : Nat) ∧ s = .int .i64 (kx : Nat)) ∨ (i = .int .i64 (2 : Nat) ∧ s = .int .i64 (kx + ky : Nat))) ∧ wr = w) (fun _ _ i _ => 2 - (intOf i).toNat)
  case atStart => exact ⟨.inl ⟨rfl, rfl⟩, rfl⟩
  case round =>
    obtain ⟨⟨rfl, rfl⟩ | ⟨rfl, rfl⟩ | ⟨rfl, rfl⟩, hw⟩ := hrel
    all_goals subst wr
    · go_wp2
      go_roundw
      case rel => exact ⟨.inr (.inl ⟨rfl, by go_num⟩), by trivial⟩
      case measure => simp [intOf]
    · go_wp2
      go_roundw
      case rel => exact ⟨.inr (.inr ⟨rfl, by go_num⟩), by trivial⟩
      case measure => simp [intOf]
    · go_wp2_with fail
      have Hg := hid hg
      have hgr := grow_any (kx + ky) w (by omega)
      rw [Int.natCast_add] at hgr
      refine hgr.mono ?_
      rintro e w3 ⟨C0, q0, rfl, hc0, hb3⟩
      have H3 := hid (show Catting w g X Y kx qx ky qy (.slice C0 0 q0) [] w3 from ⟨⟨(hb3.cell hg).trans h0, (hb3.cell hg).trans h1⟩, hc0, hb3⟩)
      clear hc0 hb3 hgr h0 h1
      go_wp2_with fail
      go_loopw [6, 8, 27] (fun v _ i wr => ∃ (Cr : Option Addr) (qr : Nat), (i = .int .i64 (0 : Nat) ∧ v = .slice Cr ([] : List (Int × Int)).length qr ∧ Hid (Catting w g X Y kx qx ky qy (.slice Cr ([] : List (Int × Int)).length qr) [] wr)) ∨ (i = .int .i64 (1 : Nat) ∧ v = .slice Cr xs.length qr ∧ Hid (Catting w g X Y kx qx ky qy (.slice Cr xs.length qr) xs wr)) ∨ (i = .int .i64 (2 : Nat) ∧ v = .slice Cr (xs ++ ys).length qr ∧ Hid (Catting w g X Y kx qx ky qy (.slice Cr (xs ++ ys).length qr) (xs ++ ys) wr))) (fun _ _ i _ => 2 - (intOf i).toNat)
      case atStart => exact ⟨C0, q0, .inl ⟨rfl, rfl, H3.out⟩⟩
      case round =>
        obtain ⟨Cr, qr, ⟨rfl, rfl, hK⟩ | ⟨rfl, rfl, hK⟩ | ⟨rfl, rfl, hK⟩⟩ := hrel
        · obtain ⟨c0, c1⟩ := hK.out.1
          by_cases hz : kx = 0
          · have e0 : xs = [] := List.eq_nil_of_length_eq_zero (by rw [HX.out.len]; exact hz)
            have Hz := hid hz
            clear hz
            have E0 := hid e0
            clear e0
            have hcap := hK.out.2.1.cap
            go_wp2_with (at_builtin; refine Lib.wpList_append_run _ rfl _ _ _ _ rfl _ _ rfl rfl _ _ (run_app_none _ _ _ _ _ _ _ hcap Hz.out _) ?_)
            go_roundw
            case rel => exact ⟨Cr, qr, .inr (.inl ⟨rfl, by rw [E0.out]; rfl, by rw [E0.out]; exact hK⟩)⟩
            case measure => simp [intOf]
          · obtain ⟨ad, rfl⟩ : ∃ ad, X = some ad := by
              rcases HX.out.lies with h | ⟨ad, e, _⟩
              · exfalso
                have := HX.out.len
                have h2 := pairs_length xs
                rw [h] at h2; simp at h2; omega
              · exact ⟨ad, e⟩
            go_wp2_with ((
                 at_builtin
                 refine wpList_append_own _ rfl _ _ 26 rfl w.heap.size 48 i0 _ 2 16 Try.underlying26 Hi.out Hz0.out Hz1.out Hz2.out rfl (by decide) (.slice Cr (([] : List (Int × Int))).length qr) (([] : List (Int × Int))).length (pairs (([] : List (Int × Int)))) rfl hK.out.2.1 ad kx qx (pairs xs) rfl (by rw [pairs_length, HX.out.len]; omega) (HX.out.cells hK.out.2.2) (pairs_one _) (by unfold maxLen; (try simp only [List.length_nil]); omega) (by (try simp only [List.length_nil]); omega) hK.out.2.2.size ?_
                 intro v' w7 hown7 hgr7 hnil7
                 have hl7 : ∃ C7 q7, v' = .slice C7 (([] : List (Int × Int)) ++ xs).length q7 := by
                   rcases hown7.2 with ⟨_, h0⟩ | ⟨g7, cap7, cur7, e7, _⟩
                   · omega
                   · exact ⟨_, cap7, by rw [e7, List.length_append, HX.out.len]⟩
                 obtain ⟨C7, q7, rfl⟩ := hl7
                 have H7 := hid (hK.out.row Hg.out hgr7 (show Cops w7 w.heap.size (.slice C7 (([] : List (Int × Int)) ++ xs).length q7) (([] : List (Int × Int)) ++ xs) from by have e : (([] : List (Int × Int)) ++ xs).length = (([] : List (Int × Int))).length + kx := (by rw [List.length_append, HX.out.len]); have hh := hown7; rw [← e, ← pairs_app] at hh; exact hh))
                 clear hown7 hgr7 hnil7))
            go_roundw
            case rel => exact ⟨C7, q7, .inr (.inl ⟨rfl, by first | rfl | rw [List.length_append], H7⟩)⟩
            case measure => simp [intOf]
        · obtain ⟨c0, c1⟩ := hK.out.1
          have hlx : xs.length ≤ 64 := by have := HX.out.len; omega
          by_cases hz : ky = 0
          · have e0 : ys = [] := List.eq_nil_of_length_eq_zero (by rw [HY.out.len]; exact hz)
            have Hz := hid hz
            clear hz
            have E0 := hid e0
            clear e0
            have hcap := hK.out.2.1.cap
            go_wp2_with (at_builtin; refine Lib.wpList_append_run _ rfl _ _ _ _ rfl _ _ rfl rfl _ _ (run_app_none _ _ _ _ _ _ _ hcap Hz.out _) ?_)
            go_roundw
            case rel => exact ⟨Cr, qr, .inr (.inr ⟨rfl, by rw [E0.out, List.append_nil], by rw [E0.out, List.append_nil]; exact hK⟩)⟩
            case measure => simp [intOf]
          · obtain ⟨ad, rfl⟩ : ∃ ad, Y = some ad := by
              rcases HY.out.lies with h | ⟨ad, e, _⟩
              · exfalso
                have := HY.out.len
                have h2 := pairs_length ys
                rw [h] at h2; simp at h2; omega
              · exact ⟨ad, e⟩
            go_wp2_with ((
                 at_builtin
                 refine wpList_append_own _ rfl _ _ 26 rfl w.heap.size 48 i0 _ 2 16 Try.underlying26 Hi.out Hz0.out Hz1.out Hz2.out rfl (by decide) (.slice Cr (xs).length qr) (xs).length (pairs (xs)) rfl hK.out.2.1 ad ky qy (pairs ys) rfl (by rw [pairs_length, HY.out.len]; omega) (HY.out.cells hK.out.2.2) (pairs_one _) (by unfold maxLen; (try simp only [List.length_nil]); omega) (by (try simp only [List.length_nil]); omega) hK.out.2.2.size ?_
                 intro v' w7 hown7 hgr7 hnil7
                 have hl7 : ∃ C7 q7, v' = .slice C7 (xs ++ ys).length q7 := by
                   rcases hown7.2 with ⟨_, h0⟩ | ⟨g7, cap7, cur7, e7, _⟩
                   · omega
                   · exact ⟨_, cap7, by rw [e7, List.length_append, HY.out.len]⟩
                 obtain ⟨C7, q7, rfl⟩ := hl7
                 have H7 := hid (hK.out.row Hg.out hgr7 (show Cops w7 w.heap.size (.slice C7 (xs ++ ys).length q7) (xs ++ ys) from by have e : (xs ++ ys).length = (xs).length + ky := (by rw [List.length_append, HY.out.len]); have hh := hown7; rw [← e, ← pairs_app] at hh; exact hh))
                 clear hown7 hgr7 hnil7))
            go_roundw
            case rel => exact ⟨C7, q7, .inr (.inr ⟨rfl, by first | rfl | rw [List.length_append], H7⟩)⟩
            case measure => simp [intOf]
        · go_wp2_with fail
          go_ret
          exact ⟨Cr, qr, rfl, ⟨own_at hK.out.2.1, rfl⟩, hK.out.2.2⟩
end Go.Proofs.Ytmbelhdkaepohaa

namespace Go.Proofs.Ytmbelhdkaepohaa
set_option maxRecDepth 20000
open Go.ChangeShapes Go.WideShapes Go.ChangeAt Go.RowKit

theorem Arg.skip {w w' : World} {A : Option Addr} {n : Nat} {ws : List Nat} {R : Nat} (h : Arg w A n ws) (ha : ws = [] ∨ ∃ ad, A = some ad ∧ ad.block ≠ R) (hg : w.grownBy w' (some R)) : Arg w' A n ws := by
  refine ⟨?_, h.len, h.ok⟩
  rcases ha with rfl | ⟨ad, rfl, hne⟩
  · exact .inl rfl
  · rcases h.lies with h0 | ⟨ad', e, hb, hc⟩
    · exact .inl h0
    · cases e
      exact .inr ⟨ad, rfl, by have := hg.size; omega, fun j u hu => hg.cell (hc j u hu) (by rw [add_block]; intro e; injection e with e; exact hne e)⟩
theorem ArgC.skip {w w' : World} {A : Option Addr} {n : Nat} {cs : List (Int × Int)} {R : Nat} (h : ArgC w A n cs) (ha : cs = [] ∨ ∃ ad, A = some ad ∧ ad.block ≠ R) (hg : w.grownBy w' (some R)) : ArgC w' A n cs := by
  refine ⟨?_, h.len⟩
  rcases ha with rfl | ⟨ad, rfl, hne⟩
  · exact .inl rfl
  · rcases h.lies with h0 | ⟨ad', e, hb, hc⟩
    · exact .inl h0
    · cases e
      exact .inr ⟨ad, rfl, by have := hg.size; omega, fun j u hu => hg.cell (hc j u hu) (by rw [add_block]; intro e; injection e with e; exact hne e)⟩
theorem grown_stored5 {w0 w : World} {R : Nat} (h : w0.grownBy w (some R)) (a b c d e : Value) : w0.grownBy (stored5 w R a b c d e) (some R) :=
  grown_trans (grown_trans (grown_trans (grown_trans (grown_trans h (grown_set _ R rfl a)) (grown_set _ R rfl b)) (grown_set _ R rfl c)) (grown_set _ R rfl d)) (grown_set _ R rfl e)

/-- The bits of both. -/
def andR (W : Nat) (ws xs : List Nat) : List Nat := Bs.ofP W (fun i => Bs.bit ws i && Bs.bit xs i) W
theorem fit_andR (W : Nat) (ws xs : List Nat) : Bs.Fit W (andR W ws xs) := Bs.fit_ofP _ _ _ (Nat.le_refl _)
theorem mixR_and {W : Nat} {ws xs : List Nat} (hW : W ≤ 256) (h1 : Bs.Fit W ws) (h2 : Bs.Fit W xs) : mixR (flag false false true) W ws W xs = ((W : Int), andR W ws xs, 0) := by
  rw [mixR_ok _ hW h1 h2]
  congr 2
  refine Bs.ofP_congr fun i _ => ?_
  cases Bs.bit ws i <;> cases Bs.bit xs i <;> rfl

/-- The canonical function, or the error, as a value. -/
def cnR (W : Nat) (gs ks : List Nat) (cs : List (Int × Int)) : Int × List Nat × List Nat × List (Int × Int) × Int :=
  if (ord (cs.filter (restB W gs))).length ≤ 64 then (W, gs, killC W gs ks cs, ord (cs.filter (restB W gs)), 0) else (0, [], [], [], 7)
theorem RetCanon.val {w w' : World} {W : Nat} {gs ks : List Nat} {cs : List (Int × Int)} {e : Ending} (hh : RetCanon w W gs ks cs e w') : RetR w (cnR W gs ks cs) e w' := by
  unfold RetCanon at hh
  unfold cnR
  by_cases h : (ord (cs.filter (restB W gs))).length ≤ 64
  · rw [if_pos h] at hh ⊢; exact hh
  · rw [if_neg h] at hh ⊢; exact hh

/-- P3.5. -/
def joinR (W : Int) (gs : List Nat) (V : Int) (ks : List Nat) (cs : List (Int × Int)) (W' : Int) (gs' : List Nat) (V' : Int) (ks' : List Nat) (cs' : List (Int × Int)) : Int × List Nat × List Nat × List (Int × Int) × Int :=
  if validT W gs V ks cs = false ∨ validT W' gs' V' ks' cs' = false then (0, [], [], [], 1)
  else if W ≠ W' then (0, [], [], [], 2)
  else cnR W.toNat (orR W.toNat gs gs') (andR W.toNat ks ks') (cs ++ cs')

/-- Two functions and the empty result in three new blocks. -/
def Three (w : World) (W V : Int) (A B C : Option Addr) (n c m d k q : Nat) (W' V' : Int) (A' B' C' : Option Addr) (n' c' m' d' k' q' : Nat) (wr : World) : Prop :=
  Fb wr w.heap.size #[.int .i64 W, .slice A n c, .int .i64 V, .slice B m d, .slice C k q] 28 ∧ Fb wr (w.heap.size + 1) #[.int .i64 W', .slice A' n' c', .int .i64 V', .slice B' m' d', .slice C' k' q'] 28 ∧
    Fb wr (w.heap.size + 2) #[.int .i64 0, .slice none 0 0, .int .i64 0, .slice none 0 0, .slice none 0 0] 28 ∧ Below w.heap.size w wr
section
variable {w : World} {W V : Int} {A B C : Option Addr} {n c m d k q : Nat} {W' V' : Int} {A' B' C' : Option Addr} {n' c' m' d' k' q' : Nat} {wr w' : World}
theorem Three.start (w : World) (W V : Int) (A B C : Option Addr) (n c m d k q : Nat) (W' V' : Int) (A' B' C' : Option Addr) (n' c' m' d' k' q' : Nat) :
    Three w W V A B C n c m d k q W' V' A' B' C' n' c' m' d' k' q' (((w.alloc (.cells #[.int .i64 W, .slice A n c, .int .i64 V, .slice B m d, .slice C k q] 28)).alloc (.cells #[.int .i64 W', .slice A' n' c', .int .i64 V', .slice B' m' d', .slice C' k' q'] 28)).alloc (.cells #[.int .i64 0, .slice none 0 0, .int .i64 0, .slice none 0 0, .slice none 0 0] 28)) := by
  have h := TwoT.start w W V A B C n c m d k q W' V' A' B' C' n' c' m' d' k' q'
  have hS := Fb.new ((w.alloc (.cells #[.int .i64 W, .slice A n c, .int .i64 V, .slice B m d, .slice C k q] 28)).alloc (.cells #[.int .i64 W', .slice A' n' c', .int .i64 V', .slice B' m' d', .slice C' k' q'] 28)) #[.int .i64 0, .slice none 0 0, .int .i64 0, .slice none 0 0, .slice none 0 0] 28
  simp only [World.size_alloc] at hS
  exact ⟨h.1.alloc _, h.2.1.alloc _, hS, h.2.2.alloc (by simp; omega) _⟩
theorem Three.below (h : Three w W V A B C n c m d k q W' V' A' B' C' n' c' m' d' k' q' wr) (hb : Below wr.heap.size wr w') : Three w W V A B C n c m d k q W' V' A' B' C' n' c' m' d' k' q' w' :=
  ⟨h.1.below hb h.1.lt, h.2.1.below hb h.2.1.lt, h.2.2.1.below hb h.2.2.1.lt, h.2.2.2.trans (hb.mono h.2.2.2.size)⟩
end
end Go.Proofs.Ytmbelhdkaepohaa

namespace Go.Proofs.Ytmbelhdkaepohaa
set_option maxRecDepth 20000
open Go.ChangeShapes Go.WideShapes Go.ChangeAt Go.RowKit

theorem grown_set5 {w0 w : World} {R : Nat} (h : w0.grownBy w (some R)) (a b c d e : Value) : w0.grownBy (((((w.setCell ⟨R, 0, none⟩ a).setCell ⟨R, 1, none⟩ b).setCell ⟨R, 2, none⟩ c).setCell ⟨R, 3, none⟩ d).setCell ⟨R, 4, none⟩ e) (some R) :=
  grown_stored5 h a b c d e
theorem fit_of_valid' {W : Nat} {w : World} {A : Option Addr} {n : Nat} {ws : List Nat} (h : Bs.validB W ws = true) (ha : Arg w A n ws) : Bs.Fit W ws := by
  have := Bs.fit_of_valid h ha.ok; rwa [Int.toNat_natCast] at this

set_option maxHeartbeats 1600000 in
theorem devJoin_any (W V : Int) (A B C : Option Addr) (n c m d k q : Nat) (gs ks : List Nat) (cs : List (Int × Int)) (W' V' : Int) (A' B' C' : Option Addr) (n' c' m' d' k' q' : Nat) (gs' ks' : List Nat) (cs' : List (Int × Int)) (w : World)
    (hF : FArg w A n B m C k gs ks cs) (hG : FArg w A' n' B' m' C' k' gs' ks' cs') :
    Calls Try.prog 22 #[.agg #[.int .i64 W, .slice A n c, .int .i64 V, .slice B m d, .slice C k q], .agg #[.int .i64 W', .slice A' n' c', .int .i64 V', .slice B' m' d', .slice C' k' q']] w
      (RetR w (joinR W gs V ks cs W' gs' V' ks' cs')) := by
  have HF := hid hF; have HG := hid hG
  have H0 := hid (Three.start w W V A B C n c m d k q W' V' A' B' C' n' c' m' d' k' q')
  clear hF hG
  go_enter Try.func22, Try.ntmps22
  go_wp2_with fail
  refine (devCheck_any W V A B C n c m d k q gs ks cs W' V' A' B' C' n' c' m' d' k' q' gs' ks' cs' _ (HF.out.below H0.out.2.2.2) (HG.out.below H0.out.2.2.2)).mono ?_
  by_cases hbad : checkR (validT W gs V ks cs) (validT W' gs' V' ks' cs') W W' ≠ 0
  · have Hr := hid (show joinR W gs V ks cs W' gs' V' ks' cs' = (0, [], [], [], checkR (validT W gs V ks cs) (validT W' gs' V' ks' cs') W W') by
      unfold joinR checkR
      unfold checkR at hbad
      by_cases h1 : validT W gs V ks cs = false ∨ validT W' gs' V' ks' cs' = false
      · rw [if_pos h1, if_pos h1]
      · rw [if_neg h1, if_neg h1]
        rw [if_neg h1] at hbad
        by_cases h2 : W ≠ W'
        · rw [if_pos h2, if_pos h2]
        · rw [if_neg h2] at hbad; exact absurd rfl hbad)
    generalize checkR (validT W gs V ks cs) (validT W' gs' V' ks' cs') W W' = er at *
    have tt : (er != 0) = true := by simpa using hbad
    clear hbad
    rintro e w1 ⟨rfl, hb1⟩
    have H1 := hid (H0.out.below hb1)
    clear hb1
    obtain ⟨r0, r1, r2, r3, r4⟩ := H1.out.2.2.1.five
    have f0 := H1.out.2.2.1.frozen 0
    have f1 := H1.out.2.2.1.frozen 1
    have f2 := H1.out.2.2.1.frozen 2
    have f3 := H1.out.2.2.1.frozen 3
    have f4 := H1.out.2.2.1.frozen 4
    have hlR := H1.out.2.2.1.lt
    have Fin := hid (RetT.stored (err := er) (c := 0) (d := 0) (q := 0) (cs := []) (C := none) (Arg.nil w1 none) (Arg.nil w1 none) ⟨.inl rfl, rfl⟩ H1.out.2.2.2 (by omega) H1.out.2.2.1 (W := 0))
    unfold stored5 at Fin
    go_wp2_with fail
    refine bodyPost_ret (v := .tuple #[.agg #[.int .i64 0, .slice none 0 0, .int .i64 0, .slice none 0 0, .slice none 0 0], .int .i64 er]) (by simp [results, Try.results22, go_sem, r0, r1, r2, r3, r4]) rfl ?_
    rw [Hr.out]
    exact Fin.out
  · have hok : checkR (validT W gs V ks cs) (validT W' gs' V' ks' cs') W W' = 0 := by simpa using hbad
    rw [hok]
    have hv1 : validT W gs V ks cs = true := by
      unfold checkR at hok
      cases h : validT W gs V ks cs with
      | true => rfl
      | false => rw [h] at hok; simp at hok
    have hv2 : validT W' gs' V' ks' cs' = true := by
      unfold checkR at hok
      cases h : validT W' gs' V' ks' cs' with
      | true => rfl
      | false => rw [h] at hok; simp at hok
    have hWW : W = W' := by
      unfold checkR at hok
      rw [hv1, hv2] at hok
      by_cases h : W = W'
      · exact h
      · simp [h] at hok
    clear hok hbad
    subst hWW
    obtain ⟨h1, h2, h3, h4, h5⟩ := validT_iff hv1
    obtain ⟨g1, g2, g3, g4, g5⟩ := validT_iff hv2
    subst h3
    subst g3
    have hin1 := inW_of_ok h5
    have hin2 := inW_of_ok g5
    have Hr := hid (show joinR W gs W ks cs W gs' W ks' cs' = cnR W.toNat (orR W.toNat gs gs') (andR W.toNat ks ks') (cs ++ cs') by unfold joinR; rw [if_neg (by simp [hv1, hv2]), if_neg (by simp)])
    obtain ⟨v, rfl⟩ := Int.eq_ofNat_of_zero_le (Bs.validB_iff.1 h1).1
    have hv256 : v ≤ 256 := by have := (Bs.validB_iff.1 h1).2.1; omega
    have hfg := fit_of_valid' h1 HF.out.gen
    have hfk := fit_of_valid' h2 HF.out.kill
    have hfg' := fit_of_valid' g1 HG.out.gen
    have hfk' := fit_of_valid' g2 HG.out.kill
    have hk4 : k ≤ 64 := by rw [HF.out.cops.len] at h4; exact h4
    have hk4' : k' ≤ 64 := by rw [HG.out.cops.len] at g4; exact g4
    rw [Int.toNat_natCast] at Hr
    have Hin := hid (show ∀ p ∈ cs ++ cs', inW v p = true from fun p hp => (List.mem_append.1 hp).elim (hin1 p) (hin2 p))
    have Hfg := hid hfg; have Hfk := hid hfk; have Hfg' := hid hfg'; have Hfk' := hid hfk'
    clear h1 h2 h4 h5 g1 g2 g4 g5 hin1 hin2 hfg hfk hfg' hfk' hv1 hv2
    rintro e w1 ⟨rfl, hb1⟩
    have H1 := hid (H0.out.below hb1)
    clear hb1
    obtain ⟨t0, t1, t2, t3, t4⟩ := H1.out.1.five
    obtain ⟨s0, s1, s2, s3, s4⟩ := H1.out.2.1.five
    go_wp2_with fail
    refine (devUnion_any v v A A' n c n' c' gs gs' _ (HF.out.gen.below H1.out.2.2.2) (HG.out.gen.below H1.out.2.2.2)).mono ?_
    rw [mixR_or hv256 Hfg.out Hfg'.out]
    rintro e w2 ⟨A2, n2, c2, rfl, ha2, hb2⟩
    have hb2' := hb2.alloc hb2.size (.cells #[.int .i64 v, .slice A2 n2 c2] 25)
    have H2 := hid (H1.out.below hb2')
    have HA2 := hid (ha2.alloc (.cells #[.int .i64 v, .slice A2 n2 c2] 25))
    have HB2 := hid (Box.new w2 v A2 n2 c2)
    clear ha2 hb2 hb2' t0 t1 t2 t3 t4 s0 s1 s2 s3 s4
    obtain ⟨t0, t1, t2, t3, t4⟩ := H2.out.1.five
    obtain ⟨s0, s1, s2, s3, s4⟩ := H2.out.2.1.five
    go_wp2_with fail
    generalize w2.alloc (.cells #[.int .i64 v, .slice A2 n2 c2] 25) = w3 at *
    generalize w2.heap.size = b3 at *
    refine (devInter_any v v B B' m d m' d' ks ks' _ (HF.out.kill.below H2.out.2.2.2) (HG.out.kill.below H2.out.2.2.2)).mono ?_
    rw [mixR_and hv256 Hfk.out Hfk'.out]
    rintro e w4 ⟨A4, n4, c4, rfl, ha4, hb4⟩
    have hb4' := hb4.alloc hb4.size (.cells #[.int .i64 v, .slice A4 n4 c4] 25)
    have H5 := hid (H2.out.below hb4')
    have HA5 := hid (HA2.out.below hb4')
    have HB5 := hid (HB2.out.below hb4' HB2.out.lt)
    have HK5 := hid (ha4.alloc (.cells #[.int .i64 v, .slice A4 n4 c4] 25))
    have HC5 := hid (Box.new w4 v A4 n4 c4)
    have hne3 : b3 ≠ w.heap.size + 2 := by
      intro e
      have x1 := HB2.out
      have x2 := H2.out.2.2.1
      rw [e] at x1
      unfold Box at x1
      unfold Fb at x2
      rw [x1] at x2
      cases x2
    have hne4 : w4.heap.size ≠ w.heap.size + 2 := by
      intro e
      have x1 := HC5.out
      have x2 := H5.out.2.2.1
      rw [e] at x1
      unfold Box at x1
      unfold Fb at x2
      rw [x1] at x2
      cases x2
    clear ha4 hb4 hb4' t0 t1 t2 t3 t4 s0 s1 s2 s3 s4 H1 H2 HA2 HB2
    go_upto_region 6 with fail
    generalize w4.alloc (.cells #[.int .i64 v, .slice A4 n4 c4] 25) = w5 at *
    generalize w4.heap.size = b4 at *
    generalize hR : w.heap.size + 1 + 1 = R
    have hR2 : w.heap.size + 2 = R := hR
    have HZ := hid (show Fb w5 R _ 28 from by rw [← hR2]; exact H5.out.2.2.1)
    rw [hR2] at hne3 hne4
    have hRle : w.heap.size ≤ R := by omega
    have hn0 : w.heap.size ≠ R := by omega
    have hn1 : w.heap.size + 1 ≠ R := by omega
    have HnR := hid (And.intro hn0 hn1)
    have hA0 := HA5.out.apart HZ.out zero5
    have hK0 := HK5.out.apart HZ.out zero5
    have hF5 := HF.out.cops.below H5.out.2.2.2
    have hG5 := HG.out.cops.below H5.out.2.2.2
    have hF0 := hF5.apart HZ.out zero5c
    have hG0 := hG5.apart HZ.out zero5c
    have hK : ∀ w', w5.grownBy w' (some R) → ((fun w' => w5.grownBy w' (some R) ∧ (w'.cell? ⟨b3, 0, none⟩ = some (.int .i64 v) ∧ w'.cell? ⟨b3, 1, none⟩ = some (.slice A2 n2 c2)) ∧ (w'.cell? ⟨b4, 0, none⟩ = some (.int .i64 v) ∧ w'.cell? ⟨b4, 1, none⟩ = some (.slice A4 n4 c4)) ∧ w'.cell? ⟨w.heap.size, 4, none⟩ = some (.slice C k q) ∧ w'.cell? ⟨w.heap.size + 1, 4, none⟩ = some (.slice C' k' q')) w') := fun w' hg =>
      ⟨hg, ⟨(HB5.out.grown hg (some_ne hne3)).c0, (HB5.out.grown hg (some_ne hne3)).c1⟩, ⟨(HC5.out.grown hg (some_ne hne4)).c0, (HC5.out.grown hg (some_ne hne4)).c1⟩, (H5.out.1.grown hg (some_ne hn0)).cell 4, (H5.out.2.1.grown hg (some_ne hn1)).cell 4⟩
    have HK := hid hK
    have HA0 := hid hA0; have HK0 := hid hK0; have HF0 := hid hF0; have HG0 := hid hG0; have HF5 := hid hF5; have HG5 := hid hG5
    obtain ⟨r, hr⟩ : ∃ r, cnR v (orR v gs gs') (andR v ks ks') (cs ++ cs') = r := ⟨_, rfl⟩
    obtain ⟨W9, gs9, ks9, cs9, er9⟩ := r
    have Hcn := hid hr
    have hz1 : b3 < w5.heap.size := HB5.out.lt
    have hz2 : b4 < w5.heap.size := HC5.out.lt
    have hz3 := HZ.out.lt
    have hz4 : w.heap.size < w5.heap.size := H5.out.1.lt
    have hz5 : w.heap.size + 1 < w5.heap.size := H5.out.2.1.lt
    obtain ⟨p0, p1⟩ := And.intro HB5.out.c0 HB5.out.c1
    obtain ⟨q0, q1⟩ := And.intro HC5.out.c0 HC5.out.c1
    have t4 := H5.out.1.cell 4
    have s4 := H5.out.2.1.cell 4
    have t4' : w5.cell? ⟨w.heap.size, 4, none⟩ = some (.slice C k q) := t4
    have s4' : w5.cell? ⟨w.heap.size + 1, 4, none⟩ = some (.slice C' k' q') := s4
    clear hR hR2 hn0 hn1 t4 s4 hK hA0 hK0 hF5 hG5 hF0 hG0 hr
    go_region_held3 (fun w' => w5.grownBy w' (some R) ∧ (w'.cell? ⟨b3, 0, none⟩ = some (.int .i64 v) ∧ w'.cell? ⟨b3, 1, none⟩ = some (.slice A2 n2 c2)) ∧ (w'.cell? ⟨b4, 0, none⟩ = some (.int .i64 v) ∧ w'.cell? ⟨b4, 1, none⟩ = some (.slice A4 n4 c4)) ∧ w'.cell? ⟨w.heap.size, 4, none⟩ = some (.slice C k q) ∧ w'.cell? ⟨w.heap.size + 1, 4, none⟩ = some (.slice C' k' q'))
      (first
        | (with_reducible exact HK.out _ (grown_drew _ _))
        | (with_reducible exact HK.out _ (grown_trans (grown_of_below ((Below.refl _ _).alloc (Nat.le_refl _) _) _) (grown_drew _ _)))
        | (with_reducible exact HK.out _ (grown_set5 Hcur.out _ _ _ _ _))
        | assumption)
      (first
        | (go_at_call 49
           go_must (
           go_split_ands
           refine (concat_any w5.heap.size 2 C C' k q k' q' cs cs' (w5.alloc (.cells #[.slice C k q, .slice C' k' q'] 26)).drew (show w5.heap.size < (w5.alloc _).heap.size by simp) (show (w5.alloc (.cells #[.slice C k q, .slice C' k' q'] 26)).cell? ⟨w5.heap.size, 0, none⟩ = _ from ((Fb.new w5 _ 26).cell 0).trans rfl) (show (w5.alloc (.cells #[.slice C k q, .slice C' k' q'] 26)).cell? ⟨w5.heap.size, 1, none⟩ = _ from ((Fb.new w5 _ 26).cell 1).trans rfl) (HF5.out.skip HF0.out (by assumption)) (HG5.out.skip HG0.out (by assumption)) hk4 hk4').mono ?_
           rintro e wn ⟨Cc, qc, rfl, hcc, hbk⟩
           have hbl := below_step (W := w5) (by first | exact ((Below.refl _ _).alloc (Nat.le_refl _) _).drew | exact (Below.refl _ _).drew.alloc (Nat.le_refl _) _) hbk
           have Hbl := hid hbl
           have hcur := grown_of_below hbl (some R)
           have hS := HK.out _ hcur
           have Hcur := hid hcur
           have Hcc := hid (show ArgC wn Cc (cs.length + cs'.length) (cs ++ cs') from (by rw [← List.length_append]; exact hcc))
           clear hbk hcc hbl))
        | (go_at_call 36
           go_must (
           go_split_ands
           refine (devCanonical_any v A2 A4 Cc n2 c2 n4 c4 (cs.length + cs'.length) qc (orR v gs gs') (andR v ks ks') (cs ++ cs') _ (HA5.out.skip HA0.out (by assumption)) (HK5.out.skip HK0.out (by assumption)) Hcc.out hv256 (fit_orR _ _ _) (fit_andR _ _ _) Hin.out (by have := HF.out.cops.len; have := HG.out.cops.len; omega)).mono ?_
           rintro e wn2 hcan
           have hval := hcan.val
           rw [Hcn.out] at hval
           obtain ⟨A9, n9, c9, B9, m9, d9, C9, q9, rfl, hA9, hB9, hC9, hbk⟩ := hval
           have hbl := below_step (W := w5) Hbl.out hbk
           have hcur := grown_of_below hbl (some R)
           have hS := HK.out _ hcur
           have Hcur := hid hcur
           have Hz9 := hid (HZ.out.below hbl HZ.out.lt)
           obtain ⟨r0, r1, r2, r3, r4⟩ := Hz9.out.five
           have f0 := Hz9.out.frozen 0
           have f1 := Hz9.out.frozen 1
           have f2 := Hz9.out.frozen 2
           have f3 := Hz9.out.frozen 3
           have f4 := Hz9.out.frozen 4
           have hlR := Hz9.out.lt
           have Fin := hid (RetT.stored (w := w) (err := er9) (c := c9) (d := d9) (q := q9) (W := W9) hA9 hB9 hC9 (H5.out.2.2.2.trans (hbl.mono H5.out.2.2.2.size)) hRle Hz9.out)
           unfold stored5 at Fin
           clear hbk hA9 hB9 hC9 hcan)))
    all_goals go_wp2_with fail
    all_goals refine bodyPost_ret (v := .tuple #[.agg #[.int .i64 W9, .slice A9 n9 c9, .int .i64 W9, .slice B9 m9 d9, .slice C9 cs9.length q9], .int .i64 er9]) (by simp [results, Try.results22, go_sem, r0, r1, r2, r3, r4]) rfl ?_
    all_goals rw [Hr.out, Hcn.out]
    all_goals exact Fin.out
end Go.Proofs.Ytmbelhdkaepohaa

namespace Go.Proofs.Ytmbelhdkaepohaa
set_option maxRecDepth 20000
open Go.ChangeShapes Go.WideShapes Go.ChangeAt Go.RowKit

/-- P3.4, as the package says it: the canonical functions are equal. -/
def sameD (W : Int) (gs : List Nat) (V : Int) (ks : List Nat) (cs : List (Int × Int)) (W' : Int) (gs' : List Nat) (V' : Int) (ks' : List Nat) (cs' : List (Int × Int)) : Bool :=
  validT W gs V ks cs && validT W' gs' V' ks' cs' &&
    equal2 (canR W gs V ks cs).1 (canR W gs V ks cs).2.1 (canR W gs V ks cs).1 (canR W gs V ks cs).2.2.1 (canR W gs V ks cs).2.2.2.1 (canR W' gs' V' ks' cs').1 (canR W' gs' V' ks' cs').2.1 (canR W' gs' V' ks' cs').1 (canR W' gs' V' ks' cs').2.2.1 (canR W' gs' V' ks' cs').2.2.2.1
theorem canR_err {W : Int} {gs : List Nat} {V : Int} {ks : List Nat} {cs : List (Int × Int)} : (canR W gs V ks cs).2.2.2.2 = if validT W gs V ks cs = false then 1 else 0 := by
  unfold canR
  by_cases h : validT W gs V ks cs = false
  · rw [if_pos h, if_pos h]
  · rw [if_neg h, if_neg h]
theorem canR_small {W : Int} {gs : List Nat} {V : Int} {ks : List Nat} {cs : List (Int × Int)} {w : World} {A B C : Option Addr} {n m k : Nat} (hF : FArg w A n B m C k gs ks cs) :
    (canR W gs V ks cs).2.1.length ≤ 100 ∧ (canR W gs V ks cs).2.2.1.length ≤ 100 ∧ (canR W gs V ks cs).2.2.2.1.length ≤ 70000 := by
  unfold canR
  by_cases h : validT W gs V ks cs = false
  · rw [if_pos h]; simp
  · rw [if_neg h]
    obtain ⟨h1, h2, h3, h4, h5⟩ := validT_iff (by simpa using h)
    subst h3
    obtain ⟨v, rfl⟩ := Int.eq_ofNat_of_zero_le (Bs.validB_iff.1 h1).1
    have hv256 : v ≤ 256 := by have := (Bs.validB_iff.1 h1).2.1; omega
    rw [Int.toNat_natCast]
    have a1 := (fit_of_valid' h1 hF.gen).len
    have a2 := (fit_killTo gs (oneR gs (folB v ks cs) v) v v).len
    have a3 := copsTo_len gs (oneR gs (folB v ks cs) v) v v
    have a4 : v * v ≤ 256 * 256 := Nat.mul_le_mul hv256 hv256
    unfold Bs.nw at a1 a2
    dsimp only
    refine ⟨by omega, by omega, by omega⟩

set_option maxHeartbeats 800000 in
theorem devSame_any (W V : Int) (A B C : Option Addr) (n c m d k q : Nat) (gs ks : List Nat) (cs : List (Int × Int)) (W' V' : Int) (A' B' C' : Option Addr) (n' c' m' d' k' q' : Nat) (gs' ks' : List Nat) (cs' : List (Int × Int)) (w : World)
    (hF : FArg w A n B m C k gs ks cs) (hG : FArg w A' n' B' m' C' k' gs' ks' cs') :
    Calls Try.prog 26 #[.agg #[.int .i64 W, .slice A n c, .int .i64 V, .slice B m d, .slice C k q], .agg #[.int .i64 W', .slice A' n' c', .int .i64 V', .slice B' m' d', .slice C' k' q']] w
      fun e w' => e = .returned (.bool (sameD W gs V ks cs W' gs' V' ks' cs')) ∧ Below w.heap.size w w' := by
  have HF := hid hF; have HG := hid hG
  have H0 := hid (TwoT.start w W V A B C n c m d k q W' V' A' B' C' n' c' m' d' k' q')
  have hsm := canR_small (W := W) (V := V) hF
  have Hsm := hid hsm
  have He1 := hid (canR_err (W := W) (gs := gs) (V := V) (ks := ks) (cs := cs))
  have He2 := hid (canR_err (W := W') (gs := gs') (V := V') (ks := ks') (cs := cs'))
  have HF0 := hid (HF.out.below H0.out.2.2)
  clear hF hG hsm
  go_enter Try.func26, Try.ntmps26
  go_wp2_with fail
  refine (devCanon_any W V A B C n c m d k q gs ks cs _ HF0.out.gen HF0.out.kill HF0.out.cops).mono ?_
  clear HF0
  obtain ⟨r, hr⟩ : ∃ r, canR W gs V ks cs = r := ⟨_, rfl⟩
  have Hr := hid hr
  rw [hr] at He1 Hsm ⊢
  obtain ⟨W1, gs1, ks1, cs1, er1⟩ := r
  obtain ⟨r', hr'⟩ : ∃ r, canR W' gs' V' ks' cs' = r := ⟨_, rfl⟩
  have Hr' := hid hr'
  rw [hr'] at He2
  obtain ⟨W2, gs2, ks2, cs2, er2⟩ := r'
  clear hr hr'
  rintro e w1 ⟨A1, n1, c1, B1, m1, d1, C1, q1, rfl, hA1, hB1, hC1, hb1⟩
  have hF1 : FArg w1 A1 n1 B1 m1 C1 cs1.length gs1 ks1 cs1 := ⟨hA1, hB1, hC1⟩
  have H1 := hid (H0.out.below hb1)
  have H2 := hid (H1.out.below ((Below.refl _ _).alloc (Nat.le_refl _) (.cells #[.int .i64 W1, .slice A1 n1 c1, .int .i64 W1, .slice B1 m1 d1, .slice C1 cs1.length q1] 28)))
  have HF2 := hid (hF1.alloc (.cells #[.int .i64 W1, .slice A1 n1 c1, .int .i64 W1, .slice B1 m1 d1, .slice C1 cs1.length q1] 28))
  have HX2 := hid (Fb.new w1 #[.int .i64 W1, .slice A1 n1 c1, .int .i64 W1, .slice B1 m1 d1, .slice C1 cs1.length q1] 28)
  clear hA1 hB1 hC1 hb1 hF1 H1
  cases hv1 : validT W gs V ks cs with
  | false =>
    have he1 : er1 = 1 := by have := He1.out; rw [if_pos hv1] at this; exact this
    subst he1
    have E := hid (show sameD W gs V ks cs W' gs' V' ks' cs' = false by unfold sameD; rw [hv1]; rfl)
    clear hv1
    go_wp2
    go_ret
    exact ⟨ret_bool E.out.symm, H2.out.2.2⟩
  | true =>
    have he1 : er1 = 0 := by have := He1.out; rw [if_neg (by rw [hv1]; simp)] at this; exact this
    subst he1
    have Hv1 := hid hv1
    clear hv1
    obtain ⟨t0, t1, t2, t3, t4⟩ := H2.out.2.1.five
    go_wp2_with fail
    generalize w1.alloc (.cells #[.int .i64 W1, .slice A1 n1 c1, .int .i64 W1, .slice B1 m1 d1, .slice C1 cs1.length q1] 28) = w2 at *
    generalize w1.heap.size = b1 at *
    have HG2 := hid (HG.out.below H2.out.2.2)
    refine (devCanon_any W' V' A' B' C' n' c' m' d' k' q' gs' ks' cs' _ HG2.out.gen HG2.out.kill HG2.out.cops).mono ?_
    rw [Hr'.out]
    rintro e w3 ⟨A2, n2, c2, B2, m2, d2, C2, q2, rfl, hA2, hB2, hC2, hb3⟩
    have hG3 : FArg w3 A2 n2 B2 m2 C2 cs2.length gs2 ks2 cs2 := ⟨hA2, hB2, hC2⟩
    have hb4 := hb3.alloc hb3.size (.cells #[.int .i64 W2, .slice A2 n2 c2, .int .i64 W2, .slice B2 m2 d2, .slice C2 cs2.length q2] 28)
    have H4 := hid (H2.out.below hb4)
    have HF4 := hid (HF2.out.below hb4)
    have HX4 := hid (HX2.out.below hb4 HX2.out.lt)
    have HG4 := hid (hG3.alloc (.cells #[.int .i64 W2, .slice A2 n2 c2, .int .i64 W2, .slice B2 m2 d2, .slice C2 cs2.length q2] 28))
    have HY4 := hid (Fb.new w3 #[.int .i64 W2, .slice A2 n2 c2, .int .i64 W2, .slice B2 m2 d2, .slice C2 cs2.length q2] 28)
    clear hA2 hB2 hC2 hb3 hG3 hb4 HG2 t0 t1 t2 t3 t4 H2 HF2 HX2
    cases hv2 : validT W' gs' V' ks' cs' with
    | false =>
      have he2 : er2 = 1 := by have := He2.out; rw [if_pos hv2] at this; exact this
      subst he2
      have E := hid (show sameD W gs V ks cs W' gs' V' ks' cs' = false by unfold sameD; rw [hv2]; simp)
      clear hv2
      go_wp2
      go_ret
      exact ⟨ret_bool E.out.symm, H4.out.2.2⟩
    | true =>
      have he2 : er2 = 0 := by have := He2.out; rw [if_neg (by rw [hv2]; simp)] at this; exact this
      subst he2
      have E := hid (show sameD W gs V ks cs W' gs' V' ks' cs' = equal2 W1 gs1 W1 ks1 cs1 W2 gs2 W2 ks2 cs2 by unfold sameD; rw [hv2, Hv1.out, Hr.out, Hr'.out]; rfl)
      clear hv2
      obtain ⟨x0, x1, x2, x3, x4⟩ := HX4.out.five
      obtain ⟨y0, y1, y2, y3, y4⟩ := HY4.out.five
      go_wp2_with fail
      refine (devEqual2_any W1 W1 A1 B1 C1 n1 c1 m1 d1 cs1.length q1 gs1 ks1 cs1 W2 W2 A2 B2 C2 n2 c2 m2 d2 cs2.length q2 gs2 ks2 cs2 _ HF4.out HG4.out (by have := HF4.out.gen.len; have := Hsm.out.1; unfold maxLen; omega) (by have := HF4.out.kill.len; have := Hsm.out.2.1; unfold maxLen; omega) (by have := Hsm.out.2.2; omega)).mono ?_
      generalize equal2 W1 gs1 W1 ks1 cs1 W2 gs2 W2 ks2 cs2 = res at E ⊢
      rintro e w5 ⟨rfl, hb5⟩
      have H5 := hid (H4.out.below hb5)
      clear hb5 x0 x1 x2 x3 x4 y0 y1 y2 y3 y4
      go_wp2
      go_ret
      exact ⟨ret_bool E.out.symm, H5.out.2.2⟩

/-- P3.4, as the package says it: the join is the second function. -/
def belowD (W : Int) (gs : List Nat) (V : Int) (ks : List Nat) (cs : List (Int × Int)) (W' : Int) (gs' : List Nat) (V' : Int) (ks' : List Nat) (cs' : List (Int × Int)) : Bool :=
  decide ((joinR W gs V ks cs W' gs' V' ks' cs').2.2.2.2 = 0) &&
    sameD (joinR W gs V ks cs W' gs' V' ks' cs').1 (joinR W gs V ks cs W' gs' V' ks' cs').2.1 (joinR W gs V ks cs W' gs' V' ks' cs').1 (joinR W gs V ks cs W' gs' V' ks' cs').2.2.1 (joinR W gs V ks cs W' gs' V' ks' cs').2.2.2.1 W' gs' V' ks' cs'

set_option maxHeartbeats 800000 in
theorem devBelow_any (W V : Int) (A B C : Option Addr) (n c m d k q : Nat) (gs ks : List Nat) (cs : List (Int × Int)) (W' V' : Int) (A' B' C' : Option Addr) (n' c' m' d' k' q' : Nat) (gs' ks' : List Nat) (cs' : List (Int × Int)) (w : World)
    (hF : FArg w A n B m C k gs ks cs) (hG : FArg w A' n' B' m' C' k' gs' ks' cs') :
    Calls Try.prog 28 #[.agg #[.int .i64 W, .slice A n c, .int .i64 V, .slice B m d, .slice C k q], .agg #[.int .i64 W', .slice A' n' c', .int .i64 V', .slice B' m' d', .slice C' k' q']] w
      fun e w' => e = .returned (.bool (belowD W gs V ks cs W' gs' V' ks' cs')) ∧ Below w.heap.size w w' := by
  have HF := hid hF; have HG := hid hG
  have H0 := hid (TwoT.start w W V A B C n c m d k q W' V' A' B' C' n' c' m' d' k' q')
  clear hF hG
  go_enter Try.func28, Try.ntmps28
  go_wp2_with fail
  refine (devJoin_any W V A B C n c m d k q gs ks cs W' V' A' B' C' n' c' m' d' k' q' gs' ks' cs' _ (HF.out.below H0.out.2.2) (HG.out.below H0.out.2.2)).mono ?_
  obtain ⟨r, hr⟩ : ∃ r, joinR W gs V ks cs W' gs' V' ks' cs' = r := ⟨_, rfl⟩
  have Hr := hid hr
  rw [hr]
  obtain ⟨W1, gs1, ks1, cs1, er1⟩ := r
  clear hr
  rintro e w1 ⟨A1, n1, c1, B1, m1, d1, C1, q1, rfl, hA1, hB1, hC1, hb1⟩
  have hF1 : FArg w1 A1 n1 B1 m1 C1 cs1.length gs1 ks1 cs1 := ⟨hA1, hB1, hC1⟩
  have H1 := hid (H0.out.below hb1)
  have H2 := hid (H1.out.below ((Below.refl _ _).alloc (Nat.le_refl _) (.cells #[.int .i64 W1, .slice A1 n1 c1, .int .i64 W1, .slice B1 m1 d1, .slice C1 cs1.length q1] 28)))
  have HF2 := hid (hF1.alloc (.cells #[.int .i64 W1, .slice A1 n1 c1, .int .i64 W1, .slice B1 m1 d1, .slice C1 cs1.length q1] 28))
  have HX2 := hid (Fb.new w1 #[.int .i64 W1, .slice A1 n1 c1, .int .i64 W1, .slice B1 m1 d1, .slice C1 cs1.length q1] 28)
  clear hA1 hB1 hC1 hb1 hF1 H1
  by_cases he : er1 = 0
  · have tt : (er1 == 0) = true := by simp [he]
    have E := hid (show belowD W gs V ks cs W' gs' V' ks' cs' = sameD W1 gs1 W1 ks1 cs1 W' gs' V' ks' cs' by unfold belowD; rw [Hr.out]; simp [he])
    clear he
    obtain ⟨t0, t1, t2, t3, t4⟩ := H2.out.2.1.five
    obtain ⟨x0, x1, x2, x3, x4⟩ := HX2.out.five
    go_wp2_with fail
    generalize w1.alloc (.cells #[.int .i64 W1, .slice A1 n1 c1, .int .i64 W1, .slice B1 m1 d1, .slice C1 cs1.length q1] 28) = w2 at *
    refine (devSame_any W1 W1 A1 B1 C1 n1 c1 m1 d1 cs1.length q1 gs1 ks1 cs1 W' V' A' B' C' n' c' m' d' k' q' gs' ks' cs' _ HF2.out (HG.out.below H2.out.2.2)).mono ?_
    generalize sameD W1 gs1 W1 ks1 cs1 W' gs' V' ks' cs' = res at E ⊢
    rintro e w3 ⟨rfl, hb3⟩
    have H3 := hid (H2.out.below hb3)
    clear hb3 t0 t1 t2 t3 t4 x0 x1 x2 x3 x4
    go_wp2
    go_ret
    exact ⟨ret_bool E.out.symm, H3.out.2.2⟩
  · have tt : (er1 == 0) = false := by simp [he]
    have E := hid (show belowD W gs V ks cs W' gs' V' ks' cs' = false by unfold belowD; rw [Hr.out]; simp [he])
    clear he
    go_wp2
    go_ret
    exact ⟨ret_bool E.out.symm, H2.out.2.2⟩
end Go.Proofs.Ytmbelhdkaepohaa

namespace Go.Proofs.Ytmbelhdkaepohaa
set_option maxRecDepth 20000
open Go.ChangeShapes Go.WideShapes Go.ChangeAt Go.RowKit

/-- The copies that copy p of the first function makes: itself, if its end is kept, and those that the first i copies of the second continue. -/
def chnP (V : Int) (kg : List Nat) (csg : List (Int × Int)) (p : Int × Int) (i : Nat) : List (Int × Int) :=
  (if Bs.hasB V kg p.2 then [] else [p]) ++ ((csg.take i).filter fun d => decide (p.2 = d.1)).map fun d => (p.1, d.2)
def chnF (V : Int) (kg : List Nat) (csf csg : List (Int × Int)) (j : Nat) : List (Int × Int) := (csf.take j).flatMap fun p => chnP V kg csg p csg.length
/-- All of them. -/
def chnL (V : Int) (kf : List Nat) (V' : Int) (kg : List Nat) (csf csg : List (Int × Int)) : List (Int × Int) :=
  chnF V' kg csf csg csf.length ++ csg.filter fun d => !Bs.hasB V kf d.1
theorem chnP_zero (V : Int) (kg : List Nat) (csg : List (Int × Int)) (p : Int × Int) : chnP V kg csg p 0 = if Bs.hasB V kg p.2 then [] else [p] := by unfold chnP; simp
theorem chnP_yes {V : Int} {kg : List Nat} {csg : List (Int × Int)} {p d : Int × Int} {i : Nat} (h : csg.take (i + 1) = csg.take i ++ [d]) (hd : p.2 = d.1) : chnP V kg csg p (i + 1) = chnP V kg csg p i ++ [(p.1, d.2)] := by
  unfold chnP; rw [h, List.filter_append, List.map_append, List.append_assoc]; simp [hd]
theorem chnP_no {V : Int} {kg : List Nat} {csg : List (Int × Int)} {p d : Int × Int} {i : Nat} (h : csg.take (i + 1) = csg.take i ++ [d]) (hd : p.2 ≠ d.1) : chnP V kg csg p (i + 1) = chnP V kg csg p i := by
  unfold chnP; rw [h, List.filter_append, List.map_append]; simp [hd]
theorem chnP_len (V : Int) (kg : List Nat) (csg : List (Int × Int)) (p : Int × Int) (i : Nat) : (chnP V kg csg p i).length ≤ csg.length + 1 := by
  unfold chnP
  rw [List.length_append, List.length_map]
  have h1 := List.length_filter_le (fun d => decide (p.2 = d.1)) (csg.take i)
  rw [List.length_take] at h1
  split <;> simp <;> omega
theorem chnF_snoc {V : Int} {kg : List Nat} {csf csg : List (Int × Int)} {p : Int × Int} {j : Nat} (h : csf.take (j + 1) = csf.take j ++ [p]) : chnF V kg csf csg (j + 1) = chnF V kg csf csg j ++ chnP V kg csg p csg.length := by
  unfold chnF; rw [h, List.flatMap_append]; simp
theorem chnF_len (V : Int) (kg : List Nat) (csf csg : List (Int × Int)) (j : Nat) : (chnF V kg csf csg j).length ≤ j * (csg.length + 1) := by
  induction j with
  | zero => simp [chnF]
  | succ j ih =>
    by_cases h : j < csf.length
    · rw [chnF_snoc (take_snoc csf j h), List.length_append, Nat.succ_mul]
      have := chnP_len V kg csg csf[j] csg.length
      omega
    · have e : chnF V kg csf csg (j + 1) = chnF V kg csf csg j := by
        unfold chnF
        rw [List.take_of_length_le (by omega), List.take_of_length_le (by omega)]
      rw [e, Nat.succ_mul]; omega

/-- While the copies are gathered. -/
def Chaining (w : World) (W V : Int) (A B C : Option Addr) (n c m d k q : Nat) (W' V' : Int) (A' B' C' : Option Addr) (n' c' m' d' k' q' : Nat) (v : Value) (rs : List (Int × Int)) (wr : World) : Prop :=
  TwoT w W V A B C n c m d k q W' V' A' B' C' n' c' m' d' k' q' wr ∧ Cops wr (w.heap.size + 2) v rs ∧ w.heap.size + 2 ≤ wr.heap.size
section
variable {w : World} {W V : Int} {A B C : Option Addr} {n c m d k q : Nat} {W' V' : Int} {A' B' C' : Option Addr} {n' c' m' d' k' q' : Nat} {v : Value} {rs : List (Int × Int)} {wr w' : World}
theorem Chaining.below (h : Chaining w W V A B C n c m d k q W' V' A' B' C' n' c' m' d' k' q' v rs wr) (hb : Below wr.heap.size wr w') : Chaining w W V A B C n c m d k q W' V' A' B' C' n' c' m' d' k' q' v rs w' :=
  ⟨h.1.below hb, own_below h.2.1 hb, by have := hb.size; have := h.2.2; omega⟩
theorem Chaining.row {v' : Value} {rs' : List (Int × Int)} (h : Chaining w W V A B C n c m d k q W' V' A' B' C' n' c' m' d' k' q' v rs wr) (hg : wr.grownBy w' v.ownBlock) (hc : Cops w' (w.heap.size + 2) v' rs') :
    Chaining w W V A B C n c m d k q W' V' A' B' C' n' c' m' d' k' q' v' rs' w' := by
  have ne : ∀ b, b < w.heap.size + 2 → some b ≠ v.ownBlock := fun b hb e => by have := own_base h.2.1 b e.symm; omega
  exact ⟨⟨h.1.1.grown hg (ne _ (by omega)), h.1.2.1.grown hg (ne _ (by omega)), h.1.2.2.grown hg h.1.2.2.size (fun b e => by have := own_base h.2.1 b e; omega)⟩, hc, by have := hg.size; have := h.2.2; omega⟩
end
theorem Chaining.push {w : World} {W V : Int} {A B C : Option Addr} {n c m d k q : Nat} {W' V' : Int} {A' B' C' : Option Addr} {n' c' m' d' k' q' : Nat} {v : Value} {rs : List (Int × Int)} {wr w' : World} {o : Obj} {g cap : Nat} {x y : Int}
    (h : Chaining w W V A B C n c m d k q W' V' A' B' C' n' c' m' d' k' q' v rs wr) (hown : w'.ownsRow (w.heap.size + 2) 48 2 (.slice (some ⟨g, 0, none⟩) (rs.length + 1) cap) (rs.length + 1) (pairs rs ++ [.int .i64 x, .int .i64 y])) (hg : (wr.alloc o).grownBy w' v.ownBlock) :
    Chaining w W V A B C n c m d k q W' V' A' B' C' n' c' m' d' k' q' (.slice (some ⟨g, 0, none⟩) (rs.length + 1) cap) (rs ++ [(x, y)]) w' :=
  (h.below ((Below.refl _ _).alloc (Nat.le_refl _) o)).row hg (by unfold Cops; rw [pairs_snoc, List.length_append]; exact hown)
theorem one_pair (a b : Int) : ∀ u ∈ [Value.int .i64 a, Value.int .i64 b], u.oneCell' = true := by
  intro u hu; simp at hu; rcases hu with rfl | rfl <;> rfl

set_option maxHeartbeats 3200000 in
theorem chain_any (W V : Int) (A B C : Option Addr) (n c m d k q : Nat) (gs ks : List Nat) (cs : List (Int × Int)) (W' V' : Int) (A' B' C' : Option Addr) (n' c' m' d' k' q' : Nat) (gs' ks' : List Nat) (cs' : List (Int × Int)) (w : World)
    (hF : FArg w A n B m C k gs ks cs) (hG : FArg w A' n' B' m' C' k' gs' ks' cs') (hk : k ≤ 64) (hk' : k' ≤ 64) :
    Calls Try.prog 52 #[.agg #[.int .i64 W, .slice A n c, .int .i64 V, .slice B m d, .slice C k q], .agg #[.int .i64 W', .slice A' n' c', .int .i64 V', .slice B' m' d', .slice C' k' q']] w
      fun e w' => ∃ Co qo, e = .returned (.slice Co (chnL V ks V' ks' cs cs').length qo) ∧ ArgC w' Co (chnL V ks V' ks' cs cs').length (chnL V ks V' ks' cs cs') ∧ Below w.heap.size w w' := by
  obtain ⟨i0, hi, hz0, hz1, hz2⟩ := info_parts info35
  have Hi := hid hi; have Hz0 := hid hz0; have Hz1 := hid hz1; have Hz2 := hid hz2
  have HF := hid hF; have HG := hid hG
  have hst := TwoT.start w W V A B C n c m d k q W' V' A' B' C' n' c' m' d' k' q'
  have Hst := hid (show Chaining w W V A B C n c m d k q W' V' A' B' C' n' c' m' d' k' q' (.slice none 0 0) (chnF V' ks' cs cs' 0) _ from ⟨hst, World.ownsRow_nil _ _ _ _, by simp⟩)
  clear hi hz0 hz1 hz2 hF hG hst
  go_enter Try.func52, Try.ntmps52
  go_wp2_with fail
  generalize (w.alloc (.cells #[.int .i64 W, .slice A n c, .int .i64 V, .slice B m d, .slice C k q] 28)).alloc (.cells #[.int .i64 W', .slice A' n' c', .int .i64 V', .slice B' m' d', .slice C' k' q'] 28) = w1 at *
  go_loopw [5, 7, 9, 15, 32] (fun v _ _ i _ wr => ∃ j : Nat, j ≤ k ∧ i = .int .i64 j ∧ Hid (Chaining w W V A B C n c m d k q W' V' A' B' C' n' c' m' d' k' q' v (chnF V' ks' cs cs' j) wr)) (fun _ _ _ i _ _ => k - (intOf i).toNat)
  case atStart => exact ⟨0, by omega, rfl, Hst.out⟩
  case round =>
    obtain ⟨j, hj, rfl, hG1⟩ := hrel
    clear Hst
    by_cases hlt : j < k
    · have hjl : j < cs.length := by rw [HF.out.cops.len]; exact hlt
      have hget : cs[j]? = some cs[j] := List.getElem?_eq_getElem _
      have hsn := take_snoc cs j hjl
      generalize cs[j] = p at hget hsn
      obtain ⟨p1, p2⟩ := p
      obtain ⟨ad, rfl, had, g1, g2⟩ := (HF.out.cops.below hG1.out.1.2.2).cell hget
      have Hsn := hid hsn
      clear hget hsn
      have hlF : (chnF V' ks' cs cs' j).length ≤ 4160 := by
        have h1 := chnF_len V' ks' cs cs' j
        have h2 : j * (cs'.length + 1) ≤ 64 * 65 := Nat.mul_le_mul (by omega) (by have := HG.out.cops.len; omega)
        omega
      have hlP : ∀ i, (chnP V' ks' cs' (p1, p2) i).length ≤ 65 := fun i => by have h1 := chnP_len V' ks' cs' (p1, p2) i; have := HG.out.cops.len; omega
      have HlF := hid hlF; have HlP := hid hlP
      have hob : ∀ b, u5.ownBlock = some b → b < wr.heap.size := fun b hb => (World.ownsRow.lt hG1.out.2.1 b hb).2
      have Hob := hid hob
      have H5 := hid (hG1.out.below ((Below.refl _ _).alloc (Nat.le_refl _) (.cells #[.int .i64 p1, .int .i64 p2] 48)))
      have Hbx := hid (Fb.new wr #[.int .i64 p1, .int .i64 p2] 48)
      obtain ⟨b0, b1⟩ := Hbx.out.two
      obtain ⟨s0, s1, s2, s3, s4⟩ := H5.out.1.2.1.five
      clear hlF hlP hob
      go_wp2_with fail
      clear g1 g2
      generalize hgv : wr.heap.size = gv at *
      generalize wr.alloc (.cells #[.int .i64 p1, .int .i64 p2] 48) = wv at *
      have Hgv := hid hgv
      clear hgv
      refine (devHas_any V' B' m' d' ks' p2 _ (HG.out.kill.below H5.out.1.2.2)).mono ?_
      rintro e w6 ⟨rfl, hb6⟩
      have H6 := hid (H5.out.below hb6)
      have HB := hid (Hbx.out.below hb6 Hbx.out.lt)
      clear s0 s1 s2 s3 s4 b0 b1 hb6 Hbx H5
      obtain ⟨b0, b1⟩ := HB.out.two
      have hBl := HB.out.lt
      obtain ⟨r, hr⟩ : ∃ r, Bs.hasB V' ks' p2 = r := ⟨_, rfl⟩
      rw [hr]
      cases r with
      | true =>
        have hz0 : chnP V' ks' cs' (p1, p2) 0 = [] := by rw [chnP_zero]; simp [hr]
        have HJ := hid (show Chaining w W V A B (some ad) n c m d k q W' V' A' B' C' n' c' m' d' k' q' u5 (chnF V' ks' cs cs' j ++ chnP V' ks' cs' (p1, p2) 0) w6 from by rw [hz0, List.append_nil]; exact H6.out)
        have HN := hid (show u5.ownBlock ≠ some gv from fun e => by have := Hob.out gv e; omega)
        clear hz0 hr
        obtain ⟨s0, s1, s2, s3, s4⟩ := H6.out.1.2.1.five
        go_wp2_with fail
        clear s0 s1 s2 s3 s4 b0 b1 H6
        go_loopw [5, 9, 32] (fun v _ i wr => ∃ l : Nat, l ≤ k' ∧ i = .int .i64 l ∧ Hid (Chaining w W V A B (some ad) n c m d k q W' V' A' B' C' n' c' m' d' k' q' v (chnF V' ks' cs cs' j ++ chnP V' ks' cs' (p1, p2) l) wr ∧ Fb wr gv #[.int .i64 p1, .int .i64 p2] 48 ∧ v.ownBlock ≠ some gv)) (fun _ _ i _ => k' - (intOf i).toNat)
        case atStart => exact ⟨0, by omega, rfl, HJ.out, HB.out, HN.out⟩
        case round =>
          clear HJ HB HN
          obtain ⟨l, hl, rfl, hK⟩ := hrel
          by_cases hll : l < k'
          · have hll2 : l < cs'.length := by rw [HG.out.cops.len]; exact hll
            have hget2 : cs'[l]? = some cs'[l] := List.getElem?_eq_getElem _
            have hsn2 := take_snoc cs' l hll2
            generalize cs'[l] = dd at hget2 hsn2
            obtain ⟨d1, d2⟩ := dd
            obtain ⟨ad2, rfl, had2, g1, g2⟩ := (HG.out.cops.below hK.out.1.1.2.2).cell hget2
            have Hsn2 := hid hsn2
            have hlen : (chnF V' ks' cs cs' j ++ chnP V' ks' cs' (p1, p2) l).length ≤ 4300 := by
              rw [List.length_append]; have := HlF.out; have := HlP.out l; omega
            clear hget2 hsn2
            have HK := hid (hK.out.1.below ((Below.refl _ _).alloc (Nat.le_refl _) (.cells #[.int .i64 d1, .int .i64 d2] 48)))
            have HB2 := hid (hK.out.2.1.alloc (.cells #[.int .i64 d1, .int .i64 d2] 48))
            have HN2 := hid hK.out.2.2
            have HD := hid (Fb.new wr #[.int .i64 d1, .int .i64 d2] 48)
            obtain ⟨b0, b1⟩ := HB2.out.two
            obtain ⟨e0, e1⟩ := HD.out.two
            have hBl2 := HB2.out.lt
            by_cases he : p2 = d1
            · have tt : (p2 == d1) = true := by simp [he]
              have Hst2 := hid (show chnF V' ks' cs cs' j ++ chnP V' ks' cs' (p1, p2) (l + 1) = (chnF V' ks' cs cs' j ++ chnP V' ks' cs' (p1, p2) l) ++ [(p1, d2)] by rw [chnP_yes Hsn2.out he, List.append_assoc])
              clear he
              generalize chnF V' ks' cs cs' j ++ chnP V' ks' cs' (p1, p2) l = rs at *
              go_upto_region 10 with fail
              clear g1 g2
              generalize hgw : wr.heap.size = gw at *
              generalize wr.alloc (.cells #[.int .i64 d1, .int .i64 d2] 48) = wv2 at *
              clear hgw
              go_wp2_with ((
                at_builtin
                refine wpList_append_lies _ rfl _ _ 26 rfl (w.heap.size + 2) 48 i0 _ 2 16 Try.underlying26 Hi.out Hz0.out Hz1.out Hz2.out rfl (by decide) u5 rs.length (pairs rs) rfl (World.ownsRow.alloc HK.out.2.1 _) ⟨wv2.heap.size, 0, none⟩ 1 1 [.int .i64 p1, .int .i64 d2] rfl rfl (two_new _ _ _ _) (one_pair _ _) (by omega) (by unfold maxLen; omega) (by omega) (by have := HK.out.2.2; rw [World.size_alloc]; omega) _ rfl ?_
                intro g7 cap7 w7 hown7 hgr7 hat7 hlt7
                have H7 := hid (HK.out.push hown7 hgr7)
                have HB7 := hid ((HB2.out.alloc (.cells #[.int .i64 p1, .int .i64 d2] 48)).grown hgr7 (Ne.symm HN2.out))
                have HN7 := hid (show (Value.slice (some ⟨g7, 0, none⟩) (rs.length + 1) cap7).ownBlock ≠ some gv from fun e => by
                  have e' : g7 = gv := by simpa [Value.ownBlock] using e
                  rcases hat7 with h | h
                  · exact HN2.out (by rw [h, e'])
                  · rw [World.size_alloc] at h; omega)
                clear hown7 hgr7 hat7 hlt7))
              go_roundw
              case rel => exact ⟨l + 1, by omega, by go_num, by rw [Hst2.out]; exact hid ⟨H7.out, HB7.out, HN7.out⟩⟩
              case measure => simp [intOf]; omega
            · have tt : (p2 == d1) = false := by simp [he]
              have Hst2 := hid (show chnF V' ks' cs cs' j ++ chnP V' ks' cs' (p1, p2) (l + 1) = chnF V' ks' cs cs' j ++ chnP V' ks' cs' (p1, p2) l by rw [chnP_no Hsn2.out he])
              clear he
              go_wp2_with fail
              go_roundw
              case rel => exact ⟨l + 1, by omega, by go_num, by rw [Hst2.out]; exact hid ⟨HK.out, HB2.out, HN2.out⟩⟩
              case measure => simp [intOf]; omega
          · have hlk : k' = l := by omega
            subst hlk
            have Hst3 := hid (show chnF V' ks' cs cs' (j + 1) = chnF V' ks' cs cs' j ++ chnP V' ks' cs' (p1, p2) k' by rw [chnF_snoc Hsn.out, HG.out.cops.len])
            have HK := hid hK.out.1
            clear hK
            go_wp2_with fail
            go_roundw
            case rel => exact ⟨j + 1, by omega, by go_num, by rw [Hst3.out]; exact HK⟩
            case measure => simp [intOf]; omega
      | false =>
        have hz0 : chnP V' ks' cs' (p1, p2) 0 = [(p1, p2)] := by rw [chnP_zero]; simp [hr]
        have hlF := HlF.out
        have Hz := hid hz0
        clear hz0 hr
        obtain ⟨s0, s1, s2, s3, s4⟩ := H6.out.1.2.1.five
        generalize hFj : chnF V' ks' cs cs' j = rs at H6 hlF
        have HFj := hid hFj
        clear hFj
        go_upto_region 7 with (
          at_builtin
          refine wpList_append_lies _ rfl _ _ 26 rfl (w.heap.size + 2) 48 i0 _ 2 16 Try.underlying26 Hi.out Hz0.out Hz1.out Hz2.out rfl (by decide) u5 rs.length (pairs rs) rfl (World.ownsRow.alloc H6.out.2.1 _) ⟨w6.heap.size, 0, none⟩ 1 1 [.int .i64 p1, .int .i64 p2] rfl rfl (two_new _ _ _ _) (one_pair _ _) (by omega) (by unfold maxLen; omega) (by omega) (by have := H6.out.2.2; rw [World.size_alloc]; omega) _ rfl ?_
          intro g7 cap7 w7 hown7 hgr7 hat7 hlt7
          have HJ := hid (show Chaining w W V A B (some ad) n c m d k q W' V' A' B' C' n' c' m' d' k' q' (.slice (some ⟨g7, 0, none⟩) (rs.length + 1) cap7) (chnF V' ks' cs cs' j ++ chnP V' ks' cs' (p1, p2) 0) w7 from by rw [Hz.out, HFj.out]; exact H6.out.push hown7 hgr7)
          have HB := hid ((HB.out.alloc (.cells #[.int .i64 p1, .int .i64 p2] 48)).grown hgr7 (fun e => by have := Hob.out gv e.symm; omega))
          have HN := hid (show (Value.slice (some ⟨g7, 0, none⟩) (rs.length + 1) cap7).ownBlock ≠ some gv from fun e => by
            have e' : g7 = gv := by simpa [Value.ownBlock] using e
            rcases hat7 with h | h
            · have := Hob.out gv (by rw [h, e']); omega
            · rw [World.size_alloc] at h; omega)
          clear hown7 hgr7 hat7 hlt7)
        obtain ⟨x0, x1, x2, x3, x4⟩ := HJ.out.1.2.1.five
        go_wp2_with fail
        clear s0 s1 s2 s3 s4 b0 b1 H6 x0 x1 x2 x3 x4
        go_loopw [5, 9, 32] (fun v _ i wr => ∃ l : Nat, l ≤ k' ∧ i = .int .i64 l ∧ Hid (Chaining w W V A B (some ad) n c m d k q W' V' A' B' C' n' c' m' d' k' q' v (chnF V' ks' cs cs' j ++ chnP V' ks' cs' (p1, p2) l) wr ∧ Fb wr gv #[.int .i64 p1, .int .i64 p2] 48 ∧ v.ownBlock ≠ some gv)) (fun _ _ i _ => k' - (intOf i).toNat)
        case atStart => exact ⟨0, by omega, rfl, HJ.out, HB.out, HN.out⟩
        case round =>
          clear HJ HB HN
          obtain ⟨l, hl, rfl, hK⟩ := hrel
          by_cases hll : l < k'
          · have hll2 : l < cs'.length := by rw [HG.out.cops.len]; exact hll
            have hget2 : cs'[l]? = some cs'[l] := List.getElem?_eq_getElem _
            have hsn2 := take_snoc cs' l hll2
            generalize cs'[l] = dd at hget2 hsn2
            obtain ⟨d1, d2⟩ := dd
            obtain ⟨ad2, rfl, had2, g1, g2⟩ := (HG.out.cops.below hK.out.1.1.2.2).cell hget2
            have Hsn2 := hid hsn2
            have hlen : (chnF V' ks' cs cs' j ++ chnP V' ks' cs' (p1, p2) l).length ≤ 4300 := by
              rw [List.length_append]; have := HlF.out; have := HlP.out l; omega
            clear hget2 hsn2
            have HK := hid (hK.out.1.below ((Below.refl _ _).alloc (Nat.le_refl _) (.cells #[.int .i64 d1, .int .i64 d2] 48)))
            have HB2 := hid (hK.out.2.1.alloc (.cells #[.int .i64 d1, .int .i64 d2] 48))
            have HN2 := hid hK.out.2.2
            have HD := hid (Fb.new wr #[.int .i64 d1, .int .i64 d2] 48)
            obtain ⟨b0, b1⟩ := HB2.out.two
            obtain ⟨e0, e1⟩ := HD.out.two
            have hBl2 := HB2.out.lt
            by_cases he : p2 = d1
            · have tt : (p2 == d1) = true := by simp [he]
              have Hst2 := hid (show chnF V' ks' cs cs' j ++ chnP V' ks' cs' (p1, p2) (l + 1) = (chnF V' ks' cs cs' j ++ chnP V' ks' cs' (p1, p2) l) ++ [(p1, d2)] by rw [chnP_yes Hsn2.out he, List.append_assoc])
              clear he
              generalize chnF V' ks' cs cs' j ++ chnP V' ks' cs' (p1, p2) l = rs at *
              go_upto_region 10 with fail
              clear g1 g2
              generalize hgw : wr.heap.size = gw at *
              generalize wr.alloc (.cells #[.int .i64 d1, .int .i64 d2] 48) = wv2 at *
              clear hgw
              go_wp2_with ((
                at_builtin
                refine wpList_append_lies _ rfl _ _ 26 rfl (w.heap.size + 2) 48 i0 _ 2 16 Try.underlying26 Hi.out Hz0.out Hz1.out Hz2.out rfl (by decide) u5 rs.length (pairs rs) rfl (World.ownsRow.alloc HK.out.2.1 _) ⟨wv2.heap.size, 0, none⟩ 1 1 [.int .i64 p1, .int .i64 d2] rfl rfl (two_new _ _ _ _) (one_pair _ _) (by omega) (by unfold maxLen; omega) (by omega) (by have := HK.out.2.2; rw [World.size_alloc]; omega) _ rfl ?_
                intro g7 cap7 w7 hown7 hgr7 hat7 hlt7
                have H7 := hid (HK.out.push hown7 hgr7)
                have HB7 := hid ((HB2.out.alloc (.cells #[.int .i64 p1, .int .i64 d2] 48)).grown hgr7 (Ne.symm HN2.out))
                have HN7 := hid (show (Value.slice (some ⟨g7, 0, none⟩) (rs.length + 1) cap7).ownBlock ≠ some gv from fun e => by
                  have e' : g7 = gv := by simpa [Value.ownBlock] using e
                  rcases hat7 with h | h
                  · exact HN2.out (by rw [h, e'])
                  · rw [World.size_alloc] at h; omega)
                clear hown7 hgr7 hat7 hlt7))
              go_roundw
              case rel => exact ⟨l + 1, by omega, by go_num, by rw [Hst2.out]; exact hid ⟨H7.out, HB7.out, HN7.out⟩⟩
              case measure => simp [intOf]; omega
            · have tt : (p2 == d1) = false := by simp [he]
              have Hst2 := hid (show chnF V' ks' cs cs' j ++ chnP V' ks' cs' (p1, p2) (l + 1) = chnF V' ks' cs cs' j ++ chnP V' ks' cs' (p1, p2) l by rw [chnP_no Hsn2.out he])
              clear he
              go_wp2_with fail
              go_roundw
              case rel => exact ⟨l + 1, by omega, by go_num, by rw [Hst2.out]; exact hid ⟨HK.out, HB2.out, HN2.out⟩⟩
              case measure => simp [intOf]; omega
          · have hlk : k' = l := by omega
            subst hlk
            have Hst3 := hid (show chnF V' ks' cs cs' (j + 1) = chnF V' ks' cs cs' j ++ chnP V' ks' cs' (p1, p2) k' by rw [chnF_snoc Hsn.out, HG.out.cops.len])
            have HK := hid hK.out.1
            clear hK
            go_wp2_with fail
            go_roundw
            case rel => exact ⟨j + 1, by omega, by go_num, by rw [Hst3.out]; exact HK⟩
            case measure => simp [intOf]; omega
    · have hjk : k = j := by omega
      subst hjk
      have hall : chnF V' ks' cs cs' k = chnF V' ks' cs cs' cs.length := by rw [HF.out.cops.len]
      rw [hall] at hG1
      clear hall
      have hlF : (chnF V' ks' cs cs' cs.length).length ≤ 4160 := by
        have h1 := chnF_len V' ks' cs cs' cs.length
        have h2 : cs.length * (cs'.length + 1) ≤ 64 * 65 := Nat.mul_le_mul (by have := HF.out.cops.len; omega) (by have := HG.out.cops.len; omega)
        omega
      have hLL : chnL V ks V' ks' cs cs' = chnF V' ks' cs cs' cs.length ++ cs'.filter fun d => !Bs.hasB V ks d.1 := rfl
      have HLL := hid hLL
      clear hLL
      generalize chnF V' ks' cs cs' cs.length = rs0 at *
      obtain ⟨s0, s1, s2, s3, s4⟩ := hG1.out.1.2.1.five
      have HL := hid (show Chaining w W V A B C n c m d k q W' V' A' B' C' n' c' m' d' k' q' u5 (rs0 ++ (cs'.take 0).filter fun d => !Bs.hasB V ks d.1) wr from by simpa using hG1.out)
      clear hG1
      go_wp2_with fail
      clear s0 s1 s2 s3 s4
      go_loopw [5, 11, 54] (fun v _ i wr => ∃ l : Nat, l ≤ k' ∧ i = .int .i64 l ∧ Hid (Chaining w W V A B C n c m d k q W' V' A' B' C' n' c' m' d' k' q' v (rs0 ++ (cs'.take l).filter fun d => !Bs.hasB V ks d.1) wr)) (fun _ _ i _ => k' - (intOf i).toNat)
      case atStart => exact ⟨0, by omega, rfl, HL.out⟩
      case round =>
        clear HL
        obtain ⟨l, hl, rfl, hK⟩ := hrel
        by_cases hll : l < k'
        · have hll2 : l < cs'.length := by rw [HG.out.cops.len]; exact hll
          have hget2 : cs'[l]? = some cs'[l] := List.getElem?_eq_getElem _
          have hsn2 := take_snoc cs' l hll2
          generalize cs'[l] = dd at hget2 hsn2
          obtain ⟨d1, d2⟩ := dd
          obtain ⟨ad2, rfl, had2, g1, g2⟩ := (HG.out.cops.below hK.out.1.2.2).cell hget2
          have Hsn2 := hid hsn2
          have hlen : (rs0 ++ (cs'.take l).filter fun d => !Bs.hasB V ks d.1).length ≤ 4300 := by
            rw [List.length_append]
            have h1 := List.length_filter_le (fun d => !Bs.hasB V ks d.1) (cs'.take l)
            rw [List.length_take] at h1; omega
          clear hget2 hsn2
          have HK := hid (hK.out.below ((Below.refl _ _).alloc (Nat.le_refl _) (.cells #[.int .i64 d1, .int .i64 d2] 48)))
          have HD := hid (Fb.new wr #[.int .i64 d1, .int .i64 d2] 48)
          obtain ⟨e0, e1⟩ := HD.out.two
          obtain ⟨t0, t1, t2, t3, t4⟩ := HK.out.1.1.five
          go_wp2_with fail
          clear g1 g2
          generalize wr.heap.size = gw at *
          generalize wr.alloc (.cells #[.int .i64 d1, .int .i64 d2] 48) = wv2 at *
          refine (devHas_any V B m d ks d1 _ (HF.out.kill.below HK.out.1.2.2)).mono ?_
          rintro e w6 ⟨rfl, hb6⟩
          have H6 := hid (HK.out.below hb6)
          have HD6 := hid (HD.out.below hb6 HD.out.lt)
          clear e0 e1 t0 t1 t2 t3 t4 hb6
          obtain ⟨e0, e1⟩ := HD6.out.two
          obtain ⟨r, hr⟩ : ∃ r, Bs.hasB V ks d1 = r := ⟨_, rfl⟩
          rw [hr]
          cases r with
          | true =>
            have Hst2 := hid (show (rs0 ++ (cs'.take (l + 1)).filter fun d => !Bs.hasB V ks d.1) = rs0 ++ (cs'.take l).filter fun d => !Bs.hasB V ks d.1 by rw [Hsn2.out, List.filter_append]; simp [hr])
            clear hr
            go_wp2_with fail
            go_roundw
            case rel => exact ⟨l + 1, by omega, by go_num, by rw [Hst2.out]; exact H6⟩
            case measure => simp [intOf]; omega
          | false =>
            have Hst2 := hid (show (rs0 ++ (cs'.take (l + 1)).filter fun d => !Bs.hasB V ks d.1) = (rs0 ++ (cs'.take l).filter fun d => !Bs.hasB V ks d.1) ++ [(d1, d2)] by rw [Hsn2.out, List.filter_append, List.append_assoc]; simp [hr])
            clear hr
            generalize (rs0 ++ (cs'.take l).filter fun d => !Bs.hasB V ks d.1) = rs at *
            go_wp2_with ((
              at_builtin
              refine wpList_append_lies _ rfl _ _ 26 rfl (w.heap.size + 2) 48 i0 _ 2 16 Try.underlying26 Hi.out Hz0.out Hz1.out Hz2.out rfl (by decide) u5 rs.length (pairs rs) rfl (World.ownsRow.alloc H6.out.2.1 _) ⟨w6.heap.size, 0, none⟩ 1 1 [.int .i64 d1, .int .i64 d2] rfl rfl (two_new _ _ _ _) (one_pair _ _) (by omega) (by unfold maxLen; omega) (by omega) (by have := H6.out.2.2; rw [World.size_alloc]; omega) _ rfl ?_
              intro g7 cap7 w7 hown7 hgr7 hat7 hlt7
              have H7 := hid (H6.out.push hown7 hgr7)
              clear hown7 hgr7 hat7 hlt7))
            go_roundw
            case rel => exact ⟨l + 1, by omega, by go_num, by rw [Hst2.out]; exact H7⟩
            case measure => simp [intOf]; omega
        · have hlk : k' = l := by omega
          subst hlk
          have hall : cs'.take k' = cs' := List.take_of_length_le (by rw [HG.out.cops.len]; omega)
          rw [hall, ← HLL.out] at hK
          obtain ⟨Co, qo, rfl⟩ : ∃ Co qo, u5 = .slice Co (chnL V ks V' ks' cs cs').length qo := by
            rcases hK.out.2.1.2 with ⟨e1, e2⟩ | ⟨g, cap, cur, e1, _⟩
            · exact ⟨none, 0, by rw [e1, e2]⟩
            · exact ⟨_, cap, e1⟩
          have HK := hid hK.out
          clear hK hall
          go_wp2_with fail
          go_ret
          exact ⟨Co, qo, rfl, ⟨own_at HK.out.2.1, rfl⟩, HK.out.1.2.2⟩
end Go.Proofs.Ytmbelhdkaepohaa

namespace Go.Proofs.Ytmbelhdkaepohaa
set_option maxRecDepth 20000
open Go.ChangeShapes Go.WideShapes Go.ChangeAt Go.RowKit

theorem FArg.skip {w w' : World} {A B C : Option Addr} {n m k R : Nat} {gs ks : List Nat} {cs : List (Int × Int)} (h : FArg w A n B m C k gs ks cs) (h1 : gs = [] ∨ ∃ ad, A = some ad ∧ ad.block ≠ R) (h2 : ks = [] ∨ ∃ ad, B = some ad ∧ ad.block ≠ R) (h3 : cs = [] ∨ ∃ ad, C = some ad ∧ ad.block ≠ R) (hg : w.grownBy w' (some R)) : FArg w' A n B m C k gs ks cs :=
  ⟨h.gen.skip h1 hg, h.kill.skip h2 hg, h.cops.skip h3 hg⟩
theorem inW_pair {W : Int} {p : Int × Int} : inW W p = true ↔ (0 ≤ p.1 ∧ p.1 < W) ∧ 0 ≤ p.2 ∧ p.2 < W := by
  unfold inW; simp only [Bool.and_eq_true, decide_eq_true_eq]; omega
theorem chnL_inW {W V V' : Int} {ks ks' : List Nat} {cs cs' : List (Int × Int)} (h : ∀ p ∈ cs, inW W p = true) (h' : ∀ p ∈ cs', inW W p = true) : ∀ p ∈ chnL V ks V' ks' cs cs', inW W p = true := by
  intro p hp
  unfold chnL at hp
  rcases List.mem_append.1 hp with hp | hp
  · unfold chnF at hp
    obtain ⟨q, hq, hp⟩ := List.mem_flatMap.1 hp
    have hq' := inW_pair.1 (h q (List.mem_of_mem_take hq))
    unfold chnP at hp
    rcases List.mem_append.1 hp with hp | hp
    · split at hp
      · cases hp
      · rw [List.mem_singleton.1 hp]; exact inW_pair.2 hq'
    · obtain ⟨d, hd, rfl⟩ := List.mem_map.1 hp
      have hd' := inW_pair.1 (h' d (List.mem_of_mem_take (List.mem_filter.1 hd).1))
      exact inW_pair.2 ⟨hq'.1, hd'.2⟩
  · exact h' p (List.mem_filter.1 hp).1
theorem chnL_len {V V' : Int} {ks ks' : List Nat} {cs cs' : List (Int × Int)} (h : cs.length ≤ 64) (h' : cs'.length ≤ 64) : (chnL V ks V' ks' cs cs').length ≤ 5000 := by
  unfold chnL
  rw [List.length_append]
  have h1 := chnF_len V' ks' cs cs' cs.length
  have h2 : cs.length * (cs'.length + 1) ≤ 64 * 65 := Nat.mul_le_mul h (by omega)
  have h3 := List.length_filter_le (fun d : Int × Int => !Bs.hasB V ks d.1) cs'
  omega

/-- P3.5. -/
def composeR (W : Int) (gs : List Nat) (V : Int) (ks : List Nat) (cs : List (Int × Int)) (W' : Int) (gs' : List Nat) (V' : Int) (ks' : List Nat) (cs' : List (Int × Int)) : Int × List Nat × List Nat × List (Int × Int) × Int :=
  if validT W gs V ks cs = false ∨ validT W' gs' V' ks' cs' = false then (0, [], [], [], 1)
  else if W ≠ W' then (0, [], [], [], 2)
  else cnR W.toNat (valR gs' gs (folB W ks' cs') W.toNat) (orR W.toNat ks ks') (chnL V ks V' ks' cs cs')

set_option maxHeartbeats 1600000 in
theorem devCompose_any (W V : Int) (A B C : Option Addr) (n c m d k q : Nat) (gs ks : List Nat) (cs : List (Int × Int)) (W' V' : Int) (A' B' C' : Option Addr) (n' c' m' d' k' q' : Nat) (gs' ks' : List Nat) (cs' : List (Int × Int)) (w : World)
    (hF : FArg w A n B m C k gs ks cs) (hG : FArg w A' n' B' m' C' k' gs' ks' cs') :
    Calls Try.prog 24 #[.agg #[.int .i64 W, .slice A n c, .int .i64 V, .slice B m d, .slice C k q], .agg #[.int .i64 W', .slice A' n' c', .int .i64 V', .slice B' m' d', .slice C' k' q']] w
      (RetR w (composeR W gs V ks cs W' gs' V' ks' cs')) := by
  have HF := hid hF; have HG := hid hG
  have H0 := hid (Three.start w W V A B C n c m d k q W' V' A' B' C' n' c' m' d' k' q')
  clear hF hG
  go_enter Try.func24, Try.ntmps24
  go_wp2_with fail
  refine (devCheck_any W V A B C n c m d k q gs ks cs W' V' A' B' C' n' c' m' d' k' q' gs' ks' cs' _ (HF.out.below H0.out.2.2.2) (HG.out.below H0.out.2.2.2)).mono ?_
  by_cases hbad : checkR (validT W gs V ks cs) (validT W' gs' V' ks' cs') W W' ≠ 0
  · have Hr := hid (show composeR W gs V ks cs W' gs' V' ks' cs' = (0, [], [], [], checkR (validT W gs V ks cs) (validT W' gs' V' ks' cs') W W') by
      unfold composeR checkR
      unfold checkR at hbad
      by_cases h1 : validT W gs V ks cs = false ∨ validT W' gs' V' ks' cs' = false
      · rw [if_pos h1, if_pos h1]
      · rw [if_neg h1, if_neg h1]
        rw [if_neg h1] at hbad
        by_cases h2 : W ≠ W'
        · rw [if_pos h2, if_pos h2]
        · rw [if_neg h2] at hbad; exact absurd rfl hbad)
    generalize checkR (validT W gs V ks cs) (validT W' gs' V' ks' cs') W W' = er at *
    have tt : (er != 0) = true := by simpa using hbad
    clear hbad
    rintro e w1 ⟨rfl, hb1⟩
    have H1 := hid (H0.out.below hb1)
    clear hb1
    obtain ⟨r0, r1, r2, r3, r4⟩ := H1.out.2.2.1.five
    have f0 := H1.out.2.2.1.frozen 0
    have f1 := H1.out.2.2.1.frozen 1
    have f2 := H1.out.2.2.1.frozen 2
    have f3 := H1.out.2.2.1.frozen 3
    have f4 := H1.out.2.2.1.frozen 4
    have hlR := H1.out.2.2.1.lt
    have Fin := hid (RetT.stored (err := er) (c := 0) (d := 0) (q := 0) (cs := []) (C := none) (Arg.nil w1 none) (Arg.nil w1 none) ⟨.inl rfl, rfl⟩ H1.out.2.2.2 (by omega) H1.out.2.2.1 (W := 0))
    unfold stored5 at Fin
    go_wp2_with fail
    refine bodyPost_ret (v := .tuple #[.agg #[.int .i64 0, .slice none 0 0, .int .i64 0, .slice none 0 0, .slice none 0 0], .int .i64 er]) (by simp [results, Try.results24, go_sem, r0, r1, r2, r3, r4]) rfl ?_
    rw [Hr.out]
    exact Fin.out
  · have hok : checkR (validT W gs V ks cs) (validT W' gs' V' ks' cs') W W' = 0 := by simpa using hbad
    rw [hok]
    have hv1 : validT W gs V ks cs = true := by
      unfold checkR at hok
      cases h : validT W gs V ks cs with
      | true => rfl
      | false => rw [h] at hok; simp at hok
    have hv2 : validT W' gs' V' ks' cs' = true := by
      unfold checkR at hok
      cases h : validT W' gs' V' ks' cs' with
      | true => rfl
      | false => rw [h] at hok; simp at hok
    have hWW : W = W' := by
      unfold checkR at hok
      rw [hv1, hv2] at hok
      by_cases h : W = W'
      · exact h
      · simp [h] at hok
    clear hok hbad
    subst hWW
    obtain ⟨h1, h2, h3, h4, h5⟩ := validT_iff hv1
    obtain ⟨g1, g2, g3, g4, g5⟩ := validT_iff hv2
    subst h3
    subst g3
    have hin1 := inW_of_ok h5
    have hin2 := inW_of_ok g5
    have Hr := hid (show composeR W gs W ks cs W gs' W ks' cs' = cnR W.toNat (valR gs' gs (folB W ks' cs') W.toNat) (orR W.toNat ks ks') (chnL W ks W ks' cs cs') by unfold composeR; rw [if_neg (by simp [hv1, hv2]), if_neg (by simp)])
    obtain ⟨v, rfl⟩ := Int.eq_ofNat_of_zero_le (Bs.validB_iff.1 h1).1
    have hv256 : v ≤ 256 := by have := (Bs.validB_iff.1 h1).2.1; omega
    have hfg := fit_of_valid' h1 HF.out.gen
    have hfk := fit_of_valid' h2 HF.out.kill
    have hfg' := fit_of_valid' g1 HG.out.gen
    have hfk' := fit_of_valid' g2 HG.out.kill
    have hk4 : k ≤ 64 := by rw [HF.out.cops.len] at h4; exact h4
    have hk4' : k' ≤ 64 := by rw [HG.out.cops.len] at g4; exact g4
    rw [Int.toNat_natCast] at Hr
    have Hin := hid (show ∀ p ∈ chnL v ks v ks' cs cs', inW v p = true from chnL_inW hin1 hin2)
    have Hlen := hid (show (chnL v ks v ks' cs cs').length ≤ 5000 from chnL_len (by rw [HF.out.cops.len]; exact hk4) (by rw [HG.out.cops.len]; exact hk4'))
    have Happ := hid (show applyR v gs' v ks' cs' v gs = ((v : Int), valR gs' gs (folB v ks' cs') v, 0) by unfold applyR; rw [if_neg (by simp [hv2, h1]), if_neg (by simp), Int.toNat_natCast])
    have Hfg := hid hfg; have Hfk := hid hfk; have Hfg' := hid hfg'; have Hfk' := hid hfk'
    clear h1 h2 h4 h5 g1 g2 g4 g5 hin1 hin2 hfg hfk hfg' hfk' hv1 hv2
    rintro e w1 ⟨rfl, hb1⟩
    have H1 := hid (H0.out.below hb1)
    clear hb1
    obtain ⟨t0, t1, t2, t3, t4⟩ := H1.out.1.five
    obtain ⟨s0, s1, s2, s3, s4⟩ := H1.out.2.1.five
    go_wp2_with fail
    refine (devApply_any v v v A' B' C' A n' c' m' d' k' q' n c gs' ks' gs cs' _ (HG.out.gen.below H1.out.2.2.2) (HG.out.kill.below H1.out.2.2.2) (HG.out.cops.below H1.out.2.2.2) (HF.out.gen.below H1.out.2.2.2)).mono ?_
    rw [Happ.out]
    rintro e w2 ⟨A2, n2, c2, rfl, ha2, hb2⟩
    have hb2' := hb2.alloc hb2.size (.cells #[.int .i64 v, .slice A2 n2 c2] 25)
    have H2 := hid (H1.out.below hb2')
    have HA2 := hid (ha2.alloc (.cells #[.int .i64 v, .slice A2 n2 c2] 25))
    have HB2 := hid (Box.new w2 v A2 n2 c2)
    clear ha2 hb2 hb2' t0 t1 t2 t3 t4 s0 s1 s2 s3 s4
    obtain ⟨t0, t1, t2, t3, t4⟩ := H2.out.1.five
    obtain ⟨s0, s1, s2, s3, s4⟩ := H2.out.2.1.five
    go_wp2_with fail
    generalize w2.alloc (.cells #[.int .i64 v, .slice A2 n2 c2] 25) = w3 at *
    generalize w2.heap.size = b3 at *
    refine (devUnion_any v v B B' m d m' d' ks ks' _ (HF.out.kill.below H2.out.2.2.2) (HG.out.kill.below H2.out.2.2.2)).mono ?_
    rw [mixR_or hv256 Hfk.out Hfk'.out]
    rintro e w4 ⟨A4, n4, c4, rfl, ha4, hb4⟩
    have hb4' := hb4.alloc hb4.size (.cells #[.int .i64 v, .slice A4 n4 c4] 25)
    have H5 := hid (H2.out.below hb4')
    have HA5 := hid (HA2.out.below hb4')
    have HB5 := hid (HB2.out.below hb4' HB2.out.lt)
    have HK5 := hid (ha4.alloc (.cells #[.int .i64 v, .slice A4 n4 c4] 25))
    have HC5 := hid (Box.new w4 v A4 n4 c4)
    have hne3 : b3 ≠ w.heap.size + 2 := by
      intro e
      have x1 := HB2.out
      have x2 := H2.out.2.2.1
      rw [e] at x1
      unfold Box at x1
      unfold Fb at x2
      rw [x1] at x2
      cases x2
    have hne4 : w4.heap.size ≠ w.heap.size + 2 := by
      intro e
      have x1 := HC5.out
      have x2 := H5.out.2.2.1
      rw [e] at x1
      unfold Box at x1
      unfold Fb at x2
      rw [x1] at x2
      cases x2
    clear ha4 hb4 hb4' t0 t1 t2 t3 t4 s0 s1 s2 s3 s4 H1 H2 HA2 HB2
    go_upto_region 6 with fail
    generalize w4.alloc (.cells #[.int .i64 v, .slice A4 n4 c4] 25) = w5 at *
    generalize w4.heap.size = b4 at *
    generalize hR : w.heap.size + 1 + 1 = R
    have hR2 : w.heap.size + 2 = R := hR
    have HZ := hid (show Fb w5 R _ 28 from by rw [← hR2]; exact H5.out.2.2.1)
    rw [hR2] at hne3 hne4
    have hRle : w.heap.size ≤ R := by omega
    have hn0 : w.heap.size ≠ R := by omega
    have hn1 : w.heap.size + 1 ≠ R := by omega
    have HnR := hid (And.intro hn0 hn1)
    have hA0 := HA5.out.apart HZ.out zero5
    have hK0 := HK5.out.apart HZ.out zero5
    have hF5 := HF.out.below H5.out.2.2.2
    have hG5 := HG.out.below H5.out.2.2.2
    have hFS := fun (w' : World) (hg : w5.grownBy w' (some R)) => hF5.skip (hF5.gen.apart HZ.out zero5) (hF5.kill.apart HZ.out zero5) (hF5.cops.apart HZ.out zero5c) hg
    have hGS := fun (w' : World) (hg : w5.grownBy w' (some R)) => hG5.skip (hG5.gen.apart HZ.out zero5) (hG5.kill.apart HZ.out zero5) (hG5.cops.apart HZ.out zero5c) hg
    have hK : ∀ w', w5.grownBy w' (some R) → ((fun w' => w5.grownBy w' (some R) ∧ (w'.cell? ⟨b3, 0, none⟩ = some (.int .i64 v) ∧ w'.cell? ⟨b3, 1, none⟩ = some (.slice A2 n2 c2)) ∧ (w'.cell? ⟨b4, 0, none⟩ = some (.int .i64 v) ∧ w'.cell? ⟨b4, 1, none⟩ = some (.slice A4 n4 c4)) ∧ (w'.cell? ⟨w.heap.size, 0, none⟩ = some (.int .i64 v) ∧ w'.cell? ⟨w.heap.size, 1, none⟩ = some (.slice A n c) ∧ w'.cell? ⟨w.heap.size, 2, none⟩ = some (.int .i64 v) ∧ w'.cell? ⟨w.heap.size, 3, none⟩ = some (.slice B m d) ∧ w'.cell? ⟨w.heap.size, 4, none⟩ = some (.slice C k q)) ∧ (w'.cell? ⟨w.heap.size + 1, 0, none⟩ = some (.int .i64 v) ∧ w'.cell? ⟨w.heap.size + 1, 1, none⟩ = some (.slice A' n' c') ∧ w'.cell? ⟨w.heap.size + 1, 2, none⟩ = some (.int .i64 v) ∧ w'.cell? ⟨w.heap.size + 1, 3, none⟩ = some (.slice B' m' d') ∧ w'.cell? ⟨w.heap.size + 1, 4, none⟩ = some (.slice C' k' q'))) w') := fun w' hg =>
      ⟨hg, ⟨(HB5.out.grown hg (some_ne hne3)).c0, (HB5.out.grown hg (some_ne hne3)).c1⟩, ⟨(HC5.out.grown hg (some_ne hne4)).c0, (HC5.out.grown hg (some_ne hne4)).c1⟩, (H5.out.1.grown hg (some_ne hn0)).five, (H5.out.2.1.grown hg (some_ne hn1)).five⟩
    have HK := hid hK
    have HA0 := hid hA0; have HK0 := hid hK0; have HFS := hid hFS; have HGS := hid hGS
    obtain ⟨r, hr⟩ : ∃ r, cnR v (valR gs' gs (folB v ks' cs') v) (orR v ks ks') (chnL v ks v ks' cs cs') = r := ⟨_, rfl⟩
    obtain ⟨W9, gs9, ks9, cs9, er9⟩ := r
    have Hcn := hid hr
    have hz1 : b3 < w5.heap.size := HB5.out.lt
    have hz2 : b4 < w5.heap.size := HC5.out.lt
    have hz3 := HZ.out.lt
    have hz4 : w.heap.size < w5.heap.size := H5.out.1.lt
    have hz5 : w.heap.size + 1 < w5.heap.size := H5.out.2.1.lt
    obtain ⟨p0, p1⟩ := And.intro HB5.out.c0 HB5.out.c1
    obtain ⟨q0, q1⟩ := And.intro HC5.out.c0 HC5.out.c1
    obtain ⟨t0, t1, t2, t3, t4⟩ := H5.out.1.five
    obtain ⟨s0, s1, s2, s3, s4⟩ := H5.out.2.1.five
    clear hR hR2 hn0 hn1 hK hA0 hK0 hF5 hG5 hFS hGS hr
    go_region_held3 (fun w' => w5.grownBy w' (some R) ∧ (w'.cell? ⟨b3, 0, none⟩ = some (.int .i64 v) ∧ w'.cell? ⟨b3, 1, none⟩ = some (.slice A2 n2 c2)) ∧ (w'.cell? ⟨b4, 0, none⟩ = some (.int .i64 v) ∧ w'.cell? ⟨b4, 1, none⟩ = some (.slice A4 n4 c4)) ∧ (w'.cell? ⟨w.heap.size, 0, none⟩ = some (.int .i64 v) ∧ w'.cell? ⟨w.heap.size, 1, none⟩ = some (.slice A n c) ∧ w'.cell? ⟨w.heap.size, 2, none⟩ = some (.int .i64 v) ∧ w'.cell? ⟨w.heap.size, 3, none⟩ = some (.slice B m d) ∧ w'.cell? ⟨w.heap.size, 4, none⟩ = some (.slice C k q)) ∧ (w'.cell? ⟨w.heap.size + 1, 0, none⟩ = some (.int .i64 v) ∧ w'.cell? ⟨w.heap.size + 1, 1, none⟩ = some (.slice A' n' c') ∧ w'.cell? ⟨w.heap.size + 1, 2, none⟩ = some (.int .i64 v) ∧ w'.cell? ⟨w.heap.size + 1, 3, none⟩ = some (.slice B' m' d') ∧ w'.cell? ⟨w.heap.size + 1, 4, none⟩ = some (.slice C' k' q')))
      (first
        | (with_reducible exact HK.out _ (grown_drew _ _))
        | (with_reducible exact HK.out _ (grown_set5 Hcur.out _ _ _ _ _))
        | assumption)
      (first
        | (go_at_call 52
           go_must (
           go_split_ands
           refine (chain_any v v A B C n c m d k q gs ks cs v v A' B' C' n' c' m' d' k' q' gs' ks' cs' _ (HFS.out _ (by assumption)) (HGS.out _ (by assumption)) hk4 hk4').mono ?_
           rintro e wn ⟨Cc, qc, rfl, hcc, hbk⟩
           have hbl := below_step (W := w5) (by first | exact (Below.refl _ _).drew | exact Below.refl _ _) hbk
           have Hbl := hid hbl
           have hcur := grown_of_below hbl (some R)
           have hS := HK.out _ hcur
           have Hcur := hid hcur
           have Hcc := hid hcc
           clear hbk hcc hbl))
        | (go_at_call 36
           go_must (
           go_split_ands
           refine (devCanonical_any v A2 A4 Cc n2 c2 n4 c4 (chnL v ks v ks' cs cs').length qc (valR gs' gs (folB v ks' cs') v) (orR v ks ks') (chnL v ks v ks' cs cs') _ (HA5.out.skip HA0.out (by assumption)) (HK5.out.skip HK0.out (by assumption)) Hcc.out hv256 (fit_valR _ _ _ _) (fit_orR _ _ _) Hin.out Hlen.out).mono ?_
           rintro e wn2 hcan
           have hval := hcan.val
           rw [Hcn.out] at hval
           obtain ⟨A9, n9, c9, B9, m9, d9, C9, q9, rfl, hA9, hB9, hC9, hbk⟩ := hval
           have hbl := below_step (W := w5) Hbl.out hbk
           have hcur := grown_of_below hbl (some R)
           have hS := HK.out _ hcur
           have Hcur := hid hcur
           have Hz9 := hid (HZ.out.below hbl HZ.out.lt)
           obtain ⟨r0, r1, r2, r3, r4⟩ := Hz9.out.five
           have f0 := Hz9.out.frozen 0
           have f1 := Hz9.out.frozen 1
           have f2 := Hz9.out.frozen 2
           have f3 := Hz9.out.frozen 3
           have f4 := Hz9.out.frozen 4
           have hlR := Hz9.out.lt
           have Fin := hid (RetT.stored (w := w) (err := er9) (c := c9) (d := d9) (q := q9) (W := W9) hA9 hB9 hC9 (H5.out.2.2.2.trans (hbl.mono H5.out.2.2.2.size)) hRle Hz9.out)
           unfold stored5 at Fin
           clear hbk hA9 hB9 hC9 hcan)))
    all_goals go_wp2_with fail
    all_goals refine bodyPost_ret (v := .tuple #[.agg #[.int .i64 W9, .slice A9 n9 c9, .int .i64 W9, .slice B9 m9 d9, .slice C9 cs9.length q9], .int .i64 er9]) (by simp [results, Try.results24, go_sem, r0, r1, r2, r3, r4]) rfl ?_
    all_goals rw [Hr.out, Hcn.out]
    all_goals exact Fin.out
end Go.Proofs.Ytmbelhdkaepohaa

namespace Go.Proofs.Ytmbelhdkaepohaa
set_option maxRecDepth 20000
open Go.ChangeShapes Go.WideShapes Go.ChangeAt Go.RowKit

/-- P3.1. -/
def idR (W : Int) : Int × List Nat × List Nat × List (Int × Int) × Int :=
  if W < 0 ∨ 256 < W then (0, [], [], [], 3) else cnR W.toNat (Bs.emp W.toNat) (Bs.emp W.toNat) []

end Go.Proofs.Ytmbelhdkaepohaa

namespace Go.Proofs.Ytmbelhdkaepohaa
set_option maxRecDepth 20000
open Go.ChangeShapes Go.WideShapes Go.ChangeAt Go.RowKit

/-- The values that are reached from Gen. -/
def lstI (W : Nat) (gs : List Nat) (f : Int → Int → Bool) : Nat → List Nat
  | 0 => gs
  | j + 1 => valR gs (lstI W gs f j) f W
def lst (W : Nat) (gs : List Nat) (f : Int → Int → Bool) : List Nat := lstI W gs f W
def cnt (W : Nat) (ws : List Nat) : Nat := ((List.range W).filter (Bs.bit ws)).length
theorem cnt_le (W : Nat) (ws : List Nat) : cnt W ws ≤ W := by
  unfold cnt
  have := List.length_filter_le (Bs.bit ws) (List.range W)
  rwa [List.length_range] at this
theorem filter_le {α : Type} {p q : α → Bool} (h : ∀ x, p x = true → q x = true) (l : List α) : (l.filter p).length ≤ (l.filter q).length := by
  induction l with
  | nil => simp
  | cons a l ih =>
    cases hp : p a with
    | true => simp [hp, h a hp, ih]
    | false => cases hq : q a <;> simp [hp, hq] <;> omega
theorem filter_lt {α : Type} {p q : α → Bool} (h : ∀ x, p x = true → q x = true) {x : α} (hq : q x = true) (hp : p x = false) {l : List α} (hx : x ∈ l) : (l.filter p).length < (l.filter q).length := by
  induction l with
  | nil => cases hx
  | cons a l ih =>
    rcases List.mem_cons.1 hx with rfl | hx
    · have := filter_le h l
      simp [hp, hq]; omega
    · have := ih hx
      cases hpa : p a with
      | true => simp [hpa, h a hpa, this]
      | false => cases hqa : q a <;> simp [hpa, hqa] <;> omega
theorem cnt_lt {W : Nat} {a b : List Nat} (ha : Bs.Fit W a) (hb : Bs.Fit W b) (h : ∀ i, Bs.bit a i = true → Bs.bit b i = true) (hne : b ≠ a) : cnt W a < cnt W b := by
  have : ∃ i, i < W ∧ Bs.bit a i ≠ Bs.bit b i := by
    refine Classical.byContradiction fun hn => hne (Bs.ext hb ha fun i hi => ?_)
    exact Classical.byContradiction fun h2 => hn ⟨i, hi, fun e => h2 e.symm⟩
  obtain ⟨i, hi, hd⟩ := this
  have h1 : Bs.bit a i = false := by
    cases e : Bs.bit a i with
    | false => rfl
    | true => exact absurd (e.trans (h i e).symm) hd
  have h2 : Bs.bit b i = true := by
    cases e : Bs.bit b i with
    | true => rfl
    | false => exact absurd (h1.trans e.symm) hd
  exact filter_lt h h2 h1 (List.mem_range.2 hi)
theorem bit_valR (gs ss : List Nat) (f : Int → Int → Bool) (W i : Nat) : Bs.bit (valR gs ss f W) i = (decide (i < W) && (Bs.bit gs i || (List.range W).any fun x => Bs.bit ss x && f x i)) := by
  unfold valR; rw [Bs.bit_ofP _ _ _ (Nat.le_refl _)]
theorem valR_mono {gs ss ts : List Nat} {f : Int → Int → Bool} {W : Nat} (h : ∀ i, Bs.bit ss i = true → Bs.bit ts i = true) (i : Nat) (hi : Bs.bit (valR gs ss f W) i = true) : Bs.bit (valR gs ts f W) i = true := by
  rw [bit_valR] at hi ⊢
  simp only [Bool.and_eq_true, Bool.or_eq_true, List.any_eq_true, decide_eq_true_eq] at hi ⊢
  obtain ⟨h1, h2⟩ := hi
  refine ⟨h1, h2.imp id ?_⟩
  rintro ⟨x, hx, h3, h4⟩
  exact ⟨x, hx, h x h3, h4⟩
theorem fit_lstI {W : Nat} {gs : List Nat} (hg : Bs.Fit W gs) (f : Int → Int → Bool) : ∀ j, Bs.Fit W (lstI W gs f j)
  | 0 => hg
  | _ + 1 => fit_valR _ _ _ _
theorem lstI_mono {W : Nat} {gs : List Nat} (hg : Bs.Fit W gs) (f : Int → Int → Bool) (j : Nat) : ∀ i, Bs.bit (lstI W gs f j) i = true → Bs.bit (lstI W gs f (j + 1)) i = true := by
  induction j with
  | zero =>
    intro i hi
    show Bs.bit (valR gs gs f W) i = true
    rw [bit_valR]
    have hlt : i < W := by
      refine Classical.byContradiction fun hn => ?_
      have := hg.hi i (by omega)
      rw [show Bs.bit gs i = true from hi] at this
      cases this
    simp [hlt, show Bs.bit gs i = true from hi]
  | succ j ih => intro i hi; exact valR_mono ih i hi
theorem lstI_grow {W : Nat} {gs : List Nat} (hg : Bs.Fit W gs) (f : Int → Int → Bool) {j : Nat} (h : ∀ i, i < j → lstI W gs f (i + 1) ≠ lstI W gs f i) : j ≤ cnt W (lstI W gs f j) := by
  induction j with
  | zero => omega
  | succ j ih =>
    have h1 := ih fun i hi => h i (by omega)
    have h2 := cnt_lt (fit_lstI hg f j) (fit_lstI hg f (j + 1)) (lstI_mono hg f j) (h j (by omega))
    omega
theorem lstI_stay {W : Nat} {gs : List Nat} {f : Int → Int → Bool} {j : Nat} (h : lstI W gs f (j + 1) = lstI W gs f j) (n : Nat) : lstI W gs f (j + n) = lstI W gs f j := by
  induction n with
  | zero => rfl
  | succ n ih =>
    show valR gs (lstI W gs f (j + n)) f W = _
    rw [ih]; exact h
theorem lst_of {W : Nat} {gs : List Nat} (hg : Bs.Fit W gs) {f : Int → Int → Bool} {j : Nat} (h : ∀ i, i < j → lstI W gs f (i + 1) ≠ lstI W gs f i) (he : lstI W gs f (j + 1) = lstI W gs f j) : lstI W gs f j = lst W gs f := by
  have h1 := lstI_grow hg f h
  have h2 := cnt_le W (lstI W gs f j)
  have h3 := lstI_stay he (W - j)
  rw [show j + (W - j) = W by omega] at h3
  exact h3.symm
/-- The set is closed. -/
theorem lst_fix {W : Nat} {gs : List Nat} (hg : Bs.Fit W gs) (f : Int → Int → Bool) : valR gs (lst W gs f) f W = lst W gs f := by
  have : ∃ j, j ≤ W ∧ lstI W gs f (j + 1) = lstI W gs f j := by
    refine Classical.byContradiction fun hn => ?_
    have h1 := lstI_grow hg f (j := W + 1) fun i hi e => hn ⟨i, by omega, e⟩
    have h2 := cnt_le W (lstI W gs f (W + 1))
    omega
  obtain ⟨j, hj, he⟩ := this
  have h3 := lstI_stay he (W - j)
  rw [show j + (W - j) = W by omega] at h3
  show valR gs (lstI W gs f W) f W = lstI W gs f W
  rw [h3]; exact he
/-- And the least such. -/
theorem lst_least {W : Nat} {gs : List Nat} {f : Int → Int → Bool} {ss : List Nat} (h0 : ∀ i, Bs.bit gs i = true → Bs.bit ss i = true) (h : ∀ i, Bs.bit (valR gs ss f W) i = true → Bs.bit ss i = true) : ∀ i, Bs.bit (lst W gs f) i = true → Bs.bit ss i = true := by
  have key : ∀ j i, Bs.bit (lstI W gs f j) i = true → Bs.bit ss i = true := by
    intro j
    induction j with
    | zero => exact h0
    | succ j ih => intro i hi; exact h i (valR_mono ih i hi)
  exact key W
theorem fit_lst {W : Nat} {gs : List Nat} (hg : Bs.Fit W gs) (f : Int → Int → Bool) : Bs.Fit W (lst W gs f) := fit_lstI hg f W

/-- The least number with a property, as a measure. -/
noncomputable def leastN (P : Nat → Prop) : Nat := Classical.epsilon fun m => P m ∧ ∀ k, P k → m ≤ k
theorem leastN_spec {P : Nat → Prop} (h : ∃ m, P m) : P (leastN P) ∧ ∀ k, P k → leastN P ≤ k := by
  have : ∃ m, P m ∧ ∀ k, P k → m ≤ k := by
    obtain ⟨m, hm⟩ := h
    induction m using Nat.strongRecOn with
    | ind m ih =>
      by_cases hk : ∃ k, P k ∧ k < m
      · obtain ⟨k, h1, h2⟩ := hk; exact ih k h2 h1
      · exact ⟨m, hm, fun k h1 => Nat.le_of_not_lt fun h2 => hk ⟨k, h1, h2⟩⟩
  exact Classical.epsilon_spec this
theorem leastN_lt {P Q : Nat → Prop} {m : Nat} (hq : Q m) (h : ∀ k, P k → m < k) (hp : ∃ k, P k) : leastN Q < leastN P :=
  Nat.lt_of_le_of_lt ((leastN_spec ⟨m, hq⟩).2 m hq) (h _ (leastN_spec hp).1)

/-- While the set grows. -/
def Least (w : World) (v : Nat) (A B C : Option Addr) (n c m d k q : Nat) (ls : List Nat) (wr : World) : Prop :=
  Fb wr w.heap.size #[.int .i64 v, .slice A n c, .int .i64 v, .slice B m d, .slice C k q] 28 ∧ Box wr (w.heap.size + 1) 0 none 0 0 ∧ (∃ D x y, Box wr (w.heap.size + 2) v D x y ∧ Arg wr D x ls) ∧ Below w.heap.size w wr
theorem Least.start (w : World) (v : Nat) (A B C : Option Addr) (n c m d k q : Nat) {gs : List Nat} (h : Arg w A n gs) :
    Least w v A B C n c m d k q gs (((w.alloc (.cells #[.int .i64 v, .slice A n c, .int .i64 v, .slice B m d, .slice C k q] 28)).alloc (.cells #[.int .i64 0, .slice none 0 0] 25)).alloc (.cells #[.int .i64 v, .slice A n c] 25)) := by
  have h1 := Fb.new w #[.int .i64 v, .slice A n c, .int .i64 v, .slice B m d, .slice C k q] 28
  have h2 := Box.new (w.alloc (.cells #[.int .i64 v, .slice A n c, .int .i64 v, .slice B m d, .slice C k q] 28)) 0 none 0 0
  have h3 := Box.new ((w.alloc (.cells #[.int .i64 v, .slice A n c, .int .i64 v, .slice B m d, .slice C k q] 28)).alloc (.cells #[.int .i64 0, .slice none 0 0] 25)) v A n c
  simp only [World.size_alloc] at h2 h3
  refine ⟨(h1.alloc _).alloc _, h2.alloc _, ⟨A, n, c, h3, ((h.alloc _).alloc _).alloc _⟩, ?_⟩
  exact (((Below.refl _ _).alloc (Nat.le_refl _) _).alloc (by simp) _).alloc (by simp; omega) _
theorem Least.below {w : World} {v : Nat} {A B C : Option Addr} {n c m d k q : Nat} {ls : List Nat} {wr w' : World} (h : Least w v A B C n c m d k q ls wr) (hb : Below wr.heap.size wr w') : Least w v A B C n c m d k q ls w' := by
  obtain ⟨h1, h2, ⟨D, x, y, h3, h4⟩, h5⟩ := h
  exact ⟨h1.below hb h1.lt, h2.below hb h2.lt, ⟨D, x, y, h3.below hb h3.lt, h4.below hb⟩, h5.trans (hb.mono h5.size)⟩
theorem Least.store {w : World} {v : Nat} {A B C : Option Addr} {n c m d k q : Nat} {ls ns : List Nat} {wr : World} {E : Option Addr} {x y : Nat} (h : Least w v A B C n c m d k q ls wr) (ha : Arg wr E x ns) :
    Least w v A B C n c m d k q ns ((wr.setCell ⟨w.heap.size + 2, 0, none⟩ (.int .i64 v)).setCell ⟨w.heap.size + 2, 1, none⟩ (.slice E x y)) := by
  obtain ⟨h1, h2, ⟨D, x', y', h3, h4⟩, h5⟩ := h
  refine ⟨(h1.far (p := ⟨w.heap.size + 2, 0, none⟩) (by simp) _).far (p := ⟨w.heap.size + 2, 1, none⟩) (by simp) _, (h2.far (p := ⟨w.heap.size + 2, 0, none⟩) (by simp) _).far (p := ⟨w.heap.size + 2, 1, none⟩) (by simp) _, ⟨E, x, y, h3.set _ _ _ _, h3.store ha _ _⟩, ?_⟩
  exact (h5.setCell (by simp) _).setCell (by simp) _

def LInv (w : World) (v : Nat) (A B C : Option Addr) (n c m d k q : Nat) (gs : List Nat) (f : Int → Int → Bool) (wr : World) (j : Nat) : Prop :=
  (∀ i, i < j → lstI v gs f (i + 1) ≠ lstI v gs f i) ∧ Least w v A B C n c m d k q (lstI v gs f j) wr
noncomputable def lm (w : World) (v : Nat) (A B C : Option Addr) (n c m d k q : Nat) (gs : List Nat) (f : Int → Int → Bool) (wr : World) : Nat :=
  leastN fun l => ∃ j, l + j = v ∧ LInv w v A B C n c m d k q gs f wr j
section
variable {w : World} {v : Nat} {A B C : Option Addr} {n c m d k q : Nat} {gs : List Nat} {f : Int → Int → Bool} {wr : World} {j : Nat}
theorem LInv.le (hg : Bs.Fit v gs) (h : LInv w v A B C n c m d k q gs f wr j) : j ≤ v := Nat.le_trans (lstI_grow hg f h.1) (cnt_le _ _)
theorem LInv.pick (hg : Bs.Fit v gs) (h : LInv w v A B C n c m d k q gs f wr j) : ∃ j, LInv w v A B C n c m d k q gs f wr j ∧ lm w v A B C n c m d k q gs f wr + j = v := by
  obtain ⟨j', h1, h2⟩ := (leastN_spec (P := fun l => ∃ j, l + j = v ∧ LInv w v A B C n c m d k q gs f wr j) ⟨v - j, j, by have := h.le hg; omega, h⟩).1
  exact ⟨j', h2, h1⟩
theorem LInv.lm_le (hg : Bs.Fit v gs) (h : LInv w v A B C n c m d k q gs f wr j) : lm w v A B C n c m d k q gs f wr + j ≤ v := by
  have hj := h.le hg
  have := (leastN_spec (P := fun l => ∃ j, l + j = v ∧ LInv w v A B C n c m d k q gs f wr j) ⟨v - j, j, by omega, h⟩).2 (v - j) ⟨j, by omega, h⟩
  have e : lm w v A B C n c m d k q gs f wr ≤ v - j := this
  omega
end

set_option maxHeartbeats 1600000 in
theorem devLeast_any (v : Nat) (A B C : Option Addr) (n c m d k q : Nat) (gs ks : List Nat) (cs : List (Int × Int)) (w : World) (hF : FArg w A n B m C k gs ks cs) (hv : validT v gs v ks cs = true) :
    Calls Try.prog 37 #[.agg #[.int .i64 v, .slice A n c, .int .i64 v, .slice B m d, .slice C k q]] w
      fun e w' => ∃ Ao no co, e = .returned (.agg #[.int .i64 v, .slice Ao no co]) ∧ Arg w' Ao no (lst v gs (folB v ks cs)) ∧ Below w.heap.size w w' := by
  obtain ⟨h1, h2, h3, h4, h5⟩ := validT_iff hv
  have hfg := fit_of_valid' h1 hF.gen
  have hv256 : v ≤ 256 := by have := (Bs.validB_iff.1 h1).2.1; omega
  have HF := hid hF; have Hfg := hid hfg
  have Hval := hid (fun ss (hs : Bs.Fit v ss) => show applyR v gs v ks cs v ss = ((v : Int), valR gs ss (folB v ks cs) v, 0) by unfold applyR; rw [if_neg (by simp [hv, Bs.valid_of_fit hs hv256]), if_neg (by simp), Int.toNat_natCast])
  have Heq := hid (fun xs ss (hx : Bs.Fit v xs) (hs : Bs.Fit v ss) => show equalB v xs v ss = decide (xs = ss) by unfold equalB sameB; rw [Bs.valid_of_fit hx hv256, Bs.valid_of_fit hs hv256]; simp)
  have Hst := hid (Least.start w v A B C n c m d k q hF.gen)
  clear h1 h2 h3 h4 h5 hfg hF
  generalize folB v ks cs = f at *
  go_enter Try.func37, Try.ntmps37
  go_wp2_with fail
  generalize ((w.alloc (.cells #[.int .i64 v, .slice A n c, .int .i64 v, .slice B m d, .slice C k q] 28)).alloc (.cells #[.int .i64 0, .slice none 0 0] 25)).alloc (.cells #[.int .i64 v, .slice A n c] 25) = w1 at *
  go_loopw [4, 5] (fun _ _ wr => ∃ j : Nat, Hid (LInv w v A B C n c m d k q gs f wr j)) (fun _ _ wr => lm w v A B C n c m d k q gs f wr)
  case atStart => exact ⟨0, hid ⟨fun i hi => by omega, Hst.out⟩⟩
  case round =>
    obtain ⟨j0, hG0⟩ := hrel
    obtain ⟨j, hG, hm⟩ := hG0.out.pick Hfg.out
    have Hm := hid hm; have Hne := hid hG.1
    have hL := hG.2
    clear hG0 hG hm Hst
    obtain ⟨D, x, y, hBx, hD⟩ := hL.2.2.1
    have HL := hid hL; have HBx := hid hBx; have HD := hid hD
    obtain ⟨t0, t1, t2, t3, t4⟩ := HL.out.1.five
    obtain ⟨s0, s1⟩ := And.intro HBx.out.c0 HBx.out.c1
    clear hL hBx hD
    go_wp2_with fail
    refine (devApply_any v v v A B C D n c m d k q x y gs ks (lstI v gs f j) cs _ (HF.out.gen.below HL.out.2.2.2) (HF.out.kill.below HL.out.2.2.2) (HF.out.cops.below HL.out.2.2.2) HD.out).mono ?_
    rw [Hval.out _ (fit_lstI Hfg.out f j)]
    rintro e w2 ⟨A2, n2, c2, rfl, ha2, hb2⟩
    have ha2' : Arg w2 A2 n2 (lstI v gs f (j + 1)) := ha2
    have hb2' := (Below.mono hb2 (Nat.le_refl _)).alloc hb2.size (.cells #[.int .i64 v, .slice A2 n2 c2] 25)
    have H2 := hid (HL.out.below hb2')
    have HBx2 := hid (HBx.out.below hb2' HBx.out.lt)
    have HD2 := hid (HD.out.below hb2')
    have HA2 := hid (ha2'.alloc (.cells #[.int .i64 v, .slice A2 n2 c2] 25))
    have HN := hid (Box.new w2 v A2 n2 c2)
    clear ha2 ha2' hb2 hb2' t0 t1 t2 t3 t4 s0 s1
    obtain ⟨s0, s1⟩ := And.intro HBx2.out.c0 HBx2.out.c1
    obtain ⟨p0, p1⟩ := And.intro HN.out.c0 HN.out.c1
    have hz1 := HN.out.lt
    have hn2 : n2 ≤ maxLen := by
      have e1 := HA2.out.len
      have e2 := (fit_lstI Hfg.out f (j + 1)).len
      have e3 : Bs.nw v ≤ v + 63 := by unfold Bs.nw; omega
      unfold maxLen; omega
    go_wp2_with fail
    generalize w2.alloc (.cells #[.int .i64 v, .slice A2 n2 c2] 25) = w3 at *
    generalize w2.heap.size = b3 at *
    refine (devEqual_any v v A2 D n2 c2 x y (lstI v gs f (j + 1)) (lstI v gs f j) _ HA2.out HD2.out hn2).mono ?_
    rw [Heq.out _ _ (fit_lstI Hfg.out f (j + 1)) (fit_lstI Hfg.out f j)]
    rintro e w4 ⟨rfl, hb4⟩
    have H4 := hid (H2.out.below hb4)
    have HBx4 := hid (HBx2.out.below hb4 HBx2.out.lt)
    have HD4 := hid (HD2.out.below hb4)
    have HA4 := hid (HA2.out.below hb4)
    have HN4 := hid (HN.out.below hb4 HN.out.lt)
    clear s0 s1 p0 p1 hz1 hb4 hn2 H2 HBx2 HD2 HA2 HN HL HBx HD
    obtain ⟨s0, s1⟩ := And.intro HBx4.out.c0 HBx4.out.c1
    obtain ⟨p0, p1⟩ := And.intro HN4.out.c0 HN4.out.c1
    by_cases he : lstI v gs f (j + 1) = lstI v gs f j
    · have hres := lst_of Hfg.out Hne.out he
      rw [decide_eq_true he]
      rw [hres] at HD4
      clear he hres
      obtain ⟨r0, r1⟩ := And.intro H4.out.2.1.c0 H4.out.2.1.c1
      have f0 := H4.out.2.1.f 0
      have f1 := H4.out.2.1.f 1
      have hlR := H4.out.2.1.lt
      have Fin := hid (And.intro (H4.out.2.1.store HD4.out (.int .i64 v) (.slice D x y)) ((H4.out.2.2.2.setCell (p := ⟨w.heap.size + 1, 0, none⟩) (by simp) (.int .i64 v)).setCell (p := ⟨w.heap.size + 1, 1, none⟩) (by simp) (.slice D x y)))
      go_wp2_with fail
      refine bodyPost_ret (v := .agg #[.int .i64 v, .slice D x y]) (by simp [results, Try.results37, go_sem, r0, r1]) rfl ?_
      exact ⟨D, x, y, rfl, Fin.out.1, Fin.out.2⟩
    · rw [decide_eq_false he]
      have f0 := HBx4.out.f 0
      have f1 := HBx4.out.f 1
      have hlR := HBx4.out.lt
      have Hnew := hid (show LInv w v A B C n c m d k q gs f ((w4.setCell ⟨w.heap.size + 2, 0, none⟩ (.int .i64 v)).setCell ⟨w.heap.size + 2, 1, none⟩ (.slice A2 n2 c2)) (j + 1) from
        ⟨fun i hi => (Nat.lt_succ_iff_lt_or_eq.1 hi).elim (Hne.out i) (fun e => by subst e; exact he), H4.out.store HA4.out⟩)
      clear he
      go_wp2_with fail
      go_roundw
      case rel => exact ⟨j + 1, Hnew⟩
      case measure =>
        have e1 := Hnew.out.lm_le Hfg.out
        have e2 := Hm.out
        have key : lm w v A B C n c m d k q gs f ((w4.setCell ⟨w.heap.size + 2, 0, none⟩ (.int .i64 v)).setCell ⟨w.heap.size + 2, 1, none⟩ (.slice A2 n2 c2)) < lm w v A B C n c m d k q gs f wr := by omega
        exact key
end Go.Proofs.Ytmbelhdkaepohaa

namespace Go.Proofs.Ytmbelhdkaepohaa
set_option maxRecDepth 20000
open Go.ChangeShapes Go.WideShapes Go.ChangeAt Go.RowKit

/-- Generates and kills G, which no copy touches. -/
structure SqI (v : Nat) (G : List Nat) (cs : List (Int × Int)) : Prop where
  fit : Bs.Fit v G
  wid : v ≤ 256
  asc : Asc cs
  inw : ∀ p ∈ cs, inW v p = true
  out : ∀ p ∈ cs, Bs.hasB v G p.1 = false ∧ Bs.hasB v G p.2 = false ∧ p.1 ≠ p.2
/-- The copies of the function after itself. -/
def sqC (v : Nat) (G : List Nat) (cs : List (Int × Int)) : List (Int × Int) := ord ((chnL v G v G cs cs).filter (restB v G))
theorem mem_sqC {v : Nat} {G : List Nat} {cs : List (Int × Int)} {x : Int × Int} : x ∈ sqC v G cs ↔ x ∈ chnL v G v G cs cs ∧ restB v G x = true := by
  unfold sqC; rw [(ord_spec _).1, List.mem_filter]
theorem chnL_ends {V V' : Int} {ks ks' : List Nat} {cs : List (Int × Int)} {x : Int × Int} (h : x ∈ chnL V ks V' ks' cs cs) : ∃ p ∈ cs, ∃ d ∈ cs, x.1 = p.1 ∧ x.2 = d.2 := by
  unfold chnL at h
  rcases List.mem_append.1 h with h | h
  · unfold chnF at h
    obtain ⟨p, hp, h⟩ := List.mem_flatMap.1 h
    have hp' := List.mem_of_mem_take hp
    unfold chnP at h
    rcases List.mem_append.1 h with h | h
    · split at h
      · cases h
      · rw [List.mem_singleton.1 h]; exact ⟨p, hp', p, hp', rfl, rfl⟩
    · obtain ⟨d, hd, rfl⟩ := List.mem_map.1 h
      exact ⟨p, hp', d, List.mem_of_mem_take (List.mem_filter.1 hd).1, rfl, rfl⟩
  · have := (List.mem_filter.1 h).1
    exact ⟨x, this, x, this, rfl, rfl⟩
section
variable {v : Nat} {G : List Nat} {cs : List (Int × Int)}
theorem SqI.sub (h : SqI v G cs) : ∀ p ∈ cs, p ∈ sqC v G cs := by
  intro p hp
  obtain ⟨h1, h2, h3⟩ := h.out p hp
  refine mem_sqC.2 ⟨?_, by unfold restB; simp [h2, h3]⟩
  unfold chnL
  exact List.mem_append.2 (.inr (List.mem_filter.2 ⟨hp, by simp [h1]⟩))
theorem SqI.next (h : SqI v G cs) : SqI v G (sqC v G cs) := by
  refine ⟨h.fit, h.wid, (ord_spec _).2, fun p hp => chnL_inW h.inw h.inw p (mem_sqC.1 hp).1, fun p hp => ?_⟩
  obtain ⟨h1, h2⟩ := mem_sqC.1 hp
  obtain ⟨a, ha, d, hd, e1, e2⟩ := chnL_ends h1
  unfold restB at h2
  simp only [Bool.and_eq_true, decide_eq_true_eq] at h2
  exact ⟨by rw [e1]; exact (h.out a ha).1, by rw [e2]; exact (h.out d hd).2.1, h2.1⟩
theorem SqI.more (h : SqI v G cs) (hne : sqC v G cs ≠ cs) : cs.length < (sqC v G cs).length := by
  have hasc := h.next.asc
  have e1 : cs = (sqC v G cs).filter fun x => decide (x ∈ cs) := by
    refine asc_unique h.asc (hasc.filter _) fun x => ?_
    rw [List.mem_filter]
    exact ⟨fun hx => ⟨h.sub x hx, by simpa using hx⟩, fun hx => by simpa using hx.2⟩
  have : ∃ x, x ∈ sqC v G cs ∧ x ∉ cs := by
    refine Classical.byContradiction fun hn => hne (asc_unique hasc h.asc fun x => ⟨fun hx => Classical.byContradiction fun h2 => hn ⟨x, hx, h2⟩, h.sub x⟩)
  obtain ⟨x, hx, hnx⟩ := this
  have h2 := filter_lt (p := fun x => decide (x ∈ cs)) (q := fun _ => true) (fun _ _ => rfl) (x := x) rfl (by simpa using hnx) hx
  rw [← e1, List.filter_eq_self.2 (fun _ _ => rfl)] at h2
  exact h2
theorem SqI.valid (h : SqI v G cs) (hl : cs.length ≤ 64) : validT v G v G cs = true := by
  unfold validT
  simp only [Bool.and_eq_true, decide_eq_true_eq, List.all_eq_true, List.mem_range]
  refine ⟨⟨⟨⟨Bs.valid_of_fit h.fit h.wid, Bs.valid_of_fit h.fit h.wid⟩, trivial⟩, hl⟩, fun i hi => ?_⟩
  unfold okAt
  have g : ∀ j, (hj : j < cs.length) → cs.getD j (0, 0) = cs[j] := fun j hj => by rw [List.getD_eq_getElem?_getD, List.getElem?_eq_getElem hj]; rfl
  rw [g i hi, h.inw _ (List.getElem_mem hi)]
  by_cases h0 : i = 0
  · simp [h0]
  · have hj : i - 1 < cs.length := by omega
    rw [g (i - 1) hj]
    have := List.pairwise_iff_getElem.1 h.asc (i - 1) i hj hi (by omega)
    simp [this]
theorem SqI.gen (h : SqI v G cs) : valR G G (folB v G cs) v = G := by
  refine Bs.ext (fit_valR _ _ _ _) h.fit fun i hi => ?_
  rw [bit_valR]
  have : (List.range v).any (fun x => Bs.bit G x && folB v G cs x i) = false := by
    rw [List.any_eq_false]
    intro x _ hx
    simp only [Bool.and_eq_true] at hx
    have hb := Bs.hasB_nat h.fit h.wid (b := x)
    rw [hx.1] at hb
    have hf := hx.2
    unfold folB at hf
    rw [hb] at hf
    simp at hf
    have := (h.out _ hf).1
    rw [hb] at this; cases this
  rw [this]; simp [hi]
theorem SqI.kill (h : SqI v G cs) : orR v G G = G := by
  refine Bs.ext (fit_orR _ _ _) h.fit fun i hi => ?_
  unfold orR
  rw [Bs.bit_ofP _ _ _ (Nat.le_refl _)]; simp [hi]
theorem killC_self {v : Nat} {G : List Nat} (h : Bs.Fit v G) (ks : List Nat) (hk : ∀ i, Bs.bit ks i = true → Bs.bit G i = true) (L : List (Int × Int)) : killC v G ks L = G := by
  unfold killC
  refine Bs.ext (Bs.fit_ofP _ _ _ (Nat.le_refl _)) h fun i hi => ?_
  rw [Bs.bit_ofP _ _ _ (Nat.le_refl _)]
  simp only [hi, decide_true, Bool.true_and]
  cases hb : Bs.bit ks i with
  | false => simp
  | true => simp [hk i hb]
theorem SqI.compose (h : SqI v G cs) (hl : cs.length ≤ 64) : composeR v G v G cs v G v G cs = if (sqC v G cs).length ≤ 64 then ((v : Int), G, G, sqC v G cs, 0) else (0, [], [], [], 7) := by
  unfold composeR
  rw [if_neg (by simp [h.valid hl]), if_neg (by simp), Int.toNat_natCast, h.gen, h.kill]
  unfold cnR
  rw [killC_self h.fit G (fun _ x => x)]
  rfl
end
/-- The function composed with itself until nothing is added. -/
def sqN (v : Nat) (G : List Nat) : Nat → List (Int × Int) → Int × List Nat × List Nat × List (Int × Int) × Int
  | 0, cs => (v, G, G, cs, 0)
  | N + 1, cs => if 64 < (sqC v G cs).length then (0, [], [], [], 7) else if sqC v G cs = cs then (v, G, G, cs, 0) else sqN v G N (sqC v G cs)
end Go.Proofs.Ytmbelhdkaepohaa

namespace Go.Proofs.Ytmbelhdkaepohaa
set_option maxRecDepth 20000

theorem fit_killC (v : Nat) (gs ks : List Nat) (cs : List (Int × Int)) : Bs.Fit v (killC v gs ks cs) := Bs.fit_ofP _ _ _ (Nat.le_refl _)
theorem mem_rest {v : Nat} {gs : List Nat} {cs : List (Int × Int)} {x : Int × Int} : x ∈ ord (cs.filter (restB v gs)) ↔ x ∈ cs ∧ restB v gs x = true := by
  rw [(ord_spec _).1, List.mem_filter]
/-- To a bit that is not generated the same follows. -/
theorem can_follows {v : Nat} (hv : v ≤ 256) {gs ks : List Nat} (hg : Bs.Fit v gs) (hk : Bs.Fit v ks) (cs : List (Int × Int)) {x i : Nat} (hi : i < v) (hn : Bs.bit gs i = false) :
    folB v (killC v gs ks cs) (ord (cs.filter (restB v gs))) x i = folB v ks cs x i := by
  have e1 := Bs.hasB_nat hg hv (b := i)
  unfold folB
  by_cases hx : x = i
  · subst hx
    have e2 := Bs.hasB_nat (fit_killC v gs ks cs) hv (b := x)
    have e3 := Bs.hasB_nat hk hv (b := x)
    have e4 : decide (((x : Int), (x : Int)) ∈ ord (cs.filter (restB v gs))) = false := by
      simp only [decide_eq_false_iff_not]
      intro h
      have := (mem_rest.1 h).2
      unfold restB at this
      simp at this
    rw [e2, e3, e4]
    unfold killC
    rw [Bs.bit_ofP _ _ _ (Nat.le_refl _), hn]
    simp only [hi, decide_true, Bool.true_and, Bool.or_false]
    cases Bs.bit ks x <;> cases decide (((x : Int), (x : Int)) ∈ cs) <;> rfl
  · have hx' : (x : Int) ≠ (i : Int) := by omega
    have e4 : decide (((x : Int), (i : Int)) ∈ ord (cs.filter (restB v gs))) = decide (((x : Int), (i : Int)) ∈ cs) := by
      apply Bool.eq_iff_iff.2
      simp only [decide_eq_true_eq]
      rw [mem_rest]
      refine ⟨fun h => h.1, fun h => ⟨h, ?_⟩⟩
      unfold restB
      simp [e1, hn]; omega
    rw [e4]
    simp [hx']
theorem can_value {v : Nat} (hv : v ≤ 256) {gs ks : List Nat} (hg : Bs.Fit v gs) (hk : Bs.Fit v ks) (cs : List (Int × Int)) (ss : List Nat) :
    valR gs ss (folB v (killC v gs ks cs) (ord (cs.filter (restB v gs)))) v = valR gs ss (folB v ks cs) v := by
  refine Bs.ext (fit_valR _ _ _ _) (fit_valR _ _ _ _) fun i hi => ?_
  rw [bit_valR, bit_valR]
  cases hb : Bs.bit gs i with
  | true => simp
  | false =>
    congr 2
    apply congrArg
    funext x
    rw [can_follows hv hg hk cs hi hb]
/-- The canonical form is valid. -/
theorem can_valid {v : Nat} (hv : v ≤ 256) {gs : List Nat} (hg : Bs.Fit v gs) (ks : List Nat) {cs : List (Int × Int)} (hin : ∀ p ∈ cs, inW v p = true) (hl : (ord (cs.filter (restB v gs))).length ≤ 64) :
    validT v gs v (killC v gs ks cs) (ord (cs.filter (restB v gs))) = true := by
  unfold validT
  simp only [Bool.and_eq_true, decide_eq_true_eq, List.all_eq_true, List.mem_range]
  refine ⟨⟨⟨⟨Bs.valid_of_fit hg hv, Bs.valid_of_fit (fit_killC _ _ _ _) hv⟩, trivial⟩, hl⟩, fun i hi => ?_⟩
  have hasc := (ord_spec (cs.filter (restB v gs))).2
  have hin2 : ∀ p ∈ ord (cs.filter (restB v gs)), inW v p = true := fun p hp => hin p (mem_rest.1 hp).1
  generalize ord (cs.filter (restB v gs)) = ds at *
  unfold okAt
  have g : ∀ j, (hj : j < ds.length) → ds.getD j (0, 0) = ds[j] := fun j hj => by rw [List.getD_eq_getElem?_getD, List.getElem?_eq_getElem hj]; rfl
  rw [g i hi, hin2 _ (List.getElem_mem hi)]
  by_cases h0 : i = 0
  · simp [h0]
  · have hj : i - 1 < ds.length := by omega
    rw [g (i - 1) hj]
    have := List.pairwise_iff_getElem.1 hasc (i - 1) i hj hi (by omega)
    simp [this]
/-- The canonical form of the canonical form is the canonical form. -/
theorem can_twice {v : Nat} {gs ks : List Nat} (cs : List (Int × Int)) :
    ord ((ord (cs.filter (restB v gs))).filter (restB v gs)) = ord (cs.filter (restB v gs)) ∧ killC v gs (killC v gs ks cs) (ord (cs.filter (restB v gs))) = killC v gs ks cs := by
  constructor
  · refine asc_unique (ord_spec _).2 (ord_spec _).2 fun x => ?_
    rw [mem_rest, mem_rest]
    exact ⟨fun h => h.1, fun h => ⟨h, h.2⟩⟩
  · refine Bs.ext (fit_killC _ _ _ _) (fit_killC _ _ _ _) fun i hi => ?_
    have e : ((i : Int), (i : Int)) ∉ ord (cs.filter (restB v gs)) := fun h => by
      have := (mem_rest.1 h).2
      unfold restB at this
      simp at this
    have e' : decide (((i : Int), (i : Int)) ∈ ord (cs.filter (restB v gs))) = false := by simpa using e
    unfold killC at e' ⊢
    rw [Bs.bit_ofP _ _ _ (Nat.le_refl _), Bs.bit_ofP _ _ _ (Nat.le_refl _)]
    simp only [hi, decide_true, Bool.true_and, e', Bool.not_false, Bool.and_true]
    cases Bs.bit gs i <;> simp
end Go.Proofs.Ytmbelhdkaepohaa

namespace Go.Proofs.Ytmbelhdkaepohaa
set_option maxRecDepth 20000

theorem bit_valR_iff {gs ss : List Nat} {f : Int → Int → Bool} {W i : Nat} (hi : i < W) : Bs.bit (valR gs ss f W) i = true ↔ (Bs.bit gs i = true ∨ ∃ x, x < W ∧ Bs.bit ss x = true ∧ f x i = true) := by
  rw [bit_valR]
  simp only [hi, decide_true, Bool.true_and, Bool.or_eq_true, List.any_eq_true, List.mem_range, Bool.and_eq_true]
theorem bit_orR_iff {ws xs : List Nat} {W i : Nat} (hi : i < W) : Bs.bit (orR W ws xs) i = true ↔ (Bs.bit ws i = true ∨ Bs.bit xs i = true) := by
  unfold orR
  rw [Bs.bit_ofP _ _ _ (Nat.le_refl _)]
  simp only [hi, decide_true, Bool.true_and, Bool.or_eq_true]
theorem folB_iff {V : Int} {ks : List Nat} {cs : List (Int × Int)} {a b : Int} : folB V ks cs a b = true ↔ ((a = b ∧ Bs.hasB V ks a = false) ∨ (a, b) ∈ cs) := by
  unfold folB
  simp only [Bool.or_eq_true, Bool.and_eq_true, decide_eq_true_eq, Bool.not_eq_true']
theorem join_follows {v : Nat} (hv : v ≤ 256) {ks ks' : List Nat} (hk : Bs.Fit v ks) (hk' : Bs.Fit v ks') {cs cs' : List (Int × Int)} {x : Nat} {i : Int} (hx : x < v) :
    folB v (andR v ks ks') (cs ++ cs') x i = true ↔ (folB v ks cs x i = true ∨ folB v ks' cs' x i = true) := by
  rw [folB_iff, folB_iff, folB_iff, List.mem_append, Bs.hasB_nat hk hv, Bs.hasB_nat hk' hv, Bs.hasB_nat (fit_andR _ _ _) hv]
  have e : Bs.bit (andR v ks ks') x = (Bs.bit ks x && Bs.bit ks' x) := by
    unfold andR; rw [Bs.bit_ofP _ _ _ (Nat.le_refl _)]; simp [hx]
  rw [e]
  cases Bs.bit ks x <;> cases Bs.bit ks' x <;> simp <;> grind
theorem join_value {v : Nat} (hv : v ≤ 256) {gs gs' ks ks' : List Nat} (hk : Bs.Fit v ks) (hk' : Bs.Fit v ks') (cs cs' : List (Int × Int)) (ss : List Nat) :
    valR (orR v gs gs') ss (folB v (andR v ks ks') (cs ++ cs')) v = orR v (valR gs ss (folB v ks cs) v) (valR gs' ss (folB v ks' cs') v) := by
  refine Bs.ext (fit_valR _ _ _ _) (fit_orR _ _ _) fun i hi => ?_
  apply Bool.eq_iff_iff.2
  rw [bit_valR_iff hi, bit_orR_iff hi, bit_orR_iff hi, bit_valR_iff hi, bit_valR_iff hi]
  constructor
  · rintro ((h | h) | ⟨x, hx, h1, h2⟩)
    · exact .inl (.inl h)
    · exact .inr (.inl h)
    · rcases (join_follows hv hk hk' hx).1 h2 with h3 | h3
      · exact .inl (.inr ⟨x, hx, h1, h3⟩)
      · exact .inr (.inr ⟨x, hx, h1, h3⟩)
  · rintro ((h | ⟨x, hx, h1, h2⟩) | (h | ⟨x, hx, h1, h2⟩))
    · exact .inl (.inl h)
    · exact .inr ⟨x, hx, h1, (join_follows hv hk hk' hx).2 (.inl h2)⟩
    · exact .inl (.inr h)
    · exact .inr ⟨x, hx, h1, (join_follows hv hk hk' hx).2 (.inr h2)⟩
theorem mem_chnL {V V' : Int} {ks ks' : List Nat} {cs cs' : List (Int × Int)} {a b : Int} : (a, b) ∈ chnL V ks V' ks' cs cs' ↔
    (((a, b) ∈ cs ∧ Bs.hasB V' ks' b = false) ∨ (∃ y, (a, y) ∈ cs ∧ (y, b) ∈ cs') ∨ ((a, b) ∈ cs' ∧ Bs.hasB V ks a = false)) := by
  unfold chnL chnF
  rw [List.mem_append, List.mem_flatMap, List.mem_filter, List.take_length]
  constructor
  · rintro (⟨p, hp, h⟩ | ⟨h1, h2⟩)
    · unfold chnP at h
      rw [List.take_length] at h
      rcases List.mem_append.1 h with h | h
      · by_cases hb : Bs.hasB V' ks' p.2 = true
        · rw [if_pos hb] at h; cases h
        · rw [if_neg hb] at h
          have e := List.mem_singleton.1 h
          subst e
          exact .inl ⟨hp, by simpa using hb⟩
      · obtain ⟨d, hd, e⟩ := List.mem_map.1 h
        obtain ⟨hd1, hd2⟩ := List.mem_filter.1 hd
        have hd3 : p.2 = d.1 := by simpa using hd2
        have e1 : p.1 = a := congrArg Prod.fst e
        have e2 : d.2 = b := congrArg Prod.snd e
        subst e1; subst e2
        exact .inr (.inl ⟨p.2, hp, by rw [hd3]; exact hd1⟩)
    · exact .inr (.inr ⟨h1, by simpa using h2⟩)
  · rintro (⟨h1, h2⟩ | ⟨y, h1, h2⟩ | ⟨h1, h2⟩)
    · refine .inl ⟨(a, b), h1, ?_⟩
      unfold chnP
      exact List.mem_append.2 (.inl (by simp [h2]))
    · refine .inl ⟨(a, y), h1, ?_⟩
      unfold chnP
      rw [List.take_length]
      exact List.mem_append.2 (.inr (List.mem_map.2 ⟨(y, b), List.mem_filter.2 ⟨h2, by simp⟩, rfl⟩))
    · exact .inr ⟨h1, by simp [h2]⟩
theorem chain_follows {v : Nat} (hv : v ≤ 256) {ks ks' : List Nat} (hk : Bs.Fit v ks) (hk' : Bs.Fit v ks') {cs cs' : List (Int × Int)} (hin : ∀ p ∈ cs, inW v p = true) {x i : Nat} (hx : x < v) (hi : i < v) :
    folB v (orR v ks ks') (chnL v ks v ks' cs cs') x i = true ↔ ∃ y, y < v ∧ folB v ks cs x y = true ∧ folB v ks' cs' y i = true := by
  rw [folB_iff, mem_chnL]
  have e : Bs.hasB v (orR v ks ks') x = (Bs.bit ks x || Bs.bit ks' x) := by
    rw [Bs.hasB_nat (fit_orR _ _ _) hv]
    unfold orR; rw [Bs.bit_ofP _ _ _ (Nat.le_refl _)]; simp [hx]
  rw [e]
  constructor
  · rintro (⟨h1, h2⟩ | ⟨h1, h2⟩ | ⟨y, h1, h2⟩ | ⟨h1, h2⟩)
    · have hxi : x = i := by omega
      subst hxi
      simp only [Bool.or_eq_false_iff] at h2
      exact ⟨x, hx, folB_iff.2 (.inl ⟨rfl, by rw [Bs.hasB_nat hk hv]; exact h2.1⟩), folB_iff.2 (.inl ⟨rfl, by rw [Bs.hasB_nat hk' hv]; exact h2.2⟩)⟩
    · exact ⟨i, hi, folB_iff.2 (.inr h1), folB_iff.2 (.inl ⟨rfl, h2⟩)⟩
    · have hw := inW_pair.1 (hin _ h1)
      simp only at hw
      obtain ⟨z, rfl⟩ := Int.eq_ofNat_of_zero_le hw.2.1
      exact ⟨z, by omega, folB_iff.2 (.inr h1), folB_iff.2 (.inr h2)⟩
    · exact ⟨x, hx, folB_iff.2 (.inl ⟨rfl, h2⟩), folB_iff.2 (.inr h1)⟩
  · rintro ⟨y, hy, h1, h2⟩
    rcases folB_iff.1 h1 with ⟨h3, h4⟩ | h3 <;> rcases folB_iff.1 h2 with ⟨h5, h6⟩ | h5
    · have e1 : x = y := by omega
      have e2 : y = i := by omega
      subst e1; subst e2
      rw [Bs.hasB_nat hk hv] at h4
      rw [Bs.hasB_nat hk' hv] at h6
      exact .inl ⟨rfl, by rw [h4, h6]; rfl⟩
    · have e1 : x = y := by omega
      subst e1
      exact .inr (.inr (.inr ⟨h5, h4⟩))
    · have e2 : y = i := by omega
      subst e2
      exact .inr (.inl ⟨h3, h6⟩)
    · exact .inr (.inr (.inl ⟨y, h3, h5⟩))
theorem compose_value {v : Nat} (hv : v ≤ 256) {gs gs' ks ks' : List Nat} (hk : Bs.Fit v ks) (hk' : Bs.Fit v ks') {cs cs' : List (Int × Int)} (hin : ∀ p ∈ cs, inW v p = true) (ss : List Nat) :
    valR (valR gs' gs (folB v ks' cs') v) ss (folB v (orR v ks ks') (chnL v ks v ks' cs cs')) v = valR gs' (valR gs ss (folB v ks cs) v) (folB v ks' cs') v := by
  refine Bs.ext (fit_valR _ _ _ _) (fit_valR _ _ _ _) fun i hi => ?_
  apply Bool.eq_iff_iff.2
  rw [bit_valR_iff hi, bit_valR_iff hi, bit_valR_iff hi]
  constructor
  · rintro ((h | ⟨y, hy, h1, h2⟩) | ⟨x, hx, h1, h2⟩)
    · exact .inl h
    · exact .inr ⟨y, hy, (bit_valR_iff hy).2 (.inl h1), h2⟩
    · obtain ⟨y, hy, h3, h4⟩ := (chain_follows hv hk hk' hin hx hi).1 h2
      exact .inr ⟨y, hy, (bit_valR_iff hy).2 (.inr ⟨x, hx, h1, h3⟩), h4⟩
  · rintro (h | ⟨y, hy, h1, h2⟩)
    · exact .inl (.inl h)
    · rcases (bit_valR_iff hy).1 h1 with h3 | ⟨x, hx, h3, h4⟩
      · exact .inl (.inr ⟨y, hy, h3, h2⟩)
      · exact .inr ⟨x, hx, h3, (chain_follows hv hk hk' hin hx hi).2 ⟨y, hy, h4, h2⟩⟩
end Go.Proofs.Ytmbelhdkaepohaa

namespace Go.Proofs.Ytmbelhdkaepohaa
set_option maxRecDepth 20000
open Go.ChangeShapes Go.WideShapes Go.ChangeAt Go.RowKit

theorem fit_max {v : Nat} {ws : List Nat} {n : Nat} (h : Bs.Fit v ws) (hv : v ≤ 256) (hl : ws.length = n) : n ≤ maxLen := by
  have e2 := h.len
  have e3 : Bs.nw v ≤ v + 63 := by unfold Bs.nw; omega
  unfold maxLen; omega

theorem sqN_succ (v : Nat) (G : List Nat) (N : Nat) (cs : List (Int × Int)) : sqN v G (N + 1) cs = if 64 < (sqC v G cs).length then (0, [], [], [], 7) else if sqC v G cs = cs then ((v : Int), G, G, cs, 0) else sqN v G N (sqC v G cs) := rfl

set_option maxHeartbeats 1600000 in
theorem devSquare_any (v : Nat) (G : List Nat) : ∀ (N : Nat) (cs : List (Int × Int)) (_ : SqI v G cs) (_ : cs.length ≤ 64) (_ : 65 ≤ cs.length + N) (A B C : Option Addr) (n c m d k q : Nat) (w : World) (_ : FArg w A n B m C k G G cs),
    Calls Try.prog 38 #[.agg #[.int .i64 v, .slice A n c, .int .i64 v, .slice B m d, .slice C k q]] w (RetR w (sqN v G N cs)) := by
  intro N
  induction N with
  | zero => intro cs hI hl hN; omega
  | succ N ih =>
    intro cs hI hl hN A B C n c m d k q w hF
    have HI := hid hI; have HF := hid hF; have IH := hid ih; have HN := hid hN
    have Hc := hid (hI.compose hl)
    have H0 := hid (TwoT.start w v v A B C n c m d k q 0 0 none none none 0 0 0 0 0 0)
    clear hI hl hN hF ih
    go_enter Try.func38, Try.ntmps38
    go_wp2_with fail
    generalize (w.alloc (.cells #[.int .i64 v, .slice A n c, .int .i64 v, .slice B m d, .slice C k q] 28)).alloc (.cells #[.int .i64 0, .slice none 0 0, .int .i64 0, .slice none 0 0, .slice none 0 0] 28) = w1 at *
    refine (devCompose_any v v A B C n c m d k q G G cs v v A B C n c m d k q G G cs _ (HF.out.below H0.out.2.2) (HF.out.below H0.out.2.2)).mono ?_
    rw [Hc.out]
    by_cases h64 : (sqC v G cs).length ≤ 64
    · rw [if_pos h64]
      have Hs := hid (show sqN v G (N + 1) cs = if sqC v G cs = cs then ((v : Int), G, G, cs, 0) else sqN v G N (sqC v G cs) by rw [sqN_succ, if_neg (by omega)])
      rintro e w2 ⟨A2, n2, c2, B2, m2, d2, C2, q2, rfl, hA2, hB2, hC2, hb2⟩
      have ha2 : Arg w2 A2 n2 G := hA2
      have ha3 : Arg w2 B2 m2 G := hB2
      have ha4 : ArgC w2 C2 (sqC v G cs).length (sqC v G cs) := hC2
      have hb2' := hb2.alloc hb2.size (.cells #[.int .i64 v, .slice A2 n2 c2, .int .i64 v, .slice B2 m2 d2, .slice C2 (sqC v G cs).length q2] 28)
      have H2 := hid (H0.out.below hb2')
      have HF2 := hid (FArg.alloc ⟨ha2, ha3, ha4⟩ (.cells #[.int .i64 v, .slice A2 n2 c2, .int .i64 v, .slice B2 m2 d2, .slice C2 (sqC v G cs).length q2] 28))
      have HF1 := hid (HF.out.below H2.out.2.2)
      have HB := hid (Fb.new w2 #[.int .i64 v, .slice A2 n2 c2, .int .i64 v, .slice B2 m2 d2, .slice C2 (sqC v G cs).length q2] 28)
      have HI2 := hid HI.out.next
      have Hm := hid HI.out.more
      have H64 := hid h64
      generalize sqC v G cs = ds at *
      generalize hk2 : ds.length = k2 at *
      have Hk2 := hid hk2
      clear hA2 hB2 hC2 ha2 ha3 ha4 hb2 hb2' H0 Hc h64 hk2
      obtain ⟨t0, t1, t2, t3, t4⟩ := HB.out.five
      obtain ⟨s0, s1, s2, s3, s4⟩ := H2.out.1.five
      have hlb := HB.out.lt
      have Heq := hid (show equal2 v G v G ds v G v G cs = decide (ds = cs) by unfold equal2 equalB sameB; rw [Bs.valid_of_fit HI.out.fit HI.out.wid]; simp)
      have HM := hid (And.intro (fit_max HI.out.fit HI.out.wid HF2.out.gen.len) (fit_max HI.out.fit HI.out.wid HF2.out.kill.len))
      go_upto_region 2 with fail
      generalize w2.alloc (.cells #[.int .i64 v, .slice A2 n2 c2, .int .i64 v, .slice B2 m2 d2, .slice C2 k2 q2] 28) = w3 at *
      generalize w2.heap.size = b3 at *
      go_wp2_with fail
      refine (devEqual2_any v v A2 B2 C2 n2 c2 m2 d2 k2 q2 G G ds v v A B C n c m d k q G G cs _ HF2.out HF1.out HM.out.1 HM.out.2 (by have := H64.out; omega)).mono ?_
      rw [Heq.out]
      rintro e w4 ⟨rfl, hb4⟩
      have H4 := hid (H2.out.below hb4)
      have HF4 := hid (HF2.out.below hb4)
      have HB4 := hid (HB.out.below hb4 HB.out.lt)
      clear t0 t1 t2 t3 t4 s0 s1 s2 s3 s4 hlb hb4 H2 HF2 HF1 HB
      obtain ⟨t0, t1, t2, t3, t4⟩ := HB4.out.five
      have hlb := HB4.out.lt
      obtain ⟨r0, r1, r2, r3, r4⟩ := H4.out.2.1.five
      have f0 := H4.out.2.1.frozen 0
      have f1 := H4.out.2.1.frozen 1
      have f2 := H4.out.2.1.frozen 2
      have f3 := H4.out.2.1.frozen 3
      have f4 := H4.out.2.1.frozen 4
      have hlR := H4.out.2.1.lt
      by_cases he : ds = cs
      · rw [decide_eq_true he]
        have Hr := hid (show sqN v G (N + 1) cs = ((v : Int), G, G, ds, 0) by rw [Hs.out, if_pos he, he])
        have hk2 := Hk2.out
        subst hk2
        have Fin := hid (RetT.stored (w := w) (err := 0) (c := c2) (d := d2) (q := q2) (W := v) HF4.out.gen HF4.out.kill HF4.out.cops H4.out.2.2 (by omega) H4.out.2.1)
        unfold stored5 at Fin
        clear he
        go_wp2_with fail
        refine bodyPost_ret (v := .tuple #[.agg #[.int .i64 v, .slice A2 n2 c2, .int .i64 v, .slice B2 m2 d2, .slice C2 ds.length q2], .int .i64 0]) (by simp [results, Try.results38, go_sem, r0, r1, r2, r3, r4]) rfl ?_
        rw [Hr.out]
        exact Fin.out
      · rw [decide_eq_false he]
        have Hr := hid (show sqN v G (N + 1) cs = sqN v G N ds by rw [Hs.out, if_neg he])
        have hlen := Hm.out he
        clear f0 f1 f2 f3 f4 r0 r1 r2 r3 r4
        go_wp2_with fail
        refine (IH.out ds HI2.out (by have := H64.out; have := Hk2.out; omega) (by have := HN.out; have := Hk2.out; omega) A2 B2 C2 n2 c2 m2 d2 k2 q2 _ HF4.out).mono ?_
        obtain ⟨r, hrr⟩ : ∃ r, sqN v G N ds = r := ⟨_, rfl⟩
        obtain ⟨W9, gs9, ks9, cs9, er9⟩ := r
        rw [hrr]
        have Hrr := hid hrr
        rintro e w5 ⟨A9, n9, c9, B9, m9, d9, C9, q9, rfl, hA9, hB9, hC9, hbk⟩
        have H5 := hid (H4.out.below hbk)
        obtain ⟨r0, r1, r2, r3, r4⟩ := H5.out.2.1.five
        have f0 := H5.out.2.1.frozen 0
        have f1 := H5.out.2.1.frozen 1
        have f2 := H5.out.2.1.frozen 2
        have f3 := H5.out.2.1.frozen 3
        have f4 := H5.out.2.1.frozen 4
        have hlR := H5.out.2.1.lt
        have Fin := hid (RetT.stored (w := w) (err := er9) (c := c9) (d := d9) (q := q9) (W := W9) hA9 hB9 hC9 H5.out.2.2 (by omega) H5.out.2.1)
        unfold stored5 at Fin
        clear hbk hA9 hB9 hC9 hrr t0 t1 t2 t3 t4 he hlen
        go_wp2_with fail
        refine bodyPost_ret (v := .tuple #[.agg #[.int .i64 W9, .slice A9 n9 c9, .int .i64 W9, .slice B9 m9 d9, .slice C9 cs9.length q9], .int .i64 er9]) (by simp [results, Try.results38, go_sem, r0, r1, r2, r3, r4]) rfl ?_
        rw [Hr.out, Hrr.out]
        exact Fin.out
    · rw [if_neg h64]
      have Hr := hid (show sqN v G (N + 1) cs = (0, [], [], [], 7) by rw [sqN_succ, if_pos (by omega)])
      rintro e w2 ⟨A2, n2, c2, B2, m2, d2, C2, q2, rfl, hA2, hB2, hC2, hb2⟩
      have hb2' := hb2.alloc hb2.size (.cells #[.int .i64 0, .slice A2 n2 c2, .int .i64 0, .slice B2 m2 d2, .slice C2 0 q2] 28)
      have H2 := hid (H0.out.below hb2')
      have HF2 := hid (FArg.alloc ⟨hA2, hB2, hC2⟩ (.cells #[.int .i64 0, .slice A2 n2 c2, .int .i64 0, .slice B2 m2 d2, .slice C2 0 q2] 28))
      have HB := hid (Fb.new w2 #[.int .i64 0, .slice A2 n2 c2, .int .i64 0, .slice B2 m2 d2, .slice C2 0 q2] 28)
      clear hA2 hB2 hC2 hb2 hb2' H0 Hc h64
      obtain ⟨t0, t1, t2, t3, t4⟩ := HB.out.five
      have hlb := HB.out.lt
      obtain ⟨r0, r1, r2, r3, r4⟩ := H2.out.2.1.five
      have f0 := H2.out.2.1.frozen 0
      have f1 := H2.out.2.1.frozen 1
      have f2 := H2.out.2.1.frozen 2
      have f3 := H2.out.2.1.frozen 3
      have f4 := H2.out.2.1.frozen 4
      have hlR := H2.out.2.1.lt
      have Fin := hid (RetT.stored (w := w) (err := 7) (c := c2) (d := d2) (q := q2) (W := 0) HF2.out.gen HF2.out.kill HF2.out.cops H2.out.2.2 (by omega) H2.out.2.1)
      unfold stored5 at Fin
      go_wp2_with fail
      refine bodyPost_ret (v := .tuple #[.agg #[.int .i64 0, .slice A2 n2 c2, .int .i64 0, .slice B2 m2 d2, .slice C2 0 q2], .int .i64 7]) (by simp [results, Try.results38, go_sem, r0, r1, r2, r3, r4]) rfl ?_
      rw [Hr.out]
      exact Fin.out
end Go.Proofs.Ytmbelhdkaepohaa

namespace Go.Proofs.Ytmbelhdkaepohaa
set_option maxRecDepth 20000
open Go.ChangeShapes Go.WideShapes Go.ChangeAt Go.RowKit

/-- The set that a star generates, and the copies with which it starts. -/
def strG (v : Nat) (gs ks : List Nat) (cs : List (Int × Int)) : List Nat := lst v gs (folB v ks cs)
def strC (v : Nat) (gs ks : List Nat) (cs : List (Int × Int)) : List (Int × Int) := ord (cs.filter (restB v (strG v gs ks cs)))
/-- P3.6. -/
def starR (W : Int) (gs : List Nat) (V : Int) (ks : List Nat) (cs : List (Int × Int)) : Int × List Nat × List Nat × List (Int × Int) × Int :=
  if validT W gs V ks cs = false then (0, [], [], [], 1) else sqN W.toNat (strG W.toNat gs ks cs) 65 (strC W.toNat gs ks cs)
theorem ord_len (cs : List (Int × Int)) : (ord cs).length ≤ cs.length := by
  have h1 := cpt_len (srt cs)
  rw [srt_len] at h1; exact h1
section
variable {v : Nat} {gs ks : List Nat} {cs : List (Int × Int)}
theorem str_start (hg : Bs.Fit v gs) (hv : v ≤ 256) (hin : ∀ p ∈ cs, inW v p = true) : SqI v (strG v gs ks cs) (strC v gs ks cs) := by
  have hf : Bs.Fit v (strG v gs ks cs) := fit_lst hg _
  refine ⟨hf, hv, (ord_spec _).2, fun p hp => hin p (List.mem_filter.1 ((ord_spec _).1 p |>.1 hp)).1, fun p hp => ?_⟩
  obtain ⟨h1, h2⟩ := List.mem_filter.1 ((ord_spec _).1 p |>.1 hp)
  unfold restB at h2
  simp only [Bool.and_eq_true, decide_eq_true_eq, Bool.not_eq_true'] at h2
  refine ⟨?_, h2.2, h2.1⟩
  obtain ⟨a, b⟩ := p
  have hw := inW_pair.1 (hin _ h1)
  simp only at hw h2 ⊢
  obtain ⟨x, rfl⟩ := Int.eq_ofNat_of_zero_le hw.1.1
  obtain ⟨y, rfl⟩ := Int.eq_ofNat_of_zero_le hw.2.1
  have e1 := Bs.hasB_nat hf hv (b := x)
  have e2 := Bs.hasB_nat hf hv (b := y)
  rw [e1]
  cases hb : Bs.bit (strG v gs ks cs) x with
  | false => rfl
  | true =>
    have h3 := h2.2
    rw [e2] at h3
    have h4 : Bs.bit (valR gs (strG v gs ks cs) (folB v ks cs) v) y = true := by
      rw [bit_valR]
      have hy : y < v := by omega
      have hx : x < v := by omega
      simp only [hy, decide_true, Bool.true_and, Bool.or_eq_true, List.any_eq_true, List.mem_range, Bool.and_eq_true]
      exact .inr ⟨x, hx, hb, by unfold folB; simp [h1]⟩
    have h5 : valR gs (strG v gs ks cs) (folB v ks cs) v = strG v gs ks cs := lst_fix hg _
    rw [h5, h3] at h4
    cases h4
theorem str_canon (hg : Bs.Fit v gs) (hl : cs.length ≤ 64) : cnR v (strG v gs ks cs) (Bs.emp v) cs = ((v : Int), strG v gs ks cs, strG v gs ks cs, strC v gs ks cs, 0) := by
  have h1 : (strC v gs ks cs).length ≤ 64 := by
    have h2 := ord_len (cs.filter (restB v (strG v gs ks cs)))
    have h3 := List.length_filter_le (restB v (strG v gs ks cs)) cs
    unfold strC; omega
  unfold cnR
  rw [if_pos (show (ord (cs.filter (restB v (strG v gs ks cs)))).length ≤ 64 from h1), killC_self (show Bs.Fit v (strG v gs ks cs) from fit_lst hg _) (Bs.emp v) (fun i hi => by rw [Bs.bit_emp] at hi; cases hi)]
  rfl
theorem str_len (hl : cs.length ≤ 64) : (strC v gs ks cs).length ≤ 64 := by
  have h2 := ord_len (cs.filter (restB v (strG v gs ks cs)))
  have h3 := List.length_filter_le (restB v (strG v gs ks cs)) cs
  unfold strC; omega
end

/-- A function's variable that is made before a call. -/
def Fresh5 (W w : World) (b : Nat) : Prop := Fb w b #[.int .i64 0, .slice none 0 0, .int .i64 0, .slice none 0 0, .slice none 0 0] 28 ∧ W.heap.size ≤ b
theorem Fresh5.mk {W w0 w1 : World} (h0 : Below W.heap.size W w0) (hb : Below (w0.alloc (.cells #[.int .i64 0, .slice none 0 0, .int .i64 0, .slice none 0 0, .slice none 0 0] 28)).heap.size (w0.alloc (.cells #[.int .i64 0, .slice none 0 0, .int .i64 0, .slice none 0 0, .slice none 0 0] 28)) w1) : Fresh5 W w1 w0.heap.size :=
  ⟨(Fb.new w0 _ 28).below hb (by simp), h0.size⟩
theorem Fresh5.mkD {w0 w1 : World} (hb : Below (w0.alloc (.cells #[.int .i64 0, .slice none 0 0, .int .i64 0, .slice none 0 0, .slice none 0 0] 28)).drew.heap.size (w0.alloc (.cells #[.int .i64 0, .slice none 0 0, .int .i64 0, .slice none 0 0, .slice none 0 0] 28)).drew w1) : Fresh5 w0 w1 w0.heap.size :=
  ⟨(show Fb (w0.alloc (.cells #[.int .i64 0, .slice none 0 0, .int .i64 0, .slice none 0 0, .slice none 0 0] 28)).drew w0.heap.size _ 28 from Fb.new w0 _ 28).below hb (by show w0.heap.size < (w0.alloc _).heap.size; simp), Nat.le_refl _⟩
theorem Fresh5.below {W w w1 : World} {b : Nat} (h : Fresh5 W w b) (hb : Below w.heap.size w w1) : Fresh5 W w1 b := ⟨h.1.below hb h.1.lt, h.2⟩
theorem Fresh5.stored {W w : World} {b : Nat} (h : Fresh5 W w b) (hb : Below W.heap.size W w) (a c d e f : Value) : Below W.heap.size W (((((w.setCell ⟨b, 0, none⟩ a).setCell ⟨b, 1, none⟩ c).setCell ⟨b, 2, none⟩ d).setCell ⟨b, 3, none⟩ e).setCell ⟨b, 4, none⟩ f) :=
  below_stored5 hb h.2 _ _ _ _ _
theorem Fb.set5 {w : World} {g t : Nat} {a b c d e : Value} (h : Fb w g #[a, b, c, d, e] t) (a' b' c' d' e' : Value) : Fb (((((w.setCell ⟨g, 0, none⟩ a').setCell ⟨g, 1, none⟩ b').setCell ⟨g, 2, none⟩ c').setCell ⟨g, 3, none⟩ d').setCell ⟨g, 4, none⟩ e') g #[a', b', c', d', e'] t := by
  unfold Fb at h ⊢
  simp [World.setCell, h, Array.getElem?_modify]
/-- A function in its variable, after the stores. -/
def StarAt (w5 : World) (v : Nat) (gs ks : List Nat) (cs : List (Int × Int)) (wc : World) (b : Nat) (A : Option Addr) (n c : Nat) (B : Option Addr) (m d : Nat) (C : Option Addr) (q : Nat) : Prop :=
  Fb wc b #[.int .i64 v, .slice A n c, .int .i64 v, .slice B m d, .slice C cs.length q] 28 ∧ FArg wc A n B m C cs.length gs ks cs ∧ Below w5.heap.size w5 wc
section
variable {w5 : World} {v : Nat} {gs ks : List Nat} {cs : List (Int × Int)} {wn : World} {A : Option Addr} {n c : Nat} {B : Option Addr} {m d : Nat} {C : Option Addr} {q : Nat}
theorem StarAt.fresh {b : Nat} (hx : Fresh5 w5 wn b) (hA : Arg wn A n gs) (hB : Arg wn B m ks) (hC : ArgC wn C cs.length cs) (hb : Below w5.heap.size w5 wn) :
    StarAt w5 v gs ks cs (((((wn.setCell ⟨b, 0, none⟩ (.int .i64 v)).setCell ⟨b, 1, none⟩ (.slice A n c)).setCell ⟨b, 2, none⟩ (.int .i64 v)).setCell ⟨b, 3, none⟩ (.slice B m d)).setCell ⟨b, 4, none⟩ (.slice C cs.length q)) b A n c B m d C q :=
  ⟨hx.1.set5 _ _ _ _ _, ⟨hA.stored5 (hA.apart hx.1 zero5) _ _ _ _ _, hB.stored5 (hB.apart hx.1 zero5) _ _ _ _ _, hC.stored5 (hC.apart hx.1 zero5c) _ _ _ _ _⟩, hx.stored hb _ _ _ _ _⟩
theorem StarAt.new (hA : Arg wn A n gs) (hB : Arg wn B m ks) (hC : ArgC wn C cs.length cs) (hb : Below w5.heap.size w5 wn) :
    StarAt w5 v gs ks cs (wn.alloc (.cells #[.int .i64 v, .slice A n c, .int .i64 v, .slice B m d, .slice C cs.length q] 28)) wn.heap.size A n c B m d C q :=
  ⟨Fb.new _ _ _, FArg.alloc ⟨hA, hB, hC⟩ _, hb.alloc hb.size _⟩
end
end Go.Proofs.Ytmbelhdkaepohaa

namespace Go.Proofs.Ytmbelhdkaepohaa
set_option maxRecDepth 20000

theorem sqC_keeps {v : Nat} {G : List Nat} {cs : List (Int × Int)} (T : Int → Prop) (h : ∀ p ∈ cs, T p.1 → T p.2) : ∀ p ∈ sqC v G cs, T p.1 → T p.2 := by
  rintro ⟨a, b⟩ hp ha
  rcases mem_chnL.1 (mem_sqC.1 hp).1 with ⟨h1, _⟩ | ⟨y, h1, h2⟩ | ⟨h1, _⟩
  · exact h _ h1 ha
  · exact h (y, b) h2 (h (a, y) h1 ha)
  · exact h _ h1 ha
/-- The end of the composing: full, or closed. -/
theorem sqN_spec {v : Nat} {G : List Nat} : ∀ (N : Nat) (cs : List (Int × Int)), SqI v G cs → cs.length ≤ 64 → 65 ≤ cs.length + N →
    sqN v G N cs = (0, [], [], [], 7) ∨ ∃ ds, sqN v G N cs = ((v : Int), G, G, ds, 0) ∧ SqI v G ds ∧ ds.length ≤ 64 ∧ sqC v G ds = ds ∧ (∀ p ∈ cs, p ∈ ds) ∧ ∀ T : Int → Prop, (∀ p ∈ cs, T p.1 → T p.2) → ∀ p ∈ ds, T p.1 → T p.2 := by
  intro N
  induction N with
  | zero => intro cs _ h1 h2; omega
  | succ N ih =>
    intro cs hI hl hN
    rw [sqN_succ]
    by_cases h64 : 64 < (sqC v G cs).length
    · rw [if_pos h64]; exact .inl rfl
    · rw [if_neg h64]
      by_cases he : sqC v G cs = cs
      · rw [if_pos he]
        exact .inr ⟨cs, rfl, hI, hl, he, fun _ h => h, fun _ h => h⟩
      · rw [if_neg he]
        have hm := hI.more he
        rcases ih (sqC v G cs) hI.next (by omega) (by omega) with h | ⟨ds, h1, h2, h3, h4, h5, h6⟩
        · exact .inl h
        · exact .inr ⟨ds, h1, h2, h3, h4, fun p hp => h5 p (hI.sub p hp), fun T hT => h6 T (sqC_keeps T hT)⟩
/-- A closed list of copies is transitive. -/
theorem sqC_trans {v : Nat} {G : List Nat} {ds : List (Int × Int)} (hI : SqI v G ds) (hf : sqC v G ds = ds) {a b c : Int} (h1 : (a, b) ∈ ds) (h2 : (b, c) ∈ ds) : a = c ∨ (a, c) ∈ ds := by
  by_cases e : a = c
  · exact .inl e
  · refine .inr ?_
    rw [← hf]
    refine mem_sqC.2 ⟨mem_chnL.2 (.inr (.inl ⟨b, h1, h2⟩)), ?_⟩
    unfold restB
    have := (hI.out _ h2).2.1
    simp only at this
    simp [e, this]
section
variable {v : Nat} {gs ks : List Nat} {cs ds : List (Int × Int)}
theorem star_follows (hI : SqI v (strG v gs ks cs) ds) {x i : Nat} : folB v (strG v gs ks cs) ds x i = true ↔ ((x = i ∧ Bs.bit (strG v gs ks cs) x = false) ∨ ((x : Int), (i : Int)) ∈ ds) := by
  rw [folB_iff, Bs.hasB_nat hI.fit hI.wid]
  have : ((x : Int) = (i : Int)) ↔ x = i := by omega
  rw [this]
/-- The star's value contains the argument. -/
theorem star_above (hI : SqI v (strG v gs ks cs) ds) (ss : List Nat) {i : Nat} (hi : i < v) (hs : Bs.bit ss i = true) : Bs.bit (valR (strG v gs ks cs) ss (folB v (strG v gs ks cs) ds) v) i = true := by
  rw [bit_valR_iff hi]
  cases hb : Bs.bit (strG v gs ks cs) i with
  | true => exact .inl rfl
  | false => exact .inr ⟨i, hi, hs, (star_follows hI).2 (.inl ⟨rfl, hb⟩)⟩
/-- It contains the function's value of itself. -/
theorem star_closed (hg : Bs.Fit v gs) (hI : SqI v (strG v gs ks cs) ds) (hf : sqC v (strG v gs ks cs) ds = ds) (hsub : ∀ p ∈ strC v gs ks cs, p ∈ ds) (ss : List Nat) {i : Nat} (hi : i < v)
    (h : Bs.bit (valR gs (valR (strG v gs ks cs) ss (folB v (strG v gs ks cs) ds) v) (folB v ks cs) v) i = true) : Bs.bit (valR (strG v gs ks cs) ss (folB v (strG v gs ks cs) ds) v) i = true := by
  have hfix : valR gs (strG v gs ks cs) (folB v ks cs) v = strG v gs ks cs := lst_fix hg _
  have hclosed : ∀ x, x < v → Bs.bit (strG v gs ks cs) x = true → folB v ks cs x i = true → Bs.bit (strG v gs ks cs) i = true := fun x hx h1 h2 => by
    have := (bit_valR_iff (gs := gs) (ss := strG v gs ks cs) (f := folB v ks cs) hi).2 (.inr ⟨x, hx, h1, h2⟩)
    rwa [hfix] at this
  have hgen : Bs.bit gs i = true → Bs.bit (strG v gs ks cs) i = true := fun h1 => by
    have := (bit_valR_iff (gs := gs) (ss := strG v gs ks cs) (f := folB v ks cs) hi).2 (.inl h1)
    rwa [hfix] at this
  cases hb : Bs.bit (strG v gs ks cs) i with
  | true => exact (bit_valR_iff hi).2 (.inl hb)
  | false =>
    rcases (bit_valR_iff hi).1 h with h1 | ⟨y, hy, h1, h2⟩
    · rw [hgen h1] at hb; cases hb
    · rcases (bit_valR_iff hy).1 h1 with h3 | ⟨x, hx, h3, h4⟩
      · rw [hclosed y hy h3 h2] at hb; cases hb
      · rcases folB_iff.1 h2 with ⟨h5, _⟩ | h5
        · have e : y = i := by omega
          subst e; exact h1
        · by_cases hyi : y = i
          · subst hyi; exact h1
          · have hd : ((y : Int), (i : Int)) ∈ ds := by
              refine hsub _ (mem_rest.2 ⟨h5, ?_⟩)
              unfold restB
              rw [Bs.hasB_nat hI.fit hI.wid]
              simp [hb]; omega
            refine (bit_valR_iff hi).2 (.inr ⟨x, hx, h3, (star_follows hI).2 ?_⟩)
            rcases (star_follows hI).1 h4 with ⟨e, _⟩ | h6
            · subst e; exact .inr hd
            · rcases sqC_trans hI hf h6 hd with e | h7
              · have e' : x = i := by omega
                subst e'; exact .inl ⟨rfl, hb⟩
              · exact .inr h7
/-- It is the least such set. -/
theorem star_least (hI : SqI v (strG v gs ks cs) ds) (hin : ∀ p ∈ cs, inW v p = true) (hway : ∀ T : Int → Prop, (∀ p ∈ strC v gs ks cs, T p.1 → T p.2) → ∀ p ∈ ds, T p.1 → T p.2) (ss ts : List Nat)
    (hs : ∀ i, i < v → Bs.bit ss i = true → Bs.bit ts i = true) (hfit : Bs.Fit v gs) (ht : ∀ i, i < v → Bs.bit (valR gs ts (folB v ks cs) v) i = true → Bs.bit ts i = true) {i : Nat} (hi : i < v)
    (h : Bs.bit (valR (strG v gs ks cs) ss (folB v (strG v gs ks cs) ds) v) i = true) : Bs.bit ts i = true := by
  have hG : ∀ j, Bs.bit (strG v gs ks cs) j = true → Bs.bit ts j = true := by
    have hlt : ∀ (xs : List Nat), Bs.Fit v xs → ∀ j, Bs.bit xs j = true → j < v := fun xs hx j hj => by
      refine Classical.byContradiction fun hn => ?_
      rw [hx.hi j (by omega)] at hj; cases hj
    refine lst_least (W := v) (f := folB v ks cs) (fun j hj => ?_) (fun j hj => ?_)
    · have := hlt gs hfit j hj
      exact ht j this ((bit_valR_iff this).2 (.inl hj))
    · exact ht j (hlt _ (fit_valR _ _ _ _) j hj) hj
  rcases (bit_valR_iff hi).1 h with h1 | ⟨x, hx, h1, h2⟩
  · exact hG i h1
  · rcases (star_follows hI).1 h2 with ⟨e, _⟩ | h3
    · subst e; exact hs x hx h1
    · have key := hway (fun a => ∃ j : Nat, a = (j : Int) ∧ j < v ∧ Bs.bit ts j = true) (fun p hp => ?_) _ h3 ⟨x, rfl, hx, hs x hx h1⟩
      · obtain ⟨j, hj, _, h4⟩ := key
        have e : i = j := by simp only at hj; omega
        rw [e]; exact h4
      · rintro ⟨j, hj, hjv, h4⟩
        have hpc := (mem_rest.1 hp).1
        have hw := inW_pair.1 (hin p hpc)
        obtain ⟨a, b⟩ := p
        simp only at hj hw ⊢
        obtain ⟨z, rfl⟩ := Int.eq_ofNat_of_zero_le hw.2.1
        have hz : z < v := by omega
        subst hj
        exact ⟨z, rfl, hz, ht z hz ((bit_valR_iff hz).2 (.inr ⟨j, hjv, h4, folB_iff.2 (.inr hpc)⟩))⟩
end
end Go.Proofs.Ytmbelhdkaepohaa

namespace Go.Proofs.Ytmbelhdkaepohaa
set_option maxRecDepth 20000

/-- All copies between two different bits. -/
def allP (v : Nat) : List (Int × Int) := ((List.range v).flatMap fun a : Nat => (List.range v).map fun b : Nat => ((a : Int), (b : Int))).filter fun p => decide (p.1 ≠ p.2)
theorem mem_allP {v : Nat} {p : Int × Int} (h : inW v p = true) (hne : p.1 ≠ p.2) : p ∈ allP v := by
  obtain ⟨a, b⟩ := p
  have hw := inW_pair.1 h
  simp only at hw hne
  obtain ⟨x, rfl⟩ := Int.eq_ofNat_of_zero_le hw.1.1
  obtain ⟨y, rfl⟩ := Int.eq_ofNat_of_zero_le hw.2.1
  unfold allP
  refine List.mem_filter.2 ⟨List.mem_flatMap.2 ⟨x, List.mem_range.2 (by omega), List.mem_map.2 ⟨y, List.mem_range.2 (by omega), rfl⟩⟩, by simpa using hne⟩
theorem asc_row (a v : Nat) : Asc ((List.range v).map fun b : Nat => ((a : Int), (b : Int))) := by
  unfold Asc
  rw [List.pairwise_map]
  refine List.Pairwise.imp ?_ (List.pairwise_lt_range (n := v))
  intro x y h
  unfold beforeB; simp; omega
theorem asc_rows (v : Nat) : ∀ n, Asc ((List.range n).flatMap fun a : Nat => (List.range v).map fun b : Nat => ((a : Int), (b : Int)))
  | 0 => by simp [Asc]
  | n + 1 => by
    rw [List.range_succ, List.flatMap_append]
    refine List.pairwise_append.2 ⟨asc_rows v n, by have h := asc_row n v; unfold Asc at h; simpa using h, fun x hx y hy => ?_⟩
    obtain ⟨a, ha, hx⟩ := List.mem_flatMap.1 hx
    obtain ⟨b, _, rfl⟩ := List.mem_map.1 hx
    obtain ⟨c, hc, hy⟩ := List.mem_flatMap.1 hy
    obtain ⟨d, _, rfl⟩ := List.mem_map.1 hy
    have h1 := List.mem_range.1 ha
    have h2 := List.mem_singleton.1 hc
    unfold beforeB; simp; omega
theorem few_copies {v : Nat} (hv : v ≤ 8) {ds : List (Int × Int)} (ha : Asc ds) (hin : ∀ p ∈ ds, inW v p = true) (hne : ∀ p ∈ ds, p.1 ≠ p.2) : ds.length ≤ 56 := by
  have e : ds = (allP v).filter fun x => decide (x ∈ ds) := by
    refine asc_unique ha (((asc_rows v v).filter _).filter _) fun x => ?_
    rw [List.mem_filter]
    exact ⟨fun hx => ⟨mem_allP (hin x hx) (hne x hx), by simpa using hx⟩, fun hx => by simpa using hx.2⟩
  have h1 := List.length_filter_le (fun x => decide (x ∈ ds)) (allP v)
  rw [← e] at h1
  have h2 : (allP v).length ≤ 56 := by
    have : v = 0 ∨ v = 1 ∨ v = 2 ∨ v = 3 ∨ v = 4 ∨ v = 5 ∨ v = 6 ∨ v = 7 ∨ v = 8 := by omega
    rcases this with rfl | rfl | rfl | rfl | rfl | rfl | rfl | rfl | rfl <;> decide
  omega
/-- The star of a star is the star. -/
theorem star_again {v : Nat} {G : List Nat} {ds : List (Int × Int)} (hI : SqI v G ds) (hf : sqC v G ds = ds) (hl : ds.length ≤ 64) : starR v G v G ds = ((v : Int), G, G, ds, 0) := by
  have hG : strG v G G ds = G := by
    have h := lstI_stay (W := v) (gs := G) (f := folB v G ds) (j := 0) hI.gen v
    rw [Nat.zero_add] at h
    exact h
  have hC : strC v G G ds = ds := by
    unfold strC
    rw [hG]
    refine asc_unique (ord_spec _).2 hI.asc fun x => ?_
    rw [mem_rest]
    refine ⟨fun h => h.1, fun h => ⟨h, ?_⟩⟩
    obtain ⟨_, h2, h3⟩ := hI.out x h
    unfold restB
    simp [h2, h3]
  unfold starR
  rw [if_neg (by simp [hI.valid hl]), Int.toNat_natCast, hG, hC, sqN_succ, if_neg (by rw [hf]; omega), if_pos hf]
end Go.Proofs.Ytmbelhdkaepohaa

namespace Go.Proofs.Ytmbelhdkaepohaa
set_option maxRecDepth 20000
set_option linter.unusedVariables false

/-- The value of a function. -/
def vl (v : Nat) (gs ks : List Nat) (cs : List (Int × Int)) (ss : List Nat) : List Nat := valR gs ss (folB v ks cs) v
theorem fit_vl (v : Nat) (gs ks : List Nat) (cs : List (Int × Int)) (ss : List Nat) : Bs.Fit v (vl v gs ks cs ss) := fit_valR _ _ _ _
/-- A valid function of width v. -/
structure Okf (v : Nat) (gs ks : List Nat) (cs : List (Int × Int)) : Prop where
  valid : validT v gs v ks cs = true
  gen : Bs.Fit v gs
  kill : Bs.Fit v ks
  inw : ∀ p ∈ cs, inW v p = true
/-- A canonical one. -/
structure Cnf (v : Nat) (gs ks : List Nat) (cs : List (Int × Int)) : Prop where
  ok : Okf v gs ks cs
  few : cs.length ≤ 56
  cops : ord (cs.filter (restB v gs)) = cs
  kills : killC v gs ks cs = ks

/-- The canonical form of what is given. -/
theorem cn_ok {v : Nat} (hv : v ≤ 8) {gs ks : List Nat} {cs : List (Int × Int)} (hg : Bs.Fit v gs) (hk : Bs.Fit v ks) (hin : ∀ p ∈ cs, inW v p = true) :
    cnR v gs ks cs = ((v : Int), gs, killC v gs ks cs, ord (cs.filter (restB v gs)), 0) ∧ Cnf v gs (killC v gs ks cs) (ord (cs.filter (restB v gs))) ∧ ∀ ss, vl v gs (killC v gs ks cs) (ord (cs.filter (restB v gs))) ss = vl v gs ks cs ss := by
  have hin2 : ∀ p ∈ ord (cs.filter (restB v gs)), inW v p = true := fun p hp => hin p (mem_rest.1 hp).1
  have hfew := few_copies hv (ord_spec (cs.filter (restB v gs))).2 hin2 (fun p hp => by
    have := (mem_rest.1 hp).2
    unfold restB at this
    simp only [Bool.and_eq_true, decide_eq_true_eq] at this
    exact this.1)
  refine ⟨by unfold cnR; rw [if_pos (by omega)], ⟨⟨can_valid (by omega) hg ks hin (by omega), hg, fit_killC _ _ _ _, hin2⟩, hfew, (can_twice cs (ks := ks)).1, (can_twice cs).2⟩, fun ss => can_value (by omega) hg hk cs ss⟩
/-- The value for the empty set is what is generated. -/
theorem vl_emp {v : Nat} {gs ks : List Nat} {cs : List (Int × Int)} (hg : Bs.Fit v gs) : vl v gs ks cs (Bs.emp v) = gs := by
  refine Bs.ext (fit_vl _ _ _ _ _) hg fun i hi => ?_
  unfold vl
  apply Bool.eq_iff_iff.2
  rw [bit_valR_iff hi]
  constructor
  · rintro (h | ⟨x, _, h, _⟩)
    · exact h
    · rw [Bs.bit_emp] at h; cases h
  · exact .inl
/-- The value for one bit. -/
theorem vl_one {v : Nat} {gs ks : List Nat} {cs : List (Int × Int)} {x i : Nat} (hx : x < v) (hi : i < v) : Bs.bit (vl v gs ks cs (Bs.put (Bs.emp v) x)) i = true ↔ (Bs.bit gs i = true ∨ folB v ks cs x i = true) := by
  unfold vl
  rw [bit_valR_iff hi]
  have e : ∀ y, Bs.bit (Bs.put (Bs.emp v) x) y = decide (y = x) := fun y => by
    rw [Bs.bit_put _ _ _ (by rw [len_emp]; exact Bs.lt_nw hx), Bs.bit_emp]; simp
  constructor
  · rintro (h | ⟨y, hy, h1, h2⟩)
    · exact .inl h
    · rw [e] at h1
      have : y = x := by simpa using h1
      subst this; exact .inr h2
  · rintro (h | h)
    · exact .inl h
    · exact .inr ⟨x, hx, by rw [e]; simp, h⟩
/-- A canonical form is determined by the values. -/
theorem cnf_eq {v : Nat} (hv : v ≤ 8) {gs ks : List Nat} {cs : List (Int × Int)} {gs' ks' : List Nat} {cs' : List (Int × Int)} (h : Cnf v gs ks cs) (h' : Cnf v gs' ks' cs')
    (he : ∀ ss, Bs.Fit v ss → vl v gs ks cs ss = vl v gs' ks' cs' ss) : gs = gs' ∧ ks = ks' ∧ cs = cs' := by
  have h1 : gs = gs' := by
    have := he (Bs.emp v) (Bs.fit_emp v)
    rwa [vl_emp h.ok.gen, vl_emp h'.ok.gen] at this
  subst h1
  have hf : ∀ x i, x < v → i < v → Bs.bit gs i = false → (folB v ks cs x i = true ↔ folB v ks' cs' x i = true) := fun x i hx hi hb => by
    have e := congrArg (fun l => Bs.bit l i = true) (he (Bs.put (Bs.emp v) x) (Bs.fit_put (Bs.fit_emp v) hx))
    simp only [eq_iff_iff] at e
    rw [vl_one hx hi, vl_one hx hi, hb] at e
    simpa using e
  have hc : cs = cs' := by
    rw [← h.cops, ← h'.cops]
    refine asc_unique (ord_spec _).2 (ord_spec _).2 fun p => ?_
    rw [mem_rest, mem_rest]
    obtain ⟨a, b⟩ := p
    have key : ∀ {ks cs ks' cs'}, (∀ x i, x < v → i < v → Bs.bit gs i = false → (folB v ks cs x i = true ↔ folB v ks' cs' x i = true)) → (∀ p ∈ cs, inW v p = true) → (a, b) ∈ cs ∧ restB v gs (a, b) = true → (a, b) ∈ cs' ∧ restB v gs (a, b) = true := by
      intro ks cs ks' cs' hf hin ⟨hm, hr⟩
      refine ⟨?_, hr⟩
      have hw := inW_pair.1 (hin _ hm)
      simp only at hw
      obtain ⟨x, rfl⟩ := Int.eq_ofNat_of_zero_le hw.1.1
      obtain ⟨i, rfl⟩ := Int.eq_ofNat_of_zero_le hw.2.1
      unfold restB at hr
      simp only [Bool.and_eq_true, decide_eq_true_eq, Bool.not_eq_true'] at hr
      rw [Bs.hasB_nat h.ok.gen (by omega)] at hr
      rcases folB_iff.1 ((hf x i (by omega) (by omega) hr.2).1 (folB_iff.2 (.inr hm))) with ⟨h3, _⟩ | h3
      · exact absurd h3 hr.1
      · exact h3
    exact ⟨key hf h.ok.inw, key (fun x i hx hi hb => (hf x i hx hi hb).symm) h'.ok.inw⟩
  subst hc
  refine ⟨rfl, ?_, rfl⟩
  rw [← h.kills, ← h'.kills]
  refine Bs.ext (fit_killC _ _ _ _) (fit_killC _ _ _ _) fun i hi => ?_
  unfold killC
  rw [Bs.bit_ofP _ _ _ (Nat.le_refl _), Bs.bit_ofP _ _ _ (Nat.le_refl _)]
  simp only [hi, decide_true, Bool.true_and]
  cases hb : Bs.bit gs i with
  | true => simp
  | false =>
    have := hf i i hi hi hb
    rw [folB_iff, folB_iff, Bs.hasB_nat h.ok.kill (by omega), Bs.hasB_nat h'.ok.kill (by omega)] at this
    by_cases hm : ((i : Int), (i : Int)) ∈ cs
    · simp [hm]
    · simp only [hm, or_false, true_and] at this
      have e : Bs.bit ks i = Bs.bit ks' i := by
        cases h1 : Bs.bit ks i <;> cases h2 : Bs.bit ks' i <;> simp_all
      rw [e]

/-- Composition. -/
theorem comp_ok {v : Nat} (hv : v ≤ 8) {gs ks : List Nat} {cs : List (Int × Int)} {gs' ks' : List Nat} {cs' : List (Int × Int)} (h : Okf v gs ks cs) (h' : Okf v gs' ks' cs') :
    ∃ G K C, composeR v gs v ks cs v gs' v ks' cs' = ((v : Int), G, K, C, 0) ∧ Cnf v G K C ∧ ∀ ss, vl v G K C ss = vl v gs' ks' cs' (vl v gs ks cs ss) := by
  have hin : ∀ p ∈ chnL v ks v ks' cs cs', inW v p = true := by
    rintro ⟨a, b⟩ hp
    rcases mem_chnL.1 hp with ⟨h1, _⟩ | ⟨y, h1, h2⟩ | ⟨h1, _⟩
    · exact h.inw _ h1
    · have w1 := inW_pair.1 (h.inw _ h1)
      have w2 := inW_pair.1 (h'.inw _ h2)
      exact inW_pair.2 ⟨w1.1, w2.2⟩
    · exact h'.inw _ h1
  obtain ⟨e1, e2, e3⟩ := cn_ok hv (fit_valR gs' gs (folB v ks' cs') v) (fit_orR v ks ks') hin
  refine ⟨_, _, _, ?_, e2, fun ss => ?_⟩
  · unfold composeR
    rw [if_neg (by simp [h.valid, h'.valid]), if_neg (by simp), Int.toNat_natCast]
    exact e1
  · rw [e3]
    exact compose_value (by omega) h.kill h'.kill h.inw ss
/-- Joins. -/
theorem join_ok {v : Nat} (hv : v ≤ 8) {gs ks : List Nat} {cs : List (Int × Int)} {gs' ks' : List Nat} {cs' : List (Int × Int)} (h : Okf v gs ks cs) (h' : Okf v gs' ks' cs') :
    ∃ G K C, joinR v gs v ks cs v gs' v ks' cs' = ((v : Int), G, K, C, 0) ∧ Cnf v G K C ∧ ∀ ss, vl v G K C ss = orR v (vl v gs ks cs ss) (vl v gs' ks' cs' ss) := by
  have hin : ∀ p ∈ cs ++ cs', inW v p = true := by
    intro p hp
    rcases List.mem_append.1 hp with h1 | h1
    · exact h.inw _ h1
    · exact h'.inw _ h1
  obtain ⟨e1, e2, e3⟩ := cn_ok hv (fit_orR v gs gs') (fit_andR v ks ks') hin
  refine ⟨_, _, _, ?_, e2, fun ss => ?_⟩
  · unfold joinR
    rw [if_neg (by simp [h.valid, h'.valid]), if_neg (by simp), Int.toNat_natCast]
    exact e1
  · rw [e3]
    exact join_value (by omega) h.kill h'.kill cs cs' ss
/-- Canonical forms. -/
theorem canon_ok {v : Nat} (hv : v ≤ 8) {gs ks : List Nat} {cs : List (Int × Int)} (h : Okf v gs ks cs) :
    ∃ G K C, canR v gs v ks cs = ((v : Int), G, K, C, 0) ∧ Cnf v G K C ∧ ∀ ss, vl v G K C ss = vl v gs ks cs ss := by
  obtain ⟨e1, e2, e3⟩ := cn_ok hv h.gen h.kill h.inw
  refine ⟨_, _, _, ?_, e2, e3⟩
  unfold canR
  rw [if_neg (by simp [h.valid]), Int.toNat_natCast, canon_kill (by omega) h.kill, canon_cops (ks := ks) (by omega) h.gen h.inw]
/-- The canonical form of a canonical function. -/
theorem canon_stay {v : Nat} (hv : v ≤ 8) {gs ks : List Nat} {cs : List (Int × Int)} (h : Cnf v gs ks cs) : canR v gs v ks cs = ((v : Int), gs, ks, cs, 0) := by
  have hk : killTo gs (oneR gs (folB v ks cs) v) v v = ks := by
    have := canon_kill (gs := gs) (cs := cs) (by omega : v ≤ 256) h.ok.kill
    rw [← this]; exact h.kills
  have hc : copsTo gs (oneR gs (folB v ks cs) v) v v = cs := by
    rw [← canon_cops (ks := ks) (by omega) h.ok.gen h.ok.inw]; exact h.cops
  unfold canR
  rw [if_neg (by simp [h.ok.valid]), Int.toNat_natCast, hk, hc]
/-- The identity. -/
theorem ident_ok {v : Nat} (hv : v ≤ 8) : ∃ G K C, idR v = ((v : Int), G, K, C, 0) ∧ Cnf v G K C ∧ ∀ ss, Bs.Fit v ss → vl v G K C ss = ss := by
  obtain ⟨e1, e2, e3⟩ := cn_ok hv (Bs.fit_emp v) (Bs.fit_emp v) (cs := []) (fun p hp => by cases hp)
  refine ⟨_, _, _, ?_, e2, fun ss hs => ?_⟩
  · unfold idR
    rw [if_neg (by omega), Int.toNat_natCast]
    exact e1
  · rw [e3]
    refine Bs.ext (fit_vl _ _ _ _ _) hs fun i hi => ?_
    unfold vl
    apply Bool.eq_iff_iff.2
    rw [bit_valR_iff hi, Bs.bit_emp]
    constructor
    · rintro (h | ⟨x, hx, h1, h2⟩)
      · cases h
      · rcases folB_iff.1 h2 with ⟨h3, _⟩ | h3
        · have : x = i := by omega
          subst this; exact h1
        · cases h3
    · intro h
      exact .inr ⟨i, hi, h, folB_iff.2 (.inl ⟨rfl, by rw [Bs.hasB_nat (Bs.fit_emp v) (by omega), Bs.bit_emp]⟩)⟩
/-- Functions distribute over unions. -/
theorem vl_or {v : Nat} (gs ks : List Nat) (cs : List (Int × Int)) (a b : List Nat) : vl v gs ks cs (orR v a b) = orR v (vl v gs ks cs a) (vl v gs ks cs b) := by
  refine Bs.ext (fit_vl _ _ _ _ _) (fit_orR _ _ _) fun i hi => ?_
  unfold vl
  apply Bool.eq_iff_iff.2
  rw [bit_valR_iff hi, bit_orR_iff hi, bit_valR_iff hi, bit_valR_iff hi]
  constructor
  · rintro (h | ⟨x, hx, h1, h2⟩)
    · exact .inl (.inl h)
    · rcases (bit_orR_iff hx).1 h1 with h3 | h3
      · exact .inl (.inr ⟨x, hx, h3, h2⟩)
      · exact .inr (.inr ⟨x, hx, h3, h2⟩)
  · rintro ((h | ⟨x, hx, h1, h2⟩) | (h | ⟨x, hx, h1, h2⟩))
    · exact .inl h
    · exact .inr ⟨x, hx, (bit_orR_iff hx).2 (.inl h1), h2⟩
    · exact .inl h
    · exact .inr ⟨x, hx, (bit_orR_iff hx).2 (.inr h1), h2⟩
end Go.Proofs.Ytmbelhdkaepohaa

namespace Go.Proofs.Ytmbelhdkaepohaa
set_option maxRecDepth 20000
set_option linter.unusedVariables false
set_option linter.unusedSimpArgs false

/-- The canonical function of values, or the error that it has too many copies. -/
def madeR (W : Nat) (z : List Nat) (one : Nat → List Nat) : Int × List Nat × List Nat × List (Int × Int) × Int :=
  if (copsTo z one W W).length ≤ 64 then ((W : Int), z, killTo z one W W, copsTo z one W W, 0) else (0, [], [], [], 7)
theorem madeR_congr {W : Nat} {z : List Nat} {one two : Nat → List Nat} (h : ∀ a b, a < W → b < W → Bs.bit (one a) b = Bs.bit (two a) b) : madeR W z one = madeR W z two := by
  have h1 : copsTo z one W W = copsTo z two W W := by
    refine asc_unique (asc_copsTo _ _ _ _) (asc_copsTo _ _ _ _) fun x => ?_
    rw [mem_copsTo, mem_copsTo]
    constructor
    · rintro ⟨i, j, hi, hj, hc, e⟩
      refine ⟨i, j, hi, hj, ?_, e⟩
      unfold copyB at hc ⊢; rw [← h i j hi hj]; exact hc
    · rintro ⟨i, j, hi, hj, hc, e⟩
      refine ⟨i, j, hi, hj, ?_, e⟩
      unfold copyB at hc ⊢; rw [h i j hi hj]; exact hc
  have h2 : killTo z one W W = killTo z two W W := by
    unfold killTo
    exact Bs.ofP_congr fun i hi => by rw [h i i hi hi]
  unfold madeR
  rw [h1, h2]
theorem cnR_made {W : Nat} (hW : W ≤ 256) {G K : List Nat} {cs : List (Int × Int)} (hg : Bs.Fit W G) (hk : Bs.Fit W K) (hc : ∀ p ∈ cs, inW W p = true) :
    cnR W G K cs = madeR W G (oneR G (folB W K cs) W) := by
  unfold cnR madeR
  rw [canon_cops hW hg hc, canon_kill hW hk]
theorem bit_oneR {gs : List Nat} {f : Int → Int → Bool} {W b i : Nat} (hi : i < W) : Bs.bit (oneR gs f W b) i = (Bs.bit gs i || f b i) := by
  unfold oneR
  rw [Bs.bit_ofP _ _ _ (Nat.le_refl _)]
  simp [hi]
theorem bit_orR {W i : Nat} {a b : List Nat} (hi : i < W) : Bs.bit (orR W a b) i = (Bs.bit a i || Bs.bit b i) := by
  unfold orR
  rw [Bs.bit_ofP _ _ _ (Nat.le_refl _)]
  simp [hi]
theorem join_made {v : Nat} (hv : v ≤ 256) {gs gs' ks ks' : List Nat} {cs cs' : List (Int × Int)} (hk : Bs.Fit v ks) (hk' : Bs.Fit v ks') (hc : ∀ p ∈ cs, inW v p = true) (hc' : ∀ p ∈ cs', inW v p = true) :
    cnR v (orR v gs gs') (andR v ks ks') (cs ++ cs') = madeR v (orR v gs gs') (fun b => orR v (oneR gs (folB v ks cs) v b) (oneR gs' (folB v ks' cs') v b)) := by
  rw [cnR_made hv (fit_orR _ _ _) (fit_andR _ _ _) (fun p hp => by rcases List.mem_append.1 hp with h | h; exact hc p h; exact hc' p h)]
  refine madeR_congr fun a b ha hb => ?_
  rw [bit_oneR hb, bit_orR hb, bit_orR hb, bit_oneR hb, bit_oneR hb]
  have hj := join_follows (i := (b : Int)) hv hk hk' (cs := cs) (cs' := cs') ha
  cases h1 : folB v (andR v ks ks') (cs ++ cs') a b with
  | true =>
    rcases hj.1 h1 with h | h
    · rw [h]; simp
    · rw [h]; simp
  | false =>
    cases h2 : folB v ks cs a b with
    | true => rw [hj.2 (.inl h2)] at h1; cases h1
    | false =>
      cases h3 : folB v ks' cs' a b with
      | true => rw [hj.2 (.inr h3)] at h1; cases h1
      | false => simp
theorem comp_made {v : Nat} (hv : v ≤ 256) {gs gs' ks ks' : List Nat} {cs cs' : List (Int × Int)} (hg : Bs.Fit v gs) (hk : Bs.Fit v ks) (hk' : Bs.Fit v ks') (hc : ∀ p ∈ cs, inW v p = true) (hc' : ∀ p ∈ cs', inW v p = true) :
    cnR v (valR gs' gs (folB v ks' cs') v) (orR v ks ks') (chnL v ks v ks' cs cs') = madeR v (valR gs' gs (folB v ks' cs') v) (fun b => valR gs' (oneR gs (folB v ks cs) v b) (folB v ks' cs') v) := by
  rw [cnR_made hv (fit_valR _ _ _ _) (fit_orR _ _ _) (chnL_inW hc hc')]
  refine madeR_congr fun a b ha hb => ?_
  have h1 := compose_value (gs := gs) (gs' := gs') hv hk hk' (cs' := cs') hc (Bs.put (Bs.emp v) a)
  rw [valR_one _ _ ha, valR_one _ _ ha] at h1
  rw [h1]
/-- The value of a table. -/
theorem imTo_val {v : Nat} {zs ss : List Nat} (gs ks : List Nat) (cs : List (Int × Int)) (hz : zs = gs) : imTo zs (oneR gs (folB v ks cs) v) ss v v = valR gs ss (folB v ks cs) v := by
  subst hz
  unfold imTo valR
  refine Bs.ofP_congr fun i hi => ?_
  rw [Bool.eq_iff_iff]
  simp only [Bool.or_eq_true, List.any_eq_true, List.mem_range, Bool.and_eq_true]
  constructor
  · rintro (h | ⟨b, hb, h1, h2⟩)
    · exact .inl h
    · rw [bit_oneR hi] at h2
      rcases Bool.or_eq_true _ _ ▸ h2 with h | h
      · exact .inl h
      · exact .inr ⟨b, hb, h1, h⟩
  · rintro (h | ⟨b, hb, h1, h2⟩)
    · exact .inl h
    · exact .inr ⟨b, hb, h1, by rw [bit_oneR hi, h2]; simp⟩
end Go.Proofs.Ytmbelhdkaepohaa

namespace Go.Proofs.Ytmbelhdkaepohaa
set_option maxRecDepth 20000
set_option linter.unusedVariables false

theorem sqN_ok {v : Nat} (hv : v ≤ 8) {G : List Nat} : ∀ (N : Nat) (cs : List (Int × Int)), SqI v G cs → sqN v G N cs ≠ (0, [], [], [], 7) := by
  intro N
  induction N with
  | zero => intro cs _ h; unfold sqN at h; simp at h
  | succ N ih =>
    intro cs hI
    have hn := hI.next
    have hl : (sqC v G cs).length ≤ 56 := few_copies hv hn.asc hn.inw (fun p hp => (hn.out p hp).2.2)
    rw [sqN_succ, if_neg (by omega)]
    split
    · simp
    · exact ih _ hn
/-- The star of a valid function of a small width. -/
theorem star_ok {v : Nat} (hv : v ≤ 8) {gs ks : List Nat} {cs : List (Int × Int)} (h : Okf v gs ks cs) :
    ∃ G C, starR v gs v ks cs = ((v : Int), G, G, C, 0) ∧ Okf v G G C ∧ C.length ≤ 64 ∧ starR v G v G C = ((v : Int), G, G, C, 0) ∧
      (∀ ss i, i < v → Bs.bit ss i = true → Bs.bit (vl v G G C ss) i = true) ∧
      (∀ ss i, i < v → Bs.bit (vl v gs ks cs (vl v G G C ss)) i = true → Bs.bit (vl v G G C ss) i = true) ∧
      (∀ ss ts, (∀ i, i < v → Bs.bit ss i = true → Bs.bit ts i = true) → (∀ i, i < v → Bs.bit (vl v gs ks cs ts) i = true → Bs.bit ts i = true) → ∀ i, i < v → Bs.bit (vl v G G C ss) i = true → Bs.bit ts i = true) := by
  have hI := str_start (ks := ks) h.gen (by omega) h.inw
  have hfew : (strC v gs ks cs).length ≤ 56 := few_copies hv hI.asc hI.inw (fun p hp => (hI.out p hp).2.2)
  have hR : starR v gs v ks cs = sqN v (strG v gs ks cs) 65 (strC v gs ks cs) := by
    unfold starR
    rw [if_neg (by simp [h.valid]), Int.toNat_natCast]
  rcases sqN_spec 65 _ hI (by omega) (by omega) with he | ⟨ds, h1, h2, h3, h4, h5, h6⟩
  · exact absurd he (sqN_ok hv _ _ hI)
  · refine ⟨strG v gs ks cs, ds, by rw [hR, h1], ⟨h2.valid h3, h2.fit, h2.fit, h2.inw⟩, h3, star_again h2 h4 h3, fun ss i hi hs => star_above h2 ss hi hs, fun ss i hi hs => star_closed h.gen h2 h4 h5 ss hi hs,
      fun ss ts hs ht i hi hb => star_least h2 h.inw h6 ss ts hs h.gen ht hi hb⟩
theorem memsTo_nil {ws : List Nat} : ∀ k, (∀ i, i < k → Bs.bit ws i = false) → memsTo ws k = [] := by
  intro k
  induction k with
  | zero => intro _; rfl
  | succ k ih =>
    intro h
    unfold memsTo
    rw [if_neg (by simp [h k (by omega)])]
    exact ih fun i hi => h i (by omega)
theorem subset_of {v : Nat} (hv : v ≤ 256) {a b : List Nat} (ha : Bs.Fit v a) (hb : Bs.Fit v b) (h : ∀ i, i < v → Bs.bit a i = true → Bs.bit b i = true) : subsetB v a v b = true := by
  unfold subsetB
  rw [mixR_ok _ hv ha hb]
  have hn : memsTo (Bs.ofP v (fun i => flag true false false (Bs.bit a i) (Bs.bit b i)) v) v = [] := memsTo_nil v fun i hi => by
    rw [Bs.bit_ofP _ _ _ (Nat.le_refl _)]
    simp only [hi, decide_true, Bool.true_and]
    cases h1 : Bs.bit a i with
    | false => cases Bs.bit b i <;> rfl
    | true => rw [h i hi h1]; rfl
  unfold memsB
  simp only [Int.toNat_natCast, hn]
  split <;> simp
theorem sameB_refl (W : Int) (a : List Nat) : sameB W a W a = true := by unfold sameB; simp
end Go.Proofs.Ytmbelhdkaepohaa

namespace Go.Proofs.Ytmbelhdkaepohaa
set_option maxRecDepth 20000
set_option linter.unusedVariables false
set_option linter.unusedSimpArgs false

theorem memsTo_none {ws : List Nat} : ∀ k, (memsTo ws k).length = 0 → ∀ i, i < k → Bs.bit ws i = false := by
  intro k
  induction k with
  | zero => intro _ i hi; omega
  | succ k ih =>
    intro h i hi
    unfold memsTo at h
    cases hb : Bs.bit ws k with
    | true => rw [if_pos hb, List.length_append] at h; simp at h
    | false =>
      rw [if_neg (by simp [hb])] at h
      by_cases e : i = k
      · subst e; exact hb
      · exact ih h i (by omega)
theorem subset_iff {v : Nat} (hv : v ≤ 256) {a b : List Nat} (ha : Bs.Fit v a) (hb : Bs.Fit v b) : subsetB v a v b = true ↔ ∀ i, i < v → Bs.bit a i = true → Bs.bit b i = true := by
  refine ⟨fun h i hi h1 => ?_, subset_of hv ha hb⟩
  unfold subsetB at h
  rw [mixR_ok _ hv ha hb] at h
  simp only [Bool.and_eq_true, decide_eq_true_eq] at h
  have h2 := h.2
  unfold memsB at h2
  rw [if_pos (Bs.valid_of_fit (Bs.fit_ofP _ _ _ (Nat.le_refl _)) hv), Int.toNat_natCast] at h2
  have h3 := memsTo_none v h2 i hi
  rw [Bs.bit_ofP _ _ _ (Nat.le_refl _)] at h3
  simp only [hi, decide_true, Bool.true_and, h1] at h3
  cases h4 : Bs.bit b i with
  | true => rfl
  | false => rw [h4] at h3; simp [flag] at h3
theorem copsTo_congr {W : Nat} {z : List Nat} {one two : Nat → List Nat} (h : ∀ a b, a < W → b < W → Bs.bit (one a) b = Bs.bit (two a) b) : copsTo z one W W = copsTo z two W W := by
  refine asc_unique (asc_copsTo _ _ _ _) (asc_copsTo _ _ _ _) fun x => ?_
  rw [mem_copsTo, mem_copsTo]
  constructor
  · rintro ⟨i, j, hi, hj, hc, e⟩
    refine ⟨i, j, hi, hj, ?_, e⟩
    unfold copyB at hc ⊢; rw [← h i j hi hj]; exact hc
  · rintro ⟨i, j, hi, hj, hc, e⟩
    refine ⟨i, j, hi, hj, ?_, e⟩
    unfold copyB at hc ⊢; rw [h i j hi hj]; exact hc
theorem killTo_congr {W : Nat} {z : List Nat} {one two : Nat → List Nat} (h : ∀ a b, a < W → b < W → Bs.bit (one a) b = Bs.bit (two a) b) : killTo z one W W = killTo z two W W := by
  unfold killTo
  exact Bs.ofP_congr fun i hi => by rw [h i i hi hi]

section
variable {v : Nat} {gs ks gs' ks' : List Nat} {cs cs' : List (Int × Int)}
/-- The value for one bit, by the canonical form. -/
theorem one_canon (hv : v ≤ 256) (hg : Bs.Fit v gs) (hk : Bs.Fit v ks) {b : Nat} (hb : b < v) :
    oneR gs (folB v (killC v gs ks cs) (ord (cs.filter (restB v gs)))) v b = oneR gs (folB v ks cs) v b := by
  rw [← valR_one gs _ hb, ← valR_one gs _ hb, can_value hv hg hk]
theorem inw_of {w : Nat} (h : validT w gs w ks cs = true) : ∀ p ∈ cs, inW w p = true := inW_of_ok (validT_iff h).2.2.2.2
theorem same_iff (hv : v ≤ 256) (hg : Bs.Fit v gs) (hk : Bs.Fit v ks) (hg' : Bs.Fit v gs') (hk' : Bs.Fit v ks') (h : validT v gs v ks cs = true) (h' : validT v gs' v ks' cs' = true) :
    sameD v gs v ks cs v gs' v ks' cs' = true ↔ gs = gs' ∧ ∀ b, b < v → oneR gs (folB v ks cs) v b = oneR gs' (folB v ks' cs') v b := by
  have e1 : canR v gs v ks cs = ((v : Int), gs, killTo gs (oneR gs (folB v ks cs) v) v v, copsTo gs (oneR gs (folB v ks cs) v) v v, 0) := by
    unfold canR; rw [if_neg (by simp [h]), Int.toNat_natCast]
  have e2 : canR v gs' v ks' cs' = ((v : Int), gs', killTo gs' (oneR gs' (folB v ks' cs') v) v v, copsTo gs' (oneR gs' (folB v ks' cs') v) v v, 0) := by
    unfold canR; rw [if_neg (by simp [h']), Int.toNat_natCast]
  have key : sameD v gs v ks cs v gs' v ks' cs' = true ↔ gs = gs' ∧ killTo gs (oneR gs (folB v ks cs) v) v v = killTo gs' (oneR gs' (folB v ks' cs') v) v v ∧ copsTo gs (oneR gs (folB v ks cs) v) v v = copsTo gs' (oneR gs' (folB v ks' cs') v) v v := by
    unfold sameD equal2 equalB sameB
    rw [e1, e2, h, h']
    simp only [Bs.valid_of_fit hg hv, Bs.valid_of_fit hg' hv, Bs.valid_of_fit (fit_killTo _ _ _ _) hv, Bool.and_eq_true, decide_eq_true_eq, Bool.true_and, true_and, decide_true, and_assoc]
  rw [key]
  constructor
  · rintro ⟨rfl, hkk, hcc⟩
    refine ⟨rfl, fun b hb => ?_⟩
    rw [← one_canon hv hg hk hb, ← one_canon (ks := ks') (cs := cs') hv hg hk' hb, canon_cops hv hg (inw_of h), canon_cops hv hg (inw_of h'), canon_kill hv hk, canon_kill hv hk', hkk, hcc]
  · rintro ⟨rfl, ho⟩
    have hb : ∀ a b, a < v → b < v → Bs.bit (oneR gs (folB v ks cs) v a) b = Bs.bit (oneR gs (folB v ks' cs') v a) b := fun a b ha _ => by rw [ho a ha]
    exact ⟨rfl, killTo_congr hb, copsTo_congr hb⟩
/-- The value of a join for one bit. -/
theorem join_one (hv : v ≤ 256) (hk : Bs.Fit v ks) (hk' : Bs.Fit v ks') {b : Nat} (hb : b < v) :
    oneR (orR v gs gs') (folB v (andR v ks ks') (cs ++ cs')) v b = orR v (oneR gs (folB v ks cs) v b) (oneR gs' (folB v ks' cs') v b) := by
  refine Bs.ext (fit_oneR _ _ _ _) (fit_orR _ _ _) fun i hi => ?_
  rw [bit_oneR hi, bit_orR hi, bit_orR hi, bit_oneR hi, bit_oneR hi]
  have hj := join_follows (i := (i : Int)) hv hk hk' (cs := cs) (cs' := cs') hb
  cases h1 : folB v (andR v ks ks') (cs ++ cs') b i with
  | true =>
    rcases hj.1 h1 with h | h
    · rw [h]; simp
    · rw [h]; simp
  | false =>
    cases h2 : folB v ks cs b i with
    | true => rw [hj.2 (.inl h2)] at h1; cases h1
    | false =>
      cases h3 : folB v ks' cs' b i with
      | true => rw [hj.2 (.inr h3)] at h1; cases h1
      | false => simp
theorem orR_eq {a b : List Nat} (hb : Bs.Fit v b) : orR v a b = b ↔ ∀ i, i < v → Bs.bit a i = true → Bs.bit b i = true := by
  constructor
  · intro h i hi h1
    rw [← h, bit_orR hi, h1]; rfl
  · intro h
    refine Bs.ext (fit_orR _ _ _) hb fun i hi => ?_
    rw [bit_orR hi]
    cases h1 : Bs.bit a i with
    | true => rw [h i hi h1]; rfl
    | false => simp
end
/-- The reference's order, for valid functions of one width. -/
def refBel (v : Nat) (gs ks : List Nat) (cs : List (Int × Int)) (gs' ks' : List Nat) (cs' : List (Int × Int)) : Bool :=
  subsetB v gs v gs' && (List.range v).all fun b => subsetB v (oneR gs (folB v ks cs) v b) v (oneR gs' (folB v ks' cs') v b)
/-- The reference's order. -/
def refBelG (W : Int) (gs : List Nat) (V : Int) (ks : List Nat) (cs : List (Int × Int)) (W' : Int) (gs' : List Nat) (V' : Int) (ks' : List Nat) (cs' : List (Int × Int)) : Bool :=
  validT W gs V ks cs && validT W' gs' V' ks' cs' && decide (W = W') && refBel W.toNat gs ks cs gs' ks' cs'
section
variable {v : Nat} {gs ks gs' ks' : List Nat} {cs cs' : List (Int × Int)}
theorem refBel_iff (hv : v ≤ 256) (hg : Bs.Fit v gs) (hg' : Bs.Fit v gs') : refBel v gs ks cs gs' ks' cs' = true ↔
    (∀ i, i < v → Bs.bit gs i = true → Bs.bit gs' i = true) ∧ ∀ b, b < v → ∀ i, i < v → Bs.bit (oneR gs (folB v ks cs) v b) i = true → Bs.bit (oneR gs' (folB v ks' cs') v b) i = true := by
  unfold refBel
  simp only [Bool.and_eq_true, List.all_eq_true, List.mem_range]
  rw [subset_iff hv hg hg']
  refine and_congr Iff.rfl ⟨fun h b hb => (subset_iff hv (fit_oneR _ _ _ _) (fit_oneR _ _ _ _)).1 (h b hb), fun h b hb => (subset_iff hv (fit_oneR _ _ _ _) (fit_oneR _ _ _ _)).2 (h b hb)⟩
theorem refBel_or (hv : v ≤ 256) (hg : Bs.Fit v gs) (hg' : Bs.Fit v gs') (hk : Bs.Fit v ks) (hk' : Bs.Fit v ks') : refBel v gs ks cs gs' ks' cs' = true ↔
    orR v gs gs' = gs' ∧ ∀ b, b < v → oneR (orR v gs gs') (folB v (andR v ks ks') (cs ++ cs')) v b = oneR gs' (folB v ks' cs') v b := by
  rw [refBel_iff hv hg hg', orR_eq hg']
  refine and_congr Iff.rfl ⟨fun h b hb => ?_, fun h b hb => ?_⟩
  · rw [join_one hv hk hk' hb]; exact (orR_eq (fit_oneR _ _ _ _)).2 (h b hb)
  · have := h b hb
    rw [join_one hv hk hk' hb] at this
    exact (orR_eq (fit_oneR _ _ _ _)).1 this
theorem bel_in (hv : v ≤ 256) (hg : Bs.Fit v gs) (hk : Bs.Fit v ks) (hg' : Bs.Fit v gs') (hk' : Bs.Fit v ks') (h : validT v gs v ks cs = true) (h' : validT v gs' v ks' cs' = true) :
    belowD v gs v ks cs v gs' v ks' cs' = refBel v gs ks cs gs' ks' cs' := by
  have hin : ∀ p ∈ cs ++ cs', inW v p = true := fun p hp => (List.mem_append.1 hp).elim (inw_of h p) (inw_of h' p)
  have hJ : joinR v gs v ks cs v gs' v ks' cs' = cnR v (orR v gs gs') (andR v ks ks') (cs ++ cs') := by
    unfold joinR; rw [if_neg (by simp [h, h']), if_neg (by simp), Int.toNat_natCast]
  rw [Bool.eq_iff_iff, refBel_or hv hg hg' hk hk']
  unfold belowD
  rw [hJ]
  by_cases hl : (ord ((cs ++ cs').filter (restB v (orR v gs gs')))).length ≤ 64
  · have e : cnR v (orR v gs gs') (andR v ks ks') (cs ++ cs') = ((v : Int), orR v gs gs', killC v (orR v gs gs') (andR v ks ks') (cs ++ cs'), ord ((cs ++ cs').filter (restB v (orR v gs gs'))), 0) := by
      unfold cnR; rw [if_pos hl]
    rw [e]
    simp only [decide_true, Bool.true_and]
    rw [same_iff hv (fit_orR _ _ _) (fit_killC _ _ _ _) hg' hk' (can_valid hv (fit_orR _ _ _) _ hin hl) h']
    refine and_congr Iff.rfl ⟨fun hh b hb => ?_, fun hh b hb => ?_⟩
    · rw [← one_canon hv (fit_orR _ _ _) (fit_andR _ _ _) hb]; exact hh b hb
    · rw [one_canon hv (fit_orR _ _ _) (fit_andR _ _ _) hb]; exact hh b hb
  · have e : cnR v (orR v gs gs') (andR v ks ks') (cs ++ cs') = (0, [], [], [], 7) := by
      unfold cnR; rw [if_neg hl]
    rw [e]
    simp only [show decide ((7 : Int) = 0) = false from by decide, Bool.false_and]
    refine ⟨fun x => (by cases x), fun ⟨h1, h2⟩ => absurd ?_ hl⟩
    rw [canon_cops hv (fit_orR _ _ _) hin, h1, copsTo_congr (two := oneR gs' (folB v ks' cs') v) (fun a b ha _ => by rw [← h2 a ha, h1]), ← canon_cops hv hg' (inw_of h')]
    have := ord_len (cs'.filter (restB v gs'))
    have := List.length_filter_le (restB v gs') cs'
    have := (validT_iff h').2.2.2.1
    omega
theorem same_in (hv : v ≤ 256) (hg : Bs.Fit v gs) (hk : Bs.Fit v ks) (hg' : Bs.Fit v gs') (hk' : Bs.Fit v ks') (h : validT v gs v ks cs = true) (h' : validT v gs' v ks' cs' = true) :
    sameD v gs v ks cs v gs' v ks' cs' = (refBel v gs ks cs gs' ks' cs' && refBel v gs' ks' cs' gs ks cs) := by
  rw [Bool.eq_iff_iff, same_iff hv hg hk hg' hk' h h', Bool.and_eq_true, refBel_iff hv hg hg', refBel_iff hv hg' hg]
  constructor
  · rintro ⟨rfl, ho⟩
    exact ⟨⟨fun _ _ x => x, fun b hb i _ x => by rw [← ho b hb]; exact x⟩, fun _ _ x => x, fun b hb i _ x => by rw [ho b hb]; exact x⟩
  · rintro ⟨⟨h1, h2⟩, h3, h4⟩
    refine ⟨Bs.ext hg hg' fun i hi => Bool.eq_iff_iff.2 ⟨h1 i hi, h3 i hi⟩, fun b hb => Bs.ext (fit_oneR _ _ _ _) (fit_oneR _ _ _ _) fun i hi => Bool.eq_iff_iff.2 ⟨h2 b hb i hi, h4 b hb i hi⟩⟩
end
section
variable {W V W' V' : Int} {gs ks gs' ks' : List Nat} {cs cs' : List (Int × Int)}
theorem same_wide (hne : W ≠ W') : sameD W gs V ks cs W' gs' V' ks' cs' = false := by
  unfold sameD
  cases h : validT W gs V ks cs with
  | false => rfl
  | true =>
    cases h' : validT W' gs' V' ks' cs' with
    | false => rfl
    | true =>
      have e1 : (canR W gs V ks cs).1 = W := by unfold canR; rw [if_neg (by simp [h])]
      have e2 : (canR W' gs' V' ks' cs').1 = W' := by unfold canR; rw [if_neg (by simp [h'])]
      unfold equal2 equalB sameB
      rw [e1, e2]
      simp [hne]
theorem bel_eq (hg : ∀ x ∈ gs, x < Bs.W64) (hk : ∀ x ∈ ks, x < Bs.W64) (hg' : ∀ x ∈ gs', x < Bs.W64) (hk' : ∀ x ∈ ks', x < Bs.W64) :
    belowD W gs V ks cs W' gs' V' ks' cs' = refBelG W gs V ks cs W' gs' V' ks' cs' := by
  unfold refBelG
  cases h : validT W gs V ks cs with
  | false => unfold belowD joinR; rw [if_pos (.inl h)]; rfl
  | true =>
    cases h' : validT W' gs' V' ks' cs' with
    | false => unfold belowD joinR; rw [if_pos (.inr h')]; rfl
    | true =>
      by_cases hne : W = W'
      · subst hne
        obtain ⟨a1, a2, rfl, _⟩ := validT_iff h
        obtain ⟨b1, b2, rfl, _⟩ := validT_iff h'
        obtain ⟨v, rfl⟩ := Int.eq_ofNat_of_zero_le (Bs.validB_iff.1 a1).1
        have hv : v ≤ 256 := by have := (Bs.validB_iff.1 a1).2.1; omega
        have f := fun {ws : List Nat} (x : Bs.validB v ws = true) (o : ∀ y ∈ ws, y < Bs.W64) => show Bs.Fit v ws from by have := Bs.fit_of_valid x o; rwa [Int.toNat_natCast] at this
        rw [bel_in hv (f a1 hg) (f a2 hk) (f b1 hg') (f b2 hk') h h']
        simp
      · unfold belowD joinR
        rw [if_neg (by simp [h, h']), if_pos hne]
        simp [hne]
theorem same_eq (hg : ∀ x ∈ gs, x < Bs.W64) (hk : ∀ x ∈ ks, x < Bs.W64) (hg' : ∀ x ∈ gs', x < Bs.W64) (hk' : ∀ x ∈ ks', x < Bs.W64) :
    sameD W gs V ks cs W' gs' V' ks' cs' = (refBelG W gs V ks cs W' gs' V' ks' cs' && refBelG W' gs' V' ks' cs' W gs V ks cs) := by
  unfold refBelG
  cases h : validT W gs V ks cs with
  | false => unfold sameD; rw [h]; rfl
  | true =>
    cases h' : validT W' gs' V' ks' cs' with
    | false => unfold sameD; rw [h, h']; rfl
    | true =>
      by_cases hne : W = W'
      · subst hne
        obtain ⟨a1, a2, rfl, _⟩ := validT_iff h
        obtain ⟨b1, b2, rfl, _⟩ := validT_iff h'
        obtain ⟨v, rfl⟩ := Int.eq_ofNat_of_zero_le (Bs.validB_iff.1 a1).1
        have hv : v ≤ 256 := by have := (Bs.validB_iff.1 a1).2.1; omega
        have f := fun {ws : List Nat} (x : Bs.validB v ws = true) (o : ∀ y ∈ ws, y < Bs.W64) => show Bs.Fit v ws from by have := Bs.fit_of_valid x o; rwa [Int.toNat_natCast] at this
        rw [same_in hv (f a1 hg) (f a2 hk) (f b1 hg') (f b2 hk') h h']
        simp
      · rw [same_wide hne]
        simp [hne]
end

/-- The least set that contains ss and the function's value for itself. -/
def clo (v : Nat) (gs : List Nat) (f : Int → Int → Bool) (ss : List Nat) : List Nat := lst v (orR v ss gs) f
section
variable {v : Nat} {gs ss : List Nat} {f : Int → Int → Bool}
theorem fit_clo (v : Nat) (gs : List Nat) (f : Int → Int → Bool) (ss : List Nat) : Bs.Fit v (clo v gs f ss) := fit_lst (fit_orR _ _ _) f
theorem clo_above {i : Nat} (hi : i < v) (h : Bs.bit ss i = true) : Bs.bit (clo v gs f ss) i = true := by
  have := lst_fix (fit_orR v ss gs) f
  unfold clo
  rw [← this, bit_valR_iff hi, bit_orR hi, h]; exact .inl rfl
theorem clo_closed {i : Nat} (hi : i < v) (h : Bs.bit (valR gs (clo v gs f ss) f v) i = true) : Bs.bit (clo v gs f ss) i = true := by
  have e := lst_fix (fit_orR v ss gs) f
  unfold clo at h ⊢
  rw [← e, bit_valR_iff hi, bit_orR hi]
  rcases (bit_valR_iff hi).1 h with h1 | h1
  · exact .inl (by rw [h1]; simp)
  · exact .inr h1
theorem clo_least {ts : List Nat} (h1 : ∀ i, i < v → Bs.bit ss i = true → Bs.bit ts i = true) (h2 : ∀ i, i < v → Bs.bit (valR gs ts f v) i = true → Bs.bit ts i = true) {i : Nat} (h : Bs.bit (clo v gs f ss) i = true) : Bs.bit ts i = true := by
  have hlt : ∀ (xs : List Nat), Bs.Fit v xs → ∀ j, Bs.bit xs j = true → j < v := fun xs hx j hj => by
    refine Classical.byContradiction fun hn => ?_
    rw [hx.hi j (by omega)] at hj; cases hj
  refine lst_least (W := v) (gs := orR v ss gs) (f := f) (fun j hj => ?_) (fun j hj => ?_) i h
  · have hjv := hlt _ (fit_orR _ _ _) j hj
    rw [bit_orR hjv] at hj
    rcases Bool.or_eq_true _ _ ▸ hj with h3 | h3
    · exact h1 j hjv h3
    · exact h2 j hjv ((bit_valR_iff hjv).2 (.inl h3))
  · have hjv := hlt _ (fit_valR _ _ _ _) j hj
    rcases (bit_valR_iff hjv).1 hj with h3 | h3
    · rw [bit_orR hjv] at h3
      rcases Bool.or_eq_true _ _ ▸ h3 with h4 | h4
      · exact h1 j hjv h4
      · exact h2 j hjv ((bit_valR_iff hjv).2 (.inl h4))
    · exact h2 j hjv ((bit_valR_iff hjv).2 (.inr h3))
theorem clo_eq {ts : List Nat} (hf : Bs.Fit v ts) (h1 : ∀ i, i < v → Bs.bit ss i = true → Bs.bit ts i = true) (h2 : ∀ i, i < v → Bs.bit (valR gs ts f v) i = true → Bs.bit ts i = true) (h3 : ∀ i, i < v → Bs.bit ts i = true → Bs.bit (clo v gs f ss) i = true) : clo v gs f ss = ts :=
  Bs.ext (fit_clo _ _ _ _) hf fun i hi => Bool.eq_iff_iff.2 ⟨clo_least h1 h2, h3 i hi⟩
theorem clo_emp (hg : Bs.Fit v gs) : clo v gs f (Bs.emp v) = lst v gs f := by
  unfold clo
  rw [(orR_eq hg).2 (fun i _ h => by rw [Bs.bit_emp] at h; cases h)]
end
/-- The end of the composing where it is full. -/
theorem sqN_full {v : Nat} {G : List Nat} : ∀ (N : Nat) (cs : List (Int × Int)), SqI v G cs → sqN v G N cs = (0, [], [], [], 7) → cs.length ≤ 64 → 65 ≤ cs.length + N →
    ∃ ds, SqI v G ds ∧ 64 < ds.length ∧ ∀ T : Int → Prop, (∀ p ∈ cs, T p.1 → T p.2) → ∀ p ∈ ds, T p.1 → T p.2 := by
  intro N
  induction N with
  | zero => intro cs _ _ h1 h2; omega
  | succ N ih =>
    intro cs hI he hl hN
    rw [sqN_succ] at he
    by_cases h64 : 64 < (sqC v G cs).length
    · exact ⟨_, hI.next, h64, fun T hT => sqC_keeps T hT⟩
    · rw [if_neg h64] at he
      by_cases hc : sqC v G cs = cs
      · rw [if_pos hc] at he
        have := congrArg (fun r => r.2.2.2.2) he
        simp at this
      · rw [if_neg hc] at he
        have hm := hI.more hc
        obtain ⟨ds, h1, h2, h3⟩ := ih (sqC v G cs) hI.next he (by omega) (by omega)
        exact ⟨ds, h1, h2, fun T hT => h3 T (sqC_keeps T hT)⟩
theorem sub_len : ∀ {l m : List (Int × Int)}, Asc l → Asc m → (∀ x ∈ l, x ∈ m) → l.length ≤ m.length := by
  intro l m h1 h2 hs
  have e : l = m.filter fun x => decide (x ∈ l) := asc_unique h1 (h2.filter _) fun x => by
    rw [List.mem_filter]
    exact ⟨fun hx => ⟨hs x hx, by simpa using hx⟩, fun hx => by simpa using hx.2⟩
  rw [e]
  exact List.length_filter_le _ _
section
variable {v : Nat} {gs ks : List Nat} {cs : List (Int × Int)}
theorem clo_way (hv : v ≤ 256) (hin : ∀ p ∈ cs, inW v p = true) (ss : List Nat) : ∀ p ∈ strC v gs ks cs, (fun a => ∃ j : Nat, a = (j : Int) ∧ j < v ∧ Bs.bit (clo v gs (folB v ks cs) ss) j = true) p.1 → (fun a => ∃ j : Nat, a = (j : Int) ∧ j < v ∧ Bs.bit (clo v gs (folB v ks cs) ss) j = true) p.2 := by
  intro p hp
  rintro ⟨j, hj, hjv, h4⟩
  have hpc := (mem_rest.1 hp).1
  have hw := inW_pair.1 (hin p hpc)
  obtain ⟨a, b⟩ := p
  simp only at hj hw ⊢
  obtain ⟨z, rfl⟩ := Int.eq_ofNat_of_zero_le hw.2.1
  have hz : z < v := by omega
  subst hj
  exact ⟨z, rfl, hz, clo_closed hz ((bit_valR_iff hz).2 (.inr ⟨j, hjv, h4, folB_iff.2 (.inr hpc)⟩))⟩
theorem bit_single {b i : Nat} (hb : b < v) : Bs.bit (Bs.put (Bs.emp v) b) i = decide (i = b) := by
  rw [Bs.bit_put _ _ _ (by rw [len_emp]; exact Bs.lt_nw hb), Bs.bit_emp]; simp
/-- P3.6, as the reference says it. -/
theorem star_made (hv : v ≤ 256) (hg : Bs.Fit v gs) (hk : Bs.Fit v ks) (h : validT v gs v ks cs = true) :
    starR v gs v ks cs = madeR v (clo v gs (folB v ks cs) (Bs.emp v)) (fun b => clo v gs (folB v ks cs) (Bs.put (Bs.emp v) b)) := by
  have hin := inw_of h
  have hl := (validT_iff h).2.2.2.1
  have hI := str_start (ks := ks) hg hv hin
  have hR : starR v gs v ks cs = sqN v (strG v gs ks cs) 65 (strC v gs ks cs) := by
    unfold starR
    rw [if_neg (by simp [h]), Int.toNat_natCast]
  have hG : clo v gs (folB v ks cs) (Bs.emp v) = strG v gs ks cs := clo_emp hg
  rw [hR, hG]
  rcases sqN_spec 65 _ hI (str_len hl) (by omega) with he | ⟨ds, h1, h2, h3, h4, h5, h6⟩
  · rw [he]
    obtain ⟨ds, h1, h2, h3⟩ := sqN_full 65 _ hI he (str_len hl) (by omega)
    have hsub : ∀ x ∈ ds, x ∈ copsTo (strG v gs ks cs) (fun b => clo v gs (folB v ks cs) (Bs.put (Bs.emp v) b)) v v := by
      rintro ⟨a, b⟩ hp
      have hw := inW_pair.1 (h1.inw _ hp)
      obtain ⟨o1, o2, o3⟩ := h1.out _ hp
      simp only at hw o1 o2 o3
      obtain ⟨x, rfl⟩ := Int.eq_ofNat_of_zero_le hw.1.1
      obtain ⟨y, rfl⟩ := Int.eq_ofNat_of_zero_le hw.2.1
      have hx : x < v := by omega
      have hy : y < v := by omega
      refine (mem_copsTo _ _ _ _ _).2 ⟨x, y, hx, hy, ?_, rfl⟩
      have hT := h3 (fun a => ∃ j : Nat, a = (j : Int) ∧ j < v ∧ Bs.bit (clo v gs (folB v ks cs) (Bs.put (Bs.emp v) x)) j = true) (clo_way (gs := gs) (ks := ks) hv hin (Bs.put (Bs.emp v) x)) _ hp ⟨x, rfl, hx, clo_above hx (by rw [bit_single hx]; simp)⟩
      obtain ⟨z, hz, _, hb⟩ := hT
      have e : y = z := by simp only at hz; omega
      subst e
      rw [Bs.hasB_nat h1.fit hv] at o2
      unfold copyB
      rw [hb, o2]
      simp; omega
    have := sub_len h1.asc (asc_copsTo _ _ _ _) hsub
    unfold madeR
    rw [if_neg (by omega)]
  · rw [h1]
    have hone : ∀ b, b < v → clo v gs (folB v ks cs) (Bs.put (Bs.emp v) b) = oneR (strG v gs ks cs) (folB v (strG v gs ks cs) ds) v b := fun b hb => by
      rw [← valR_one _ _ hb]
      exact clo_eq (fit_valR _ _ _ _) (fun i hi => star_above h2 _ hi) (fun i hi => star_closed hg h2 h4 h5 _ hi)
        (fun i hi hx => star_least h2 hin h6 _ _ (fun j hj => clo_above hj) hg (fun j hj => clo_closed hj) hi hx)
    rw [madeR_congr (two := oneR (strG v gs ks cs) (folB v (strG v gs ks cs) ds) v) (fun a b ha _ => by rw [hone a ha]), ← cnR_made hv h2.fit h2.fit h2.inw]
    have e1 : ord (ds.filter (restB v (strG v gs ks cs))) = ds := by
      refine asc_unique (ord_spec _).2 h2.asc fun x => ?_
      rw [mem_rest]
      refine ⟨fun hx => hx.1, fun hx => ⟨hx, ?_⟩⟩
      have := h2.out x hx
      unfold restB
      simp [this.2.1, this.2.2]
    unfold cnR
    rw [e1, if_pos h3, killC_self h2.fit _ (fun _ x => x)]
end
end Go.Proofs.Ytmbelhdkaepohaa

namespace Go.Proofs.Ytmbelhdkaepohaa
set_option maxRecDepth 20000
set_option linter.unusedVariables false
set_option linter.unusedSimpArgs false
open Go.ChangeShapes Go.WideShapes Go.ChangeAt Go.RowKit

set_option maxHeartbeats 800000 in
theorem refTwo_any (W V : Int) (A B C : Option Addr) (n c m d k q : Nat) (gs ks : List Nat) (cs : List (Int × Int)) (W' V' : Int) (A' B' C' : Option Addr) (n' c' m' d' k' q' : Nat) (gs' ks' : List Nat) (cs' : List (Int × Int)) (w : World)
    (hF : FArg w A n B m C k gs ks cs) (hG : FArg w A' n' B' m' C' k' gs' ks' cs') :
    Calls Try.prog 50 #[.agg #[.int .i64 W, .slice A n c, .int .i64 V, .slice B m d, .slice C k q], .agg #[.int .i64 W', .slice A' n' c', .int .i64 V', .slice B' m' d', .slice C' k' q']] w
      fun e w' => e = .returned (.int .i64 (checkR (validT W gs V ks cs) (validT W' gs' V' ks' cs') W W')) ∧ Below w.heap.size w w' := by
  have HF := hid hF; have HG := hid hG
  have H0 := hid (TwoT.start w W V A B C n c m d k q W' V' A' B' C' n' c' m' d' k' q')
  clear hF hG
  go_enter Try.func50, Try.ntmps50
  go_wp2_with fail
  have HF0 := hid (HF.out.below H0.out.2.2)
  refine (refValidT_any W V A B C n c m d k q gs ks cs _ HF0.out.gen HF0.out.kill HF0.out.cops).mono ?_
  cases hv : validT W gs V ks cs with
  | false =>
    have Hr := hid (show checkR (validT W gs V ks cs) (validT W' gs' V' ks' cs') W W' = 1 by rw [hv]; unfold checkR; simp)
    rintro e w1 ⟨rfl, hb1⟩
    have H1 := hid (H0.out.below hb1)
    clear hb1 hv HF0
    go_wp2
    go_ret
    exact ⟨ret_int Hr.out.symm, H1.out.2.2⟩
  | true =>
    have Hv := hid hv
    rintro e w1 ⟨rfl, hb1⟩
    have H1 := hid (H0.out.below hb1)
    clear hb1 hv HF0
    obtain ⟨t0, t1, t2, t3, t4⟩ := H1.out.2.1.five
    have HG1 := hid (HG.out.below H1.out.2.2)
    go_wp2_with fail
    refine (refValidT_any W' V' A' B' C' n' c' m' d' k' q' gs' ks' cs' _ HG1.out.gen HG1.out.kill HG1.out.cops).mono ?_
    cases hv2 : validT W' gs' V' ks' cs' with
    | false =>
      have Hr := hid (show checkR (validT W gs V ks cs) (validT W' gs' V' ks' cs') W W' = 1 by rw [Hv.out, hv2]; unfold checkR; simp)
      rintro e w2 ⟨rfl, hb2⟩
      have H2 := hid (H1.out.below hb2)
      clear hb2 hv2 HG1 t0 t1 t2 t3 t4
      go_wp2
      go_ret
      exact ⟨ret_int Hr.out.symm, H2.out.2.2⟩
    | true =>
      have Hv2 := hid hv2
      rintro e w2 ⟨rfl, hb2⟩
      have H2 := hid (H1.out.below hb2)
      clear hb2 hv2 HG1 t0 t1 t2 t3 t4
      obtain ⟨t0, t1, t2, t3, t4⟩ := H2.out.2.1.five
      obtain ⟨s0, s1, s2, s3, s4⟩ := H2.out.1.five
      by_cases hw : W = W'
      · have Hr := hid (show checkR (validT W gs V ks cs) (validT W' gs' V' ks' cs') W W' = 0 by rw [Hv.out, Hv2.out]; unfold checkR; simp [hw])
        have tt : (W != W') = false := by simp [hw]
        clear hw
        go_wp2
        go_ret
        exact ⟨ret_int Hr.out.symm, H2.out.2.2⟩
      · have Hr := hid (show checkR (validT W gs V ks cs) (validT W' gs' V' ks' cs') W W' = 2 by rw [Hv.out, Hv2.out]; unfold checkR; simp [hw])
        have tt : (W != W') = true := by simp [hw]
        clear hw
        go_wp2
        go_ret
        exact ⟨ret_int Hr.out.symm, H2.out.2.2⟩
theorem RetT.alloc {w w' : World} {W : Int} {gs ks : List Nat} {cs : List (Int × Int)} {err : Int} {e : Ending} (h : RetT w W gs ks cs err e w') (o : Obj) : RetT w W gs ks cs err e (w'.alloc o) := by
  obtain ⟨A, n, c, B, m, d, C, q, h1, h2, h3, h4, h5⟩ := h
  exact ⟨A, n, c, B, m, d, C, q, h1, h2.alloc o, h3.alloc o, h4.alloc o, h5.alloc h5.size o⟩
set_option maxHeartbeats 800000 in
theorem refMade_any (W : Nat) (Z A : Option Addr) (n c d : Nat) (zs : List Nat) (one : Nat → List Nat) (w : World)
    (hZ : Arg w Z n zs) (hO : ArgO w W A W one) (hW : W ≤ 256) (hz : Bs.Fit W zs) (ho : ∀ i, i < W → Bs.Fit W (one i)) :
    Calls Try.prog 40 #[.agg #[.int .i64 W, .slice Z n c, .slice A W d]] w (RetR w (madeR W zs one)) := by
  have HZ := hid hZ; have HO := hid hO; have Hz := hid hz; have Ho := hid ho
  have hR := Fb.new (w.alloc (.cells #[.int .i64 W, .slice Z n c, .slice A W d] 53)) #[.int .i64 0, .slice none 0 0, .int .i64 0, .slice none 0 0, .slice none 0 0] 28
  have hb := ((Below.refl w.heap.size w).alloc (Nat.le_refl _) (.cells #[.int .i64 W, .slice Z n c, .slice A W d] 53)).alloc (by simp) (.cells #[.int .i64 0, .slice none 0 0, .int .i64 0, .slice none 0 0, .slice none 0 0] 28)
  rw [World.size_alloc] at hR
  have HR := hid hR; have Hb := hid hb
  clear hZ hO hz ho hR hb
  go_enter Try.func40, Try.ntmps40
  go_wp2_with fail
  generalize (w.alloc (.cells #[.int .i64 W, .slice Z n c, .slice A W d] 53)).alloc (.cells #[.int .i64 0, .slice none 0 0, .int .i64 0, .slice none 0 0, .slice none 0 0] 28) = w1 at *
  refine (refFunction_any W Z A n c d zs one _ (HZ.out.below Hb.out) (HO.out.below Hb.out) hW Hz.out Ho.out).mono ?_
  by_cases hl : (copsTo zs one W W).length ≤ 64
  · have Hr := hid (show madeR W zs one = ((W : Int), zs, killTo zs one W W, copsTo zs one W W, 0) by unfold madeR; rw [if_pos hl])
    rw [decide_eq_true hl]
    clear hl
    generalize copsTo zs one W W = cs at *
    generalize killTo zs one W W = ks at *
    rintro e w2 ⟨B, m, d2, C, q, rfl, hB, hC, hb2⟩
    have hz1 := (HR.out.below hb2 HR.out.lt).lt
    have hb3 := hb2.alloc hb2.size (.cells #[.int .i64 W, .slice Z n c, .int .i64 W, .slice B m d2, .slice C cs.length q] 28)
    have HZ3 := hid ((HZ.out.below Hb.out).below hb3)
    have HB3 := hid (hB.alloc (.cells #[.int .i64 W, .slice Z n c, .int .i64 W, .slice B m d2, .slice C cs.length q] 28))
    have HC3 := hid (hC.alloc (.cells #[.int .i64 W, .slice Z n c, .int .i64 W, .slice B m d2, .slice C cs.length q] 28))
    have HR3 := hid (HR.out.below hb3 HR.out.lt)
    have HT3 := hid (Fb.new w2 #[.int .i64 W, .slice Z n c, .int .i64 W, .slice B m d2, .slice C cs.length q] 28)
    have Hb3 := hid (below_step Hb.out hb3)
    clear hB hC hb2 hb3
    go_upto_region 4 with fail
    generalize w2.alloc (.cells #[.int .i64 W, .slice Z n c, .int .i64 W, .slice B m d2, .slice C cs.length q] 28) = w3 at *
    generalize w2.heap.size = b3 at *
    obtain ⟨t0, t1, t2, t3, t4⟩ := HT3.out.five
    obtain ⟨r0, r1, r2, r3, r4⟩ := HR3.out.five
    have f0 := HR3.out.frozen 0
    have f1 := HR3.out.frozen 1
    have f2 := HR3.out.frozen 2
    have f3 := HR3.out.frozen 3
    have f4 := HR3.out.frozen 4
    have hlR := HR3.out.lt
    have Fin := hid (RetT.stored (w := w) (err := 0) (c := c) (d := d2) (q := q) (W := W) HZ3.out HB3.out HC3.out Hb3.out (by omega) HR3.out)
    unfold stored5 at Fin
    go_wp2_with fail
    refine bodyPost_ret (v := .tuple #[.agg #[.int .i64 W, .slice Z n c, .int .i64 W, .slice B m d2, .slice C cs.length q], .int .i64 0]) (by simp [results, Try.results40, go_sem, r0, r1, r2, r3, r4]) rfl ?_
    rw [Hr.out]
    exact Fin.out
  · have Hr := hid (show madeR W zs one = (0, [], [], [], 7) by unfold madeR; rw [if_neg hl])
    rw [decide_eq_false hl]
    clear hl
    generalize copsTo zs one W W = cs at *
    generalize killTo zs one W W = ks at *
    rintro e w2 ⟨B, m, d2, C, q, rfl, hB, hC, hb2⟩
    have hb3 := hb2.alloc hb2.size (.cells #[.int .i64 W, .slice Z n c, .int .i64 W, .slice B m d2, .slice C cs.length q] 28)
    have HR3 := hid (HR.out.below hb3 HR.out.lt)
    have Hb3 := hid (below_step Hb.out hb3)
    clear hB hC hb2 hb3
    go_upto_region 3 with fail
    generalize w2.alloc (.cells #[.int .i64 W, .slice Z n c, .int .i64 W, .slice B m d2, .slice C cs.length q] 28) = w3 at *
    generalize w2.heap.size = b3 at *
    obtain ⟨r0, r1, r2, r3, r4⟩ := HR3.out.five
    have f0 := HR3.out.frozen 0
    have f1 := HR3.out.frozen 1
    have f2 := HR3.out.frozen 2
    have f3 := HR3.out.frozen 3
    have f4 := HR3.out.frozen 4
    have hlR := HR3.out.lt
    have Fin := hid (RetT.stored (w := w) (err := 7) (c := 0) (d := 0) (q := 0) (cs := []) (C := none) (Arg.nil w3 none) (Arg.nil w3 none) ⟨.inl rfl, rfl⟩ Hb3.out (by omega) HR3.out (W := 0))
    unfold stored5 at Fin
    go_wp2_with fail
    refine bodyPost_ret (v := .tuple #[.agg #[.int .i64 0, .slice none 0 0, .int .i64 0, .slice none 0 0, .slice none 0 0], .int .i64 7]) (by simp [results, Try.results40, go_sem, r0, r1, r2, r3, r4]) rfl ?_
    rw [Hr.out]
    exact Fin.out
end Go.Proofs.Ytmbelhdkaepohaa

namespace Go.Proofs.Ytmbelhdkaepohaa
set_option maxRecDepth 20000
set_option linter.unusedVariables false
set_option linter.unusedSimpArgs false
open Go.ChangeShapes Go.WideShapes Go.ChangeAt Go.RowKit

theorem own_not_fb {w : World} {base k n g t : Nat} {ty : TypeId} {v : Value} {xs : List Value} {cs : Array Value} (hty : ty ≠ t) (h : w.ownsRow base ty k v n xs) (hf : Fb w g cs t) : v.ownBlock ≠ some g := by
  rcases h.2 with ⟨rfl, _⟩ | ⟨g', cap, cur, rfl, _, hg, _⟩
  · simp [Value.ownBlock]
  · intro e
    simp only [Value.ownBlock, Option.some.injEq] at e
    subst e
    unfold Fb at hf
    rw [hf] at hg
    injection hg with hg
    injection hg with _ hg
    exact hty hg.symm
theorem own_lower {w : World} {base base' k n : Nat} {ty : TypeId} {v : Value} {xs : List Value} (h : w.ownsRow base ty k v n xs) (hb : base' ≤ base) : w.ownsRow base' ty k v n xs := by
  obtain ⟨h1, h2⟩ := h
  refine ⟨h1, h2.imp id ?_⟩
  rintro ⟨g, cap, cur, e1, e2, rest⟩
  exact ⟨g, cap, cur, e1, Nat.le_trans hb e2, rest⟩
section
variable {w w' : World} {base B0 : Nat} {W : Int} {v : Value} {one : Nat → List Nat} {n : Nat}
theorem Ones.lower {base' : Nat} (h : Ones w base B0 W v one n) (hb : base' ≤ base) : Ones w base' B0 W v one n := by
  obtain ⟨l, h1, h2, h3⟩ := h
  exact ⟨l, h1, own_lower h2 hb, h3⟩
/-- A table's variable is written: the rows of sets stay. -/
theorem Ones.box {g t : Nat} {cs : Array Value} (h : Ones w base B0 W v one n) (hf : Fb w g cs t) (ht : t ≠ 66) (hs : 25 ≠ t) (hg : B0 ≤ g) (hB : B0 ≤ w.heap.size) (j : Nat) (u : Value) : Ones (w.setCell ⟨g, j, none⟩ u) base B0 W v one n := by
  obtain ⟨l, h1, h2, h3⟩ := h
  have hgr := setCell_grown w ⟨g, j, none⟩ u
  exact ⟨l, h1, h2.kept hgr (.inr (own_not_fb hs h2 hf)), fun i p hp => ⟨(h3 i p hp).1.grown hgr hB (fun k hk => by simp only [Option.some.injEq] at hk; omega) (fun k hr => by have := hf.row_ne ht hr; simpa using this), (h3 i p hp).2⟩⟩
/-- Another row of sets is written. -/
theorem Ones.other {g : Nat} {base2 k2 n2 : Nat} {v2 : Value} {xs2 : List Value} (h : Ones w base B0 W v one n) (h2 : w.ownsRow base2 25 k2 v2 n2 xs2) (hg2 : v2.ownBlock = some g) (hne : v.ownBlock ≠ some g) (hg : B0 ≤ g) (hB : B0 ≤ w.heap.size) (j : Nat) (u : Value) : Ones (w.setCell ⟨g, j, none⟩ u) base B0 W v one n := by
  obtain ⟨l, h1, h3, h4⟩ := h
  have hgr := setCell_grown w ⟨g, j, none⟩ u
  exact ⟨l, h1, h3.kept hgr (.inr hne), fun i p hp => ⟨(h4 i p hp).1.grown hgr hB (fun k hk => by simp only [Option.some.injEq] at hk; omega) (fun k hr => by have := own_not_row (by decide) h2 hr; rw [hg2] at this; simpa using this), (h4 i p hp).2⟩⟩
theorem From.other {A : Option Addr} {zs : List Nat} {g : Nat} {base2 k2 n2 : Nat} {v2 : Value} {xs2 : List Value} (h : From w B0 A zs) (h2 : w.ownsRow base2 25 k2 v2 n2 xs2) (hg2 : v2.ownBlock = some g) (hg : B0 ≤ g) (hB : B0 ≤ w.heap.size) (j : Nat) (u : Value) : From (w.setCell ⟨g, j, none⟩ u) B0 A zs :=
  h.grown (setCell_grown w ⟨g, j, none⟩ u) hB (fun k hk => by simp only [Option.some.injEq] at hk; omega) (fun k hr => by have := own_not_row (by decide) h2 hr; rw [hg2] at this; simpa using this)
theorem From.box {A : Option Addr} {zs : List Nat} {g t : Nat} {cs : Array Value} (h : From w B0 A zs) (hf : Fb w g cs t) (ht : t ≠ 66) (hg : B0 ≤ g) (hB : B0 ≤ w.heap.size) (j : Nat) (u : Value) : From (w.setCell ⟨g, j, none⟩ u) B0 A zs :=
  h.grown (setCell_grown w ⟨g, j, none⟩ u) hB (fun k hk => by simp only [Option.some.injEq] at hk; omega) (fun k hr => by have := hf.row_ne ht hr; simpa using this)
end
def upd1 (one : Nat → List Nat) (b : Nat) (ws : List Nat) : Nat → List Nat := fun i => if i = b then ws else one i
theorem setCells_set (W : Int) (l : List (Option Addr × Nat × Nat)) (b : Nat) (p : Option Addr × Nat × Nat) (hb : b < l.length) : ((setCells W l).set (b * 2) (.int .i64 W)).set (b * 2 + 1) (.slice p.1 p.2.1 p.2.2) = setCells W (l.set b p) := by
  induction l generalizing b with
  | nil => simp at hb
  | cons q l ih =>
    have e : setCells W (q :: l) = .int .i64 W :: .slice q.1 q.2.1 q.2.2 :: setCells W l := by simp [setCells]
    cases b with
    | zero => rw [e]; simp [setCells]
    | succ b =>
      have := ih b (by simpa using hb)
      rw [e, show (b + 1) * 2 = b * 2 + 1 + 1 by omega]
      simp only [List.set_cons_succ]
      rw [this]
      simp [setCells]
/-- An element of a row of sets is written. -/
theorem Ones.put {w : World} {base B0 W : Nat} {A : Option Addr} {one : Nat → List Nat} {n c b : Nat} {ws : List Nat} {A9 : Option Addr} {m9 c9 : Nat} (h : Ones w base B0 W (.slice A n c) one n) (hb : b < n) (hr : From w B0 A9 ws) (hm : m9 = ws.length) (hB : B0 ≤ base) :
    ∃ ad : Addr, A = some ad ∧ ad.block < w.heap.size ∧ base ≤ ad.block ∧ (Value.slice A n c).ownBlock = some ad.block ∧
      (∃ (B : Option Addr) (m d : Nat), w.cell? (ad.add (b * 2)) = some (.int .i64 W) ∧ w.cell? ⟨(ad.add (b * 2)).block, (ad.add (b * 2)).off + 1, none⟩ = some (.slice B m d) ∧ From w B0 B (one b) ∧ m = (one b).length) ∧
      w.frozen? (ad.add (b * 2)) = false ∧ w.frozen? ⟨(ad.add (b * 2)).block, (ad.add (b * 2)).off + 1, none⟩ = false ∧
      (∃ xs, w.ownsRow base 25 2 (.slice A n c) n xs) ∧
      Ones ((w.setCell (ad.add (b * 2)) (.int .i64 W)).setCell ⟨(ad.add (b * 2)).block, (ad.add (b * 2)).off + 1, none⟩ (.slice A9 m9 c9)) base B0 W (.slice A n c) (upd1 one b ws) n := by
  obtain ⟨l, h1, h2, h3⟩ := h
  have hbl : b < l.length := by omega
  rcases h2.2 with ⟨e, h0⟩ | ⟨g, cap, cur, e, hbase, hg, _⟩
  · omega
  · injection e with e1 _ e3
    subst e1
    have hlt := (Array.getElem?_eq_some_iff.1 hg).1
    have hget : l[b]? = some (l[b]'hbl) := List.getElem?_eq_getElem _
    obtain ⟨c0, c1⟩ := setCells_get (W := (W : Int)) hget
    have k0 := h2.cellAt (b * 2) (by omega)
    have k1 := h2.cellAt (b * 2 + 1) (by omega)
    rw [c0] at k0
    rw [c1] at k1
    have ea : (⟨g, 0, none⟩ : Addr).add (b * 2) = ⟨g, b * 2, none⟩ := add_of g (b * 2)
    refine ⟨⟨g, 0, none⟩, rfl, hlt, hbase, rfl, ⟨_, _, _, by rw [ea]; exact k0, by rw [ea]; exact k1, (h3 b _ hget).1, (h3 b _ hget).2⟩, by rw [ea]; exact h2.frozenAt _, by rw [ea]; exact h2.frozenAt _, ⟨_, h2⟩, ?_⟩
    rw [ea]
    obtain ⟨s1, g1⟩ := h2.stored (b * 2) (.int .i64 (W : Int))
    obtain ⟨s2, g2⟩ := s1.stored (b * 2 + 1) (.slice A9 m9 c9)
    rw [setCells_set (W : Int) l b (A9, m9, c9) hbl] at s2
    have hB2 : B0 ≤ w.heap.size := by omega
    have key : ∀ A zs, From w B0 A zs → From ((w.setCell ⟨g, b * 2, none⟩ (.int .i64 W)).setCell ⟨g, b * 2 + 1, none⟩ (.slice A9 m9 c9)) B0 A zs := fun A zs hf =>
      (hf.other h2 rfl (Nat.le_trans hB hbase) hB2 _ _).other s1 rfl (Nat.le_trans hB hbase) (by simpa [World.setCell] using hB2) _ _
    refine ⟨l.set b (A9, m9, c9), by simp [h1], s2, fun i p hp => ?_⟩
    rw [List.getElem?_set] at hp
    by_cases ei : b = i
    · rw [if_pos ei, if_pos (by omega)] at hp
      obtain rfl := Option.some.inj hp
      subst ei
      simp only [upd1, if_true]
      exact ⟨key _ _ hr, hm⟩
    · rw [if_neg ei] at hp
      have : upd1 one b ws i = one i := by simp [upd1, show ¬ i = b from fun e => ei e.symm]
      rw [this]
      exact ⟨key _ _ (h3 i p hp).1, (h3 i p hp).2⟩
theorem upd1_step (one two : Nat → List Nat) (b : Nat) : upd1 (fun i => if i < b then two i else one i) b (two b) = fun i => if i < b + 1 then two i else one i := by
  funext i
  unfold upd1
  by_cases h1 : i = b
  · subst h1; simp
  · by_cases h2 : i < b
    · simp [h1, h2, show i < b + 1 by omega]
    · simp [h1, h2, show ¬ i < b + 1 by omega]

/-- The value of a table. -/
def tabv (W : Nat) (A : Option Addr) (n c : Nat) (A1 : Option Addr) (c1 : Nat) : Value := .agg #[.int .i64 W, .slice A n c, .slice A1 W c1]
/-- While two tables are made and put into two new variables. -/
structure I4 (w5 : World) (B0 W : Nat) (fv gv : Value) (A : Option Addr) (n c : Nat) (one1 : Nat → List Nat) (A' : Option Addr) (n' c' : Nat) (one2 : Nat → List Nat) (L : Nat → Bool) (f : Nat → Value) (v : World) : Prop where
  b0 : B0 ≤ w5.heap.size
  bel : Below w5.heap.size w5 v
  l0 : L 0 = true → f 0 = fv
  l2 : L 2 = true → f 2 = gv
  t1 : L 1 = true → ∃ A1 c1, f 1 = tabv W A n c A1 c1 ∧ Ones v w5.heap.size B0 W (.slice A1 W c1) one1 W
  t3 : L 3 = true → L 1 = true ∧ ∃ A1 c1 A2 c2, f 1 = tabv W A n c A1 c1 ∧ f 3 = tabv W A' n' c' A2 c2 ∧ Ones v w5.heap.size B0 W (.slice A1 W c1) one1 W ∧ Ones v w5.heap.size B0 W (.slice A2 W c2) one2 W ∧ ∀ k, (Value.slice A1 W c1).ownBlock = some k → (Value.slice A2 W c2).ownBlock ≠ some k
  p4 : L 4 = true → ∃ b cs, f 4 = .pointer (some ⟨b, 0, none⟩) ∧ Fb v b cs 53 ∧ (∃ x y z, cs = #[x, y, z]) ∧ w5.heap.size ≤ b
  p5 : L 5 = true → ∃ b cs, f 5 = .pointer (some ⟨b, 0, none⟩) ∧ Fb v b cs 53 ∧ (∃ x y z, cs = #[x, y, z]) ∧ w5.heap.size ≤ b
  ne : L 4 = true → L 5 = true → f 4 ≠ f 5
  s6 : L 6 = true → L 3 = true ∧ L 4 = true ∧ L 5 = true ∧ ∃ b A1 c1, f 4 = .pointer (some ⟨b, 0, none⟩) ∧ f 1 = tabv W A n c A1 c1 ∧ Fb v b #[.int .i64 W, .slice A n c, .slice A1 W c1] 53
  s7 : L 7 = true → L 6 = true ∧ ∃ b A2 c2, f 5 = .pointer (some ⟨b, 0, none⟩) ∧ f 3 = tabv W A' n' c' A2 c2 ∧ Fb v b #[.int .i64 W, .slice A' n' c', .slice A2 W c2] 53
/-- The two tables in their variables. -/
structure Tabs2 (w5 : World) (B0 W : Nat) (A : Option Addr) (n c : Nat) (one1 : Nat → List Nat) (A' : Option Addr) (n' c' : Nat) (one2 : Nat → List Nat) (bx by' : Nat) (A1 : Option Addr) (c1 : Nat) (A2 : Option Addr) (c2 : Nat) (v : World) : Prop where
  bel : Below w5.heap.size w5 v
  x : Fb v bx #[.int .i64 W, .slice A n c, .slice A1 W c1] 53
  y : Fb v by' #[.int .i64 W, .slice A' n' c', .slice A2 W c2] 53
  o1 : Ones v w5.heap.size B0 W (.slice A1 W c1) one1 W
  o2 : Ones v w5.heap.size B0 W (.slice A2 W c2) one2 W
  ne : bx ≠ by'
  gx : w5.heap.size ≤ bx
  gy : w5.heap.size ≤ by'
  sep : ∀ k, (Value.slice A1 W c1).ownBlock = some k → (Value.slice A2 W c2).ownBlock ≠ some k
section
variable {w5 : World} {B0 W : Nat} {fv gv : Value} {A : Option Addr} {n c : Nat} {one1 : Nat → List Nat} {A' : Option Addr} {n' c' : Nat} {one2 : Nat → List Nat} {L : Nat → Bool} {f : Nat → Value} {v u : World}
theorem I4.start (h : B0 ≤ w5.heap.size) (f : Nat → Value) : I4 w5 B0 W fv gv A n c one1 A' n' c' one2 (fun _ => false) f w5.drew :=
  ⟨h, (Below.refl _ _).drew, fun x => (by cases x), fun x => (by cases x), fun x => (by cases x), fun x => (by cases x), fun x => (by cases x), fun x => (by cases x), fun x => (by cases x), fun x => (by cases x), fun x => (by cases x)⟩
theorem I4.below (h : I4 w5 B0 W fv gv A n c one1 A' n' c' one2 L f v) (hb : Below v.heap.size v u) : I4 w5 B0 W fv gv A n c one1 A' n' c' one2 L f u := by
  have hB := Nat.le_trans h.b0 h.bel.size
  refine ⟨h.b0, below_step h.bel hb, h.l0, h.l2, fun x => ?_, fun x => ?_, fun x => ?_, fun x => ?_, h.ne, fun x => ?_, fun x => ?_⟩
  · obtain ⟨A1, c1, e, o⟩ := h.t1 x; exact ⟨A1, c1, e, o.below hb hB⟩
  · obtain ⟨l, A1, c1, A2, c2, e, e2, o, o2, s⟩ := h.t3 x; exact ⟨l, A1, c1, A2, c2, e, e2, o.below hb hB, o2.below hb hB, s⟩
  · obtain ⟨b, cs, e, o, s⟩ := h.p4 x; exact ⟨b, cs, e, o.below hb o.lt, s⟩
  · obtain ⟨b, cs, e, o, s⟩ := h.p5 x; exact ⟨b, cs, e, o.below hb o.lt, s⟩
  · obtain ⟨l, l2, l3, b, A1, c1, e, e2, o⟩ := h.s6 x; exact ⟨l, l2, l3, b, A1, c1, e, e2, o.below hb o.lt⟩
  · obtain ⟨l, b, A1, c1, e, e2, o⟩ := h.s7 x; exact ⟨l, b, A1, c1, e, e2, o.below hb o.lt⟩
theorem I4.op0 (h : I4 w5 B0 W fv gv A n c one1 A' n' c' one2 L f v) : I4 w5 B0 W fv gv A n c one1 A' n' c' one2 (updL L 0) (updV f 0 fv) v :=
  ⟨h.b0, h.bel, fun _ => rfl, h.l2, h.t1, h.t3, h.p4, h.p5, h.ne, h.s6, h.s7⟩
theorem I4.op2 (h : I4 w5 B0 W fv gv A n c one1 A' n' c' one2 L f v) : I4 w5 B0 W fv gv A n c one1 A' n' c' one2 (updL L 2) (updV f 2 gv) v :=
  ⟨h.b0, h.bel, h.l0, fun _ => rfl, h.t1, h.t3, h.p4, h.p5, h.ne, h.s6, h.s7⟩
theorem I4.op1 {A1 : Option Addr} {c1 : Nat} (h : I4 w5 B0 W fv gv A n c one1 A' n' c' one2 L f v) (h1 : L 1 = false) (hb : Below v.heap.size v u) (o : Ones u w5.heap.size B0 W (.slice A1 W c1) one1 W) :
    I4 w5 B0 W fv gv A n c one1 A' n' c' one2 (updL L 1) (updV f 1 (tabv W A n c A1 c1)) u := by
  have h' := h.below hb
  have h3 : L 3 = true → False := fun x => by rw [(h.t3 x).1] at h1; cases h1
  have h6 : L 6 = true → False := fun x => h3 (h.s6 x).1
  exact ⟨h'.b0, h'.bel, h'.l0, h'.l2, fun _ => ⟨A1, c1, rfl, o⟩, fun x => (h3 x).elim, h'.p4, h'.p5, h'.ne, fun x => (h6 x).elim, fun x => (h6 (h.s7 x).1).elim⟩
theorem I4.op3 {A2 : Option Addr} {c2 : Nat} (h : I4 w5 B0 W fv gv A n c one1 A' n' c' one2 L f v) (h1 : L 1 = true) (h3 : L 3 = false) (hb : Below v.heap.size v u) (o : Ones u v.heap.size B0 W (.slice A2 W c2) one2 W) :
    I4 w5 B0 W fv gv A n c one1 A' n' c' one2 (updL L 3) (updV f 3 (tabv W A' n' c' A2 c2)) u := by
  have h' := h.below hb
  have h6 : L 6 = true → False := fun x => by rw [(h.s6 x).1] at h3; cases h3
  have o' := o.lower h.bel.size
  refine ⟨h'.b0, h'.bel, h'.l0, h'.l2, h'.t1, fun _ => ?_, h'.p4, h'.p5, h'.ne, fun x => (h6 x).elim, fun x => (h6 (h.s7 x).1).elim⟩
  obtain ⟨A1, c1, e, o1⟩ := h.t1 h1
  refine ⟨h1, A1, c1, A2, c2, e, rfl, o1.below hb (Nat.le_trans h.b0 h.bel.size), o', fun k hk hk2 => ?_⟩
  obtain ⟨l, _, q1, _⟩ := o1
  obtain ⟨l2, _, q2, _⟩ := o
  have := (q1.lt k hk).2
  have := (q2.lt k hk2).1
  omega
theorem I4.op4 {x y z : Value} (h : I4 w5 B0 W fv gv A n c one1 A' n' c' one2 L f v) (h4 : L 4 = false) :
    I4 w5 B0 W fv gv A n c one1 A' n' c' one2 (updL L 4) (updV f 4 (.pointer (some ⟨v.heap.size, 0, none⟩))) (v.alloc (.cells #[x, y, z] 53)) := by
  have h' := h.below ((Below.refl _ _).alloc (Nat.le_refl _) (.cells #[x, y, z] 53))
  have h6 : L 6 = true → False := fun x => by rw [(h.s6 x).2.1] at h4; cases h4
  refine ⟨h'.b0, h'.bel, h'.l0, h'.l2, h'.t1, h'.t3, fun _ => ⟨_, _, rfl, Fb.new _ _ _, ⟨_, _, _, rfl⟩, h.bel.size⟩, h'.p5, fun _ x => ?_, fun x => (h6 x).elim, fun x => (h6 (h.s7 x).1).elim⟩
  obtain ⟨b, cs, e, o, _⟩ := h.p5 x
  have hl := o.lt
  show Value.pointer _ ≠ f 5
  rw [e]
  intro he
  injection he with he
  injection he with he
  injection he with he
  omega
theorem I4.op5 {x y z : Value} (h : I4 w5 B0 W fv gv A n c one1 A' n' c' one2 L f v) (h5 : L 5 = false) :
    I4 w5 B0 W fv gv A n c one1 A' n' c' one2 (updL L 5) (updV f 5 (.pointer (some ⟨v.heap.size, 0, none⟩))) (v.alloc (.cells #[x, y, z] 53)) := by
  have h' := h.below ((Below.refl _ _).alloc (Nat.le_refl _) (.cells #[x, y, z] 53))
  have h6 : L 6 = true → False := fun x => by rw [(h.s6 x).2.2.1] at h5; cases h5
  refine ⟨h'.b0, h'.bel, h'.l0, h'.l2, h'.t1, h'.t3, h'.p4, fun _ => ⟨_, _, rfl, Fb.new _ _ _, ⟨_, _, _, rfl⟩, h.bel.size⟩, fun x _ => ?_, fun x => (h6 x).elim, fun x => (h6 (h.s7 x).1).elim⟩
  obtain ⟨b, cs, e, o, _⟩ := h.p4 x
  have hl := o.lt
  show f 4 ≠ Value.pointer _
  rw [e]
  intro he
  injection he with he
  injection he with he
  injection he with he
  omega
/-- A table's variable is written. -/
def put3 (v : World) (b : Nat) (x y z : Value) : World := ((v.setCell ⟨b, 0, none⟩ x).setCell ⟨b, 1, none⟩ y).setCell ⟨b, 2, none⟩ z
theorem fb_put3 {b t : Nat} {p q r : Value} (h : Fb v b #[p, q, r] t) (x y z : Value) : Fb (put3 v b x y z) b #[x, y, z] t := ((h.set 0 x).set 1 y).set 2 z
theorem fb_far3 {b g t : Nat} {cs : Array Value} (h : Fb v g cs t) (hne : g ≠ b) (x y z : Value) : Fb (put3 v b x y z) g cs t := ((h.far (p := ⟨b, 0, none⟩) hne x).far (p := ⟨b, 1, none⟩) hne y).far (p := ⟨b, 2, none⟩) hne z
theorem ones_put3 {base m b : Nat} {cs : Array Value} {one : Nat → List Nat} {va : Value} (h : Ones v base B0 W va one m) (hf : Fb v b cs 53) (hb : B0 ≤ b) (hB : B0 ≤ v.heap.size) (x y z : Value) : Ones (put3 v b x y z) base B0 W va one m :=
  ((h.box hf (by decide) (by decide) hb hB 0 x).box (hf.set 0 x) (by decide) (by decide) hb (by simpa [World.setCell] using hB) 1 y).box ((hf.set 0 x).set 1 y) (by decide) (by decide) hb (by simpa [World.setCell] using hB) 2 z
theorem below_put3 {B b : Nat} (h : Below B w5 v) (hb : B ≤ b) (x y z : Value) : Below B w5 (put3 v b x y z) := ((h.setCell (p := ⟨b, 0, none⟩) hb x).setCell (p := ⟨b, 1, none⟩) hb y).setCell (p := ⟨b, 2, none⟩) hb z
theorem I4.store {b : Nat} {cs : Array Value} (h : I4 w5 B0 W fv gv A n c one1 A' n' c' one2 L f v) (hf : Fb v b cs 53) (h3 : ∃ x y z, cs = #[x, y, z]) (hb : w5.heap.size ≤ b) (h67 : L 6 = false ∧ L 7 = false ∨ f 4 ≠ .pointer (some ⟨b, 0, none⟩) ∧ L 7 = false) (x y z : Value) :
    I4 w5 B0 W fv gv A n c one1 A' n' c' one2 L f (put3 v b x y z) := by
  have hB := Nat.le_trans h.b0 h.bel.size
  have hBb := Nat.le_trans h.b0 hb
  obtain ⟨p, q, r, rfl⟩ := h3
  have any3 : ∀ {g : Nat} {cs : Array Value}, Fb v g cs 53 → (∃ x y z, cs = #[x, y, z]) → ∃ cs', Fb (put3 v b x y z) g cs' 53 ∧ ∃ x y z, cs' = #[x, y, z] := by
    intro g cs hg h3
    by_cases e : g = b
    · subst e; exact ⟨_, fb_put3 hf _ _ _, _, _, _, rfl⟩
    · exact ⟨_, fb_far3 hg e _ _ _, h3⟩
  refine ⟨h.b0, below_put3 h.bel hb _ _ _, h.l0, h.l2, fun l => ?_, fun l => ?_, fun l => ?_, fun l => ?_, h.ne, fun l => ?_, fun l => ?_⟩
  · obtain ⟨A1, c1, e, o⟩ := h.t1 l; exact ⟨A1, c1, e, ones_put3 o hf hBb hB _ _ _⟩
  · obtain ⟨l, A1, c1, A2, c2, e, e2, o, o2, s⟩ := h.t3 l; exact ⟨l, A1, c1, A2, c2, e, e2, ones_put3 o hf hBb hB _ _ _, ones_put3 o2 hf hBb hB _ _ _, s⟩
  · obtain ⟨b4, cs, e, o, s, s2⟩ := h.p4 l
    obtain ⟨cs', o', s'⟩ := any3 o s
    exact ⟨b4, cs', e, o', s', s2⟩
  · obtain ⟨b4, cs, e, o, s, s2⟩ := h.p5 l
    obtain ⟨cs', o', s'⟩ := any3 o s
    exact ⟨b4, cs', e, o', s', s2⟩
  · rcases h67 with ⟨h6, _⟩ | ⟨h6, _⟩
    · rw [h6] at l; cases l
    · obtain ⟨l1, l2, l3, b4, A1, c1, e, e2, o⟩ := h.s6 l
      exact ⟨l1, l2, l3, b4, A1, c1, e, e2, fb_far3 o (fun e3 => h6 (by rw [e, e3])) _ _ _⟩
  · have h7 : L 7 = false := h67.elim (·.2) (·.2)
    rw [h7] at l; cases l
theorem I4.op6 {b : Nat} {A1 : Option Addr} {c1 : Nat} {val : Value} (h : I4 w5 B0 W fv gv A n c one1 A' n' c' one2 L f v) (h6 : L 6 = false) (h7 : L 7 = false) (h3 : L 3 = true) (h4 : L 4 = true) (h5 : L 5 = true) (e : f 4 = .pointer (some ⟨b, 0, none⟩)) (e1 : f 1 = tabv W A n c A1 c1) :
    I4 w5 B0 W fv gv A n c one1 A' n' c' one2 (updL L 6) (updV f 6 val) (put3 v b (.int .i64 W) (.slice A n c) (.slice A1 W c1)) := by
  obtain ⟨b4, cs, e4, o, ⟨x, y, z, rfl⟩, s2⟩ := h.p4 h4
  rw [e] at e4
  injection e4 with e4
  injection e4 with e4
  injection e4 with e4
  subst e4
  have h' := h.store o ⟨_, _, _, rfl⟩ s2 (.inl ⟨h6, h7⟩) (.int .i64 W) (.slice A n c) (.slice A1 W c1)
  exact ⟨h'.b0, h'.bel, h'.l0, h'.l2, h'.t1, h'.t3, h'.p4, h'.p5, h'.ne, fun _ => ⟨h3, h4, h5, b, A1, c1, e, e1, fb_put3 o _ _ _⟩, fun l => by have l' : L 7 = true := l; rw [h7] at l'; cases l'⟩
theorem I4.op7 {b : Nat} {A2 : Option Addr} {c2 : Nat} {val : Value} (h : I4 w5 B0 W fv gv A n c one1 A' n' c' one2 L f v) (h6 : L 6 = true) (h7 : L 7 = false) (h4 : L 4 = true) (h5 : L 5 = true) (e : f 5 = .pointer (some ⟨b, 0, none⟩)) (e1 : f 3 = tabv W A' n' c' A2 c2) :
    I4 w5 B0 W fv gv A n c one1 A' n' c' one2 (updL L 7) (updV f 7 val) (put3 v b (.int .i64 W) (.slice A' n' c') (.slice A2 W c2)) := by
  obtain ⟨b4, cs, e4, o, ⟨x, y, z, rfl⟩, s2⟩ := h.p5 h5
  rw [e] at e4
  injection e4 with e4
  injection e4 with e4
  injection e4 with e4
  subst e4
  have h' := h.store o ⟨_, _, _, rfl⟩ s2 (.inr ⟨by rw [← e]; exact h.ne h4 h5, h7⟩) (.int .i64 W) (.slice A' n' c') (.slice A2 W c2)
  exact ⟨h'.b0, h'.bel, h'.l0, h'.l2, h'.t1, h'.t3, h'.p4, h'.p5, h'.ne, h'.s6, fun _ => ⟨h6, b, A2, c2, e, e1, fb_put3 o _ _ _⟩⟩
theorem I4.done (h : I4 w5 B0 W fv gv A n c one1 A' n' c' one2 L f v) (hL : ∀ i, i < 8 → L i = true) :
    ∃ bx by' A1 c1 A2 c2, f 4 = .pointer (some ⟨bx, 0, none⟩) ∧ f 5 = .pointer (some ⟨by', 0, none⟩) ∧ Tabs2 w5 B0 W A n c one1 A' n' c' one2 bx by' A1 c1 A2 c2 v := by
  obtain ⟨_, A1, c1, A2, c2, e1, e3, o1, o2, s⟩ := h.t3 (hL 3 (by decide))
  obtain ⟨b4, cs4, e4, o4, _, g4⟩ := h.p4 (hL 4 (by decide))
  obtain ⟨b5, cs5, e5, o5, _, g5⟩ := h.p5 (hL 5 (by decide))
  obtain ⟨_, _, _, b6, A6, c6, q1, q2, q3⟩ := h.s6 (hL 6 (by decide))
  obtain ⟨_, b7, A7, c7, r1, r2, r3⟩ := h.s7 (hL 7 (by decide))
  have hne := h.ne (hL 4 (by decide)) (hL 5 (by decide))
  rw [e4] at q1 hne
  rw [e5] at r1 hne
  rw [e1] at q2
  rw [e3] at r2
  injection q1 with q1
  injection q1 with q1
  injection q1 with q1
  injection r1 with r1
  injection r1 with r1
  injection r1 with r1
  subst q1 r1
  unfold tabv at q2 r2
  simp only [Value.agg.injEq, Array.mk.injEq, List.cons.injEq, Value.slice.injEq, and_true, true_and] at q2 r2
  obtain ⟨rfl, rfl⟩ := q2
  obtain ⟨rfl, rfl⟩ := r2
  exact ⟨b4, b5, A1, c1, A2, c2, e4, e5, h.bel, q3, r3, o1, o2, fun e => hne (by rw [e]), g4, g5, s⟩
end
end Go.Proofs.Ytmbelhdkaepohaa

namespace Go.Proofs.Ytmbelhdkaepohaa
set_option maxRecDepth 20000
set_option linter.unusedVariables false
set_option linter.unusedSimpArgs false
open Go.ChangeShapes Go.WideShapes Go.ChangeAt Go.RowKit

theorem fix1 (f : Nat → Value) (i : Nat) (c : Value) (h : f i = c) : ∃ g, f = updV g i c := ⟨f, funext fun j => by unfold updV; split <;> simp_all⟩
def Fv (c : Value) (v : Value) (_ : World) : Prop := v = c
/-- What the call gave: a set, its words in a row of their own or in old memory. -/
def Fset (B0 W : Nat) (ws : List Nat) (v : Value) (u : World) : Prop := ∃ (A : Option Addr) (m c : Nat), v = .agg #[.int .i64 W, .slice A m c] ∧ From u B0 A ws ∧ m = ws.length
theorem Fset.stb {B0 W : Nat} {ws : List Nat} {v : Value} {w u : World} (hB : B0 ≤ w.heap.size) (hb : Below w.heap.size w u) (h : Fset B0 W ws v w) : Fset B0 W ws v u := by
  obtain ⟨g, m, c, e, h1, h2⟩ := h
  exact ⟨g, m, c, e, h1.below hb hB, h2⟩
theorem Three.far3 {w : World} {W V : Int} {A B C : Option Addr} {n c m d k q : Nat} {W' V' : Int} {A' B' C' : Option Addr} {n' c' m' d' k' q' : Nat} {wr : World} (h : Three w W V A B C n c m d k q W' V' A' B' C' n' c' m' d' k' q' wr) {p : Addr} (hp : w.heap.size + 3 ≤ p.block) (u : Value) :
    Three w W V A B C n c m d k q W' V' A' B' C' n' c' m' d' k' q' (wr.setCell p u) :=
  ⟨h.1.far (by omega) u, h.2.1.far (by omega) u, h.2.2.1.far (by omega) u, h.2.2.2.setCell (by omega) u⟩
/-- Two tables in their variables, the first of them in change. -/
structure Jng (w w1 : World) (v : Nat) (A B C : Option Addr) (n c m d k q : Nat) (A' B' C' : Option Addr) (n' c' m' d' k' q' : Nat) (bx by' : Nat) (Z : Option Addr) (nz cz : Nat) (A1 : Option Addr) (c1 : Nat) (A2 : Option Addr) (c2 : Nat) (zs : List Nat) (one1 one2 : Nat → List Nat) (u : World) : Prop where
  t : Three w v v A B C n c m d k q v v A' B' C' n' c' m' d' k' q' u
  x : Fb u bx #[.int .i64 v, .slice Z nz cz, .slice A1 v c1] 53
  y : Fb u by' #[.int .i64 v, .slice A' n' c', .slice A2 v c2] 53
  o1 : Ones u w1.heap.size w.heap.size v (.slice A1 v c1) one1 v
  o2 : Ones u w1.heap.size w.heap.size v (.slice A2 v c2) one2 v
  z : From u w.heap.size Z zs
  zl : zs.length = nz
  ne : bx ≠ by'
  gx : w1.heap.size ≤ bx
  gy : w1.heap.size ≤ by'
  gw : w.heap.size + 3 ≤ w1.heap.size
  sep : ∀ k, (Value.slice A1 v c1).ownBlock = some k → (Value.slice A2 v c2).ownBlock ≠ some k
section
variable {w w1 : World} {v : Nat} {A B C : Option Addr} {n c m d k q : Nat} {A' B' C' : Option Addr} {n' c' m' d' k' q' : Nat} {bx by' : Nat} {Z : Option Addr} {nz cz : Nat} {A1 : Option Addr} {c1 : Nat} {A2 : Option Addr} {c2 : Nat} {zs : List Nat} {one1 one2 : Nat → List Nat} {u u' : World}
theorem Jng.below (h : Jng w w1 v A B C n c m d k q A' B' C' n' c' m' d' k' q' bx by' Z nz cz A1 c1 A2 c2 zs one1 one2 u) (hb : Below u.heap.size u u') : Jng w w1 v A B C n c m d k q A' B' C' n' c' m' d' k' q' bx by' Z nz cz A1 c1 A2 c2 zs one1 one2 u' :=
  ⟨h.t.below hb, h.x.below hb h.x.lt, h.y.below hb h.y.lt, h.o1.below hb h.t.2.2.2.size, h.o2.below hb h.t.2.2.2.size, h.z.below hb h.t.2.2.2.size, h.zl, h.ne, h.gx, h.gy, h.gw, h.sep⟩
/-- From what two calls of table leave, the first table's Zero written. -/
theorem Jng.start {A9 Zz : Option Addr} {n9 c9 mz dz : Nat} (ht : Three w v v A B C n c m d k q v v A' B' C' n' c' m' d' k' q' w1) (hT : Tabs2 w1 w.heap.size v A9 n9 c9 one1 A' n' c' one2 bx by' A1 c1 A2 c2 u) (hgw : w.heap.size + 3 ≤ w1.heap.size) (hb : Below u.heap.size u u') (hr : From u' w.heap.size Zz zs) (hm : mz = zs.length) :
    (u'.cell? ⟨bx, 0, none⟩ = some (.int .i64 v) ∧ u'.cell? ⟨bx, 1, none⟩ = some (.slice A9 n9 c9) ∧ u'.frozen? ⟨bx, 0, none⟩ = false ∧ u'.frozen? ⟨bx, 1, none⟩ = false ∧ bx < u'.heap.size) ∧
    Jng w w1 v A B C n c m d k q A' B' C' n' c' m' d' k' q' bx by' Zz mz dz A1 c1 A2 c2 zs one1 one2 ((u'.setCell ⟨bx, 0, none⟩ (.int .i64 v)).setCell ⟨bx, 1, none⟩ (.slice Zz mz dz)) := by
  have h1 := hT.x.below hb hT.x.lt
  have h2 := hT.y.below hb hT.y.lt
  have hw1 := ht.2.2.2.size
  have hu := hT.bel.size
  have hB0 : w.heap.size ≤ u.heap.size := by omega
  have hB0' : w.heap.size ≤ u'.heap.size := by have := hb.size; omega
  have hbx : w.heap.size ≤ bx := by have := hT.gx; omega
  have o1 := hT.o1.below hb hB0
  have o2 := hT.o2.below hb hB0
  have s2 : w.heap.size ≤ (u'.setCell ⟨bx, 0, none⟩ (.int .i64 v)).heap.size := by simpa [World.setCell] using hB0'
  have hgx := hT.gx
  refine ⟨⟨h1.cell 0, h1.cell 1, h1.frozen 0, h1.frozen 1, h1.lt⟩, ((ht.below (below_step hT.bel hb)).far3 (p := ⟨bx, 0, none⟩) (by show _ ≤ bx; omega) _).far3 (p := ⟨bx, 1, none⟩) (by show _ ≤ bx; omega) _, (h1.set 0 _).set 1 _, (h2.far (p := ⟨bx, 0, none⟩) hT.ne.symm _).far (p := ⟨bx, 1, none⟩) hT.ne.symm _, ?_, ?_, (hr.box h1 (by decide) hbx hB0' 0 _).box (h1.set 0 _) (by decide) hbx s2 1 _, hm.symm, hT.ne, hT.gx, hT.gy, hgw, hT.sep⟩
  · exact (o1.box h1 (by decide) (by decide) hbx hB0' 0 _).box (h1.set 0 _) (by decide) (by decide) hbx s2 1 _
  · exact (o2.box h1 (by decide) (by decide) hbx hB0' 0 _).box (h1.set 0 _) (by decide) (by decide) hbx s2 1 _
/-- An element is written. -/
theorem Jng.put {A9 : Option Addr} {b m9 d9 : Nat} {ws : List Nat} (h : Jng w w1 v A B C n c m d k q A' B' C' n' c' m' d' k' q' bx by' Z nz cz A1 c1 A2 c2 zs one1 one2 u) (hb : b < v) (hr : From u w.heap.size A9 ws) (hm : m9 = ws.length) :
    ∃ ad : Addr, A1 = some ad ∧ ad.block < u.heap.size ∧
      (∃ (E : Option Addr) (x y : Nat), u.cell? (ad.add (b * 2)) = some (.int .i64 v) ∧ u.cell? ⟨(ad.add (b * 2)).block, (ad.add (b * 2)).off + 1, none⟩ = some (.slice E x y) ∧ (u.setCell (ad.add (b * 2)) (.int .i64 v)).cell? ⟨(ad.add (b * 2)).block, (ad.add (b * 2)).off + 1, none⟩ = some (.slice E x y)) ∧
      u.frozen? (ad.add (b * 2)) = false ∧ u.frozen? ⟨(ad.add (b * 2)).block, (ad.add (b * 2)).off + 1, none⟩ = false ∧
      Jng w w1 v A B C n c m d k q A' B' C' n' c' m' d' k' q' bx by' Z nz cz A1 c1 A2 c2 zs (upd1 one1 b ws) one2 ((u.setCell (ad.add (b * 2)) (.int .i64 v)).setCell ⟨(ad.add (b * 2)).block, (ad.add (b * 2)).off + 1, none⟩ (.slice A9 m9 d9)) := by
  have hgw := h.gw
  obtain ⟨ad, e, hlt, hba, hob, ⟨E, x, y, k0, k1, _⟩, f0, f1, ⟨xs, hown⟩, hO⟩ := h.o1.put (c9 := d9) hb hr hm (by omega)
  have hform : ∃ g, ad = ⟨g, 0, none⟩ := by
    rcases hown.2 with ⟨e3, h0⟩ | ⟨g, cap, cur, e3, _⟩
    · omega
    · injection e3 with e3 _ e4
      rw [e] at e3
      injection e3 with e3
      exact ⟨g, e3⟩
  obtain ⟨g, rfl⟩ := hform
  have ea : (⟨g, 0, none⟩ : Addr).add (b * 2) = ⟨g, b * 2, none⟩ := add_of g (b * 2)
  refine ⟨⟨g, 0, none⟩, e, hlt, ?_⟩
  rw [ea] at k0 k1 f0 f1 hO ⊢
  have k2 : (u.setCell ⟨g, b * 2, none⟩ (.int .i64 v)).cell? ⟨g, b * 2 + 1, none⟩ = some (.slice E x y) := by
    have hw2 := hown
    rw [e] at hw2
    have q1 := hw2.cellAt (b * 2 + 1) (by omega)
    have q2 := (hw2.stored (b * 2) (.int .i64 v)).1.cellAt (b * 2 + 1) (by omega)
    rw [List.getElem?_set_ne (by omega)] at q2
    exact q2.trans (q1.symm.trans k1)
  refine ⟨⟨E, x, y, k0, k1, k2⟩, f0, f1, ?_⟩
  simp only at hlt hba hob hO ⊢
  have hB0 := h.t.2.2.2.size
  have hs2 : w.heap.size ≤ (u.setCell ⟨g, b * 2, none⟩ (.int .i64 v)).heap.size := by simpa [World.setCell] using hB0
  have hbx : bx ≠ g := fun e2 => own_not_fb (by decide) hown h.x (by rw [hob, e2])
  have hby : by' ≠ g := fun e2 => own_not_fb (by decide) hown h.y (by rw [hob, e2])
  have hwad : w.heap.size ≤ g := by omega
  have hsep := h.sep _ hob
  have hown2 : (u.setCell ⟨g, b * 2, none⟩ (.int .i64 v)).ownsRow w1.heap.size 25 2 (.slice A1 v c1) v (xs.set (b * 2) (.int .i64 v)) := by
    rw [e]
    exact ((e ▸ hown).stored (b * 2) (.int .i64 v)).1
  have o2a := h.o2.other hown hob hsep hwad hB0 (b * 2) (.int .i64 v)
  have za := h.z.other hown hob hwad hB0 (b * 2) (.int .i64 v)
  have o2b := Ones.other o2a hown2 hob hsep hwad hs2 (b * 2 + 1) (.slice A9 m9 d9)
  have zb := From.other za hown2 hob hwad hs2 (b * 2 + 1) (.slice A9 m9 d9)
  have h3 : w.heap.size + 3 ≤ g := by omega
  exact ⟨(h.t.far3 (p := ⟨g, b * 2, none⟩) h3 _).far3 (p := ⟨g, b * 2 + 1, none⟩) h3 _, (h.x.far (p := ⟨g, b * 2, none⟩) hbx _).far (p := ⟨g, b * 2 + 1, none⟩) hbx _, (h.y.far (p := ⟨g, b * 2, none⟩) hby _).far (p := ⟨g, b * 2 + 1, none⟩) hby _, hO, o2b, zb, h.zl, h.ne, h.gx, h.gy, h.gw, h.sep⟩
/-- An element of a row of sets, as it lies. -/
theorem Ones.at {base B0 b m : Nat} {one : Nat → List Nat} (h : Ones u base B0 v (.slice A1 m c1) one m) (hb : b < m) (hB : B0 ≤ u.heap.size) (hf : Bs.Fit v (one b)) :
    ∃ (ad : Addr) (E : Option Addr) (x y : Nat), A1 = some ad ∧ ad.block < u.heap.size ∧ u.cell? (ad.add (b * 2)) = some (.int .i64 v) ∧ u.cell? ⟨(ad.add (b * 2)).block, (ad.add (b * 2)).off + 1, none⟩ = some (.slice E x y) ∧ Arg u E x (one b) ∧ From u B0 E (one b) := by
  obtain ⟨l, h1, h2, h3⟩ := h
  have hl : l[b]? = some (l[b]'(by omega)) := List.getElem?_eq_getElem _
  obtain ⟨g1, g2⟩ := setCells_get (W := (v : Int)) hl
  have hat := own_at h2
  obtain ⟨ad, e, hbl, hc⟩ := hat.cell g1
  obtain ⟨ad2, e2, _, hc2⟩ := hat.cell g2
  rw [e] at e2; cases e2
  have hq := h3 b _ hl
  exact ⟨ad, _, _, _, e, hbl, hc, by rw [show (⟨(ad.add (b * 2)).block, (ad.add (b * 2)).off + 1, none⟩ : Addr) = (ad.add (b * 2)).add 1 from rfl, Go.Deep.add_add]; exact hc2, hq.1.arg hB hq.2.symm hf.ok, hq.1⟩
end
end Go.Proofs.Ytmbelhdkaepohaa

namespace Go.Proofs.Ytmbelhdkaepohaa
set_option maxRecDepth 20000
set_option linter.unusedVariables false
set_option linter.unusedSimpArgs false
open Go.ChangeShapes Go.WideShapes Go.ChangeAt Go.RowKit

set_option maxHeartbeats 3200000 in
theorem refJoinF_any (W V : Int) (A B C : Option Addr) (n c m d k q : Nat) (gs ks : List Nat) (cs : List (Int × Int)) (W' V' : Int) (A' B' C' : Option Addr) (n' c' m' d' k' q' : Nat) (gs' ks' : List Nat) (cs' : List (Int × Int)) (w : World)
    (hF : FArg w A n B m C k gs ks cs) (hG : FArg w A' n' B' m' C' k' gs' ks' cs') :
    Calls Try.prog 23 #[.agg #[.int .i64 W, .slice A n c, .int .i64 V, .slice B m d, .slice C k q], .agg #[.int .i64 W', .slice A' n' c', .int .i64 V', .slice B' m' d', .slice C' k' q']] w
      (RetR w (joinR W gs V ks cs W' gs' V' ks' cs')) := by
  have HF := hid hF; have HG := hid hG
  have H0 := hid (Three.start w W V A B C n c m d k q W' V' A' B' C' n' c' m' d' k' q')
  clear hF hG
  go_enter Try.func23, Try.ntmps23
  go_wp2_with fail
  refine (refTwo_any W V A B C n c m d k q gs ks cs W' V' A' B' C' n' c' m' d' k' q' gs' ks' cs' _ (HF.out.below H0.out.2.2.2) (HG.out.below H0.out.2.2.2)).mono ?_
  by_cases hbad : checkR (validT W gs V ks cs) (validT W' gs' V' ks' cs') W W' ≠ 0
  · have Hr := hid (show joinR W gs V ks cs W' gs' V' ks' cs' = (0, [], [], [], checkR (validT W gs V ks cs) (validT W' gs' V' ks' cs') W W') by
      unfold joinR checkR
      unfold checkR at hbad
      by_cases h1 : validT W gs V ks cs = false ∨ validT W' gs' V' ks' cs' = false
      · rw [if_pos h1, if_pos h1]
      · rw [if_neg h1, if_neg h1]
        rw [if_neg h1] at hbad
        by_cases h2 : W ≠ W'
        · rw [if_pos h2, if_pos h2]
        · rw [if_neg h2] at hbad; exact absurd rfl hbad)
    generalize checkR (validT W gs V ks cs) (validT W' gs' V' ks' cs') W W' = er at *
    have tt : (er != 0) = true := by simpa using hbad
    clear hbad
    rintro e w1 ⟨rfl, hb1⟩
    have H1 := hid (H0.out.below hb1)
    clear hb1
    obtain ⟨r0, r1, r2, r3, r4⟩ := H1.out.2.2.1.five
    have f0 := H1.out.2.2.1.frozen 0
    have f1 := H1.out.2.2.1.frozen 1
    have f2 := H1.out.2.2.1.frozen 2
    have f3 := H1.out.2.2.1.frozen 3
    have f4 := H1.out.2.2.1.frozen 4
    have hlR := H1.out.2.2.1.lt
    have Fin := hid (RetT.stored (err := er) (c := 0) (d := 0) (q := 0) (cs := []) (C := none) (Arg.nil w1 none) (Arg.nil w1 none) ⟨.inl rfl, rfl⟩ H1.out.2.2.2 (by omega) H1.out.2.2.1 (W := 0))
    unfold stored5 at Fin
    go_wp2_with fail
    refine bodyPost_ret (v := .tuple #[.agg #[.int .i64 0, .slice none 0 0, .int .i64 0, .slice none 0 0, .slice none 0 0], .int .i64 er]) (by simp [results, Try.results23, go_sem, r0, r1, r2, r3, r4]) rfl ?_
    rw [Hr.out]
    exact Fin.out
  · have hok : checkR (validT W gs V ks cs) (validT W' gs' V' ks' cs') W W' = 0 := by simpa using hbad
    rw [hok]
    have hv1 : validT W gs V ks cs = true := by
      unfold checkR at hok
      cases h : validT W gs V ks cs with
      | true => rfl
      | false => rw [h] at hok; simp at hok
    have hv2 : validT W' gs' V' ks' cs' = true := by
      unfold checkR at hok
      cases h : validT W' gs' V' ks' cs' with
      | true => rfl
      | false => rw [h] at hok; simp at hok
    have hWW : W = W' := by
      unfold checkR at hok
      rw [hv1, hv2] at hok
      by_cases h : W = W'
      · exact h
      · simp [h] at hok
    clear hok hbad
    subst hWW
    obtain ⟨h1, h2, h3, h4, h5⟩ := validT_iff hv1
    obtain ⟨g1, g2, g3, g4, g5⟩ := validT_iff hv2
    subst h3
    subst g3
    have hin1 := inW_of_ok h5
    have hin2 := inW_of_ok g5
    obtain ⟨v, rfl⟩ := Int.eq_ofNat_of_zero_le (Bs.validB_iff.1 h1).1
    have hv256 : v ≤ 256 := by have := (Bs.validB_iff.1 h1).2.1; omega
    have hfg := fit_of_valid' h1 HF.out.gen
    have hfk := fit_of_valid' h2 HF.out.kill
    have hfg' := fit_of_valid' g1 HG.out.gen
    have hfk' := fit_of_valid' g2 HG.out.kill
    have Hk := hid (show k ≤ maxLen by rw [HF.out.cops.len] at h4; unfold maxLen; omega)
    have Hk' := hid (show k' ≤ maxLen by rw [HG.out.cops.len] at g4; unfold maxLen; omega)
    have Hr := hid (show joinR v gs v ks cs v gs' v ks' cs' = madeR v (orR v gs gs') (fun b => orR v (oneR gs (folB v ks cs) v b) (oneR gs' (folB v ks' cs') v b)) by
      unfold joinR; rw [if_neg (by simp [hv1, hv2]), if_neg (by simp), Int.toNat_natCast]
      exact join_made hv256 hfk hfk' hin1 hin2)
    have Hfg := hid hfg; have Hfk := hid hfk; have Hfg' := hid hfg'; have Hfk' := hid hfk'
    clear h1 h2 h4 h5 g1 g2 g4 g5 hin1 hin2 hfg hfk hfg' hfk' hv1 hv2
    rintro e w1 ⟨rfl, hb1⟩
    have H1 := hid (H0.out.below hb1)
    have HTb := hid H1.out.2.2.2
    have HB0 := hid H1.out.2.2.2.size
    have hgw : w.heap.size + 3 ≤ w1.heap.size := by have := H1.out.2.2.1.lt; omega
    have Hgw := hid hgw
    clear hb1 hgw H0
    go_upto_region 4 with fail
    rename_i Kx hKx
    refine wp_region_inv (fun L f u => I4 w1 w.heap.size v (.agg #[.int .i64 v, .slice A n c, .int .i64 v, .slice B m d, .slice C k q]) (.agg #[.int .i64 v, .slice A' n' c', .int .i64 v, .slice B' m' d', .slice C' k' q']) A n c (oneR gs (folB v ks cs) v) A' n' c' (oneR gs' (folB v ks' cs') v) L f u) Kx (fun _ _ h => h) 8 [some 17, some 18, some 19, some 20, some 7, some 8, none, none] (by kernel_rfl) (by kernel_rfl) (by kernel_rfl) (by kernel_rfl) (by kernel_rfl) (fun f => I4.start HB0.out f) ?_ ?_
    · intro j o L f u ho hL hdep hI K hK
      have HI := hid hI
      match j, ho, hL, hdep, hK with
      | 0, ho, hL, hdep, hK =>
        obtain rfl := Option.some.inj ho
        obtain ⟨c0, c1, c2, c3, c4⟩ := (H1.out.1.below HI.out.bel H1.out.1.lt).five
        have hlt := (H1.out.1.below HI.out.bel H1.out.1.lt).lt
        refine wpOp_step rfl fun K' hK' => ?_
        simp only [putL, updV]
        go_simp
        have hz := hK' _ _ (hK (.agg #[.int .i64 v, .slice A n c, .int .i64 v, .slice B m d, .slice C k q]) (u) (HI.out.op0))
        refine Eq.mp (congrArg (fun a => K' a (u)) ?_) hz
        kernel_rfl
      | 1, ho, hL, hdep, hK =>
        obtain rfl := Option.some.inj ho
        have e0 : f 0 = .agg #[.int .i64 v, .slice A n c, .int .i64 v, .slice B m d, .slice C k q] := HI.out.l0 (hdep ⟨0, .data⟩ (by simp) rfl)
        obtain ⟨f, rfl⟩ := fix1 f 0 _ e0
        refine wpOp_step rfl fun K' hK' => ?_
        simp only [putL, updV]
        go_simp
        have hdv := HI.out.bel
        go_at_call 21
        refine (refTable0_any w.heap.size v A B C n c m d k q gs ks cs _ (HF.out.gen.below HTb.out |>.below hdv) (HF.out.kill.below HTb.out |>.below hdv) (HF.out.cops.below HTb.out |>.below hdv) Hk.out hv256 Hfg.out (Nat.le_trans HB0.out hdv.size) ((HF.out.gen.lies.below HTb.out (Nat.le_refl _)).below (hdv.mono HB0.out) (Nat.le_refl _))).mono ?_
        rintro e u5 ⟨x, rfl, hO, hbk⟩
        obtain ⟨A1, c1, rfl⟩ := hO.slice
        have hz := hK' _ _ (hK (.agg #[.int .i64 v, .slice A n c, .slice A1 v c1]) (u5) (HI.out.op1 hL hbk (hO.lower (Nat.le_trans hdv.size (by omega)))))
        refine Eq.mp (congrArg (fun a => K' a (u5)) ?_) hz
        kernel_rfl
      | 2, ho, hL, hdep, hK =>
        obtain rfl := Option.some.inj ho
        obtain ⟨c0, c1, c2, c3, c4⟩ := (H1.out.2.1.below HI.out.bel H1.out.2.1.lt).five
        have hlt := (H1.out.2.1.below HI.out.bel H1.out.2.1.lt).lt
        refine wpOp_step rfl fun K' hK' => ?_
        simp only [putL, updV]
        go_simp
        have hz := hK' _ _ (hK (.agg #[.int .i64 v, .slice A' n' c', .int .i64 v, .slice B' m' d', .slice C' k' q']) (u) (HI.out.op2))
        refine Eq.mp (congrArg (fun a => K' a (u)) ?_) hz
        kernel_rfl
      | 3, ho, hL, hdep, hK =>
        obtain rfl := Option.some.inj ho
        have e0 : f 2 = .agg #[.int .i64 v, .slice A' n' c', .int .i64 v, .slice B' m' d', .slice C' k' q'] := HI.out.l2 (hdep ⟨2, .data⟩ (by simp) rfl)
        have l1 : L 1 = true := hdep ⟨1, .chain⟩ (by simp) rfl
        obtain ⟨f, rfl⟩ := fix1 f 2 _ e0
        refine wpOp_step rfl fun K' hK' => ?_
        simp only [putL, updV]
        go_simp
        have hdv := HI.out.bel
        go_at_call 21
        refine (refTable0_any w.heap.size v A' B' C' n' c' m' d' k' q' gs' ks' cs' _ (HG.out.gen.below HTb.out |>.below hdv) (HG.out.kill.below HTb.out |>.below hdv) (HG.out.cops.below HTb.out |>.below hdv) Hk'.out hv256 Hfg'.out (Nat.le_trans HB0.out hdv.size) ((HG.out.gen.lies.below HTb.out (Nat.le_refl _)).below (hdv.mono HB0.out) (Nat.le_refl _))).mono ?_
        rintro e u5 ⟨x, rfl, hO, hbk⟩
        obtain ⟨A1, c1, rfl⟩ := hO.slice
        have hz := hK' _ _ (hK (.agg #[.int .i64 v, .slice A' n' c', .slice A1 v c1]) (u5) (HI.out.op3 l1 hL hbk (hO.lower (by omega))))
        refine Eq.mp (congrArg (fun a => K' a (u5)) ?_) hz
        kernel_rfl
      | 4, ho, hL, hdep, hK =>
        obtain rfl := Option.some.inj ho
        refine wpOp_step rfl fun K' hK' => ?_
        simp only [putL, updV]
        go_simp
        have hz := hK' _ _ (hK (.pointer (some ⟨u.heap.size, 0, none⟩)) ((u.alloc (.cells #[.int .i64 0, .slice none 0 0, .slice none 0 0] 53))) (HI.out.op4 hL))
        refine Eq.mp (congrArg (fun a => K' a ((u.alloc (.cells #[.int .i64 0, .slice none 0 0, .slice none 0 0] 53)))) ?_) hz
        kernel_rfl
      | 5, ho, hL, hdep, hK =>
        obtain rfl := Option.some.inj ho
        refine wpOp_step rfl fun K' hK' => ?_
        simp only [putL, updV]
        go_simp
        have hz := hK' _ _ (hK (.pointer (some ⟨u.heap.size, 0, none⟩)) ((u.alloc (.cells #[.int .i64 0, .slice none 0 0, .slice none 0 0] 53))) (HI.out.op5 hL))
        refine Eq.mp (congrArg (fun a => K' a ((u.alloc (.cells #[.int .i64 0, .slice none 0 0, .slice none 0 0] 53)))) ?_) hz
        kernel_rfl
      | 6, ho, hL, hdep, hK =>
        obtain rfl := Option.some.inj ho
        have l4 : L 4 = true := hdep ⟨4, .data⟩ (by simp) rfl
        have l5 : L 5 = true := hdep ⟨5, .phase⟩ (by simp) rfl
        have l3 : L 3 = true := hdep ⟨3, .chain⟩ (by simp) rfl
        have l7 : L 7 = false := by
          cases h : L 7 with
          | false => rfl
          | true => have := (HI.out.s7 h).1; rw [hL] at this; cases this
        obtain ⟨_, A1, c1, _, _, e1, _⟩ := HI.out.t3 l3
        obtain ⟨b, cs9, e0, hFb, h3, _⟩ := HI.out.p4 l4
        have HI9 := hid (HI.out.op6 (val := undef) hL l7 l3 l4 l5 e0 e1)
        unfold tabv at e1
        obtain ⟨x, y, z, hcs⟩ := h3
        subst hcs
        obtain ⟨c0, c1', c2⟩ := hFb.three
        have f0 := hFb.frozen 0
        have f1 := hFb.frozen 1
        have f2 := hFb.frozen 2
        have hlt := hFb.lt
        obtain ⟨f, rfl⟩ := fix1 f 4 _ e0
        rw [updV_ne _ _ (by decide)] at e1
        obtain ⟨f, rfl⟩ := fix1 f 1 _ e1
        refine wpOp_step rfl fun K' hK' => ?_
        simp only [putL, updV]
        go_simp
        have hz := hK' _ _ (hK (undef) (put3 u b (.int .i64 v) (.slice A n c) (.slice A1 v c1)) (HI9.out))
        refine Eq.mp (congrArg (fun a => K' a (put3 u b (.int .i64 v) (.slice A n c) (.slice A1 v c1))) ?_) hz
        kernel_rfl
      | 7, ho, hL, hdep, hK =>
        obtain rfl := Option.some.inj ho
        have l6 : L 6 = true := hdep ⟨6, .chain⟩ (by simp) rfl
        have l4 : L 4 = true := hdep ⟨4, .phase⟩ (by simp) rfl
        have l5 : L 5 = true := hdep ⟨5, .data⟩ (by simp) rfl
        have l3 : L 3 = true := hdep ⟨3, .data⟩ (by simp) rfl
        obtain ⟨_, _, _, A1, c1, _, e1, _⟩ := HI.out.t3 l3
        obtain ⟨b, cs9, e0, hFb, h3, _⟩ := HI.out.p5 l5
        have HI9 := hid (HI.out.op7 (val := undef) l6 hL l4 l5 e0 e1)
        unfold tabv at e1
        obtain ⟨x, y, z, hcs⟩ := h3
        subst hcs
        obtain ⟨c0, c1', c2⟩ := hFb.three
        have f0 := hFb.frozen 0
        have f1 := hFb.frozen 1
        have f2 := hFb.frozen 2
        have hlt := hFb.lt
        obtain ⟨f, rfl⟩ := fix1 f 5 _ e0
        rw [updV_ne _ _ (by decide)] at e1
        obtain ⟨f, rfl⟩ := fix1 f 3 _ e1
        refine wpOp_step rfl fun K' hK' => ?_
        simp only [putL, updV]
        go_simp
        have hz := hK' _ _ (hK (undef) (put3 u b (.int .i64 v) (.slice A' n' c') (.slice A1 v c1)) (HI9.out))
        refine Eq.mp (congrArg (fun a => K' a (put3 u b (.int .i64 v) (.slice A' n' c') (.slice A1 v c1))) ?_) hz
        kernel_rfl
      | j + 8, ho, hL, hdep, hK => exact absurd (Array.getElem?_eq_some_iff.1 ho).1 (by simp)
    · intro L f u hL hI
      obtain ⟨bx, by', A1, c1, A2, c2, e4, e5, hT⟩ := hI.done hL
      have HT := hid hT
      obtain ⟨f, rfl⟩ := fix1 f 4 _ e4
      rw [updV_ne _ _ (by decide)] at e5
      obtain ⟨f, rfl⟩ := fix1 f 5 _ e5
      clear hI hT e4 e5
      simp only [putL, updV]
      go_simp
      refine hKx _ _ ?_
      clear hKx
      have HU := hid (below_step HTb.out HT.out.bel)
      have HFu := hid (HF.out.below HU.out)
      have HGu := hid (HG.out.below HU.out)
      obtain ⟨x0, x1, x2⟩ := HT.out.x.three
      obtain ⟨y0, y1, y2⟩ := HT.out.y.three
      have hxl := HT.out.x.lt
      have hyl := HT.out.y.lt
      go_wp2_with fail
      refine (refJoin2_any v A A' n c n' c' gs gs' _ HFu.out.gen HGu.out.gen hv256 Hfg.out Hfg'.out).mono ?_
      rintro e u2 ⟨gz, nz, cz, rfl, hrz', haz, hbz⟩
      have hmz := haz.len.symm
      have hrz : From u2 w.heap.size (some ⟨gz, 0, none⟩) (orR v gs gs') := .inr ⟨gz, rfl, hrz'⟩
      generalize (some ⟨gz, 0, none⟩ : Option Addr) = Z at *
      clear hrz' haz
      obtain ⟨⟨z0, z1, z2, z3, z4⟩, hJ0⟩ := Jng.start (dz := cz) H1.out HT.out Hgw.out hbz hrz hmz
      generalize hJd : (fun b => orR v (oneR gs (folB v ks cs) v b) (oneR gs' (folB v ks' cs') v b)) = J at *
      have HJ0 := hid hJ0
      clear hJ0 hbz hrz hmz x0 x1 x2 y0 y1 y2 hxl hyl HT HFu HGu HU
      generalize hzs : orR v gs gs' = zs at *
      have Hzs := hid hzs; have HJd := hid hJd
      clear hzs hJd
      go_wp2_with fail
      clear z0 z1 z2 z3 z4
      go_loopw [9] (fun iv wr => ∃ b : Nat, b ≤ v ∧ iv = .int .i64 b ∧ Hid (Jng w w1 v A B C n c m d k q A' B' C' n' c' m' d' k' q' bx by' Z nz cz A1 c1 A2 c2 zs (fun i => if i < b then J i else oneR gs (folB v ks cs) v i) (oneR gs' (folB v ks' cs') v) wr)) (fun iv _ => v - (intOf iv).toNat)
      case atStart => exact ⟨0, by omega, rfl, by simpa using HJ0⟩
      case round =>
        obtain ⟨b, hb, rfl, HJ⟩ := hrel
        obtain ⟨x0, x1, x2⟩ := HJ.out.x.three
        have hxl := HJ.out.x.lt
        by_cases hlt : b < v
        · have HBr := hid HJ.out.t.2.2.2.size
          obtain ⟨ad, E, x, y, rfl, had, c0, c1', hE, hE0⟩ := HJ.out.o1.at hlt HBr.out (by rw [if_neg (Nat.lt_irrefl b)]; exact fit_oneR _ _ _ _)
          rw [if_neg (Nat.lt_irrefl b)] at hE
          obtain ⟨ad2, E2, x2', y2', rfl, had2, d0, d1, hE2, hE20⟩ := HJ.out.o2.at hlt HBr.out (fit_oneR _ _ _ _)
          have Had2 := hid had2; have Hd0 := hid d0; have Hd1 := hid d1; have HE2 := hid hE2
          clear had2 d0 d1 hE2 hE20
          have Had := hid had; have Hc0 := hid c0; have Hc1 := hid c1'; have HE := hid hE
          clear had c0 c1' hE hE0
          go_upto_region 9 with fail
          clear x0 x1 x2 hxl
          rename_i Kx hKx
          refine wp_region_facts (fun i => ([Fv (.pointer (some ⟨bx, 2, none⟩)), Fv (.slice (some ad) v c1), Fv (.int .i64 (b : Int)), Fv (.pointer (some ⟨bx, 2, none⟩)), Fv (.slice (some ad) v c1), Fv (.int .i64 (b : Int)), Fv (.pointer (some (ad.add (b * 2)))), Fv (.agg #[.int .i64 v, .slice E x y]), Fv (.pointer (some ⟨by', 2, none⟩)), Fv (.slice (some ad2) v c2), Fv (.int .i64 (b : Int)), Fv (.pointer (some (ad2.add (b * 2)))), Fv (.agg #[.int .i64 v, .slice E2 x2' y2']), Fset w.heap.size v (orR v (oneR gs (folB v ks cs) v b) (oneR gs' (folB v ks' cs') v b))]).getD i (fun _ _ => True)) (fun u' => Below wr.heap.size wr u') (fun _ => none) (fun _ a b => Below a.heap.size a b ∧ wr.heap.size ≤ a.heap.size) Kx (fun _ _ h => h) 16 14
            [some 34, some 35, some 36, some 37, some 38, some 39, some 40, some 41, some 42, some 43, some 44, some 45, some 46, some 47, some 48, none] (by kernel_rfl) (by kernel_rfl) (by kernel_rfl) (by kernel_rfl) (by kernel_rfl) (by kernel_rfl) (by decide)
            ?st (Below.refl _ _).drew ?ar ?en
          case st =>
            intro j a b' i z hb hne hu hF
            match i with
            | 0 => exact hF
            | 1 => exact hF
            | 2 => exact hF
            | 3 => exact hF
            | 4 => exact hF
            | 5 => exact hF
            | 6 => exact hF
            | 7 => exact hF
            | 8 => exact hF
            | 9 => exact hF
            | 10 => exact hF
            | 11 => exact hF
            | 12 => exact hF
            | 13 => exact Fset.stb (Nat.le_trans HBr.out hb.2) hb.1 hF
            | i + 14 => trivial
          case ar =>
            intro j o f u' ho hi hB hpre K hK
            match j, ho, hpre, hK with
            | 0, ho, hpre, hK =>
              obtain rfl := Option.some.inj ho
              refine wpOp_step rfl fun K' hK' => ?_
              simp only [putL, updV]
              go_simp
              have hz := hK' _ _ (hK (.pointer (some ⟨bx, 2, none⟩)) (u') (hB) (⟨Below.refl _ _, hB.size⟩) (rfl))
              refine Eq.mp (congrArg (fun a => K' a (u')) ?_) hz
              kernel_rfl
            | 1, ho, hpre, hK =>
              obtain rfl := Option.some.inj ho
              have e0 : f 0 = .pointer (some ⟨bx, 2, none⟩) := hpre ⟨0, .data⟩ (by simp) rfl (.inl rfl)
              obtain ⟨f, rfl⟩ := fix1 f 0 _ e0
              clear e0
              have hx := HJ.out.x.below hB HJ.out.x.lt
              obtain ⟨x0, x1, x2⟩ := hx.three
              have hxl := hx.lt
              refine wpOp_step rfl fun K' hK' => ?_
              simp only [putL, updV]
              go_simp
              have hz := hK' _ _ (hK (.slice (some ad) v c1) (u') (hB) (⟨Below.refl _ _, hB.size⟩) (rfl))
              refine Eq.mp (congrArg (fun a => K' a (u')) ?_) hz
              kernel_rfl
            | 2, ho, hpre, hK =>
              obtain rfl := Option.some.inj ho
              refine wpOp_step rfl fun K' hK' => ?_
              simp only [putL, updV]
              go_simp
              have hz := hK' _ _ (hK (.int .i64 (b : Int)) (u') (hB) (⟨Below.refl _ _, hB.size⟩) (rfl))
              refine Eq.mp (congrArg (fun a => K' a (u')) ?_) hz
              kernel_rfl
            | 3, ho, hpre, hK =>
              obtain rfl := Option.some.inj ho
              refine wpOp_step rfl fun K' hK' => ?_
              simp only [putL, updV]
              go_simp
              have hz := hK' _ _ (hK (.pointer (some ⟨bx, 2, none⟩)) (u') (hB) (⟨Below.refl _ _, hB.size⟩) (rfl))
              refine Eq.mp (congrArg (fun a => K' a (u')) ?_) hz
              kernel_rfl
            | 4, ho, hpre, hK =>
              obtain rfl := Option.some.inj ho
              have e3 : f 3 = .pointer (some ⟨bx, 2, none⟩) := hpre ⟨3, .data⟩ (by simp) rfl (.inl rfl)
              obtain ⟨f, rfl⟩ := fix1 f 3 _ e3
              clear e3
              have hx := HJ.out.x.below hB HJ.out.x.lt
              obtain ⟨x0, x1, x2⟩ := hx.three
              have hxl := hx.lt
              refine wpOp_step rfl fun K' hK' => ?_
              simp only [putL, updV]
              go_simp
              have hz := hK' _ _ (hK (.slice (some ad) v c1) (u') (hB) (⟨Below.refl _ _, hB.size⟩) (rfl))
              refine Eq.mp (congrArg (fun a => K' a (u')) ?_) hz
              kernel_rfl
            | 5, ho, hpre, hK =>
              obtain rfl := Option.some.inj ho
              refine wpOp_step rfl fun K' hK' => ?_
              simp only [putL, updV]
              go_simp
              have hz := hK' _ _ (hK (.int .i64 (b : Int)) (u') (hB) (⟨Below.refl _ _, hB.size⟩) (rfl))
              refine Eq.mp (congrArg (fun a => K' a (u')) ?_) hz
              kernel_rfl
            | 6, ho, hpre, hK =>
              obtain rfl := Option.some.inj ho
              have e4 : f 4 = .slice (some ad) v c1 := hpre ⟨4, .data⟩ (by simp) rfl (.inl rfl)
              have e5 : f 5 = .int .i64 (b : Int) := hpre ⟨5, .data⟩ (by simp) rfl (.inl rfl)
              obtain ⟨f, rfl⟩ := fix1 f 4 _ e4
              rw [updV_ne _ _ (by decide)] at e5
              obtain ⟨f, rfl⟩ := fix1 f 5 _ e5
              clear e4 e5
              have k0 : (0 : Int) ≤ b := by omega
              have k1 : (b : Int) < v := by omega
              have k2 : (b : Int).toNat = b := by omega
              refine wpOp_step rfl fun K' hK' => ?_
              simp only [putL, updV]
              go_simp
              have hz := hK' _ _ (hK (.pointer (some (ad.add (b * 2)))) (u') (hB) (⟨Below.refl _ _, hB.size⟩) (rfl))
              refine Eq.mp (congrArg (fun a => K' a (u')) ?_) hz
              kernel_rfl
            | 7, ho, hpre, hK =>
              obtain rfl := Option.some.inj ho
              have e6 : f 6 = .pointer (some (ad.add (b * 2))) := hpre ⟨6, .data⟩ (by simp) rfl (.inl rfl)
              obtain ⟨f, rfl⟩ := fix1 f 6 _ e6
              clear e6
              have q0 := (hB.cell (p := ad.add (b * 2)) (by rw [add_block]; exact Had.out)).trans Hc0.out
              have q1 := (hB.cell (p := ⟨(ad.add (b * 2)).block, (ad.add (b * 2)).off + 1, none⟩) (by rw [add_block]; exact Had.out)).trans Hc1.out
              refine wpOp_step rfl fun K' hK' => ?_
              simp only [putL, updV]
              go_simp
              have hz := hK' _ _ (hK (.agg #[.int .i64 v, .slice E x y]) (u') (hB) (⟨Below.refl _ _, hB.size⟩) (rfl))
              refine Eq.mp (congrArg (fun a => K' a (u')) ?_) hz
              kernel_rfl
            | 8, ho, hpre, hK =>
              obtain rfl := Option.some.inj ho
              refine wpOp_step rfl fun K' hK' => ?_
              simp only [putL, updV]
              go_simp
              have hz := hK' _ _ (hK (.pointer (some ⟨by', 2, none⟩)) (u') (hB) (⟨Below.refl _ _, hB.size⟩) (rfl))
              refine Eq.mp (congrArg (fun a => K' a (u')) ?_) hz
              kernel_rfl
            | 9, ho, hpre, hK =>
              obtain rfl := Option.some.inj ho
              have e8 : f 8 = .pointer (some ⟨by', 2, none⟩) := hpre ⟨8, .data⟩ (by simp) rfl (.inl rfl)
              obtain ⟨f, rfl⟩ := fix1 f 8 _ e8
              clear e8
              have hy := HJ.out.y.below hB HJ.out.y.lt
              obtain ⟨y0, y1, y2⟩ := hy.three
              have hyl := hy.lt
              refine wpOp_step rfl fun K' hK' => ?_
              simp only [putL, updV]
              go_simp
              have hz := hK' _ _ (hK (.slice (some ad2) v c2) (u') (hB) (⟨Below.refl _ _, hB.size⟩) (rfl))
              refine Eq.mp (congrArg (fun a => K' a (u')) ?_) hz
              kernel_rfl
            | 10, ho, hpre, hK =>
              obtain rfl := Option.some.inj ho
              refine wpOp_step rfl fun K' hK' => ?_
              simp only [putL, updV]
              go_simp
              have hz := hK' _ _ (hK (.int .i64 (b : Int)) (u') (hB) (⟨Below.refl _ _, hB.size⟩) (rfl))
              refine Eq.mp (congrArg (fun a => K' a (u')) ?_) hz
              kernel_rfl
            | 11, ho, hpre, hK =>
              obtain rfl := Option.some.inj ho
              have e9 : f 9 = .slice (some ad2) v c2 := hpre ⟨9, .data⟩ (by simp) rfl (.inl rfl)
              have e10 : f 10 = .int .i64 (b : Int) := hpre ⟨10, .data⟩ (by simp) rfl (.inl rfl)
              obtain ⟨f, rfl⟩ := fix1 f 9 _ e9
              rw [updV_ne _ _ (by decide)] at e10
              obtain ⟨f, rfl⟩ := fix1 f 10 _ e10
              clear e9 e10
              have k0 : (0 : Int) ≤ b := by omega
              have k1 : (b : Int) < v := by omega
              have k2 : (b : Int).toNat = b := by omega
              refine wpOp_step rfl fun K' hK' => ?_
              simp only [putL, updV]
              go_simp
              have hz := hK' _ _ (hK (.pointer (some (ad2.add (b * 2)))) (u') (hB) (⟨Below.refl _ _, hB.size⟩) (rfl))
              refine Eq.mp (congrArg (fun a => K' a (u')) ?_) hz
              kernel_rfl
            | 12, ho, hpre, hK =>
              obtain rfl := Option.some.inj ho
              have e11 : f 11 = .pointer (some (ad2.add (b * 2))) := hpre ⟨11, .data⟩ (by simp) rfl (.inl rfl)
              obtain ⟨f, rfl⟩ := fix1 f 11 _ e11
              clear e11
              have q0 := (hB.cell (p := ad2.add (b * 2)) (by rw [add_block]; exact Had2.out)).trans Hd0.out
              have q1 := (hB.cell (p := ⟨(ad2.add (b * 2)).block, (ad2.add (b * 2)).off + 1, none⟩) (by rw [add_block]; exact Had2.out)).trans Hd1.out
              refine wpOp_step rfl fun K' hK' => ?_
              simp only [putL, updV]
              go_simp
              have hz := hK' _ _ (hK (.agg #[.int .i64 v, .slice E2 x2' y2']) (u') (hB) (⟨Below.refl _ _, hB.size⟩) (rfl))
              refine Eq.mp (congrArg (fun a => K' a (u')) ?_) hz
              kernel_rfl
            | 13, ho, hpre, hK =>
              obtain rfl := Option.some.inj ho
              have e7 : f 7 = .agg #[.int .i64 v, .slice E x y] := hpre ⟨7, .data⟩ (by simp) rfl (.inl rfl)
              have e12 : f 12 = .agg #[.int .i64 v, .slice E2 x2' y2'] := hpre ⟨12, .data⟩ (by simp) rfl (.inl rfl)
              obtain ⟨f, rfl⟩ := fix1 f 7 _ e7
              rw [updV_ne _ _ (by decide)] at e12
              obtain ⟨f, rfl⟩ := fix1 f 12 _ e12
              clear e7 e12
              refine wpOp_step rfl fun K' hK' => ?_
              simp only [putL, updV]
              go_simp
              go_at_call 51
              refine (refJoin2_any v E E2 x y x2' y2' (oneR gs (folB v ks cs) v b) (oneR gs' (folB v ks' cs') v b) _ (HE.out.below hB) (HE2.out.below hB) hv256 (fit_oneR _ _ _ _) (fit_oneR _ _ _ _)).mono ?_
              rintro e u5 ⟨g9, m9, d9, rfl, hr9, ha9, hbk⟩
              have HF9 := hid (show Fset w.heap.size v (orR v (oneR gs (folB v ks cs) v b) (oneR gs' (folB v ks' cs') v b)) (.agg #[.int .i64 v, .slice (some ⟨g9, 0, none⟩) m9 d9]) u5 from ⟨_, m9, d9, rfl, .inr ⟨g9, rfl, hr9⟩, ha9.len.symm⟩)
              have hz := hK' _ _ (hK (.agg #[.int .i64 v, .slice (some ⟨g9, 0, none⟩) m9 d9]) (u5) (below_step hB hbk) (⟨hbk, hB.size⟩) (HF9.out))
              refine Eq.mp (congrArg (fun a => K' a (u5)) ?_) hz
              kernel_rfl
            | j + 14, ho, hpre, hK => exact absurd hi (by omega)
          case en =>
            intro Q2 hQ2 f u' hB hF
            have e1 : f 1 = .slice (some ad) v c1 := hF 1 (by decide) rfl
            have e2 : f 2 = .int .i64 (b : Int) := hF 2 (by decide) rfl
            obtain ⟨A9, m9, d9, ec, hr9, hm9⟩ : Fset w.heap.size v (orR v (oneR gs (folB v ks cs) v b) (oneR gs' (folB v ks' cs') v b)) (f 13) u' := hF 13 (by decide) rfl
            obtain ⟨f, rfl⟩ := fix1 f 1 _ e1
            rw [updV_ne _ _ (by decide)] at e2 ec
            obtain ⟨f, rfl⟩ := fix1 f 2 _ e2
            rw [updV_ne _ _ (by decide)] at ec
            obtain ⟨f, rfl⟩ := fix1 f 13 _ ec
            have HJu := hid (HJ.out.below hB)
            obtain ⟨ad9, ead, hla, ⟨E9, x9, y9, s0, s1, s2⟩, f0, f1, hJn⟩ := HJu.out.put (d9 := d9) hlt hr9 hm9
            injection ead with ead
            subst ead
            have HJn := hid hJn
            clear hB hF e1 e2 ec hr9 hm9 hJn
            show wpAny _ _ _ _ 2 (tailArr 16 14) _ _
            generalize hA : putL _ _ _ _ = aa
            refine tail_two (i := 14) (j := 15) ?q1 ?q2 ?q3 rfl rfl hQ2 ?q4
            case q1 => kernel_rfl
            case q2 => kernel_rfl
            case q3 => kernel_rfl
            simp only [putL, updV] at hA
            rw [← hA]
            clear hA
            have k0 : (0 : Int) ≤ b := by omega
            have k1 : (b : Int) < v := by omega
            have k2 : (b : Int).toNat = b := by omega
            go_simp
            refine hKx _ _ ?_
            clear hKx k0 k1 k2
            have HJn := hid (show Jng w w1 v A B C n c m d k q A' B' C' n' c' m' d' k' q' bx by' Z nz cz (some ad) c1 (some ad2) c2 zs (fun i => if i < b + 1 then J i else oneR gs (folB v ks cs) v i) (oneR gs' (folB v ks' cs') v) ((u'.setCell (ad.add (b * 2)) (.int .i64 v)).setCell ⟨(ad.add (b * 2)).block, (ad.add (b * 2)).off + 1, none⟩ (.slice A9 m9 d9)) from by
              have h9 := HJn.out
              rw [show upd1 (fun i => if i < b then J i else oneR gs (folB v ks cs) v i) b (orR v (oneR gs (folB v ks cs) v b) (oneR gs' (folB v ks' cs') v b)) = (fun i => if i < b + 1 then J i else oneR gs (folB v ks cs) v i) from by
                rw [show (orR v (oneR gs (folB v ks cs) v b) (oneR gs' (folB v ks' cs') v b)) = J b from by rw [← HJd.out]]; exact upd1_step _ _ _] at h9
              exact h9)
            go_wp2_with fail
            go_roundw
            case rel => exact ⟨b + 1, by omega, by go_num, HJn⟩
            case measure => simp [intOf]; omega
        · have hbv : b = v := by omega
          subst hbv
          have HBr := hid HJ.out.t.2.2.2.size
          have Hfz := hid (show Bs.Fit b zs from by rw [← Hzs.out]; exact fit_orR _ _ _)
          have Hfo := hid (show ∀ i, i < b → Bs.Fit b ((fun i => if i < b then J i else oneR gs (folB b ks cs) b i) i) from fun i hi => by
            show Bs.Fit b (if i < b then J i else _)
            rw [if_pos hi, ← HJd.out]; exact fit_orR _ _ _)
          have HZ := hid (HJ.out.z.arg HBr.out HJ.out.zl Hfz.out.ok)
          have HO := hid (HJ.out.o1.argO HBr.out (fun i hi => (Hfo.out i hi).ok))
          go_wp2_with fail
          refine (refMade_any b Z A1 nz cz c1 zs (fun i => if i < b then J i else oneR gs (folB b ks cs) b i) _ HZ.out HO.out hv256 Hfz.out Hfo.out).mono ?_
          rw [madeR_congr (two := J) (fun a b' ha _ => by show Bs.bit (if a < b then J a else _) b' = _; rw [if_pos ha])]
          have Hr := hid (show joinR b gs b ks cs b gs' b ks' cs' = madeR b zs J from by rw [Hr.out, ← Hzs.out, ← HJd.out])
          obtain ⟨r, hrr⟩ : ∃ r, madeR b zs J = r := ⟨_, rfl⟩
          rw [hrr] at Hr ⊢
          clear hrr
          obtain ⟨W8, gs8, ks8, cs8, er8⟩ := r
          rintro e w8 ⟨A8, n8, c8, B8, m8, d8, C8, q8, rfl, hA8, hB8, hC8, hbk⟩
          have H8 := hid (HJ.out.t.below hbk)
          obtain ⟨r0, r1, r2, r3, r4⟩ := H8.out.2.2.1.five
          have f0 := H8.out.2.2.1.frozen 0
          have f1 := H8.out.2.2.1.frozen 1
          have f2 := H8.out.2.2.1.frozen 2
          have f3 := H8.out.2.2.1.frozen 3
          have f4 := H8.out.2.2.1.frozen 4
          have hlR := H8.out.2.2.1.lt
          have Fin := hid (RetT.stored (w := w) (err := er8) (c := c8) (d := d8) (q := q8) (W := W8) hA8 hB8 hC8 H8.out.2.2.2 (by omega) H8.out.2.2.1)
          unfold stored5 at Fin
          clear hbk hA8 hB8 hC8 x0 x1 x2 hxl HJ
          go_wp2_with fail
          refine bodyPost_ret (v := .tuple #[.agg #[.int .i64 W8, .slice A8 n8 c8, .int .i64 W8, .slice B8 m8 d8, .slice C8 cs8.length q8], .int .i64 er8]) (by simp [results, Try.results23, go_sem, r0, r1, r2, r3, r4]) rfl ?_
          rw [Hr.out]
          exact Fin.out
end Go.Proofs.Ytmbelhdkaepohaa

namespace Go.Proofs.Ytmbelhdkaepohaa
set_option maxRecDepth 20000
set_option linter.unusedVariables false
set_option linter.unusedSimpArgs false
open Go.ChangeShapes Go.WideShapes Go.ChangeAt Go.RowKit

set_option maxHeartbeats 3200000 in
theorem refCompose_any (W V : Int) (A B C : Option Addr) (n c m d k q : Nat) (gs ks : List Nat) (cs : List (Int × Int)) (W' V' : Int) (A' B' C' : Option Addr) (n' c' m' d' k' q' : Nat) (gs' ks' : List Nat) (cs' : List (Int × Int)) (w : World)
    (hF : FArg w A n B m C k gs ks cs) (hG : FArg w A' n' B' m' C' k' gs' ks' cs') :
    Calls Try.prog 25 #[.agg #[.int .i64 W, .slice A n c, .int .i64 V, .slice B m d, .slice C k q], .agg #[.int .i64 W', .slice A' n' c', .int .i64 V', .slice B' m' d', .slice C' k' q']] w
      (RetR w (composeR W gs V ks cs W' gs' V' ks' cs')) := by
  have HF := hid hF; have HG := hid hG
  have H0 := hid (Three.start w W V A B C n c m d k q W' V' A' B' C' n' c' m' d' k' q')
  clear hF hG
  go_enter Try.func25, Try.ntmps25
  go_wp2_with fail
  refine (refTwo_any W V A B C n c m d k q gs ks cs W' V' A' B' C' n' c' m' d' k' q' gs' ks' cs' _ (HF.out.below H0.out.2.2.2) (HG.out.below H0.out.2.2.2)).mono ?_
  by_cases hbad : checkR (validT W gs V ks cs) (validT W' gs' V' ks' cs') W W' ≠ 0
  · have Hr := hid (show composeR W gs V ks cs W' gs' V' ks' cs' = (0, [], [], [], checkR (validT W gs V ks cs) (validT W' gs' V' ks' cs') W W') by
      unfold composeR checkR
      unfold checkR at hbad
      by_cases h1 : validT W gs V ks cs = false ∨ validT W' gs' V' ks' cs' = false
      · rw [if_pos h1, if_pos h1]
      · rw [if_neg h1, if_neg h1]
        rw [if_neg h1] at hbad
        by_cases h2 : W ≠ W'
        · rw [if_pos h2, if_pos h2]
        · rw [if_neg h2] at hbad; exact absurd rfl hbad)
    generalize checkR (validT W gs V ks cs) (validT W' gs' V' ks' cs') W W' = er at *
    have tt : (er != 0) = true := by simpa using hbad
    clear hbad
    rintro e w1 ⟨rfl, hb1⟩
    have H1 := hid (H0.out.below hb1)
    clear hb1
    obtain ⟨r0, r1, r2, r3, r4⟩ := H1.out.2.2.1.five
    have f0 := H1.out.2.2.1.frozen 0
    have f1 := H1.out.2.2.1.frozen 1
    have f2 := H1.out.2.2.1.frozen 2
    have f3 := H1.out.2.2.1.frozen 3
    have f4 := H1.out.2.2.1.frozen 4
    have hlR := H1.out.2.2.1.lt
    have Fin := hid (RetT.stored (err := er) (c := 0) (d := 0) (q := 0) (cs := []) (C := none) (Arg.nil w1 none) (Arg.nil w1 none) ⟨.inl rfl, rfl⟩ H1.out.2.2.2 (by omega) H1.out.2.2.1 (W := 0))
    unfold stored5 at Fin
    go_wp2_with fail
    refine bodyPost_ret (v := .tuple #[.agg #[.int .i64 0, .slice none 0 0, .int .i64 0, .slice none 0 0, .slice none 0 0], .int .i64 er]) (by simp [results, Try.results25, go_sem, r0, r1, r2, r3, r4]) rfl ?_
    rw [Hr.out]
    exact Fin.out
  · have hok : checkR (validT W gs V ks cs) (validT W' gs' V' ks' cs') W W' = 0 := by simpa using hbad
    rw [hok]
    have hv1 : validT W gs V ks cs = true := by
      unfold checkR at hok
      cases h : validT W gs V ks cs with
      | true => rfl
      | false => rw [h] at hok; simp at hok
    have hv2 : validT W' gs' V' ks' cs' = true := by
      unfold checkR at hok
      cases h : validT W' gs' V' ks' cs' with
      | true => rfl
      | false => rw [h] at hok; simp at hok
    have hWW : W = W' := by
      unfold checkR at hok
      rw [hv1, hv2] at hok
      by_cases h : W = W'
      · exact h
      · simp [h] at hok
    clear hok hbad
    subst hWW
    obtain ⟨h1, h2, h3, h4, h5⟩ := validT_iff hv1
    obtain ⟨g1, g2, g3, g4, g5⟩ := validT_iff hv2
    subst h3
    subst g3
    have hin1 := inW_of_ok h5
    have hin2 := inW_of_ok g5
    obtain ⟨v, rfl⟩ := Int.eq_ofNat_of_zero_le (Bs.validB_iff.1 h1).1
    have hv256 : v ≤ 256 := by have := (Bs.validB_iff.1 h1).2.1; omega
    have hfg := fit_of_valid' h1 HF.out.gen
    have hfk := fit_of_valid' h2 HF.out.kill
    have hfg' := fit_of_valid' g1 HG.out.gen
    have hfk' := fit_of_valid' g2 HG.out.kill
    have Hk := hid (show k ≤ maxLen by rw [HF.out.cops.len] at h4; unfold maxLen; omega)
    have Hk' := hid (show k' ≤ maxLen by rw [HG.out.cops.len] at g4; unfold maxLen; omega)
    have Hr := hid (show composeR v gs v ks cs v gs' v ks' cs' = madeR v (valR gs' gs (folB v ks' cs') v) (fun b => valR gs' (oneR gs (folB v ks cs) v b) (folB v ks' cs') v) by
      unfold composeR; rw [if_neg (by simp [hv1, hv2]), if_neg (by simp), Int.toNat_natCast]
      exact comp_made hv256 hfg hfk hfk' hin1 hin2)
    have Hfg := hid hfg; have Hfk := hid hfk; have Hfg' := hid hfg'; have Hfk' := hid hfk'
    clear h1 h2 h4 h5 g1 g2 g4 g5 hin1 hin2 hfg hfk hfg' hfk' hv1 hv2
    rintro e w1 ⟨rfl, hb1⟩
    have H1 := hid (H0.out.below hb1)
    have HTb := hid H1.out.2.2.2
    have HB0 := hid H1.out.2.2.2.size
    have hgw : w.heap.size + 3 ≤ w1.heap.size := by have := H1.out.2.2.1.lt; omega
    have Hgw := hid hgw
    clear hb1 hgw H0
    go_upto_region 4 with fail
    rename_i Kx hKx
    refine wp_region_inv (fun L f u => I4 w1 w.heap.size v (.agg #[.int .i64 v, .slice A n c, .int .i64 v, .slice B m d, .slice C k q]) (.agg #[.int .i64 v, .slice A' n' c', .int .i64 v, .slice B' m' d', .slice C' k' q']) A n c (oneR gs (folB v ks cs) v) A' n' c' (oneR gs' (folB v ks' cs') v) L f u) Kx (fun _ _ h => h) 8 [some 17, some 18, some 19, some 20, some 7, some 8, none, none] (by kernel_rfl) (by kernel_rfl) (by kernel_rfl) (by kernel_rfl) (by kernel_rfl) (fun f => I4.start HB0.out f) ?_ ?_
    · intro j o L f u ho hL hdep hI K hK
      have HI := hid hI
      match j, ho, hL, hdep, hK with
      | 0, ho, hL, hdep, hK =>
        obtain rfl := Option.some.inj ho
        obtain ⟨c0, c1, c2, c3, c4⟩ := (H1.out.1.below HI.out.bel H1.out.1.lt).five
        have hlt := (H1.out.1.below HI.out.bel H1.out.1.lt).lt
        refine wpOp_step rfl fun K' hK' => ?_
        simp only [putL, updV]
        go_simp
        have hz := hK' _ _ (hK (.agg #[.int .i64 v, .slice A n c, .int .i64 v, .slice B m d, .slice C k q]) (u) (HI.out.op0))
        refine Eq.mp (congrArg (fun a => K' a (u)) ?_) hz
        kernel_rfl
      | 1, ho, hL, hdep, hK =>
        obtain rfl := Option.some.inj ho
        have e0 : f 0 = .agg #[.int .i64 v, .slice A n c, .int .i64 v, .slice B m d, .slice C k q] := HI.out.l0 (hdep ⟨0, .data⟩ (by simp) rfl)
        obtain ⟨f, rfl⟩ := fix1 f 0 _ e0
        refine wpOp_step rfl fun K' hK' => ?_
        simp only [putL, updV]
        go_simp
        have hdv := HI.out.bel
        go_at_call 21
        refine (refTable0_any w.heap.size v A B C n c m d k q gs ks cs _ (HF.out.gen.below HTb.out |>.below hdv) (HF.out.kill.below HTb.out |>.below hdv) (HF.out.cops.below HTb.out |>.below hdv) Hk.out hv256 Hfg.out (Nat.le_trans HB0.out hdv.size) ((HF.out.gen.lies.below HTb.out (Nat.le_refl _)).below (hdv.mono HB0.out) (Nat.le_refl _))).mono ?_
        rintro e u5 ⟨x, rfl, hO, hbk⟩
        obtain ⟨A1, c1, rfl⟩ := hO.slice
        have hz := hK' _ _ (hK (.agg #[.int .i64 v, .slice A n c, .slice A1 v c1]) (u5) (HI.out.op1 hL hbk (hO.lower (Nat.le_trans hdv.size (by omega)))))
        refine Eq.mp (congrArg (fun a => K' a (u5)) ?_) hz
        kernel_rfl
      | 2, ho, hL, hdep, hK =>
        obtain rfl := Option.some.inj ho
        obtain ⟨c0, c1, c2, c3, c4⟩ := (H1.out.2.1.below HI.out.bel H1.out.2.1.lt).five
        have hlt := (H1.out.2.1.below HI.out.bel H1.out.2.1.lt).lt
        refine wpOp_step rfl fun K' hK' => ?_
        simp only [putL, updV]
        go_simp
        have hz := hK' _ _ (hK (.agg #[.int .i64 v, .slice A' n' c', .int .i64 v, .slice B' m' d', .slice C' k' q']) (u) (HI.out.op2))
        refine Eq.mp (congrArg (fun a => K' a (u)) ?_) hz
        kernel_rfl
      | 3, ho, hL, hdep, hK =>
        obtain rfl := Option.some.inj ho
        have e0 : f 2 = .agg #[.int .i64 v, .slice A' n' c', .int .i64 v, .slice B' m' d', .slice C' k' q'] := HI.out.l2 (hdep ⟨2, .data⟩ (by simp) rfl)
        have l1 : L 1 = true := hdep ⟨1, .chain⟩ (by simp) rfl
        obtain ⟨f, rfl⟩ := fix1 f 2 _ e0
        refine wpOp_step rfl fun K' hK' => ?_
        simp only [putL, updV]
        go_simp
        have hdv := HI.out.bel
        go_at_call 21
        refine (refTable0_any w.heap.size v A' B' C' n' c' m' d' k' q' gs' ks' cs' _ (HG.out.gen.below HTb.out |>.below hdv) (HG.out.kill.below HTb.out |>.below hdv) (HG.out.cops.below HTb.out |>.below hdv) Hk'.out hv256 Hfg'.out (Nat.le_trans HB0.out hdv.size) ((HG.out.gen.lies.below HTb.out (Nat.le_refl _)).below (hdv.mono HB0.out) (Nat.le_refl _))).mono ?_
        rintro e u5 ⟨x, rfl, hO, hbk⟩
        obtain ⟨A1, c1, rfl⟩ := hO.slice
        have hz := hK' _ _ (hK (.agg #[.int .i64 v, .slice A' n' c', .slice A1 v c1]) (u5) (HI.out.op3 l1 hL hbk (hO.lower (by omega))))
        refine Eq.mp (congrArg (fun a => K' a (u5)) ?_) hz
        kernel_rfl
      | 4, ho, hL, hdep, hK =>
        obtain rfl := Option.some.inj ho
        refine wpOp_step rfl fun K' hK' => ?_
        simp only [putL, updV]
        go_simp
        have hz := hK' _ _ (hK (.pointer (some ⟨u.heap.size, 0, none⟩)) ((u.alloc (.cells #[.int .i64 0, .slice none 0 0, .slice none 0 0] 53))) (HI.out.op4 hL))
        refine Eq.mp (congrArg (fun a => K' a ((u.alloc (.cells #[.int .i64 0, .slice none 0 0, .slice none 0 0] 53)))) ?_) hz
        kernel_rfl
      | 5, ho, hL, hdep, hK =>
        obtain rfl := Option.some.inj ho
        refine wpOp_step rfl fun K' hK' => ?_
        simp only [putL, updV]
        go_simp
        have hz := hK' _ _ (hK (.pointer (some ⟨u.heap.size, 0, none⟩)) ((u.alloc (.cells #[.int .i64 0, .slice none 0 0, .slice none 0 0] 53))) (HI.out.op5 hL))
        refine Eq.mp (congrArg (fun a => K' a ((u.alloc (.cells #[.int .i64 0, .slice none 0 0, .slice none 0 0] 53)))) ?_) hz
        kernel_rfl
      | 6, ho, hL, hdep, hK =>
        obtain rfl := Option.some.inj ho
        have l4 : L 4 = true := hdep ⟨4, .data⟩ (by simp) rfl
        have l5 : L 5 = true := hdep ⟨5, .phase⟩ (by simp) rfl
        have l3 : L 3 = true := hdep ⟨3, .chain⟩ (by simp) rfl
        have l7 : L 7 = false := by
          cases h : L 7 with
          | false => rfl
          | true => have := (HI.out.s7 h).1; rw [hL] at this; cases this
        obtain ⟨_, A1, c1, _, _, e1, _⟩ := HI.out.t3 l3
        obtain ⟨b, cs9, e0, hFb, h3, _⟩ := HI.out.p4 l4
        have HI9 := hid (HI.out.op6 (val := undef) hL l7 l3 l4 l5 e0 e1)
        unfold tabv at e1
        obtain ⟨x, y, z, hcs⟩ := h3
        subst hcs
        obtain ⟨c0, c1', c2⟩ := hFb.three
        have f0 := hFb.frozen 0
        have f1 := hFb.frozen 1
        have f2 := hFb.frozen 2
        have hlt := hFb.lt
        obtain ⟨f, rfl⟩ := fix1 f 4 _ e0
        rw [updV_ne _ _ (by decide)] at e1
        obtain ⟨f, rfl⟩ := fix1 f 1 _ e1
        refine wpOp_step rfl fun K' hK' => ?_
        simp only [putL, updV]
        go_simp
        have hz := hK' _ _ (hK (undef) (put3 u b (.int .i64 v) (.slice A n c) (.slice A1 v c1)) (HI9.out))
        refine Eq.mp (congrArg (fun a => K' a (put3 u b (.int .i64 v) (.slice A n c) (.slice A1 v c1))) ?_) hz
        kernel_rfl
      | 7, ho, hL, hdep, hK =>
        obtain rfl := Option.some.inj ho
        have l6 : L 6 = true := hdep ⟨6, .chain⟩ (by simp) rfl
        have l4 : L 4 = true := hdep ⟨4, .phase⟩ (by simp) rfl
        have l5 : L 5 = true := hdep ⟨5, .data⟩ (by simp) rfl
        have l3 : L 3 = true := hdep ⟨3, .data⟩ (by simp) rfl
        obtain ⟨_, _, _, A1, c1, _, e1, _⟩ := HI.out.t3 l3
        obtain ⟨b, cs9, e0, hFb, h3, _⟩ := HI.out.p5 l5
        have HI9 := hid (HI.out.op7 (val := undef) l6 hL l4 l5 e0 e1)
        unfold tabv at e1
        obtain ⟨x, y, z, hcs⟩ := h3
        subst hcs
        obtain ⟨c0, c1', c2⟩ := hFb.three
        have f0 := hFb.frozen 0
        have f1 := hFb.frozen 1
        have f2 := hFb.frozen 2
        have hlt := hFb.lt
        obtain ⟨f, rfl⟩ := fix1 f 5 _ e0
        rw [updV_ne _ _ (by decide)] at e1
        obtain ⟨f, rfl⟩ := fix1 f 3 _ e1
        refine wpOp_step rfl fun K' hK' => ?_
        simp only [putL, updV]
        go_simp
        have hz := hK' _ _ (hK (undef) (put3 u b (.int .i64 v) (.slice A' n' c') (.slice A1 v c1)) (HI9.out))
        refine Eq.mp (congrArg (fun a => K' a (put3 u b (.int .i64 v) (.slice A' n' c') (.slice A1 v c1))) ?_) hz
        kernel_rfl
      | j + 8, ho, hL, hdep, hK => exact absurd (Array.getElem?_eq_some_iff.1 ho).1 (by simp)
    · intro L f u hL hI
      obtain ⟨bx, by', A1, c1, A2, c2, e4, e5, hT⟩ := hI.done hL
      have HT := hid hT
      obtain ⟨f, rfl⟩ := fix1 f 4 _ e4
      rw [updV_ne _ _ (by decide)] at e5
      obtain ⟨f, rfl⟩ := fix1 f 5 _ e5
      clear hI hT e4 e5
      simp only [putL, updV]
      go_simp
      refine hKx _ _ ?_
      clear hKx
      have HU := hid (below_step HTb.out HT.out.bel)
      have HFu := hid (HF.out.below HU.out)
      have HGu := hid (HG.out.below HU.out)
      obtain ⟨x0, x1, x2⟩ := HT.out.x.three
      obtain ⟨y0, y1, y2⟩ := HT.out.y.three
      have hxl := HT.out.x.lt
      have hyl := HT.out.y.lt
      go_wp2_with fail
      have HO2 := hid (HT.out.o2.argO (Nat.le_trans HB0.out HT.out.bel.size) (fun i _ => (fit_oneR gs' (folB v ks' cs') v i).ok))
      refine (refImage2_any w.heap.size v A' A2 A n' c' c2 n c gs' gs (oneR gs' (folB v ks' cs') v) _ HGu.out.gen HO2.out HFu.out.gen hv256 Hfg'.out Hfg.out (fun i _ => fit_oneR _ _ _ _) HU.out.size (.inl (HG.out.gen.lies.below HU.out (Nat.le_refl _)))).mono ?_
      rw [imTo_val gs' ks' cs' rfl]
      rintro e u2 ⟨Z, nz, cz, rfl, haz, hrz, hbz⟩
      have hmz := haz.len.symm
      clear haz HO2
      obtain ⟨⟨z0, z1, z2, z3, z4⟩, hJ0⟩ := Jng.start (dz := cz) H1.out HT.out Hgw.out hbz hrz hmz
      generalize hJd : (fun b => valR gs' (oneR gs (folB v ks cs) v b) (folB v ks' cs') v) = J at *
      have HJ0 := hid hJ0
      clear hJ0 hbz hrz hmz x0 x1 x2 y0 y1 y2 hxl hyl HT HFu HGu HU
      generalize hzs : valR gs' gs (folB v ks' cs') v = zs at *
      have Hzs := hid hzs; have HJd := hid hJd
      clear hzs hJd
      go_wp2_with fail
      clear z0 z1 z2 z3 z4
      go_loopw [9] (fun iv wr => ∃ b : Nat, b ≤ v ∧ iv = .int .i64 b ∧ Hid (Jng w w1 v A B C n c m d k q A' B' C' n' c' m' d' k' q' bx by' Z nz cz A1 c1 A2 c2 zs (fun i => if i < b then J i else oneR gs (folB v ks cs) v i) (oneR gs' (folB v ks' cs') v) wr)) (fun iv _ => v - (intOf iv).toNat)
      case atStart => exact ⟨0, by omega, rfl, by simpa using HJ0⟩
      case round =>
        obtain ⟨b, hb, rfl, HJ⟩ := hrel
        obtain ⟨x0, x1, x2⟩ := HJ.out.x.three
        have hxl := HJ.out.x.lt
        by_cases hlt : b < v
        · have HBr := hid HJ.out.t.2.2.2.size
          obtain ⟨ad, E, x, y, rfl, had, c0, c1', hE, hE0⟩ := HJ.out.o1.at hlt HBr.out (by rw [if_neg (Nat.lt_irrefl b)]; exact fit_oneR _ _ _ _)
          rw [if_neg (Nat.lt_irrefl b)] at hE
          have HGw := hid (HG.out.gen.below HJ.out.t.2.2.2)
          have HO2 := hid (HJ.out.o2.argO HBr.out (fun i _ => (fit_oneR gs' (folB v ks' cs') v i).ok))
          have HZ2 := hid (show From wr w.heap.size A' gs' from .inl (HG.out.gen.lies.below HJ.out.t.2.2.2 (Nat.le_refl _)))
          have Had := hid had; have Hc0 := hid c0; have Hc1 := hid c1'; have HE := hid hE
          clear had c0 c1' hE hE0
          go_upto_region 9 with fail
          clear x0 x1 x2 hxl
          rename_i Kx hKx
          refine wp_region_facts (fun i => ([Fv (.pointer (some ⟨bx, 2, none⟩)), Fv (.slice (some ad) v c1), Fv (.int .i64 (b : Int)), Fv (.agg #[.int .i64 v, .slice A' n' c', .slice A2 v c2]), Fv (.pointer (some ⟨bx, 2, none⟩)), Fv (.slice (some ad) v c1), Fv (.int .i64 (b : Int)), Fv (.pointer (some (ad.add (b * 2)))), Fv (.agg #[.int .i64 v, .slice E x y]), Fset w.heap.size v (valR gs' (oneR gs (folB v ks cs) v b) (folB v ks' cs') v)]).getD i (fun _ _ => True)) (fun u' => Below wr.heap.size wr u') (fun _ => none) (fun _ a b => Below a.heap.size a b ∧ wr.heap.size ≤ a.heap.size) Kx (fun _ _ h => h) 12 10
            [some 33, some 34, some 35, some 36, some 37, some 38, some 39, some 40, some 41, some 42, some 43, none] (by kernel_rfl) (by kernel_rfl) (by kernel_rfl) (by kernel_rfl) (by kernel_rfl) (by kernel_rfl) (by decide)
            ?st (Below.refl _ _).drew ?ar ?en
          case st =>
            intro j a b' i z hb hne hu hF
            match i with
            | 0 => exact hF
            | 1 => exact hF
            | 2 => exact hF
            | 3 => exact hF
            | 4 => exact hF
            | 5 => exact hF
            | 6 => exact hF
            | 7 => exact hF
            | 8 => exact hF
            | 9 => exact Fset.stb (Nat.le_trans HBr.out hb.2) hb.1 hF
            | i + 10 => trivial
          case ar =>
            intro j o f u' ho hi hB hpre K hK
            match j, ho, hpre, hK with
            | 0, ho, hpre, hK =>
              obtain rfl := Option.some.inj ho
              refine wpOp_step rfl fun K' hK' => ?_
              simp only [putL, updV]
              go_simp
              have hz := hK' _ _ (hK (.pointer (some ⟨bx, 2, none⟩)) (u') (hB) (⟨Below.refl _ _, hB.size⟩) (rfl))
              refine Eq.mp (congrArg (fun a => K' a (u')) ?_) hz
              kernel_rfl
            | 1, ho, hpre, hK =>
              obtain rfl := Option.some.inj ho
              have e0 : f 0 = .pointer (some ⟨bx, 2, none⟩) := hpre ⟨0, .data⟩ (by simp) rfl (.inl rfl)
              obtain ⟨f, rfl⟩ := fix1 f 0 _ e0
              clear e0
              have hx := HJ.out.x.below hB HJ.out.x.lt
              obtain ⟨x0, x1, x2⟩ := hx.three
              have hxl := hx.lt
              refine wpOp_step rfl fun K' hK' => ?_
              simp only [putL, updV]
              go_simp
              have hz := hK' _ _ (hK (.slice (some ad) v c1) (u') (hB) (⟨Below.refl _ _, hB.size⟩) (rfl))
              refine Eq.mp (congrArg (fun a => K' a (u')) ?_) hz
              kernel_rfl
            | 2, ho, hpre, hK =>
              obtain rfl := Option.some.inj ho
              refine wpOp_step rfl fun K' hK' => ?_
              simp only [putL, updV]
              go_simp
              have hz := hK' _ _ (hK (.int .i64 (b : Int)) (u') (hB) (⟨Below.refl _ _, hB.size⟩) (rfl))
              refine Eq.mp (congrArg (fun a => K' a (u')) ?_) hz
              kernel_rfl
            | 3, ho, hpre, hK =>
              obtain rfl := Option.some.inj ho
              have hy := HJ.out.y.below hB HJ.out.y.lt
              obtain ⟨y0, y1, y2⟩ := hy.three
              have hyl := hy.lt
              refine wpOp_step rfl fun K' hK' => ?_
              simp only [putL, updV]
              go_simp
              have hz := hK' _ _ (hK (.agg #[.int .i64 v, .slice A' n' c', .slice A2 v c2]) (u') (hB) (⟨Below.refl _ _, hB.size⟩) (rfl))
              refine Eq.mp (congrArg (fun a => K' a (u')) ?_) hz
              kernel_rfl
            | 4, ho, hpre, hK =>
              obtain rfl := Option.some.inj ho
              refine wpOp_step rfl fun K' hK' => ?_
              simp only [putL, updV]
              go_simp
              have hz := hK' _ _ (hK (.pointer (some ⟨bx, 2, none⟩)) (u') (hB) (⟨Below.refl _ _, hB.size⟩) (rfl))
              refine Eq.mp (congrArg (fun a => K' a (u')) ?_) hz
              kernel_rfl
            | 5, ho, hpre, hK =>
              obtain rfl := Option.some.inj ho
              have e4 : f 4 = .pointer (some ⟨bx, 2, none⟩) := hpre ⟨4, .data⟩ (by simp) rfl (.inl rfl)
              obtain ⟨f, rfl⟩ := fix1 f 4 _ e4
              clear e4
              have hx := HJ.out.x.below hB HJ.out.x.lt
              obtain ⟨x0, x1, x2⟩ := hx.three
              have hxl := hx.lt
              refine wpOp_step rfl fun K' hK' => ?_
              simp only [putL, updV]
              go_simp
              have hz := hK' _ _ (hK (.slice (some ad) v c1) (u') (hB) (⟨Below.refl _ _, hB.size⟩) (rfl))
              refine Eq.mp (congrArg (fun a => K' a (u')) ?_) hz
              kernel_rfl
            | 6, ho, hpre, hK =>
              obtain rfl := Option.some.inj ho
              refine wpOp_step rfl fun K' hK' => ?_
              simp only [putL, updV]
              go_simp
              have hz := hK' _ _ (hK (.int .i64 (b : Int)) (u') (hB) (⟨Below.refl _ _, hB.size⟩) (rfl))
              refine Eq.mp (congrArg (fun a => K' a (u')) ?_) hz
              kernel_rfl
            | 7, ho, hpre, hK =>
              obtain rfl := Option.some.inj ho
              have e5 : f 5 = .slice (some ad) v c1 := hpre ⟨5, .data⟩ (by simp) rfl (.inl rfl)
              have e6 : f 6 = .int .i64 (b : Int) := hpre ⟨6, .data⟩ (by simp) rfl (.inl rfl)
              obtain ⟨f, rfl⟩ := fix1 f 5 _ e5
              rw [updV_ne _ _ (by decide)] at e6
              obtain ⟨f, rfl⟩ := fix1 f 6 _ e6
              clear e5 e6
              have k0 : (0 : Int) ≤ b := by omega
              have k1 : (b : Int) < v := by omega
              have k2 : (b : Int).toNat = b := by omega
              refine wpOp_step rfl fun K' hK' => ?_
              simp only [putL, updV]
              go_simp
              have hz := hK' _ _ (hK (.pointer (some (ad.add (b * 2)))) (u') (hB) (⟨Below.refl _ _, hB.size⟩) (rfl))
              refine Eq.mp (congrArg (fun a => K' a (u')) ?_) hz
              kernel_rfl
            | 8, ho, hpre, hK =>
              obtain rfl := Option.some.inj ho
              have e7 : f 7 = .pointer (some (ad.add (b * 2))) := hpre ⟨7, .data⟩ (by simp) rfl (.inl rfl)
              obtain ⟨f, rfl⟩ := fix1 f 7 _ e7
              clear e7
              have q0 := (hB.cell (p := ad.add (b * 2)) (by rw [add_block]; exact Had.out)).trans Hc0.out
              have q1 := (hB.cell (p := ⟨(ad.add (b * 2)).block, (ad.add (b * 2)).off + 1, none⟩) (by rw [add_block]; exact Had.out)).trans Hc1.out
              refine wpOp_step rfl fun K' hK' => ?_
              simp only [putL, updV]
              go_simp
              have hz := hK' _ _ (hK (.agg #[.int .i64 v, .slice E x y]) (u') (hB) (⟨Below.refl _ _, hB.size⟩) (rfl))
              refine Eq.mp (congrArg (fun a => K' a (u')) ?_) hz
              kernel_rfl
            | 9, ho, hpre, hK =>
              obtain rfl := Option.some.inj ho
              have e3 : f 3 = .agg #[.int .i64 v, .slice A' n' c', .slice A2 v c2] := hpre ⟨3, .data⟩ (by simp) rfl (.inl rfl)
              have e8 : f 8 = .agg #[.int .i64 v, .slice E x y] := hpre ⟨8, .data⟩ (by simp) rfl (.inl rfl)
              obtain ⟨f, rfl⟩ := fix1 f 3 _ e3
              rw [updV_ne _ _ (by decide)] at e8
              obtain ⟨f, rfl⟩ := fix1 f 8 _ e8
              clear e3 e8
              refine wpOp_step rfl fun K' hK' => ?_
              simp only [putL, updV]
              go_simp
              go_at_call 53
              refine (refImage2_any w.heap.size v A' A2 E n' c' c2 x y gs' (oneR gs (folB v ks cs) v b) (oneR gs' (folB v ks' cs') v) _ (HGw.out.below hB) (HO2.out.below hB) (HE.out.below hB) hv256 Hfg'.out (fit_oneR _ _ _ _) (fun i _ => fit_oneR _ _ _ _) (Nat.le_trans HBr.out hB.size) (HZ2.out.below hB HBr.out)).mono ?_
              rw [imTo_val gs' ks' cs' rfl]
              rintro e u5 ⟨A9, m9, d9, rfl, ha9, hr9, hbk⟩
              have HF9 := hid (show Fset w.heap.size v (valR gs' (oneR gs (folB v ks cs) v b) (folB v ks' cs') v) (.agg #[.int .i64 v, .slice A9 m9 d9]) u5 from ⟨_, m9, d9, rfl, hr9, ha9.len.symm⟩)
              have hz := hK' _ _ (hK (.agg #[.int .i64 v, .slice A9 m9 d9]) (u5) (below_step hB hbk) (⟨hbk, hB.size⟩) (HF9.out))
              refine Eq.mp (congrArg (fun a => K' a (u5)) ?_) hz
              kernel_rfl
            | j + 10, ho, hpre, hK => exact absurd hi (by omega)
          case en =>
            intro Q2 hQ2 f u' hB hF
            have e1 : f 1 = .slice (some ad) v c1 := hF 1 (by decide) rfl
            have e2 : f 2 = .int .i64 (b : Int) := hF 2 (by decide) rfl
            obtain ⟨A9, m9, d9, ec, hr9, hm9⟩ : Fset w.heap.size v (valR gs' (oneR gs (folB v ks cs) v b) (folB v ks' cs') v) (f 9) u' := hF 9 (by decide) rfl
            obtain ⟨f, rfl⟩ := fix1 f 1 _ e1
            rw [updV_ne _ _ (by decide)] at e2 ec
            obtain ⟨f, rfl⟩ := fix1 f 2 _ e2
            rw [updV_ne _ _ (by decide)] at ec
            obtain ⟨f, rfl⟩ := fix1 f 9 _ ec
            have HJu := hid (HJ.out.below hB)
            obtain ⟨ad9, ead, hla, ⟨E9, x9, y9, s0, s1, s2⟩, f0, f1, hJn⟩ := HJu.out.put (d9 := d9) hlt hr9 hm9
            injection ead with ead
            subst ead
            have HJn := hid hJn
            clear hB hF e1 e2 ec hr9 hm9 hJn
            show wpAny _ _ _ _ 2 (tailArr 12 10) _ _
            generalize hA : putL _ _ _ _ = aa
            refine tail_two (i := 10) (j := 11) ?q1 ?q2 ?q3 rfl rfl hQ2 ?q4
            case q1 => kernel_rfl
            case q2 => kernel_rfl
            case q3 => kernel_rfl
            simp only [putL, updV] at hA
            rw [← hA]
            clear hA
            have k0 : (0 : Int) ≤ b := by omega
            have k1 : (b : Int) < v := by omega
            have k2 : (b : Int).toNat = b := by omega
            go_simp
            refine hKx _ _ ?_
            clear hKx k0 k1 k2
            have HJn := hid (show Jng w w1 v A B C n c m d k q A' B' C' n' c' m' d' k' q' bx by' Z nz cz (some ad) c1 A2 c2 zs (fun i => if i < b + 1 then J i else oneR gs (folB v ks cs) v i) (oneR gs' (folB v ks' cs') v) ((u'.setCell (ad.add (b * 2)) (.int .i64 v)).setCell ⟨(ad.add (b * 2)).block, (ad.add (b * 2)).off + 1, none⟩ (.slice A9 m9 d9)) from by
              have h9 := HJn.out
              rw [show upd1 (fun i => if i < b then J i else oneR gs (folB v ks cs) v i) b (valR gs' (oneR gs (folB v ks cs) v b) (folB v ks' cs') v) = (fun i => if i < b + 1 then J i else oneR gs (folB v ks cs) v i) from by
                rw [show (valR gs' (oneR gs (folB v ks cs) v b) (folB v ks' cs') v) = J b from by rw [← HJd.out]]; exact upd1_step _ _ _] at h9
              exact h9)
            go_wp2_with fail
            go_roundw
            case rel => exact ⟨b + 1, by omega, by go_num, HJn⟩
            case measure => simp [intOf]; omega
        · have hbv : b = v := by omega
          subst hbv
          have HBr := hid HJ.out.t.2.2.2.size
          have Hfz := hid (show Bs.Fit b zs from by rw [← Hzs.out]; exact fit_valR _ _ _ _)
          have Hfo := hid (show ∀ i, i < b → Bs.Fit b ((fun i => if i < b then J i else oneR gs (folB b ks cs) b i) i) from fun i hi => by
            show Bs.Fit b (if i < b then J i else _)
            rw [if_pos hi, ← HJd.out]; exact fit_valR _ _ _ _)
          have HZ := hid (HJ.out.z.arg HBr.out HJ.out.zl Hfz.out.ok)
          have HO := hid (HJ.out.o1.argO HBr.out (fun i hi => (Hfo.out i hi).ok))
          go_wp2_with fail
          refine (refMade_any b Z A1 nz cz c1 zs (fun i => if i < b then J i else oneR gs (folB b ks cs) b i) _ HZ.out HO.out hv256 Hfz.out Hfo.out).mono ?_
          rw [madeR_congr (two := J) (fun a b' ha _ => by show Bs.bit (if a < b then J a else _) b' = _; rw [if_pos ha])]
          have Hr := hid (show composeR b gs b ks cs b gs' b ks' cs' = madeR b zs J from by rw [Hr.out, ← Hzs.out, ← HJd.out])
          obtain ⟨r, hrr⟩ : ∃ r, madeR b zs J = r := ⟨_, rfl⟩
          rw [hrr] at Hr ⊢
          clear hrr
          obtain ⟨W8, gs8, ks8, cs8, er8⟩ := r
          rintro e w8 ⟨A8, n8, c8, B8, m8, d8, C8, q8, rfl, hA8, hB8, hC8, hbk⟩
          have H8 := hid (HJ.out.t.below hbk)
          obtain ⟨r0, r1, r2, r3, r4⟩ := H8.out.2.2.1.five
          have f0 := H8.out.2.2.1.frozen 0
          have f1 := H8.out.2.2.1.frozen 1
          have f2 := H8.out.2.2.1.frozen 2
          have f3 := H8.out.2.2.1.frozen 3
          have f4 := H8.out.2.2.1.frozen 4
          have hlR := H8.out.2.2.1.lt
          have Fin := hid (RetT.stored (w := w) (err := er8) (c := c8) (d := d8) (q := q8) (W := W8) hA8 hB8 hC8 H8.out.2.2.2 (by omega) H8.out.2.2.1)
          unfold stored5 at Fin
          clear hbk hA8 hB8 hC8 x0 x1 x2 hxl HJ
          go_wp2_with fail
          refine bodyPost_ret (v := .tuple #[.agg #[.int .i64 W8, .slice A8 n8 c8, .int .i64 W8, .slice B8 m8 d8, .slice C8 cs8.length q8], .int .i64 er8]) (by simp [results, Try.results25, go_sem, r0, r1, r2, r3, r4]) rfl ?_
          rw [Hr.out]
          exact Fin.out
end Go.Proofs.Ytmbelhdkaepohaa
