/- The tape's Bytes returns some bytes in a row of the call's own, at most one more than came in, and changes nothing but the tape. -/
import Derived.Test.YtnbbpcfhofmmfaaPcs
import Derived.Deep.Slices
import Derived.StillTailTactics
namespace Go.Proofs.Ytnbbpcfhofmmfaa
set_option maxRecDepth 20000
open Go.ChangeShapes Go.WideShapes Go.ChangeAt Go.RowKit

theorem some_ne {a b : Nat} (h : a ≠ b) : some a ≠ some b := fun e => h (by injection e)
theorem new_one (w : World) (v : Value) (ty : TypeId) : ∀ j u, [v][j]? = some u → (w.alloc (.cells #[v] ty)).cell? ((⟨w.heap.size, 0, none⟩ : Addr).add j) = some u := by
  intro j u h
  rw [add_of]
  match j, h with
  | 0, h => simp at h; subst h; rw [World.cell?_alloc_at _ _ _ _ rfl]; rfl
  | j + 1, h => simp at h
theorem one_int (k : IntKind) (x : Int) : ∀ u ∈ [Value.int k x], u.oneCell' = true := by intro u hu; simp at hu; subst hu; rfl
def byv (b : UInt8) : Value := .int .u8 (b.toNat : Int)
def bys (l : List UInt8) : List Value := l.map byv
theorem bys_len (l : List UInt8) : (bys l).length = l.length := by simp [bys]
theorem bys_get {l : List UInt8} {i : Nat} (h : i < l.length) : (bys l)[i]? = some (.int .u8 ((l.getD i 0).toNat : Int)) := by
  unfold bys; rw [List.getElem?_map, List.getElem?_eq_getElem h, List.getD_eq_getElem?_getD, List.getElem?_eq_getElem h]; rfl
theorem bys_one (l : List UInt8) : ∀ u ∈ bys l, u.oneCell' = true := by
  intro u hu
  obtain ⟨b, _, rfl⟩ := List.mem_map.1 hu
  rfl
theorem bys_app (a b : List UInt8) : bys a ++ bys b = bys (a ++ b) := by simp [bys]
theorem info5 : (Try.prog.info? 5).map (fun i => (i.zero, i.size, i.bytes)) = some (some (.int .u8 0), 1, 1) := by kernel_rfl

/-- Block g holds n bytes of the call's own. -/
def OwnB (w : World) (base g n c : Nat) (l : List UInt8) : Prop := w.ownsRow base 5 1 (.slice (some ⟨g, 0, none⟩) n c) n (bys l)
theorem OwnB.len {w : World} {base g n c : Nat} {l : List UInt8} (h : OwnB w base g n c l) : l.length = n := by
  have := h.1; rw [bys_len] at this; omega
theorem OwnB.ge {w : World} {base g n c : Nat} {l : List UInt8} (h : OwnB w base g n c l) : base ≤ g ∧ g < w.heap.size := h.lt g rfl
theorem OwnB.cap {w : World} {base g n c : Nat} {l : List UInt8} (h : OwnB w base g n c l) : n ≤ c ∧ c ≤ maxLen := by
  rcases h.2 with ⟨hv, _⟩ | ⟨g', cap, cur, hv, _, _, h1, h2, _⟩
  · cases hv
  · injection hv with _ _ hc; subst hc; exact ⟨h1, h2⟩
/-- The first k of the bytes. -/
theorem OwnB.take {w : World} {base g n c : Nat} {l : List UInt8} (h : OwnB w base g n c l) {k : Nat} (hk : k ≤ n) : OwnB w base g k c (l.take k) := by
  have hl := h.len
  rcases h.2 with ⟨hv, _⟩ | ⟨g', cap, cur, hv, h1, h2, h3, h4, h5, h6⟩
  · cases hv
  · injection hv with e1 _ e3
    injection e1 with e1
    injection e1 with e1
    subst e1; subst e3
    refine ⟨by rw [bys_len, List.length_take]; omega, .inr ⟨g, c, cur, rfl, h1, h2, by omega, h4, h5, ?_⟩⟩
    have : bys (l.take k) = (bys l).take k := by unfold bys; rw [List.map_take]
    rw [this, ← h6, List.take_take]
    congr 1; omega

/-- While the bytes are changed. -/
def Bag (w : World) (T g n c : Nat) (l : List UInt8) (wr : World) : Prop := OwnB wr w.heap.size g n c l ∧ Tape wr T ∧ w.grownBy wr (some T) ∧ T < w.heap.size
theorem Bag.tape {w wr w' : World} {T g n c : Nat} {l : List UInt8} (h : Bag w T g n c l wr) (ht : Tape w' T) (hg : wr.grownBy w' (some T)) : Bag w T g n c l w' := by
  obtain ⟨h1, h2, h3, h4⟩ := h
  have := h1.ge
  exact ⟨World.ownsRow.kept h1 hg (.inr (some_ne (show g ≠ T by omega))), ht, grown_trans h3 hg, h4⟩
theorem Bag.drew {w wr : World} {T g n c : Nat} {l : List UInt8} (h : Bag w T g n c l wr) : Bag w T g n c l wr.drew := by
  obtain ⟨h1, h2, h3, h4⟩ := h
  exact ⟨World.ownsRow.drew h1, h2.keep fun _ _ => rfl, grown_trans h3 (grown_drew _ _), h4⟩
theorem Bag.alloc {w wr : World} {T g n c : Nat} {l : List UInt8} (h : Bag w T g n c l wr) (o : Obj) : Bag w T g n c l (wr.alloc o) := by
  obtain ⟨h1, h2, h3, h4⟩ := h
  exact ⟨World.ownsRow.alloc h1 o, h2.alloc o, grown_trans h3 (grown_of_below ((Below.refl _ _).alloc (Nat.le_refl _) o) _), h4⟩
/-- New bytes, after an append onto the own row. -/
theorem Bag.moved {w wr w' : World} {T g n c g' n' c' : Nat} {l l' : List UInt8} (h : Bag w T g n c l wr) (ho : OwnB w' w.heap.size g' n' c' l') (hg : wr.grownBy w' (some g)) : Bag w T g' n' c' l' w' := by
  obtain ⟨h1, h2, h3, h4⟩ := h
  have hge := h1.ge
  have hs := h3.size
  refine ⟨ho, h2.keep fun k hk => hg.block k (by omega) (some_ne (by omega)), ⟨hg.os.trans h3.os, hg.tape.trans h3.tape, hg.output.trans h3.output, Nat.le_trans h3.size hg.size, fun i hi hne => (hg.block i (by omega) (some_ne (by omega))).trans (h3.block i hi hne)⟩, h4⟩
theorem Bag.stored {w wr : World} {T g n c : Nat} {l : List UInt8} (h : Bag w T g n c l wr) (k : Nat) (b : UInt8) : Bag w T g n c (l.set k b) (wr.setCell ⟨g, k, none⟩ (.int .u8 (b.toNat : Int))) := by
  have hs := World.ownsRow.stored h.1 k (byv b)
  rw [show (bys l).set k (byv b) = bys (l.set k b) from by unfold bys; rw [List.map_set]] at hs
  exact h.moved hs.1 hs.2

/-- Some bytes came back; nothing but the tape has changed. -/
def GenBytes (w : World) (T n : Nat) (e : Ending) (w' : World) : Prop :=
  ∃ g m c l, e = .returned (.slice (some ⟨g, 0, none⟩) m c) ∧ m ≤ n + 1 ∧ Bag w T g m c l w'
theorem byte_of (q : Nat) (h : q < 256) : (UInt8.ofNat q).toNat = q := by rw [UInt8.toNat_ofNat']; omega
theorem empty_ownB (w : World) : (w.alloc (.cells #[] 5)).ownsRow w.heap.size 5 1 (.slice (some ⟨w.heap.size, 0, none⟩) 0 0) 0 [] :=
  World.ownsRow_lit w #[] 0 (Nat.le_refl _) (by simp [maxLen]) rfl

theorem tail_cells {w : World} {base g n c : Nat} {l : List UInt8} (h : OwnB w base g n c l) {i : Nat} (hi : i ≤ n) :
    ∃ ad : Addr, (if c = i then some (⟨g, 0, none⟩ : Addr) else some ⟨g, i, none⟩) = some ad ∧ ∀ j u, (bys (l.drop i))[j]? = some u → w.cell? (ad.add j) = some u := by
  have hc := h.cap
  have hl := h.len
  by_cases e : c = i
  · refine ⟨⟨g, 0, none⟩, by rw [if_pos e], fun j u hu => ?_⟩
    have : l.drop i = [] := List.drop_eq_nil_iff.2 (by omega)
    rw [this] at hu
    simp [bys] at hu
  · refine ⟨⟨g, i, none⟩, by rw [if_neg e], fun j u hu => ?_⟩
    have hj : j < (bys (l.drop i)).length := (List.getElem?_eq_some_iff.1 hu).1
    rw [bys_len, List.length_drop] at hj
    have hadd : (⟨g, i, none⟩ : Addr).add j = ⟨g, i + j, none⟩ := by
      unfold Addr.add
      by_cases hj0 : j = 0
      · subst hj0; rfl
      · simp [hj0]
    rw [hadd, World.ownsRow.cellAt h (i + j) (by omega), ← hu]
    unfold bys
    rw [List.map_drop, List.getElem?_drop]

set_option maxHeartbeats 3200000 in
theorem bytes_any (T : Nat) (ad : Addr) (n c : Nat) (l : List UInt8) (w : World) (ht : Tape w T) (hA : At w w.heap.size (some ad) (bys l)) (hl : l.length = n) (h0 : 0 < n) (hn : n ≤ 100000) :
    Calls Try.prog 11 #[.pointer (some ⟨T, 0, none⟩), .slice (some ad) n c] w (GenBytes w T n) := by
  obtain ⟨i0, hi, hz0, hz1, hz2⟩ := info_parts info5
  have hTl := ht.lt
  have Hi := hid hi; have Hz0 := hid hz0; have Hz1 := hid hz1; have Hz2 := hid hz2; have Ht := hid ht; have Hl := hid hl
  have hb := (Below.refl w.heap.size w).alloc (Nat.le_refl _) (.cells #[] 5)
  have hcs : ∀ j u, (bys l)[j]? = some u → (w.alloc (.cells #[] 5)).cell? (ad.add j) = some u := fun j u hu => by
    obtain ⟨ad', e, hlt, hc⟩ := hA.cell hu
    injection e with e; subst e
    exact (hb.cell (by rw [add_block]; exact hlt)).trans hc
  have Hcs := hid hcs; have Hb := hid hb
  clear hi hz0 hz1 hz2 ht hA hl hb hcs
  go_enter Try.func11, Try.ntmps11
  go_wp2_with (first
    | (at_builtin
       refine wpList_append_own _ rfl _ _ 28 rfl w.heap.size 5 i0 (.int .u8 0) 1 1 Try.underlying28 Hi.out Hz0.out Hz1.out Hz2.out rfl (by decide) _ _ _ rfl (empty_ownB w) ad n c (bys l) rfl (by rw [bys_len, Nat.mul_one]; exact Hl.out) Hcs.out (bys_one l) (by unfold maxLen; omega) (by omega) (by simp) ?_
       intro v' w3 hown3 hgr3 hnil3
       obtain ⟨g, c3, rfl, hbag⟩ : ∃ g c3, v' = .slice (some ⟨g, 0, none⟩) n c3 ∧ Bag w T g n c3 l w3 := by
         rw [Nat.zero_add, List.nil_append] at hown3
         have hg : (w.alloc (.cells #[] 5)).grownBy w3 (some w.heap.size) := hgr3
         rcases id hown3.2 with ⟨_, h0'⟩ | ⟨g, cap, cur, rfl, _⟩
         · omega
         · have hbw := Hb.out.grown hg (by simp) (by intro k hk; injection hk with hk; omega)
           exact ⟨g, cap, rfl, hown3, Ht.out.below hbw hTl, grown_of_below hbw _, hTl⟩
       have Hbag := hid hbag
       clear hown3 hgr3 hnil3 hbag))
  refine (next_any T n _ Hbag.out.2.1 (by omega)).mono ?_
  rintro e w4 ⟨r, rfl, hr0, hr1, ht4, hg4, hz4⟩
  obtain ⟨k, rfl⟩ := Int.eq_ofNat_of_zero_le hr0
  have hk : k < n := by omega
  have hB4 := hid (Hbag.out.tape ht4 hg4)
  clear hr1 ht4 hg4 hz4 Hbag
  go_wp2_with fail
  refine (next_any T 4 _ hB4.out.2.1 (by omega)).mono ?_
  rintro e w5 ⟨r, rfl, h50, h51, ht5, hg5, hz5⟩
  have h52 : r < 4 := by omega
  have hB5 := hid (hB4.out.tape ht5 hg5)
  clear h51 ht5 hg5 hz5 hB4
  have hlen := hB5.out.1.len
  have hcap := hB5.out.1.cap
  have hk0 : (0 : Int) ≤ k := by omega
  have hk1 : (k : Int) < n := by omega
  have hn1 : decide (0 < (n : Int)) = true := by simp; omega
  by_cases c0 : r = 0
  · have t0 : (r == 0) = true := by simp [c0]
    clear c0
    have hc5 := (World.ownsRow.cellAt hB5.out.1 k (by omega)).trans (bys_get (by omega))
    have hf5 := World.ownsRow.frozenAt hB5.out.1 k
    have Hlen := hid hlen
    generalize hx : (l.getD k 0).toNat = x at hc5
    have Hx := hid hx
    clear hx hlen
    have hxb : x < 256 := by have := (l.getD k 0).toNat_lt; rw [Hx.out] at this; exact this
    have hwk : IntKind.i64.wrap (k : Int) = k := IntWalk.i64_in _ (by omega)
    go_wp2_with fail
    go_region_with (first
      | (go_at_call 13
         go_must (
         refine (next_any T 255 _ (by exact hB5.out.drew.2.1) (by omega)).mono ?_
         rintro e w6 ⟨r6, rfl, h60, h61, ht6, hg6, hz6⟩
         have h62 : r6 < 255 := (by omega)
         obtain ⟨q, rfl⟩ := Int.eq_ofNat_of_zero_le h60
         have hxe : bits BinOp.xor IntKind.u8 (x : Int) (IntKind.u8.wrap (IntKind.i64.wrap (1 + (q : Int)))) = ((UInt8.ofNat (x ^^^ (1 + q))).toNat : Int) := (by
           rw [IntWalk.i64_in _ (by omega), show IntKind.u8.wrap (1 + (q : Int)) = ((1 + q : Nat) : Int) from (IntWalk.u8_in _ (by omega)).trans (by simp), u8_xor_nat x (1 + q) hxb (by omega), byte_of _ (Nat.xor_lt_two_pow (n := 8) hxb (by omega))])
         have Hxe := hid hxe
         have hB6 := hid (hB5.out.drew.tape ht6 hg6)
         have hc6 := (World.ownsRow.cellAt hB6.out.1 k (by omega)).trans (bys_get (by rw [Hlen.out]; exact hk))
         rw [Hx.out] at hc6
         have hf6 := World.ownsRow.frozenAt hB6.out.1 k
         have hB7 := hid (hB6.out.stored k (UInt8.ofNat (x ^^^ (1 + q))))
         clear h61 ht6 hg6 hz6 hxe)))
    all_goals
      rw [Hxe.out]
      go_wp2_with fail
      go_ret
      exact ⟨g, n, c3, _, rfl, by omega, hB7.out⟩
  · have t0 : (r == 0) = false := by simp [c0]
    by_cases c1 : r = 1
    · have t1 : (r == 1) = true := by simp [c1]
      clear c0 c1
      go_wp2_with fail
      go_ret
      exact ⟨g, k, c3, l.take k, rfl, by omega, hB5.out.1.take (by omega), hB5.out.2⟩
    · have t1 : (r == 1) = false := by simp [c1]
      by_cases c2 : r = 2
      · have t2 : (r == 2) = true := by simp [c2]
        clear c0 c1 c2
        go_wp2_with (first
          | (go_at_call 13
             refine (next_any T 256 _ hB5.out.2.1 (by omega)).mono ?_
             rintro e w6 ⟨r6, rfl, h60, h61, ht6, hg6, hz6⟩
             have h62 : r6 < 256 := (by omega)
             obtain ⟨q, rfl⟩ := Int.eq_ofNat_of_zero_le h60
             have hqb := byte_of q (by omega)
             have hwb : IntKind.u8.wrap (q : Int) = q := IntWalk.u8_in _ (by omega)
             have hB6 := hid (hB5.out.tape ht6 hg6)
             clear h61 ht6 hg6 hz6)
          | (at_builtin
             go_must (
             refine wpList_append_own _ rfl _ _ 28 rfl w.heap.size 5 i0 (.int .u8 0) 1 1 Try.underlying28 Hi.out Hz0.out Hz1.out Hz2.out rfl (by decide) _ _ _ rfl (hB6.out.alloc _).1 ⟨w6.heap.size, 0, none⟩ 1 1 [.int .u8 (q : Int)] rfl rfl (new_one _ _ _) (one_int _ _) (by unfold maxLen; omega) (by omega) (by have := hB6.out.1.ge; rw [World.size_alloc]; omega) ?_
             intro v' w7 hown7 hgr7 hnil7
             obtain ⟨g7, c7, rfl, hbag7⟩ : ∃ g7 c7, v' = .slice (some ⟨g7, 0, none⟩) (n + 1) c7 ∧ Bag w T g7 (n + 1) c7 (l ++ [UInt8.ofNat q]) w7 := by
               have hg : (w6.alloc (.cells #[.int .u8 (q : Int)] 5)).grownBy w7 (some g) := hgr7
               have ho : w7.ownsRow w.heap.size 5 1 v' (n + 1) (bys (l ++ [UInt8.ofNat q])) := by
                 rw [← bys_app]
                 have e : bys [UInt8.ofNat q] = [Value.int .u8 (q : Int)] := by simp [bys, byv, hqb]
                 rw [e]; exact hown7
               rcases id ho.2 with ⟨_, h0'⟩ | ⟨g7, cap, cur, rfl, _⟩
               · omega
               · exact ⟨g7, cap, rfl, (hB6.out.alloc _).moved ho hg⟩
             have Hbag7 := hid hbag7
             clear hown7 hgr7 hnil7 hbag7)))
        go_ret
        exact ⟨g7, n + 1, c7, _, rfl, by omega, Hbag7.out⟩
      · have t2 : (r == 2) = false := by simp [c2]
        clear c0 c1 c2
        have hq0 : 0 ≤ (k : Int) + 1 := by omega
        have hq1 : (k : Int) + 1 ≤ n := by omega
        have hqw : IntKind.i64.wrap ((k : Int) + 1) = (k : Int) + 1 := IntWalk.i64_in _ (by omega)
        have hqn : ((k : Int) + 1).toNat = k + 1 := by omega
        have hkc : k ≤ c3 := by omega
        obtain ⟨ad7, had7, hcs7⟩ := tail_cells hB5.out.drew.1 (show k + 1 ≤ n by omega)
        have hdl : (l.drop (k + 1)).length = n - (k + 1) := by rw [List.length_drop, hlen]
        have hD := hid hB5.out.drew
        have Hcs7 := hid hcs7; have Hdl := hid hdl
        clear hcs7 hdl
        go_wp2_with fail
        refine wp_region_still_tail 7 (by kernel_rfl) (by kernel_rfl) ?_
        simp only [List.take_succ_cons, List.take_zero, List.drop_succ_cons, List.drop_zero]
        repeat still_step
        try refine wpStill_nil ?_
        clear hqw hqn
        change wpList _ _ _ _ _ w5.drew
        generalize w5.drew = w6 at *
        go_wp2_with (first
          | (at_builtin
             go_must (
             refine wpList_append_own _ rfl _ _ 28 rfl w.heap.size 5 i0 (.int .u8 0) 1 1 Try.underlying28 Hi.out Hz0.out Hz1.out Hz2.out rfl (by decide) _ _ _ rfl (hD.out.1.take (k := k) (by omega)) ad7 (n - (k + 1)) (c3 - (k + 1)) (bys (l.drop (k + 1))) rfl (by rw [bys_len, Nat.mul_one]; exact Hdl.out) Hcs7.out (bys_one _) (by unfold maxLen; omega) (by omega) (by have := hD.out.1.ge; omega) ?_
             intro v' w7 hown7 hgr7 hnil7
             obtain ⟨g7, c7, rfl, hbag7⟩ : ∃ g7 c7, v' = .slice (some ⟨g7, 0, none⟩) (k + (n - (k + 1))) c7 ∧ Bag w T g7 (k + (n - (k + 1))) c7 (l.take k ++ l.drop (k + 1)) w7 := by
               have hg : w6.grownBy w7 (some g) := hgr7
               rw [bys_app] at hown7
               rcases id hown7.2 with ⟨hv, _⟩ | ⟨g7, cap, cur, rfl, _⟩
               · have := (hnil7.1 hv).1
                 cases this
               · exact ⟨g7, cap, rfl, hD.out.moved hown7 hg⟩
             have Hbag7 := hid hbag7
             clear hown7 hgr7 hnil7 hbag7)))
        go_ret
        exact ⟨g7, _, c7, _, rfl, by omega, Hbag7.out⟩
end Go.Proofs.Ytnbbpcfhofmmfaa
