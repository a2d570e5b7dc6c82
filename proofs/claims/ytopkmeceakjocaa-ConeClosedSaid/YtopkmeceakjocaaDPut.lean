/- The package's put writes one bit into words of the call's own; Empty makes such words; Clone copies words into new ones. -/
import Derived.Test.YtopkmeceakjocaaDMem
import Derived.Test.YtopkmeceakjocaaSpoil
import Derived.Lib.SliceRun
namespace Go.Proofs.Ytopkmeceakjocaa
set_option maxRecDepth 20000
open Go.ChangeShapes Go.WideShapes Go.ChangeAt Go.RowKit

def emptyR (W : Int) : Int × List Nat × Int := if W < 0 ∨ 256 < W then (0, [], 3) else (W, Bs.emp W.toNat, 0)
def fullR (W : Int) : Int × List Nat × Int := if W < 0 ∨ 256 < W then (0, [], 3) else (W, Bs.ofP W.toNat (fun _ => true) W.toNat, 0)
def withR (W : Int) (ws : List Nat) (b : Int) : Int × List Nat × Int :=
  if Bs.validB W ws = false then (0, [], 1) else if b < 0 ∨ W ≤ b then (0, [], 3) else (W, Bs.put ws b.toNat, 0)
def withoutR (W : Int) (ws : List Nat) (b : Int) : Int × List Nat × Int :=
  if Bs.validB W ws = false then (0, [], 1) else if b < 0 ∨ W ≤ b then (0, [], 3) else (W, Bs.ofP W.toNat (fun i => Bs.bit ws i && !decide (i = b.toNat)) W.toNat, 0)

theorem boxB (w : World) (W : Int) (A : Option Addr) (n c : Nat) :
    Box ((w.alloc (.cells #[.int .i64 W, .slice A n c] 50)).alloc (.cells #[.int .i64 0, .slice none 0 0] 50)) w.heap.size W A n c ∧
    Box ((w.alloc (.cells #[.int .i64 W, .slice A n c] 50)).alloc (.cells #[.int .i64 0, .slice none 0 0] 50)) (w.heap.size + 1) 0 none 0 0 := box2 w W 0 A none n c 0 0

theorem without_eq (v k : Nat) (ws : List Nat) (hv : Bs.validB (v : Int) ws = true) (hk : k < v) :
    mixR (flag true false false) (v : Int) ws (v : Int) (Bs.put (Bs.emp v) k) = withoutR (v : Int) ws (k : Int) := by
  have hW : v ≤ 256 := by have := (Bs.validB_iff.1 hv).2.1; omega
  have hf := Bs.fit_put (Bs.fit_emp v) hk
  have h2 := Bs.valid_of_fit hf hW
  unfold mixR withoutR
  rw [if_neg (by simp [hv, h2]), if_neg (by simp), if_neg (by simp [hv]), if_neg (by omega), Int.toNat_natCast, Int.toNat_natCast]
  congr 2
  refine Bs.ofP_congr fun i _ => ?_
  rw [Bs.bit_put _ _ _ (by rw [(Bs.fit_emp v).len]; exact Bs.lt_nw hk), Bs.bit_emp]
  simp [flag]

/-- Block g holds n words of the call's own. -/
def OwnW (w : World) (base g n c : Nat) (ws : List Nat) : Prop := w.ownsRow base 93 1 (.slice (some ⟨g, 0, none⟩) n c) n (words ws)
theorem OwnW.len {w : World} {base g n c : Nat} {ws : List Nat} (h : OwnW w base g n c ws) : ws.length = n := by
  have := h.1; rw [words_len] at this; omega
theorem OwnW.ge {w : World} {base g n c : Nat} {ws : List Nat} (h : OwnW w base g n c ws) : base ≤ g ∧ g < w.heap.size := own_ge h
theorem OwnW.arg {w : World} {base g n c : Nat} {ws : List Nat} (h : OwnW w base g n c ws) (ok : ∀ x ∈ ws, x < Bs.W64) : Arg w (some ⟨g, 0, none⟩) n ws :=
  ⟨.inr ⟨_, rfl, h.ge.2, h.cells rfl⟩, h.len, ok⟩
theorem OwnW.below {w w' : World} {base g n c : Nat} {ws : List Nat} (h : OwnW w base g n c ws) (hb : Below w.heap.size w w') : OwnW w' base g n c ws := own_below h hb
theorem OwnW.far {w : World} {base g n c : Nat} {ws : List Nat} (h : OwnW w base g n c ws) {p : Addr} (hp : g ≠ p.block) (u : Value) : OwnW (w.setCell p u) base g n c ws :=
  World.ownsRow.kept h (grown_set w p.block rfl u) (.inr (some_ne hp))
theorem Row.own {w : World} {g base : Nat} {ws : List Nat} (h : Row w g ws) (hb : base ≤ g) (hl : ws.length ≤ 1000) : OwnW w base g ws.length ws.length ws :=
  ⟨by simp [words_len], .inr ⟨g, ws.length, _, rfl, hb, h, Nat.le_refl _, by unfold maxLen; omega, by simp [words_len], by rw [Nat.mul_one, ← words_len]; exact List.take_length⟩⟩

theorem put_any (W : Int) (base g n c : Nat) (ws : List Nat) (k : Nat) (w : World) (h : OwnW w base g n c ws) (ok : ∀ x ∈ ws, x < Bs.W64) (hk : k / 64 < n) (hk2 : k < 256) :
    Calls Try.prog 123 #[.agg #[.int .i64 W, .slice (some ⟨g, 0, none⟩) n c], .int .i64 k] w fun e w' => (∃ v, e = .returned v) ∧ OwnW w' base g n c (Bs.put ws k) ∧ w.grownBy w' (some g) := by
  have hb := (Below.refl w.heap.size w).alloc (Nat.le_refl _) (.cells #[.int .i64 W, .slice (some ⟨g, 0, none⟩) n c] 50)
  have hx := Box.new w W (some ⟨g, 0, none⟩) n c
  have hal := h.below hb
  have hg := h.ge
  clear h
  have hl := hal.len
  have hc1 := hx.c1
  have hcell := (hal.cellAt (k / 64) (by omega)).trans (words_get (by omega))
  have hfr := hal.frozenAt (k / 64)
  have hst := hal.stored (k / 64) (.int .u64 (Bs.wd ws (k / 64) ||| 2 ^ (k % 64) : Nat))
  have hor := or_bit (Bs.wd ws (k / 64)) (k % 64) (Bs.wd_lt ok _) (by omega)
  rw [words_set] at hst
  have e : ws.set (k / 64) (Bs.wd ws (k / 64) ||| 2 ^ (k % 64)) = Bs.put ws k := rfl
  rw [e] at hst
  generalize Bs.wd ws (k / 64) ||| 2 ^ (k % 64) = y at hor hst
  generalize Bs.wd ws (k / 64) = x at hcell hor
  have Hst := hid hst.1; have Hb := hid hb; have Hg := hid hst.2
  have hk0 : (0 : Int) ≤ k := by omega
  have hw : IntKind.i64.wrap ((k : Int) / 64) = ((k / 64 : Nat) : Int) := by rw [IntWalk.i64_in _ (by omega)]; simp
  clear hst hx hal hb e ok
  generalize k / 64 = q at *
  have hq0 : (0 : Int) ≤ q := by omega
  have hq1 : (q : Int) < n := by omega
  go_enter Try.func123, Try.ntmps123
  go_wp2_with fail
  generalize w.alloc (.cells #[.int .i64 W, .slice (some ⟨g, 0, none⟩) n c] 50) = w1 at *
  refine wp_region_still_tail 10 (by kernel_rfl) (by kernel_rfl) ?_
  simp only [List.take_succ_cons, List.take_zero, List.drop_succ_cons, List.drop_zero]
  repeat still_step
  still_call (mask_any _ _)
  repeat still_step
  try refine wpStill_nil ?_
  change wpList _ _ _ _ _ (World.drew _)
  go_wp2
  refine bodyPost_end (v := .tuple #[]) (by simp [results, Try.results123]) rfl ⟨⟨_, rfl⟩, Hst.out.drew, grown_trans (grown_of_below Hb.out _) (grown_trans Hg.out (grown_drew _ _))⟩

theorem devEmpty_own (v : Nat) (w : World) (hv : v ≤ 256) :
    Calls Try.prog 90 #[.int .i64 v] w fun e w' => ∃ g, e = .returned (.tuple #[.agg #[.int .i64 v, .slice (some ⟨g, 0, none⟩) (Bs.nw v) (Bs.nw v)], .int .i64 0]) ∧ OwnW w' w.heap.size g (Bs.nw v) (Bs.nw v) (Bs.emp v) ∧ Below w.heap.size w w' := by
  have H := hid (show (decide ((0 : Int) ≤ v) && decide ((v : Int) ≤ 256)) = true by simp; omega)
  have hm := run_rows (Bs.nw v) (by unfold Bs.nw; omega)
  have hl5 : Bs.nw v ≤ 5 := by unfold Bs.nw; omega
  have hown : ∀ o, OwnW ((w.alloc o).alloc (.cells (words (List.replicate (Bs.nw v) 0)).toArray 93)) w.heap.size (w.heap.size + 1) (Bs.nw v) (Bs.nw v) (Bs.emp v) := fun o => by
    have h := heap_alloc_new (w.alloc o) (.cells (words (List.replicate (Bs.nw v) 0)).toArray 93)
    rw [World.size_alloc] at h
    have h2 := Row.own (ws := Bs.emp v) (base := w.heap.size) h (by omega) (by rw [len_emp]; omega)
    rwa [len_emp] at h2
  have hb : ∀ o, Below w.heap.size w ((w.alloc o).alloc (.cells (words (List.replicate (Bs.nw v) 0)).toArray 93)) :=
    fun o => ((Below.refl w.heap.size w).alloc (Nat.le_refl _) o).alloc (by simp) _
  have Hown := hid hown; have Hb := hid hb
  clear hown hb
  go_enter Try.func90, Try.ntmps90
  go_wp2_with (first
    | (go_at_call 104; refine (permitted_is _ _ _ H).mono ?_; rintro e w2 ⟨rfl, rfl⟩)
    | (go_at_call 105; refine (wordsOf_any _ _ hv).mono ?_; rintro e w2 ⟨rfl, rfl⟩))
  exact bodyPost_ret (v := .tuple #[.agg #[.int .i64 v, .slice (some ⟨w.heap.size + 1, 0, none⟩) (Bs.nw v) (Bs.nw v)], .int .i64 0]) (by simp [results, Try.results90, go_sem]) rfl ⟨w.heap.size + 1, rfl, Hown.out _, Hb.out _⟩

theorem devEmpty_any (W : Int) (w : World) : Calls Try.prog 90 #[.int .i64 W] w (RetErr w (emptyR W)) := by
  by_cases h : W < 0 ∨ 256 < W
  · have hr : emptyR W = (0, [], 3) := by unfold emptyR; rw [if_pos h]
    rw [hr]
    have H := hid (show (decide (0 ≤ W) && decide (W ≤ 256)) = false by rcases h with h | h <;> simp <;> omega)
    clear hr h
    go_enter Try.func90, Try.ntmps90
    go_wp2_with (go_at_call 104; refine (permitted_is _ _ _ H).mono ?_; rintro e w2 ⟨rfl, rfl⟩)
    exact bodyPost_ret (v := .tuple #[.agg #[.int .i64 0, .slice none 0 0], .int .i64 3]) (by simp [results, Try.results90, go_sem]) rfl ⟨_, _, _, rfl, Arg.nil _ _, (Below.refl _ _).alloc (Nat.le_refl _) _⟩
  · obtain ⟨v, rfl⟩ := Int.eq_ofNat_of_zero_le (a := W) (by omega)
    have hr : emptyR (v : Int) = ((v : Int), Bs.emp v, 0) := by unfold emptyR; rw [if_neg h, Int.toNat_natCast]
    rw [hr]
    refine (devEmpty_own v w (by omega)).mono ?_
    rintro e w' ⟨g, rfl, ho, hb⟩
    exact ⟨_, _, _, rfl, ho.arg (Bs.fit_emp v).ok, hb⟩

/-- Words came back, of the call's own where they are not none. -/
theorem clone_any (A : Option Addr) (n c : Nat) (ws : List Nat) (w : World) (hA : Arg w A n ws) (hn : n ≤ 100) (h0 : 0 < n) :
    Calls Try.prog 108 #[.slice A n c] w fun e w' => ∃ g c', e = .returned (.slice (some ⟨g, 0, none⟩) n c') ∧ OwnW w' w.heap.size g n c' ws ∧ Below w.heap.size w w' := by
  obtain ⟨ad, rfl, had, _⟩ := hA.lies.cell (words_get (i := 0) (by rw [hA.len]; omega))
  obtain ⟨i0, hi, hz0, hz1, hz2⟩ := info_parts info62'
  have HA := hid hA; have Hi := hid hi; have Hz0 := hid hz0; have Hz1 := hid hz1; have Hz2 := hid hz2
  clear hA hi hz0 hz1 hz2
  have hnil : ∀ w : World, (binOp .eql 48 (.slice (some ad) n c) (.slice none 0 0)).run Try.prog w = .ok (.bool false) w := fun w => Lib.run_eql_slice_nil w 48 93 (some ad) n c 0 0 Try.underlying48
  have hb := (Below.refl w.heap.size w).alloc (Nat.le_refl _) (.cells #[] 93)
  have Hb := hid hb
  clear hb
  go_enter Try.func108, Try.ntmps108
  go_wp2_with (at_builtin
               refine wpList_append_own _ rfl _ _ 48 rfl w.heap.size 93 i0 (.int .u64 0) 1 8 Try.underlying48 Hi.out Hz0.out Hz1.out Hz2.out rfl (by decide) _ _ _ rfl (empty_own w w.heap.size w.heap.size (Nat.le_refl _) rfl) ad n c (words ws) rfl (by rw [words_len, Nat.mul_one]; exact HA.out.len) (Arg.cells HA.out Hb.out) (words_one ws) (by unfold maxLen; omega) (by omega) (by simp) ?_
               intro v' w3 hown3 hgr3 hnil3
               have Hown := hid hown3; have Hgr := hid hgr3; have Hnil := hid hnil3
               clear hown3 hgr3 hnil3)
  go_ret
  have ho := Hown.out
  rw [Nat.zero_add, List.nil_append] at ho
  have hg : (w.alloc (.cells #[] 93)).grownBy w3 (some w.heap.size) := Hgr.out
  rcases id ho.2 with ⟨hv, h0'⟩ | ⟨g, cap, cur, rfl, hb⟩
  · omega
  · exact ⟨g, cap, rfl, ho, Hb.out.grown hg (by simp) (by intro k hk; injection hk with hk; omega)⟩
end Go.Proofs.Ytopkmeceakjocaa
