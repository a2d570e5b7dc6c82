/- Merged texts: what YtopkmeceakjocaaGreatEliminationReducesProof leans on. -/
import Derived.Lib.SliceRun
import Derived.Deep.RegionLaw
import Derived.Deep.RegionHeld3
import Derived.Orders
import Derived.RegionTactic
import Derived.Deep.DeepMust
import Derived.Deep.AppendLies
import Derived.Lib.LazyBuf
import Derived.Deep.DeepCutAuto
import Derived.Test.YtopkmeceakjocaaGreatErdM0
import Derived.Test.YtopkmeceakjocaaGreatProg
namespace Go.Proofs.YtopkmeceakjocaaGreat
set_option maxRecDepth 20000
open Go.ChangeShapes Go.WideShapes Go.ChangeAt Go.RowKit
def emptyR (W : Int) : Int × List Nat × Int := if W < 0 ∨ 256 < W then (0, [], 3) else (W, Bs.emp W.toNat, 0)
theorem boxB (w : World) (W : Int) (A : Option Addr) (n c : Nat) :
 Box ((w.alloc (.cells #[.int .i64 W, .slice A n c] 49)).alloc (.cells #[.int .i64 0, .slice none 0 0] 49)) w.heap.size W A n c ∧
 Box ((w.alloc (.cells #[.int .i64 W, .slice A n c] 49)).alloc (.cells #[.int .i64 0, .slice none 0 0] 49)) (w.heap.size + 1) 0 none 0 0 := box2 w W 0 A none n c 0 0
def OwnW (w : World) (base g n c : Nat) (ws : List Nat) : Prop := w.ownsRow base 106 1 (.slice (some ⟨g, 0, none⟩) n c) n (words ws)
theorem OwnW.len {w : World} {base g n c : Nat} {ws : List Nat} (h : OwnW w base g n c ws) : ws.length = n := by
 have := h.1; rw [words_len] at this; omega
theorem OwnW.ge {w : World} {base g n c : Nat} {ws : List Nat} (h : OwnW w base g n c ws) : base ≤ g ∧ g < w.heap.size := own_ge h
theorem OwnW.arg {w : World} {base g n c : Nat} {ws : List Nat} (h : OwnW w base g n c ws) (ok : ∀ x ∈ ws, x < Bs.W64) : Arg w (some ⟨g, 0, none⟩) n ws :=
 ⟨.inr ⟨_, rfl, h.ge.2, h.cells rfl⟩, h.len, ok⟩
theorem OwnW.below {w w' : World} {base g n c : Nat} {ws : List Nat} (h : OwnW w base g n c ws) (hb : Below w.heap.size w w') : OwnW w' base g n c ws := own_below h hb
theorem OwnW.far {w : World} {base g n c : Nat} {ws : List Nat} (h : OwnW w base g n c ws) {p : Addr} (hp : g ≠ p.block) (u : Value) : OwnW (w.setCell p u) base g n c ws :=
 World.ownsRow.kept h (grown_set w p.block rfl u) (.inr (some_ne hp))
theorem Row.own {w : World} {g base : Nat} {ws : List Nat} (h : Row w g ws) (hb : base ≤ g) (hl : ws.length ≤ 1000) : OwnW w base g ws.length ws.length ws :=
 ⟨by simp [words_len], .inr ⟨g, ws.length, _, rfl, hb, h, Nat.le_refl _, by unfold maxLen; omega, by simp [words_len], by rw [Nat.mul_one, ← words_len]; exact List.take_length⟩⟩
theorem put_any (W : Int) (base g n c : Nat) (ws : List Nat) (k : Nat) (w : World) (h : OwnW w base g n c ws) (ok : ∀ x ∈ ws, x < Bs.W64) (hk : k / 64 < n) (hk2 : k < 256) :
 Calls Tryz.prog 183 #[.agg #[.int .i64 W, .slice (some ⟨g, 0, none⟩) n c], .int .i64 k] w fun e w' => (∃ v, e = .returned v) ∧ OwnW w' base g n c (Bs.put ws k) ∧ w.grownBy w' (some g) := by
 have hb := (Below.refl w.heap.size w).alloc (Nat.le_refl _) (.cells #[.int .i64 W, .slice (some ⟨g, 0, none⟩) n c] 49)
 have hx := Box.new w W (some ⟨g, 0, none⟩) n c
 have hal := h.below hb
 have hg := h.ge
 clear h
 have hl := hal.len
 have hc1 := hx.c1
 have hcell := (hal.cellAt (k / 64) (by omega)).trans (words_get (by omega))
 have hfr := hal.frozenAt (k / 64)
 have hst := hal.stored (k / 64) (.int .u64 (Bs.wd ws (k / 64) ||| 2 ^ (k % 64) : Nat))
 have hor := or_bit (Bs.wd ws (k / 64)) (k % 64) (Bs.wd_lt ok _) (by omega)
 rw [words_set] at hst
 have e : ws.set (k / 64) (Bs.wd ws (k / 64) ||| 2 ^ (k % 64)) = Bs.put ws k := rfl
 rw [e] at hst
 generalize Bs.wd ws (k / 64) ||| 2 ^ (k % 64) = y at hor hst
 generalize Bs.wd ws (k / 64) = x at hcell hor
 have Hst := hid hst.1; have Hb := hid hb; have Hg := hid hst.2
 have hk0 : (0 : Int) ≤ k := by omega
 have hw : IntKind.i64.wrap ((k : Int) / 64) = ((k / 64 : Nat) : Int) := by rw [IntWalk.i64_in _ (by omega)]; simp
 clear hst hx hal hb e ok
 generalize k / 64 = q at *
 have hq0 : (0 : Int) ≤ q := by omega
 have hq1 : (q : Int) < n := by omega
 go_enter Tryz.func183, Tryz.ntmps183
 go_wp2_with fail
 generalize w.alloc (.cells #[.int .i64 W, .slice (some ⟨g, 0, none⟩) n c] 49) = w1 at *
 refine wp_region_still_tail 10 (by kernel_rfl) (by kernel_rfl) ?_
 simp only [List.take_succ_cons, List.take_zero, List.drop_succ_cons, List.drop_zero]
 repeat still_step
 still_call (mask_any _ _)
 repeat still_step
 try refine wpStill_nil ?_
 change wpList _ _ _ _ _ (World.drew _)
 go_wp2
 refine bodyPost_end (v := .tuple #[]) (by simp [results, Tryz.results183]) rfl ⟨⟨_, rfl⟩, Hst.out.drew, grown_trans (grown_of_below Hb.out _) (grown_trans Hg.out (grown_drew _ _))⟩
theorem devEmpty_own (v : Nat) (w : World) (hv : v ≤ 256) :
 Calls Tryz.prog 95 #[.int .i64 v] w fun e w' => ∃ g, e = .returned (.tuple #[.agg #[.int .i64 v, .slice (some ⟨g, 0, none⟩) (Bs.nw v) (Bs.nw v)], .int .i64 0]) ∧ OwnW w' w.heap.size g (Bs.nw v) (Bs.nw v) (Bs.emp v) ∧ Below w.heap.size w w' := by
 have H := hid (show (decide ((0 : Int) ≤ v) && decide ((v : Int) ≤ 256)) = true by simp; omega)
 have hm := run_rows (Bs.nw v) (by unfold Bs.nw; omega)
 have hl5 : Bs.nw v ≤ 5 := by unfold Bs.nw; omega
 have hown : ∀ o, OwnW ((w.alloc o).alloc (.cells (words (List.replicate (Bs.nw v) 0)).toArray 106)) w.heap.size (w.heap.size + 1) (Bs.nw v) (Bs.nw v) (Bs.emp v) := fun o => by
  have h := heap_alloc_new (w.alloc o) (.cells (words (List.replicate (Bs.nw v) 0)).toArray 106)
  rw [World.size_alloc] at h
  have h2 := Row.own (ws := Bs.emp v) (base := w.heap.size) h (by omega) (by rw [len_emp]; omega)
  rwa [len_emp] at h2
 have hb : ∀ o, Below w.heap.size w ((w.alloc o).alloc (.cells (words (List.replicate (Bs.nw v) 0)).toArray 106)) :=
  fun o => ((Below.refl w.heap.size w).alloc (Nat.le_refl _) o).alloc (by simp) _
 have Hown := hid hown; have Hb := hid hb
 clear hown hb
 go_enter Tryz.func95, Tryz.ntmps95
 go_wp2_with (first
  | (go_at_call 115; refine (permitted_is _ _ _ H).mono ?_; rintro e w2 ⟨rfl, rfl⟩)
  | (go_at_call 116; refine (wordsOf_any _ _ hv).mono ?_; rintro e w2 ⟨rfl, rfl⟩))
 exact bodyPost_ret (v := .tuple #[.agg #[.int .i64 v, .slice (some ⟨w.heap.size + 1, 0, none⟩) (Bs.nw v) (Bs.nw v)], .int .i64 0]) (by simp [results, Tryz.results95, go_sem]) rfl ⟨w.heap.size + 1, rfl, Hown.out _, Hb.out _⟩
theorem devEmpty_any (W : Int) (w : World) : Calls Tryz.prog 95 #[.int .i64 W] w (RetErr w (emptyR W)) := by
 by_cases h : W < 0 ∨ 256 < W
 · have hr : emptyR W = (0, [], 3) := by unfold emptyR; rw [if_pos h]
   rw [hr]
   have H := hid (show (decide (0 ≤ W) && decide (W ≤ 256)) = false by rcases h with h | h <;> simp <;> omega)
   clear hr h
   go_enter Tryz.func95, Tryz.ntmps95
   go_wp2_with (go_at_call 115; refine (permitted_is _ _ _ H).mono ?_; rintro e w2 ⟨rfl, rfl⟩)
   exact bodyPost_ret (v := .tuple #[.agg #[.int .i64 0, .slice none 0 0], .int .i64 3]) (by simp [results, Tryz.results95, go_sem]) rfl ⟨_, _, _, rfl, Arg.nil _ _, (Below.refl _ _).alloc (Nat.le_refl _) _⟩
 · obtain ⟨v, rfl⟩ := Int.eq_ofNat_of_zero_le (a := W) (by omega)
   have hr : emptyR (v : Int) = ((v : Int), Bs.emp v, 0) := by unfold emptyR; rw [if_neg h, Int.toNat_natCast]
   rw [hr]
   refine (devEmpty_own v w (by omega)).mono ?_
   rintro e w' ⟨g, rfl, ho, hb⟩
   exact ⟨_, _, _, rfl, ho.arg (Bs.fit_emp v).ok, hb⟩
theorem clone_any (A : Option Addr) (n c : Nat) (ws : List Nat) (w : World) (hA : Arg w A n ws) (hn : n ≤ 100) (h0 : 0 < n) :
 Calls Tryz.prog 85 #[.slice A n c] w fun e w' => ∃ g c', e = .returned (.slice (some ⟨g, 0, none⟩) n c') ∧ OwnW w' w.heap.size g n c' ws ∧ Below w.heap.size w w' := by
 obtain ⟨ad, rfl, had, _⟩ := hA.lies.cell (words_get (i := 0) (by rw [hA.len]; omega))
 obtain ⟨i0, hi, hz0, hz1, hz2⟩ := info_parts info62'
 have HA := hid hA; have Hi := hid hi; have Hz0 := hid hz0; have Hz1 := hid hz1; have Hz2 := hid hz2
 clear hA hi hz0 hz1 hz2
 have hnil : ∀ w : World, (binOp .eql 47 (.slice (some ad) n c) (.slice none 0 0)).run Tryz.prog w = .ok (.bool false) w := fun w => Lib.run_eql_slice_nil w 47 106 (some ad) n c 0 0 Tryz.underlying47
 have hb := (Below.refl w.heap.size w).alloc (Nat.le_refl _) (.cells #[] 106)
 have Hb := hid hb
 clear hb
 go_enter Tryz.func85, Tryz.ntmps85
 go_wp2_with (at_builtin
              refine wpList_append_own _ rfl _ _ 47 rfl w.heap.size 106 i0 (.int .u64 0) 1 8 Tryz.underlying47 Hi.out Hz0.out Hz1.out Hz2.out rfl (by decide) _ _ _ rfl (empty_own w w.heap.size w.heap.size (Nat.le_refl _) rfl) ad n c (words ws) rfl (by rw [words_len, Nat.mul_one]; exact HA.out.len) (Arg.cells HA.out Hb.out) (words_one ws) (by unfold maxLen; omega) (by omega) (by simp) ?_
              intro v' w3 hown3 hgr3 hnil3
              have Hown := hid hown3; have Hgr := hid hgr3; have Hnil := hid hnil3
              clear hown3 hgr3 hnil3)
 go_ret
 have ho := Hown.out
 rw [Nat.zero_add, List.nil_append] at ho
 have hg : (w.alloc (.cells #[] 106)).grownBy w3 (some w.heap.size) := Hgr.out
 rcases id ho.2 with ⟨hv, h0'⟩ | ⟨g, cap, cur, rfl, hb⟩
 · omega
 · exact ⟨g, cap, rfl, ho, Hb.out.grown hg (by simp) (by intro k hk; injection hk with hk; omega)⟩
theorem OwnW.less {w : World} {base base' g n c : Nat} {ws : List Nat} (h : OwnW w base g n c ws) (hb : base' ≤ base) : OwnW w base' g n c ws := by
 refine ⟨h.1, ?_⟩
 rcases h.2 with h' | ⟨g', cap, cur, h1, h2, h3⟩
 · exact .inl h'
 · exact .inr ⟨g', cap, cur, h1, Nat.le_trans hb h2, h3⟩
def Filling (w : World) (b r v g n c : Nat) (zs : List Nat) (wr : World) : Prop :=
 Box wr b v (some ⟨g, 0, none⟩) n c ∧ OwnW wr w.heap.size g n c zs ∧ w.heap.size ≤ b ∧ b ≠ r ∧ w.heap.size ≤ r ∧ Box wr r 0 none 0 0 ∧ Below w.heap.size w wr
theorem Filling.put {w wr w5 : World} {b r v g n c : Nat} {zs zs' : List Nat} (h : Filling w b r v g n c zs wr) (ho : OwnW w5 w.heap.size g n c zs') (hg : wr.grownBy w5 (some g)) : Filling w b r v g n c zs' w5 := by
 obtain ⟨h1, h2, h3, h4, h5, h6, h7⟩ := h
 have e1 := h1.own_ne h2
 have e2 := h6.own_ne h2
 have hge := h2.ge
 exact ⟨h1.grown hg (some_ne (Ne.symm e1)), ho, h3, h4, h5, h6.grown hg (some_ne (Ne.symm e2)), h7.grown hg h7.size (by intro k hk; injection hk with hk; omega)⟩
theorem Filling.start {w w2 : World} {g r v n c : Nat} {zs : List Nat} (ho : OwnW w2 w.heap.size g n c zs) (hr : Box w2 r 0 none 0 0) (hr2 : w.heap.size ≤ r) (hb : Below w.heap.size w w2) :
 Filling w w2.heap.size r v g n c zs (w2.alloc (.cells #[.int .i64 v, .slice (some ⟨g, 0, none⟩) n c] 49)) := by
 have := hr.lt
 exact ⟨Box.new _ _ _ _ _, ho.below ((Below.refl _ _).alloc (Nat.le_refl _) _), hb.size, by omega, hr2, hr.alloc _, hb.alloc hb.size _⟩
theorem Filling.cells {w wr : World} {b r v g n c : Nat} {zs : List Nat} (h : Filling w b r v g n c zs wr) :
 ((wr.cell? ⟨b, 0, none⟩ = some (.int .i64 v) ∧ wr.cell? ⟨b, 1, none⟩ = some (.slice (some ⟨g, 0, none⟩) n c)) ∧ (wr.cell? ⟨r, 0, none⟩ = some (.int .i64 0) ∧ wr.cell? ⟨r, 1, none⟩ = some (.slice none 0 0))) ∧ (wr.frozen? ⟨r, 0, none⟩ = false ∧ wr.frozen? ⟨r, 1, none⟩ = false) ∧ b ≠ r := by
 obtain ⟨h1, h2, h3, h4, h5, h6, h7⟩ := h
 exact ⟨⟨⟨h1.c0, h1.c1⟩, h6.c0, h6.c1⟩, ⟨h6.f 0, h6.f 1⟩, h4⟩
theorem Filling.done {w wr : World} {b r v g n c : Nat} {zs : List Nat} (h : Filling w b r v g n c zs wr) (ok : ∀ x ∈ zs, x < Bs.W64) :
 Arg ((wr.setCell ⟨r, 0, none⟩ (.int .i64 v)).setCell ⟨r, 1, none⟩ (.slice (some ⟨g, 0, none⟩) n c)) (some ⟨g, 0, none⟩) n zs ∧
  Below w.heap.size w ((wr.setCell ⟨r, 0, none⟩ (.int .i64 v)).setCell ⟨r, 1, none⟩ (.slice (some ⟨g, 0, none⟩) n c)) := by
 obtain ⟨h1, h2, h3, h4, h5, h6, h7⟩ := h
 have e2 := h6.own_ne h2
 exact ⟨((h2.far (p := ⟨r, 0, none⟩) e2 _).far (p := ⟨r, 1, none⟩) e2 _).arg ok, (h7.setCell (by simpa using h5) _).setCell (by simpa using h5) _⟩
theorem devOf_any (W : Int) (A : Option Addr) (n c : Nat) (l : List Int) (w : World) (hA : IArg w A n l) (hn : n ≤ maxLen) :
 Calls Tryz.prog 161 #[.int .i64 W, .slice A n c] w (RetErr w (ofR W l)) := by
 by_cases h : W < 0 ∨ 256 < W
 · have hr : ofR W l = (0, [], 3) := by unfold ofR; rw [if_pos h]
   have hr2 : emptyR W = (0, [], 3) := by unfold emptyR; rw [if_pos h]
   rw [hr]
   have Hr2 := hid hr2
   have Hx := hid (Box.new w 0 none 0 0)
   clear hr hr2 h hA
   go_enter Tryz.func161, Tryz.ntmps161
   go_wp2_with fail
   refine (devEmpty_any W _).mono ?_
   rw [Hr2.out]
   rintro e w1 ⟨A1, n1, c1, rfl, ha, hb⟩
   have hq := Hx.out.below hb (by simp)
   have hq0 := hq.c0
   have hq1 := hq.c1
   have hf0 := hq.f 0
   have hf1 := hq.f 1
   have hz := hb.size
   rw [World.size_alloc] at hz
   have hz2 : w.heap.size < w1.heap.size := hz
   have Hb := hid (((Below.refl w.heap.size w).alloc (Nat.le_refl _) _).trans (hb.mono (by simp)))
   clear hq ha hb
   simp only []
   go_wp2_with fail
   exact bodyPost_ret (v := .tuple #[.agg #[.int .i64 0, .slice none 0 0], .int .i64 3]) (by simp [results, Tryz.results161, go_sem, hq0, hq1, hz2]) rfl ⟨_, _, _, rfl, Arg.nil _ _, ((Hb.out.setCell (by simp) _).setCell (by simp) _).alloc (by simp; omega) _⟩
 · obtain ⟨v, rfl⟩ := Int.eq_ofNat_of_zero_le (a := W) (by omega)
   have hv : v ≤ 256 := by omega
   unfold maxLen at hn
   have Hx := hid (Box.new w 0 none 0 0)
   have HA := hid hA; have H0 := hid h
   clear h hA
   go_enter Tryz.func161, Tryz.ntmps161
   go_wp2_with fail
   refine (devEmpty_own v _ hv).mono ?_
   rintro e w2 ⟨g, rfl, ho, hb⟩
   have hst := Filling.start (w := w) (r := w.heap.size) (v := v) (zs := Bs.emp v) (by rw [World.size_alloc] at ho; exact OwnW.less ho (by omega)) (Hx.out.below hb (by simp)) (Nat.le_refl _) (((Below.refl _ _).alloc (Nat.le_refl _) _).trans (hb.mono (by simp)))
   have he : Bs.emp v = Bs.ofP v (fun i => decide ((i : Int) ∈ l.take 0)) v := by
    rw [show (fun i : Nat => decide ((i : Int) ∈ l.take 0)) = fun _ => false from by funext i; simp]; exact (Bs.ofP_false v v).symm
   rw [he] at hst
   have Hst := hid hst
   clear hst ho hb Hx he
   go_wp2_with fail
   go_loopw [9, 21] (fun _ i wr => ∃ k : Nat, k ≤ n ∧ i = .int .i64 k ∧ Hid ((∀ x ∈ l.take k, 0 ≤ x ∧ x < v) ∧ Filling w w2.heap.size w.heap.size v g (Bs.nw v) (Bs.nw v) (Bs.ofP v (fun i => decide ((i : Int) ∈ l.take k)) v) wr)) (fun _ i _ => n - (intOf i).toNat)
   case atStart => exact ⟨0, by omega, rfl, hid ⟨by simp, Hst.out⟩⟩
   case round =>
    obtain ⟨k, hk, rfl, hG⟩ := hrel
    have Hfit := hid (Bs.fit_ofP v (fun i => decide ((i : Int) ∈ l.take k)) v (Nat.le_refl _))
    obtain ⟨⟨⟨hc0, hc1⟩, hr0, hr1⟩, ⟨hf0, hf1⟩, hne⟩ := hG.out.2.cells
    have Hfr := hid hG.out.2.2.2.2.2.2.2
    clear Hst
    by_cases hlt : k < n
    · have hkl : k < l.length := by rw [HA.out.len]; exact hlt
      obtain ⟨ad, rfl, had, hcell⟩ := (HA.out.below Hfr.out).lies.cell (ints_get hkl)
      have hsn := take_snoc l k hkl
      have hxl : l.getD k 0 = l[k] := by rw [List.getD_eq_getElem?_getD, List.getElem?_eq_getElem hkl]; rfl
      have hmem : l[k] ∈ l := List.getElem_mem hkl
      rw [← hxl] at hsn hmem
      generalize l.getD k 0 = x at hcell hsn hmem
      have Hsn := hid hsn; have Hmem := hid hmem
      clear hsn hmem hxl
      have hk0 : (0 : Int) ≤ k := by omega
      have hkn : (k : Int).toNat = k := by omega
      have hk1 : (k : Int) < n := by omega
      cases hi : (decide (0 ≤ x) && decide (x < (v : Int))) with
      | true =>
        have h2 := hi
        simp at h2
        obtain ⟨hx0, hx1⟩ := h2
        obtain ⟨b, rfl⟩ := Int.eq_ofNat_of_zero_le hx0
        have hbv : b < v := by omega
        have Hi := hid hi
        clear hi hr0 hr1 hf0 hf1
        go_wp2_with (first
         | (go_at_call 180; refine (inside_is _ _ _ _ Hi).mono ?_; rintro e w5 ⟨rfl, rfl⟩)
         | (go_at_call 183; refine (put_any v _ g _ _ _ b _ hG.out.2.2.1 Hfit.out.ok (Bs.lt_nw hbv) (by omega)).mono ?_
            rintro e w5 ⟨⟨v5, rfl⟩, ho, hg⟩
            have hfin := hG.out.2.put ho hg
            rw [Bs.put_ofP _ hbv] at hfin
            have Hfin := hid hfin
            clear hfin ho hg))
        go_roundw
        case rel =>
         refine ⟨k + 1, by omega, by go_num, hid ⟨?_, ?_⟩⟩
         · rw [Hsn.out]; intro y hy
           rcases List.mem_append.1 hy with h | h
           · exact hG.out.1 y h
           · simp at h; subst h; exact ⟨hx0, hx1⟩
         · rw [Bs.ofP_congr (q := fun i => decide ((i : Int) ∈ l.take k) || decide (i = b)) (fun i _ => by rw [Hsn.out]; exact mem_snoc _ _ _)]
           exact Hfin.out
        case measure => simp [intOf]; omega
      | false =>
        have hres : ofR (v : Int) l = (0, [], 3) := by
         unfold ofR
         rw [if_neg H0.out, if_pos]
         refine List.any_eq_true.2 ⟨x, Hmem.out, ?_⟩
         simp at hi ⊢; omega
        have Hres := hid hres; have Hi := hid hi
        clear hres hi
        go_wp2_with (go_at_call 180; refine (inside_is _ _ _ _ Hi).mono ?_; rintro e w5 ⟨rfl, rfl⟩)
        refine bodyPost_ret (v := .tuple #[.agg #[.int .i64 0, .slice none 0 0], .int .i64 3]) (by simp [results, Tryz.results161, go_sem, hr0, hr1]) rfl ?_
        rw [Hres.out]
        exact ⟨_, _, _, rfl, Arg.nil _ _, (Hfr.out.setCell (by simp) _).setCell (by simp) _⟩
    · have hkW : k = n := by omega
      have hall : l.take k = l := List.take_of_length_le (by rw [HA.out.len]; omega)
      have hres : ofR (v : Int) l = ((v : Int), Bs.ofP v (fun i => decide ((i : Int) ∈ l)) v, 0) := by
       unfold ofR
       rw [if_neg H0.out, if_neg, Int.toNat_natCast]
       intro h
       obtain ⟨x, hx, hb⟩ := List.any_eq_true.1 h
       have := hG.out.1 x (by rw [hall]; exact hx)
       simp at hb; omega
      have hd := hG.out.2.done Hfit.out.ok
      have Hres := hid hres; have Hall := hid hall; have Hd := hid hd
      clear hres hall hkW hd hG Hfr
      go_wp2_with fail
      refine bodyPost_ret (v := .tuple #[.agg #[.int .i64 v, .slice (some ⟨g, 0, none⟩) (Bs.nw v) (Bs.nw v)], .int .i64 0]) (by simp [results, Tryz.results161, go_sem, hr0, hr1]) rfl ?_
      rw [Hres.out]
      refine ⟨_, _, _, rfl, ?_, Hd.out.2⟩
      have hh := Hd.out.1
      rw [Hall.out] at hh
      exact hh
def tgt (W : Int) (ss : List Nat) (cs : List (Int × Int)) : List Int := (cs.filter fun p => Bs.hasB W ss p.1).map (·.2)
theorem tgt_snoc (W : Int) (ss : List Nat) (cs : List (Int × Int)) (p : Int × Int) : tgt W ss (cs ++ [p]) = tgt W ss cs ++ (if Bs.hasB W ss p.1 then [p.2] else []) := by
 unfold tgt; rw [List.filter_append, List.map_append]
 by_cases h : Bs.hasB W ss p.1 <;> simp [h]
theorem tgt_len (W : Int) (ss : List Nat) (cs : List (Int × Int)) : (tgt W ss cs).length ≤ cs.length := by
 unfold tgt; rw [List.length_map]; exact List.length_filter_le _ _
theorem mem_tgt {W : Int} {ss : List Nat} {cs : List (Int × Int)} {b : Int} : b ∈ tgt W ss cs ↔ ∃ a, (a, b) ∈ cs ∧ Bs.hasB W ss a = true := by
 unfold tgt; simp only [List.mem_map, List.mem_filter]
 constructor
 · rintro ⟨⟨a, c⟩, ⟨h1, h2⟩, rfl⟩; exact ⟨a, h1, h2⟩
 · rintro ⟨a, h1, h2⟩; exact ⟨(a, b), ⟨h1, h2⟩, rfl⟩
theorem mixR_ok (f : Bool → Bool → Bool) {W : Nat} {ws xs : List Nat} (hW : W ≤ 256) (h1 : Bs.Fit W ws) (h2 : Bs.Fit W xs) :
 mixR f W ws W xs = ((W : Int), Bs.ofP W (fun i => f (Bs.bit ws i) (Bs.bit xs i)) W, 0) := by
 unfold mixR
 rw [if_neg (by simp [Bs.valid_of_fit h1 hW, Bs.valid_of_fit h2 hW]), if_neg (by simp), Int.toNat_natCast]
theorem dev_value {W : Nat} (hW : W ≤ 256) {gs ks ss : List Nat} {cs : List (Int × Int)} (hk : Bs.Fit W ks) (hs : Bs.Fit W ss) (hc : ∀ p ∈ cs, inW W p = true) :
 orR W gs (orR W (Bs.ofP W (fun i => flag true false false (Bs.bit ss i) (Bs.bit ks i)) W) (Bs.ofP W (fun i => decide ((i : Int) ∈ tgt W ss cs)) W)) = valR gs ss (folB W ks cs) W := by
 unfold orR valR
 refine Bs.ofP_congr fun i hi => ?_
 rw [Bs.bit_ofP _ _ _ (Nat.le_refl _), Bs.bit_ofP _ _ _ (Nat.le_refl _), Bs.bit_ofP _ _ _ (Nat.le_refl _)]
 congr 1
 simp only [hi, decide_true, Bool.true_and]
 apply Bool.eq_iff_iff.2
 rw [List.any_eq_true]
 simp only [Bool.or_eq_true, decide_eq_true_eq, mem_tgt]
 constructor
 · rintro (h | ⟨a, ha, hb⟩)
   · refine ⟨i, List.mem_range.2 hi, ?_⟩
     unfold folB
     rw [Bs.hasB_nat hk hW]
     revert h
     cases Bs.bit ss i <;> cases Bs.bit ks i <;> simp [flag]
   · have h1 := hc _ ha
     simp [inW] at h1
     obtain ⟨x, rfl⟩ := Int.eq_ofNat_of_zero_le h1.1.1
     rw [Bs.hasB_nat hs hW] at hb
     refine ⟨x, List.mem_range.2 (by omega), ?_⟩
     unfold folB
     simp [hb, ha]
 · rintro ⟨x, hx, h⟩
   rw [List.mem_range] at hx
   unfold folB at h
   rw [Bs.hasB_nat hk hW] at h
   simp only [Bool.and_eq_true, Bool.or_eq_true, decide_eq_true_eq, Bool.not_eq_true'] at h
   obtain ⟨h1, ⟨h2, h3⟩ | h2⟩ := h
   · have : x = i := by omega
     subst this
     left; simp [flag, h1, h3]
   · exact .inr ⟨x, h2, by rw [Bs.hasB_nat hs hW]; exact h1⟩
theorem tgt_of {W : Nat} (hW : W ≤ 256) {ss : List Nat} {cs : List (Int × Int)} (hc : ∀ p ∈ cs, inW W p = true) :
 ofR W (tgt W ss cs) = ((W : Int), Bs.ofP W (fun i => decide ((i : Int) ∈ tgt W ss cs)) W, 0) := by
 unfold ofR
 rw [if_neg (by omega), if_neg, Int.toNat_natCast]
 intro h
 obtain ⟨b, hb, h2⟩ := List.any_eq_true.1 h
 obtain ⟨a, ha, _⟩ := mem_tgt.1 hb
 have h1 := hc _ ha
 simp [inW] at h1
 simp at h2
 omega
theorem inW_of_ok {W : Int} {cs : List (Int × Int)} (h : ∀ i, i < cs.length → okAt W cs i = true) : ∀ p ∈ cs, inW W p = true := by
 intro p hp
 obtain ⟨i, hi, e⟩ := List.getElem_of_mem hp
 have := h i hi
 unfold okAt at this
 rw [List.getD_eq_getElem?_getD, List.getElem?_eq_getElem hi, Option.getD_some, e] at this
 simp only [Bool.and_eq_true] at this
 exact this.1
section
variable {w : World} {W V X : Int} {A B C D : Option Addr} {n c m d k q x y : Nat} {wr w' : World}
theorem Applying.grown {row : Option Nat} (h : Applying w W V X A B C D n c m d k q x y wr) (hg : wr.grownBy w' row) (hr : ∀ g, row = some g → w.heap.size + 3 ≤ g) : Applying w W V X A B C D n c m d k q x y w' := by
 have ne : ∀ b, b < w.heap.size + 3 → some b ≠ row := fun b hb e => by have := hr b e.symm; omega
 exact ⟨h.1.grown hg (ne _ (by omega)), h.2.1.grown hg (ne _ (by omega)), h.2.2.1.grown hg (ne _ (by omega)), h.2.2.2.grown hg h.2.2.2.size (fun g e => by have := hr g e; omega)⟩
end
def Aiming (w : World) (W V X : Int) (A B C D : Option Addr) (n c m d k q x y : Nat) (v : Value) (l : List Int) (wr : World) : Prop :=
 Applying w W V X A B C D n c m d k q x y wr ∧ wr.ownsRow (w.heap.size + 3) 3 1 v l.length (ints l) ∧ w.heap.size + 3 ≤ wr.heap.size
theorem Aiming.below {w : World} {W V X : Int} {A B C D : Option Addr} {n c m d k q x y : Nat} {v : Value} {l : List Int} {wr w' : World} (h : Aiming w W V X A B C D n c m d k q x y v l wr) (hb : Below wr.heap.size wr w') :
 Aiming w W V X A B C D n c m d k q x y v l w' := ⟨h.1.below hb, own_below h.2.1 hb, by have := hb.size; have := h.2.2; omega⟩
theorem Aiming.push {w : World} {W V X : Int} {A B C D : Option Addr} {n c m d k q x y : Nat} {v v' : Value} {l : List Int} {b : Int} {o : Obj} {wr w' : World} (h : Aiming w W V X A B C D n c m d k q x y v l wr)
 (ho : w'.ownsRow (w.heap.size + 3) 3 1 v' (l.length + 1) (ints l ++ [.int .i64 b])) (hg : (wr.alloc o).grownBy w' v.ownBlock) : Aiming w W V X A B C D n c m d k q x y v' (l ++ [b]) w' := by
 have h' := h.below ((Below.refl _ _).alloc (Nat.le_refl _) o)
 refine ⟨h'.1.grown hg (fun g e => (h.2.1.lt g e).1), ?_, ?_⟩
 · rw [ints_snoc, List.length_append]; exact ho
 · have := hg.size; have := h'.2.2; omega
set_option maxHeartbeats 1600000 in
theorem devApply_any (W V X : Int) (A B C D : Option Addr) (n c m d k q x y : Nat) (gs ks ss : List Nat) (cs : List (Int × Int)) (w : World)
 (hA : Arg w A n gs) (hB : Arg w B m ks) (hC : ArgC w C k cs) (hD : Arg w D x ss) :
 Calls Tryz.prog 130 #[.agg #[.int .i64 W, .slice A n c, .int .i64 V, .slice B m d, .slice C k q], .agg #[.int .i64 X, .slice D x y]] w
  (RetErr w (applyR W gs V ks cs X ss)) := by
 obtain ⟨i0, hi, hz0, hz1, hz2⟩ := info_parts info3
 have Hi := hid hi; have Hz0 := hid hz0; have Hz1 := hid hz1; have Hz2 := hid hz2
 have HA := hid hA; have HB := hid hB; have HC := hid hC; have HD := hid hD
 have H0 := hid (Applying.start w W V X A B C D n c m d k q x y)
 clear hA hB hC hD hi hz0 hz1 hz2
 go_enter Tryz.func130, Tryz.ntmps130
 go_wp2_with fail
 refine (devValidT_any W V A B C n c m d k q gs ks cs _ (HA.out.below H0.out.2.2.2) (HB.out.below H0.out.2.2.2) (HC.out.below H0.out.2.2.2)).mono ?_
 cases hv : validT W gs V ks cs with
 | false =>
   rintro e w1 ⟨rfl, hb1⟩
   have H1 := hid (H0.out.below hb1)
   have Hr := hid (show applyR W gs V ks cs X ss = (0, [], 1) by unfold applyR; rw [if_pos (.inl hv)])
   clear hb1 hv
   obtain ⟨⟨r0, r1⟩, f0, f1⟩ := H1.out.res
   go_wp2_with fail
   refine bodyPost_ret (v := .tuple #[.agg #[.int .i64 0, .slice none 0 0], .int .i64 1]) (by simp [results, Tryz.results130, go_sem, r0, r1]) rfl ?_
   rw [Hr.out]
   exact ⟨_, _, _, rfl, Arg.nil _ _, H1.out.stored _ _ _ _⟩
 | true =>
   have Hv := hid hv
   obtain ⟨h1, h2, h3, h4, h5⟩ := validT_iff hv
   have hk64 : k ≤ 64 := by rw [HC.out.len] at h4; exact h4
   have HK := hid hk64
   have Hin := hid (inW_of_ok h5)
   rintro e w1 ⟨rfl, hb1⟩
   have H1 := hid (H0.out.below hb1)
   clear hb1 hv h4 h5
   obtain ⟨s0, s1⟩ := And.intro H1.out.2.1.c0 H1.out.2.1.c1
   go_wp2_with fail
   refine (devValid_any X D x y ss _ (HD.out.below H1.out.2.2.2)).mono ?_
   clear s0 s1
   cases hs : Bs.validB X ss with
   | false =>
     rintro e w2 ⟨rfl, hb2⟩
     have H2 := hid (H1.out.below hb2)
     have Hr := hid (show applyR W gs V ks cs X ss = (0, [], 1) by unfold applyR; rw [if_pos (.inr hs)])
     clear hb2 hs h1 h2 h3
     obtain ⟨⟨r0, r1⟩, f0, f1⟩ := H2.out.res
     go_wp2_with fail
     refine bodyPost_ret (v := .tuple #[.agg #[.int .i64 0, .slice none 0 0], .int .i64 1]) (by simp [results, Tryz.results130, go_sem, r0, r1]) rfl ?_
     rw [Hr.out]
     exact ⟨_, _, _, rfl, Arg.nil _ _, H2.out.stored _ _ _ _⟩
   | true =>
     rintro e w2 ⟨rfl, hb2⟩
     have H2 := hid (H1.out.below hb2)
     have hz2 : w.heap.size + 3 ≤ w2.heap.size := by
      have e1 := H1.out.2.2.1.lt; have e2 := hb2.size; omega
     clear hb2
     obtain ⟨⟨r0, r1⟩, f0, f1⟩ := H2.out.res
     obtain ⟨s0, s1⟩ := And.intro H2.out.2.1.c0 H2.out.2.1.c1
     obtain ⟨t0, t1, t2, t3, t4⟩ := H2.out.1.five
     by_cases hWX : W = X
     · subst hWX
       subst h3
       have Hr := hid (show applyR W gs W ks cs W ss = (W, valR gs ss (folB W ks cs) W.toNat, 0) by unfold applyR; rw [if_neg (by simp [Hv.out, hs]), if_neg (by simp)])
       have hfg := Bs.fit_of_valid h1 HA.out.ok
       have hfk := Bs.fit_of_valid h2 HB.out.ok
       have hfs := Bs.fit_of_valid hs HD.out.ok
       obtain ⟨v, rfl⟩ := Int.eq_ofNat_of_zero_le (Bs.validB_iff.1 h1).1
       have hv256 : v ≤ 256 := by have := (Bs.validB_iff.1 h1).2.1; omega
       rw [Int.toNat_natCast] at hfg hfs hfk
       have Hfg := hid hfg; have Hfs := hid hfs; have Hfk := hid hfk; have Hv2 := hid hv256
       have Hst := hid (show Aiming w v v v A B C D n c m d k q x y (.slice none 0 0) (tgt v ss (cs.take 0)) w2 from ⟨H2.out, World.ownsRow_nil _ _ _ _, hz2⟩)
       clear h1 h2 hs hfg hfs hfk hv256 r0 r1 f0 f1 hz2
       go_wp2_with fail
       clear s0 s1 t0 t1 t2 t3 t4
       go_loopw [6, 8, 34] (fun u _ i wr => ∃ j : Nat, j ≤ k ∧ i = .int .i64 j ∧ Hid (Aiming w v v v A B C D n c m d k q x y u (tgt v ss (cs.take j)) wr)) (fun _ _ i _ => k - (intOf i).toNat)
       case atStart => exact ⟨0, by omega, rfl, Hst⟩
       case round =>
        obtain ⟨j, hj, rfl, hG⟩ := hrel
        clear Hst
        by_cases hlt : j < k
        · have hjl : j < cs.length := by rw [HC.out.len]; exact hlt
          have hget : cs[j]? = some cs[j] := List.getElem?_eq_getElem _
          have hsn := take_snoc cs j hjl
          generalize cs[j] = p at hget hsn
          obtain ⟨p1, p2⟩ := p
          obtain ⟨ad, rfl, had, g1, g2⟩ := (HC.out.below hG.out.1.2.2.2).cell hget
          have Hsn := hid hsn
          have hle := tgt_len v ss (cs.take j)
          rw [List.length_take] at hle
          have hle2 : (tgt (v : Int) ss (cs.take j)).length ≤ 64 := by have := HK.out; omega
          clear hget hsn hle
          have H5 := hid (hG.out.below ((Below.refl _ _).alloc (Nat.le_refl _) (.cells #[.int .i64 p1, .int .i64 p2] 58)))
          have Hbx := hid (Fb.new wr #[.int .i64 p1, .int .i64 p2] 58)
          obtain ⟨s0, s1⟩ := And.intro H5.out.1.2.1.c0 H5.out.1.2.1.c1
          obtain ⟨b0, b1⟩ := Hbx.out.two
          go_wp2_with fail
          clear g1 g2
          generalize wr.alloc (.cells #[.int .i64 p1, .int .i64 p2] 58) = wv at *
          generalize wr.heap.size = gv at *
          refine (devHas_any v D x y ss p1 _ (HD.out.below H5.out.1.2.2.2)).mono ?_
          rintro e w6 ⟨rfl, hb6⟩
          have H6 := hid (H5.out.below hb6)
          have hbx6 := hid (Hbx.out.below hb6 Hbx.out.lt)
          clear s0 s1 b0 b1 hb6
          obtain ⟨b0, b1⟩ := hbx6.out.two
          cases hh : Bs.hasB v ss p1 with
          | false =>
            have Hl := hid (show tgt v ss (cs.take (j + 1)) = tgt v ss (cs.take j) by rw [Hsn.out, tgt_snoc]; simp [hh])
            clear hh
            go_wp2_with fail
            go_roundw
            case rel => exact ⟨j + 1, by omega, by go_num, by rw [Hl.out]; exact H6⟩
            case measure => simp [intOf]; omega
          | true =>
            have Hl := hid (show tgt v ss (cs.take (j + 1)) = tgt v ss (cs.take j) ++ [p2] by rw [Hsn.out, tgt_snoc]; simp [hh])
            clear hh
            have Hle := hid hle2
            go_wp2_with (first
             | (at_builtin
                refine wpList_append_own _ rfl _ _ 22 rfl (w.heap.size + 3) 3 i0 (.int .i64 0) 1 8 Tryz.underlying22 Hi.out Hz0.out Hz1.out Hz2.out rfl (by decide) _ _ _ rfl (H6.out.2.1.alloc _) ⟨w6.heap.size, 0, none⟩ 1 1 [.int .i64 p2] rfl rfl (new_one _ _ _) (one_int _ _) (by unfold maxLen; omega) (by omega) (by have := H6.out.2.2; rw [World.size_alloc]; omega) ?_
                intro v' w7 hown7 hgr7 hnil7
                have H7 := hid (H6.out.push hown7 hgr7)
                clear hown7 hgr7 hnil7))
            go_roundw
            case rel => exact ⟨j + 1, by omega, by go_num, by rw [Hl.out]; exact H7⟩
            case measure => simp [intOf]; omega
        · have hjk : j = k := by omega
          subst hjk
          have hall : cs.take j = cs := List.take_of_length_le (by rw [HC.out.len]; omega)
          rw [hall] at hG
          have hle := tgt_len v ss cs
          have Hle := hid (show (tgt (v : Int) ss cs).length ≤ maxLen by have := HK.out; have := HC.out.len; unfold maxLen; omega)
          clear hall hle
          obtain ⟨A', c', e', hat, _⟩ := own_slice hG.out.2.1
          subst e'
          have Hat := hid (show IArg wr A' (tgt (v : Int) ss cs).length (tgt v ss cs) from ⟨hat, rfl⟩)
          clear hat
          obtain ⟨s0, s1⟩ := And.intro hG.out.1.2.1.c0 hG.out.1.2.1.c1
          obtain ⟨t0, t1, t2, t3, t4⟩ := hG.out.1.1.five
          go_wp2_with fail
          refine (devDiff_any v v D B x y m d ss ks _ (HD.out.below hG.out.1.2.2.2) (HB.out.below hG.out.1.2.2.2)).mono ?_
          rw [mixR_ok _ Hv2.out Hfs.out Hfk.out]
          generalize hS1 : Bs.ofP v (fun i => flag true false false (Bs.bit ss i) (Bs.bit ks i)) v = z1
          have Hz1f := hid (show Bs.Fit v z1 by rw [← hS1]; exact Bs.fit_ofP _ _ _ (Nat.le_refl _))
          have HS1 := hid hS1
          rintro e wd1 ⟨A1, n1, c1, rfl, ha1, hb1⟩
          have HG1 := hid (hG.out.below hb1)
          have Hat1 := hid (Hat.out.below hb1)
          have Ha1 := hid ha1
          clear ha1 hb1 s0 s1 t0 t1 t2 t3 t4 Hat hS1 hG
          have HG2 := hid (HG1.out.below ((Below.refl _ _).alloc (Nat.le_refl _) (.cells #[.int .i64 (v : Int), .slice A1 n1 c1] 49)))
          have Hat2 := hid (Hat1.out.alloc (.cells #[.int .i64 (v : Int), .slice A1 n1 c1] 49))
          have Ha2 := hid (Ha1.out.alloc (.cells #[.int .i64 (v : Int), .slice A1 n1 c1] 49))
          have HB1 := hid (Box.new wd1 (v : Int) A1 n1 c1)
          obtain ⟨s0, s1⟩ := And.intro HG2.out.1.2.1.c0 HG2.out.1.2.1.c1
          go_wp2_with fail
          clear HG1 Hat1 Ha1
          generalize wd1.alloc (.cells #[.int .i64 (v : Int), .slice A1 n1 c1] 49) = wd2 at *
          generalize wd1.heap.size = b1 at *
          refine (devOf_any v A' _ c' (tgt (v : Int) ss cs) _ Hat2.out Hle.out).mono ?_
          rw [tgt_of Hv2.out Hin.out]
          generalize hS2 : Bs.ofP v (fun i => decide ((i : Int) ∈ tgt v ss cs)) v = z2
          have Hz2f := hid (show Bs.Fit v z2 by rw [← hS2]; exact Bs.fit_ofP _ _ _ (Nat.le_refl _))
          have HS2 := hid hS2
          rintro e wd3 ⟨A2, n2, c2, rfl, ha2, hb2⟩
          have HG3 := hid (HG2.out.below hb2)
          have Ha3 := hid (Ha2.out.below hb2)
          have HB3 := hid (HB1.out.below hb2 HB1.out.lt)
          have Hb2 := hid ha2
          clear ha2 hb2 s0 s1 hS2 Hat2 Ha2 HB1 HG2
          have HG4 := hid (HG3.out.below ((Below.refl _ _).alloc (Nat.le_refl _) (.cells #[.int .i64 (v : Int), .slice A2 n2 c2] 49)))
          have Ha4 := hid (Ha3.out.alloc (.cells #[.int .i64 (v : Int), .slice A2 n2 c2] 49))
          have Hb4 := hid (Hb2.out.alloc (.cells #[.int .i64 (v : Int), .slice A2 n2 c2] 49))
          have HB4 := hid (HB3.out.alloc (.cells #[.int .i64 (v : Int), .slice A2 n2 c2] 49))
          have HC4 := hid (Box.new wd3 (v : Int) A2 n2 c2)
          obtain ⟨p0, p1⟩ := And.intro HB4.out.c0 HB4.out.c1
          obtain ⟨q0, q1⟩ := And.intro HC4.out.c0 HC4.out.c1
          go_wp2_with fail
          clear HG3 Ha3 HB3 Hb2
          generalize wd3.alloc (.cells #[.int .i64 (v : Int), .slice A2 n2 c2] 49) = wd4 at *
          generalize wd3.heap.size = b2 at *
          refine (devUnion_any v v A1 A2 n1 c1 n2 c2 z1 z2 _ Ha4.out Hb4.out).mono ?_
          rw [mixR_or Hv2.out Hz1f.out Hz2f.out]
          generalize hS3 : orR v z1 z2 = z3
          have Hz3f := hid (show Bs.Fit v z3 by rw [← hS3]; exact fit_orR _ _ _)
          have HS3 := hid hS3
          rintro e wd5 ⟨A3, n3, c3, rfl, ha3, hb3⟩
          have HG5 := hid (HG4.out.below hb3)
          have Ha5 := hid ha3
          clear ha3 hb3 hS3 p0 p1 q0 q1 Ha4 Hb4 HB4 HC4 HG4
          have HG6 := hid (HG5.out.below ((Below.refl _ _).alloc (Nat.le_refl _) (.cells #[.int .i64 (v : Int), .slice A3 n3 c3] 49)))
          have Ha6 := hid (Ha5.out.alloc (.cells #[.int .i64 (v : Int), .slice A3 n3 c3] 49))
          have HB6 := hid (Box.new wd5 (v : Int) A3 n3 c3)
          obtain ⟨t0, t1, t2, t3, t4⟩ := HG6.out.1.1.five
          obtain ⟨p0, p1⟩ := And.intro HB6.out.c0 HB6.out.c1
          go_wp2_with fail
          clear HG5 Ha5
          generalize wd5.alloc (.cells #[.int .i64 (v : Int), .slice A3 n3 c3] 49) = wd6 at *
          generalize wd5.heap.size = b3 at *
          refine (devUnion_any v v A A3 n c n3 c3 gs z3 _ (HA.out.below HG6.out.1.2.2.2) Ha6.out).mono ?_
          rw [mixR_or Hv2.out Hfg.out Hz3f.out]
          have hfin := dev_value Hv2.out Hfk.out Hfs.out Hin.out (gs := gs)
          rw [HS1.out, HS2.out, HS3.out] at hfin
          rw [hfin]
          rw [Int.toNat_natCast] at Hr
          clear hfin
          generalize valR gs ss (folB (v : Int) ks cs) v = z4 at *
          rintro e wd7 ⟨A4, n4, c4, rfl, ha4, hb4⟩
          have HG7 := hid (HG6.out.1.below hb4)
          have Ha7 := hid ha4
          clear ha4 hb4 t0 t1 t2 t3 t4 p0 p1 HG6 Ha6 HB6
          obtain ⟨⟨r0, r1⟩, f0, f1⟩ := HG7.out.res
          go_wp2_with fail
          refine bodyPost_ret (v := .tuple #[.agg #[.int .i64 v, .slice A4 n4 c4], .int .i64 0]) (by simp [results, Tryz.results130, go_sem, r0, r1]) rfl ?_
          rw [Hr.out]
          exact ⟨_, _, _, rfl, Ha7.out.store HG7.out.2.2.1 _ _ _ _, HG7.out.stored _ _ _ _⟩
     · have Hr := hid (show applyR W gs V ks cs X ss = (0, [], 2) by unfold applyR; rw [if_neg (by simp [Hv.out, hs]), if_pos hWX])
       have t : (W != X) = true := by simp [hWX]
       clear hWX h1 h2 h3 hs
       go_wp2_with fail
       refine bodyPost_ret (v := .tuple #[.agg #[.int .i64 0, .slice none 0 0], .int .i64 2]) (by simp [results, Tryz.results130, go_sem, r0, r1]) rfl ?_
       rw [Hr.out]
       exact ⟨_, _, _, rfl, Arg.nil _ _, H2.out.stored _ _ _ _⟩
def Asc (l : List (Int × Int)) : Prop := l.Pairwise fun x y => beforeB x y = true
theorem asc_unique : ∀ {l m : List (Int × Int)}, Asc l → Asc m → (∀ x, x ∈ l ↔ x ∈ m) → l = m
 | [], [], _, _, _ => rfl
 | [], b :: m, _, _, h => by have := (h b).2 (by simp); simp at this
 | a :: l, [], _, _, h => by have := (h a).1 (by simp); simp at this
 | a :: l, b :: m, h1, h2, h => by
   obtain ⟨p1, q1⟩ := List.pairwise_cons.1 h1
   obtain ⟨p2, q2⟩ := List.pairwise_cons.1 h2
   have hab : a = b := by
    rcases List.mem_cons.1 ((h a).1 (by simp)) with e | e
    · exact e
    · rcases List.mem_cons.1 ((h b).2 (by simp)) with e' | e'
      · exact e'.symm
      · have := before_trans (p1 b e') (p2 a e)
        rw [before_irrefl] at this; cases this
   subst hab
   rw [asc_unique q1 q2 fun x => ?_]
   constructor
   · intro hx
     rcases List.mem_cons.1 ((h x).1 (List.mem_cons_of_mem _ hx)) with e | e
     · subst e; have := p1 x hx; rw [before_irrefl] at this; cases this
     · exact e
   · intro hx
     rcases List.mem_cons.1 ((h x).2 (List.mem_cons_of_mem _ hx)) with e | e
     · subst e; have := p2 x hx; rw [before_irrefl] at this; cases this
     · exact e
theorem cpt_inv (d : Array (Int × Int)) (hs : ∀ i j, i < j → j < d.size → beforeB d[j]! d[i]! = false) : ∀ m, m ≤ d.size →
 (∀ x, x ∈ Lib.compactUpTo d m ↔ ∃ j, j < m ∧ d[j]! = x) ∧ Asc (Lib.compactUpTo d m) ∧ (0 < m → ∀ x ∈ Lib.compactUpTo d m, x = d[m - 1]! ∨ beforeB x d[m - 1]! = true)
 | 0, _ => ⟨fun x => by simp [Lib.compactUpTo], by simp [Lib.compactUpTo, Asc], fun h => by omega⟩
 | m + 1, hm => by
   obtain ⟨i1, i2, i3⟩ := cpt_inv d hs m (by omega)
   rw [Lib.compactUpTo_succ]
   by_cases hk : Lib.keeps d m = true
   · rw [if_pos hk]
     have hlast : ∀ x ∈ Lib.compactUpTo d m, beforeB x d[m]! = true := by
      intro x hx
      by_cases h0 : m = 0
      · subst h0; simp [Lib.compactUpTo] at hx
      · have hne : d[m]! ≠ d[m - 1]! := by
         unfold Lib.keeps at hk
         simp only [decide_eq_true_eq] at hk
         exact hk.resolve_left h0
        have hlt : beforeB d[m - 1]! d[m]! = true := by
         cases hb : beforeB d[m - 1]! d[m]! with
         | true => rfl
         | false => exact absurd (before_not (hs (m - 1) m (by omega) (by omega)) hb) hne
        rcases i3 (by omega) x hx with e | e
        · rw [e]; exact hlt
        · exact before_trans e hlt
     refine ⟨fun x => ?_, ?_, fun _ x hx => ?_⟩
     · rw [List.mem_append, i1]
       constructor
       · rintro (⟨j, hj, e⟩ | h)
         · exact ⟨j, by omega, e⟩
         · simp at h; exact ⟨m, by omega, h.symm⟩
       · rintro ⟨j, hj, e⟩
         by_cases ej : j = m
         · subst ej; right; simp [e]
         · exact .inl ⟨j, by omega, e⟩
     · exact List.pairwise_append.2 ⟨i2, by simp, fun x hx y hy => by simp at hy; subst hy; exact hlast x hx⟩
     · rw [Nat.add_sub_cancel]
       rcases List.mem_append.1 hx with h | h
       · exact .inr (hlast x h)
       · simp at h; exact .inl h
   · rw [if_neg hk, List.append_nil]
     have h0 : m ≠ 0 := by
      intro e; subst e; exact hk (Lib.keeps_lt_one d 0 (by omega))
     have heq : d[m]! = d[m - 1]! := by
      unfold Lib.keeps at hk
      simp only [decide_eq_true_eq, not_or, Decidable.not_not] at hk
      exact hk.2
     refine ⟨fun x => ?_, i2, fun _ x hx => ?_⟩
     · rw [i1]
       constructor
       · rintro ⟨j, hj, e⟩; exact ⟨j, by omega, e⟩
       · rintro ⟨j, hj, e⟩
         by_cases ej : j = m
         · subst ej; exact ⟨j - 1, by omega, by rw [← heq]; exact e⟩
         · exact ⟨j, by omega, e⟩
     · rw [Nat.add_sub_cancel, heq]; exact i3 (by omega) x hx
def ord (cs : List (Int × Int)) : List (Int × Int) := cpt (srt cs)
theorem ord_spec (cs : List (Int × Int)) : (∀ x, x ∈ ord cs ↔ x ∈ cs) ∧ Asc (ord cs) := by
 have h := cpt_inv (srt cs).toArray (fun i j hij hj => by
  have hj' : j < (srt cs).length := by simpa using hj
  have := List.pairwise_iff_getElem.1 (srt_sorted cs) i j (by omega) hj' hij
  rw [getElem!_pos (srt cs).toArray j (by simpa using hj'), getElem!_pos (srt cs).toArray i (by simp; omega)]
  simpa using this) (srt cs).length (by simp)
 refine ⟨fun x => ?_, h.2.1⟩
 unfold ord cpt
 rw [h.1]
 constructor
 · rintro ⟨j, hj, e⟩
   rw [getElem!_pos (srt cs).toArray j (by simpa using hj)] at e
   rw [← (srt_perm cs).mem_iff, ← e]
   simp
 · intro hx
   obtain ⟨j, hj, e⟩ := List.getElem_of_mem ((srt_perm cs).mem_iff.2 hx)
   refine ⟨j, hj, ?_⟩
   rw [getElem!_pos (srt cs).toArray j (by simpa using hj)]
   simpa using e
def restB (W : Int) (gs : List Nat) (p : Int × Int) : Bool := decide (p.1 ≠ p.2) && !Bs.hasB W gs p.2
def killC (W : Nat) (gs ks : List Nat) (cs : List (Int × Int)) : List Nat := Bs.ofP W (fun i => (Bs.bit ks i && !decide (((i : Int), (i : Int)) ∈ cs)) || Bs.bit gs i) W
def Copied (w : World) (v n : Nat) (ws : List Nat) (e : Ending) (w' : World) : Prop :=
 ∃ g c', e = .returned (.tuple #[.agg #[.int .i64 v, .slice (some ⟨g, 0, none⟩) n c'], .int .i64 0]) ∧ OwnW w' w.heap.size g n c' ws ∧ Below w.heap.size w w'
theorem copyFor_in (v : Nat) (A : Option Addr) (n c : Nat) (ws : List Nat) (k : Nat) (w : World) (hA : Arg w A n ws) (h : Bs.validB v ws = true) (hk : k < v) :
 Calls Tryz.prog 189 #[.agg #[.int .i64 v, .slice A n c], .int .i64 k] w (Copied w v n ws) := by
 have hf := Bs.fit_of_valid h hA.ok
 rw [Int.toNat_natCast] at hf
 have hv : v ≤ 256 := by have := (Bs.validB_iff.1 h).2.1; omega
 have hn : n = Bs.nw v := by rw [← hA.len]; exact hf.len
 have hn1 : 0 < n := by rw [hn]; have := Bs.lt_nw hk; omega
 have hn5 : n ≤ 5 := by rw [hn]; unfold Bs.nw; omega
 have Hi := hid (show (decide ((0 : Int) ≤ k) && decide ((k : Int) < v)) = true by simp; omega)
 obtain ⟨hx1, hx2⟩ := boxB w v A n c
 have hx4 := below2 w (.cells #[.int .i64 v, .slice A n c] 49) (.cells #[.int .i64 0, .slice none 0 0] 49)
 have Hx1 := hid hx1; have Hx2 := hid hx2; have Hb0 := hid hx4
 have HA := hid hA; have H := hid h
 clear hx1 hx2 hx4 hA h hf hn
 go_enter Tryz.func189, Tryz.ntmps189
 go_wp2_with fail
 refine (devValid_any v A n c ws _ (HA.out.below Hb0.out)).mono ?_
 rw [H.out]
 rintro e w1 ⟨rfl, hb⟩
 have Hp := hid (Hx1.out.below hb (by simp only [World.size_alloc]; omega))
 have Hq := hid (Hx2.out.below hb (by simp))
 have p0 := Hp.out.c0
 have p1 := Hp.out.c1
 have Hb := hid (Hb0.out.trans (hb.mono (by simp only [World.size_alloc]; omega)))
 have hz := hb.size
 simp only [World.size_alloc] at hz
 clear hb Hx1 Hx2 Hb0
 go_wp2_with (go_at_call 180; refine (inside_is _ _ _ _ Hi).mono ?_; rintro e w5 ⟨rfl, rfl⟩)
 have Hall := hid (show Box w5.drew w.heap.size v A n c ∧ Box w5.drew (w.heap.size + 1) 0 none 0 0 ∧ Arg w5.drew A n ws ∧ Below w.heap.size w w5.drew from ⟨Hp.out, Hq.out, (HA.out.below Hb.out.drew), Hb.out.drew⟩)
 go_region_with (first
  | (go_at_call 85
     go_must (
     refine (clone_any A n c ws _ Hall.out.2.2.1 (by omega) hn1).mono ?_
     rintro e w6 ⟨g, c', rfl, ho, hb6⟩
     have hz6 := hb6.size
     have hp6 := Hall.out.1.below hb6 Hall.out.1.lt
     have p60 := hp6.c0
     have hq6 := Hall.out.2.1.below hb6 Hall.out.2.1.lt
     have q60 := hq6.c0
     have q61 := hq6.c1
     have f60 := hq6.f 0
     have f61 := hq6.f 1
     have Hown := hid (OwnW.less ho (show w.heap.size ≤ w5.drew.heap.size from by show w.heap.size ≤ w5.heap.size; omega))
     have Hne := hid (hq6.own_ne ho)
     have Hb6 := hid (Hall.out.2.2.2.trans (hb6.mono (by show w.heap.size ≤ w5.heap.size; omega)))
     clear hp6 hq6 ho hb6 hz6)))
 all_goals
  go_wp2_with fail
  exact bodyPost_ret (v := .tuple #[.agg #[.int .i64 v, .slice (some ⟨g, 0, none⟩) n c'], .int .i64 0]) (by simp [results, Tryz.results189, go_sem, q60, q61]) rfl ⟨g, c', rfl, (Hown.out.far (by simpa using Hne.out) _).far (by simpa using Hne.out) _, (Hb6.out.setCell (by simp) _).setCell (by simp) _⟩
theorem andNot_bit (x j : Nat) (hx : x < Bs.W64) (hj : j < 64) : bits BinOp.andNot IntKind.u64 (x : Int) (IntKind.u64.wrap (2 ^ j)) = ((x &&& (18446744073709551615 - 2 ^ j) : Nat) : Int) := by
 have hp : 2 ^ j < 18446744073709551616 := by
  have : (2 : Nat) ^ j < 2 ^ 64 := Nat.pow_lt_pow_right (by decide) hj
  simpa using this
 have e : IntKind.u64.wrap (2 ^ j) = ((2 ^ j : Nat) : Int) := by
  rw [show ((2 : Int) ^ j) = ((2 ^ j : Nat) : Int) from by simp]
  generalize 2 ^ j = p at hp
  exact IntWalk.u64_in _ (by omega)
 rw [e]
 exact u64_andNot_nat x (2 ^ j) hx hp
theorem Filling.drew {w wr : World} {b r v g n c : Nat} {zs : List Nat} (h : Filling w b r v g n c zs wr) : Filling w b r v g n c zs wr.drew := by
 obtain ⟨h1, h2, h3, h4, h5, h6, h7⟩ := h
 exact ⟨h1, World.ownsRow.drew h2, h3, h4, h5, h6, h7.drew⟩
def cutB (ws : List Nat) (b : Nat) : List Nat := ws.set (b / 64) (Bs.wd ws (b / 64) &&& (18446744073709551615 - 2 ^ (b % 64)))
theorem wd_cut (ws : List Nat) (b i : Nat) (h : b / 64 < ws.length) : Bs.wd (cutB ws b) i = if i = b / 64 then Bs.wd ws (b / 64) &&& (18446744073709551615 - 2 ^ (b % 64)) else Bs.wd ws i := by
 unfold cutB
 split
 · next e => subst e; unfold Bs.wd; simp [h]
 · next e => unfold Bs.wd; rw [List.getD_eq_getElem?_getD, List.getElem?_set_ne (by omega), ← List.getD_eq_getElem?_getD]
theorem bit_cut (ws : List Nat) (b i : Nat) (h : b / 64 < ws.length) : Bs.bit (cutB ws b) i = (Bs.bit ws i && !decide (i = b)) := by
 unfold Bs.bit
 rw [wd_cut ws b _ h]
 by_cases e : i / 64 = b / 64
 · have hp : 2 ^ (b % 64) < 2 ^ 64 := Nat.pow_lt_pow_right (by decide) (by omega)
   rw [if_pos e, Nat.testBit_and, e, show 18446744073709551615 - 2 ^ (b % 64) = 2 ^ 64 - (2 ^ (b % 64) + 1) from by omega, Nat.testBit_two_pow_sub_succ hp, Nat.testBit_two_pow]
   congr 1
   have : i % 64 < 64 := by omega
   by_cases e2 : i = b
   · subst e2; simp
   · have : b % 64 ≠ i % 64 := by omega
     simp [e2, this]; omega
 · rw [if_neg e]
   have : i ≠ b := by intro h; subst h; exact e rfl
   simp [this]
theorem fit_cut {w : Nat} {ws : List Nat} (h : Bs.Fit w ws) {b : Nat} (hb : b < w) : Bs.Fit w (cutB ws b) := by
 have hl : b / 64 < ws.length := by rw [h.len]; exact Bs.lt_nw hb
 refine ⟨by unfold cutB; simpa using h.len, ?_, ?_⟩
 · intro x hx
   unfold cutB at hx
   rcases List.mem_or_eq_of_mem_set hx with hx | hx
   · exact h.ok x hx
   · subst hx
     exact Nat.lt_of_le_of_lt Nat.and_le_left (Bs.wd_lt h.ok _)
 · intro i hi
   rw [bit_cut ws b i hl, h.hi i hi]; rfl
theorem cut_eq {w : Nat} {ws : List Nat} (h : Bs.Fit w ws) {b : Nat} (hb : b < w) : cutB ws b = Bs.ofP w (fun i => Bs.bit ws i && !decide (i = b)) w := by
 have hl : b / 64 < ws.length := by rw [h.len]; exact Bs.lt_nw hb
 refine Bs.ext (fit_cut h hb) (Bs.fit_ofP _ _ _ (Nat.le_refl _)) fun i hi => ?_
 rw [bit_cut ws b i hl, Bs.bit_ofP _ _ _ (Nat.le_refl _)]
 simp [hi]
theorem Filling.doneW {w wr : World} {b r v g n c : Nat} {zs : List Nat} (h : Filling w b r v g n c zs wr) :
 OwnW ((wr.setCell ⟨r, 0, none⟩ (.int .i64 v)).setCell ⟨r, 1, none⟩ (.slice (some ⟨g, 0, none⟩) n c)) w.heap.size g n c zs ∧
  Below w.heap.size w ((wr.setCell ⟨r, 0, none⟩ (.int .i64 v)).setCell ⟨r, 1, none⟩ (.slice (some ⟨g, 0, none⟩) n c)) := by
 obtain ⟨h1, h2, h3, h4, h5, h6, h7⟩ := h
 have e2 := h6.own_ne h2
 exact ⟨(h2.far (p := ⟨r, 0, none⟩) e2 _).far (p := ⟨r, 1, none⟩) e2 _, (h7.setCell (by simpa using h5) _).setCell (by simpa using h5) _⟩
set_option maxHeartbeats 800000 in
theorem devWithout_own (v : Nat) (A : Option Addr) (n c : Nat) (ws : List Nat) (k : Nat) (w : World) (hA : Arg w A n ws) (h : Bs.validB v ws = true) (hk : k < v) :
 Calls Tryz.prog 176 #[.agg #[.int .i64 v, .slice A n c], .int .i64 k] w fun e w' => ∃ (g c' : Nat), e = .returned (.tuple #[.agg #[.int .i64 v, .slice (some ⟨g, 0, none⟩) n c'], .int .i64 0]) ∧ OwnW w' w.heap.size g n c' (cutB ws k) ∧ Below w.heap.size w w' := by
 have hf := Bs.fit_of_valid h hA.ok
 rw [Int.toNat_natCast] at hf
 have hv : v ≤ 256 := by have := (Bs.validB_iff.1 h).2.1; omega
 have hn : n = Bs.nw v := by rw [← hA.len]; exact hf.len
 have hkn : k / 64 < n := by rw [hn]; exact Bs.lt_nw hk
 have Hfit := hid (fit_cut hf hk)
 have Hok := hid hf.ok
 have hk0 : (0 : Int) ≤ k := by omega
 obtain ⟨_, hx2⟩ := boxB w v A n c
 have hx4 := below2 w (.cells #[.int .i64 v, .slice A n c] 49) (.cells #[.int .i64 0, .slice none 0 0] 49)
 have Hx2 := hid hx2; have Hb0 := hid hx4; have HA := hid hA; have H := hid h
 clear hx2 hx4 hA h hf hn
 go_enter Tryz.func176, Tryz.ntmps176
 go_wp2_with fail
 refine (copyFor_in v A n c ws k _ (HA.out.below Hb0.out) H.out hk).mono ?_
 rintro e w2 ⟨g, c', rfl, ho, hb⟩
 have hst := Filling.start (w := w) (r := w.heap.size + 1) (v := v) (zs := ws) (OwnW.less ho (by simp only [World.size_alloc]; omega)) (Hx2.out.below hb (by simp)) (by omega) (Hb0.out.trans (hb.mono (by simp only [World.size_alloc]; omega)))
 have Hst := hid hst
 obtain ⟨⟨⟨hc0, hc1⟩, hr0, hr1⟩, ⟨hf0, hf1⟩, hne⟩ := hst.cells
 clear hst ho hb Hx2 Hb0 HA H
 go_wp2_with fail
 have hl := Hst.out.2.1.len
 have hcell := (Hst.out.2.1.cellAt (k / 64) (by omega)).trans (words_get (by omega))
 have hfr := Hst.out.2.1.frozenAt (k / 64)
 have hD := Hst.out.drew
 have hst := hD.2.1.stored (k / 64) (.int .u64 (Bs.wd ws (k / 64) &&& (18446744073709551615 - 2 ^ (k % 64)) : Nat))
 have hor := andNot_bit (Bs.wd ws (k / 64)) (k % 64) (Bs.wd_lt Hok.out _) (by omega)
 rw [words_set] at hst
 have e : ws.set (k / 64) (Bs.wd ws (k / 64) &&& (18446744073709551615 - 2 ^ (k % 64))) = cutB ws k := rfl
 rw [e] at hst
 have hfin := hD.put hst.1 hst.2
 generalize Bs.wd ws (k / 64) &&& (18446744073709551615 - 2 ^ (k % 64)) = y at hor hfin
 generalize Bs.wd ws (k / 64) = x at hcell hor
 have hw : IntKind.i64.wrap ((k : Int) / 64) = ((k / 64 : Nat) : Int) := by rw [IntWalk.i64_in _ (by omega)]; simp
 have Hfin := hid hfin
 clear hst e hfin hl hD Hst
 generalize k / 64 = q at *
 have hq0 : (0 : Int) ≤ q := by omega
 have hq1 : (q : Int) < n := by omega
 generalize w2.alloc (.cells #[.int .i64 v, .slice (some ⟨g, 0, none⟩) n c'] 49) = wr at *
 refine wp_region_still_tail 10 (by kernel_rfl) (by kernel_rfl) ?_
 simp only [List.take_succ_cons, List.take_zero, List.drop_succ_cons, List.drop_zero]
 repeat still_step
 still_call (mask_any _ _)
 repeat still_step
 try refine wpStill_nil ?_
 change wpList _ _ _ _ _ (World.drew _)
 have hfr' : wr.drew.frozen? ⟨g, q, none⟩ = false := hfr
 have hcell' : wr.drew.cell? ⟨g, q, none⟩ = some (.int .u64 x) := hcell
 obtain ⟨⟨⟨hc0', hc1'⟩, hr0', hr1'⟩, ⟨hf0', hf1'⟩, hne'⟩ := Hfin.out.cells
 have Hd := hid (Hfin.out.doneW)
 generalize wr.drew = wq at *
 clear hc0 hc1 hr0 hr1 hf0 hf1 hfr hcell Hfin
 go_wp2_with fail
 exact bodyPost_ret (v := .tuple #[.agg #[.int .i64 v, .slice (some ⟨g, 0, none⟩) n c'], .int .i64 0]) (by simp [results, Tryz.results176, go_sem, hr0', hr1']) rfl ⟨g, c', rfl, Hd.out.1, Hd.out.2⟩
theorem clone_gen (A : Option Addr) (n c : Nat) (ws : List Nat) (w : World) (hA : Arg w A n ws) (hn : n ≤ 100) :
 Calls Tryz.prog 85 #[.slice A n c] w fun e w' => ∃ A' c', e = .returned (.slice A' n c') ∧ Arg w' A' n ws ∧ Below w.heap.size w w' := by
 by_cases h0 : 0 < n
 · have HA := hid hA
   refine (clone_any A n c ws w hA hn h0).mono ?_
   rintro e w' ⟨g, c', rfl, ho, hb⟩
   exact ⟨_, c', rfl, ho.arg HA.out.ok, hb⟩
 · have e0 : n = 0 := by omega
   subst e0
   have ew : ws = [] := List.eq_nil_of_length_eq_zero hA.len
   subst ew
   clear hA
   cases A with
   | none =>
     have hnil : ∀ w : World, (binOp .eql 47 (.slice none 0 c) (.slice none 0 0)).run Tryz.prog w = .ok (.bool true) w := fun w => Lib.run_eql_slice_nil w 47 106 none 0 c 0 0 Tryz.underlying47
     go_enter Tryz.func85, Tryz.ntmps85
     go_wp2
     go_ret
     exact ⟨none, 0, rfl, Arg.nil _ _, Below.refl _ _⟩
   | some ad =>
     have hnil : ∀ w : World, (binOp .eql 47 (.slice (some ad) 0 c) (.slice none 0 0)).run Tryz.prog w = .ok (.bool false) w := fun w => Lib.run_eql_slice_nil w 47 106 (some ad) 0 c 0 0 Tryz.underlying47
     have Hb := hid ((Below.refl w.heap.size w).alloc (Nat.le_refl _) (.cells #[] 106))
     go_enter Tryz.func85, Tryz.ntmps85
     go_wp2
     go_ret
     exact ⟨_, _, rfl, Arg.nil _ _, Hb.out⟩
theorem Box.four {w : World} {b : Nat} {W : Int} {A : Option Addr} {n c : Nat} (h : Box w b W A n c) : w.cell? ⟨b, 0, none⟩ = some (.int .i64 W) ∧ w.cell? ⟨b, 1, none⟩ = some (.slice A n c) ∧ w.frozen? ⟨b, 0, none⟩ = false ∧ w.frozen? ⟨b, 1, none⟩ = false := ⟨h.c0, h.c1, h.f 0, h.f 1⟩
def Fresh (W w : World) (b : Nat) : Prop := Box w b 0 none 0 0 ∧ W.heap.size ≤ b
theorem Fresh.mkD {w0 w1 : World} (hb : Below (w0.alloc (.cells #[.int .i64 0, .slice none 0 0] 49)).drew.heap.size (w0.alloc (.cells #[.int .i64 0, .slice none 0 0] 49)).drew w1) : Fresh w0 w1 w0.heap.size :=
 ⟨(show Box (w0.alloc (.cells #[.int .i64 0, .slice none 0 0] 49)).drew w0.heap.size 0 none 0 0 from Box.new w0 0 none 0 0).below hb (by show w0.heap.size < (w0.alloc _).heap.size; simp), Nat.le_refl _⟩
theorem Fresh.stored {W w : World} {b : Nat} (h : Fresh W w b) (hb : Below W.heap.size W w) (V : Int) (B : Option Addr) (m d : Nat) : Below W.heap.size W ((w.setCell ⟨b, 0, none⟩ (.int .i64 V)).setCell ⟨b, 1, none⟩ (.slice B m d)) :=
 (hb.setCell (by exact h.2) _).setCell (by exact h.2) _
def RetT (w : World) (W : Int) (gs ks : List Nat) (cs : List (Int × Int)) (err : Int) (e : Ending) (w' : World) : Prop :=
 ∃ (A : Option Addr) (n c : Nat) (B : Option Addr) (m d : Nat) (C : Option Addr) (q : Nat), e = .returned (.tuple #[.agg #[.int .i64 W, .slice A n c, .int .i64 W, .slice B m d, .slice C cs.length q], .int .i64 err]) ∧
   Arg w' A n gs ∧ Arg w' B m ks ∧ ArgC w' C cs.length cs ∧ Below w.heap.size w w'
def KW (wr : World) (lo base : Nat) (A : Option Addr) (n : Nat) (zs : List Nat) : Prop := zs.length = n ∧ (At wr lo A (words zs) ∨ ∃ g c, A = some ⟨g, 0, none⟩ ∧ OwnW wr base g n c zs)
section
variable {wr w' : World} {lo base : Nat} {A : Option Addr} {n : Nat} {zs : List Nat}
theorem KW.below (h : KW wr lo base A n zs) (hlo : lo ≤ wr.heap.size) (hb : Below wr.heap.size wr w') : KW w' lo base A n zs := by
 refine ⟨h.1, ?_⟩
 rcases h.2 with h | ⟨g, c, e, h⟩
 · exact .inl (h.keep (fun p hp => hb.cell (by omega)) (Nat.le_refl _))
 · exact .inr ⟨g, c, e, own_below h hb⟩
theorem KW.far (h : KW wr lo base A n zs) {p : Addr} (h1 : lo ≤ p.block) (h2 : p.block < base) (u : Value) : KW (wr.setCell p u) lo base A n zs := by
 refine ⟨h.1, ?_⟩
 rcases h.2 with h | ⟨g, c, e, h⟩
 · exact .inl (At.far h h1 u)
 · exact .inr ⟨g, c, e, h.far (by have := h.ge.1; omega) u⟩
theorem KW.grown {v : Value} {cs : List (Int × Int)} {m : Nat} (h : KW wr lo base A n zs) (hlo : lo ≤ base) (hc : wr.ownsRow base 58 2 v m (pairs cs)) (hg : wr.grownBy w' v.ownBlock) (hl : lo ≤ wr.heap.size) : KW w' lo base A n zs := by
 refine ⟨h.1, ?_⟩
 rcases h.2 with h | ⟨g, c, e, h⟩
 · refine .inl (h.keep (fun p hp => World.cell?_of_block (hg.block p.block (by omega) ?_)) (Nat.le_refl _))
   intro e; have := own_base hc p.block e.symm; omega
 · refine .inr ⟨g, c, e, World.ownsRow.kept h hg (.inr ?_)⟩
   intro e2
   rcases hc.2 with ⟨rfl, _⟩ | ⟨g2, cap, cur, rfl, _, h35, _⟩
   · cases e2
   · rcases h.2 with ⟨h0, _⟩ | ⟨g3, cap3, cur3, h0, _, h62, _⟩
     · cases h0
     · injection h0 with h0
       injection h0 with h0
       injection h0 with h0
       subst h0
       have : g = g2 := by simpa [Value.ownBlock] using e2
       subst this
       rw [h62] at h35
       cases h35
theorem KW.arg (h : KW wr lo base A n zs) (hl : lo ≤ wr.heap.size) (ok : ∀ x ∈ zs, x < Bs.W64) : Arg wr A n zs := by
 rcases h.2 with h1 | ⟨g, c, rfl, h1⟩
 · exact ⟨h1.more hl, h.1, ok⟩
 · exact h1.arg ok
end
def killJ (W : Nat) (ks : List Nat) (cs : List (Int × Int)) : List Nat := Bs.ofP W (fun i => Bs.bit ks i && !decide (((i : Int), (i : Int)) ∈ cs)) W
theorem fit_killJ (W : Nat) (ks : List Nat) (cs : List (Int × Int)) : Bs.Fit W (killJ W ks cs) := Bs.fit_ofP _ _ _ (Nat.le_refl _)
theorem killJ_nil {W : Nat} {ks : List Nat} (h : Bs.Fit W ks) : killJ W ks [] = ks := by
 unfold killJ
 exact (Bs.ofP_congr fun i _ => by simp).trans (Bs.ofP_bit h)
theorem killJ_self {W : Nat} {ks : List Nat} {cs : List (Int × Int)} {b : Nat} (hb : b < W) : killJ W ks (cs ++ [((b : Int), (b : Int))]) = cutB (killJ W ks cs) b := by
 rw [cut_eq (fit_killJ W ks cs) hb]
 refine Bs.ofP_congr fun i hi => ?_
 unfold killJ
 rw [Bs.bit_ofP _ _ _ (Nat.le_refl _)]
 simp only [hi, decide_true, Bool.true_and]
 by_cases e : i = b
 · subst e; simp
 · have : ¬((i : Int) = (b : Int)) := by omega
   simp [e, this]
theorem killJ_other {W : Nat} {ks : List Nat} {cs : List (Int × Int)} {p1 p2 : Int} (h : p1 ≠ p2) : killJ W ks (cs ++ [(p1, p2)]) = killJ W ks cs := by
 refine Bs.ofP_congr fun i hi => ?_
 have : ¬((i : Int) = p1 ∧ (i : Int) = p2) := by omega
 simp [this]
theorem killC_eq {W : Nat} {gs ks : List Nat} {cs : List (Int × Int)} : orR W (killJ W ks cs) gs = killC W gs ks cs := by
 unfold orR killC
 refine Bs.ofP_congr fun i hi => ?_
 unfold killJ
 rw [Bs.bit_ofP _ _ _ (Nat.le_refl _)]
 simp [hi]
def Caning (w : World) (W : Nat) (A : Option Addr) (n c : Nat) (v : Value) (rs : List (Int × Int)) (zs : List Nat) (wr : World) : Prop :=
 Box wr w.heap.size W A n c ∧ (∃ (B : Option Addr) (m d : Nat), Box wr (w.heap.size + 1) W B m d ∧ KW wr w.heap.size (w.heap.size + 3) B m zs) ∧ Fb wr (w.heap.size + 2) #[.int .i64 0, .slice none 0 0, .int .i64 0, .slice none 0 0, .slice none 0 0] 61 ∧
  Cops wr (w.heap.size + 3) v rs ∧ Below w.heap.size w wr ∧ w.heap.size + 3 ≤ wr.heap.size
section
variable {w wr w' : World} {W : Nat} {A : Option Addr} {n c : Nat} {v : Value} {rs : List (Int × Int)} {zs : List Nat}
theorem Caning.below (h : Caning w W A n c v rs zs wr) (hb : Below wr.heap.size wr w') : Caning w W A n c v rs zs w' := by
 obtain ⟨h1, ⟨B, m, d, h2, h3⟩, h4, h5, h6, h7⟩ := h
 exact ⟨h1.below hb h1.lt, ⟨B, m, d, h2.below hb h2.lt, h3.below h6.size hb⟩, h4.below hb h4.lt, own_below h5 hb, h6.trans (hb.mono h6.size), by have := hb.size; omega⟩
theorem Cops.setLow {wx : World} {base : Nat} {v : Value} {rs : List (Int × Int)} (hx : Cops wx base v rs) {p : Addr} (hp : p.block < base) (u : Value) : Cops (wx.setCell p u) base v rs :=
 World.ownsRow.kept hx (setCell_grown wx p u) (by
  cases hv : v.ownBlock with
  | none => exact .inl rfl
  | some k => exact .inr (by have := own_base hx k hv; simp only [ne_eq, Option.some.injEq]; omega))
theorem Caning.kill {B' : Option Addr} {m' : Nat} (d' : Nat) {zs' : List Nat} (h : Caning w W A n c v rs zs wr) (hk : KW wr w.heap.size (w.heap.size + 3) B' m' zs') :
 Caning w W A n c v rs zs' ((wr.setCell ⟨w.heap.size + 1, 0, none⟩ (.int .i64 W)).setCell ⟨w.heap.size + 1, 1, none⟩ (.slice B' m' d')) := by
 obtain ⟨h1, ⟨B, m, d, h2, h3⟩, h4, h5, h6, h7⟩ := h
 refine ⟨(h1.far (by simp) _).far (by simp) _, ⟨B', m', d', h2.set _ _ _ _, (hk.far (by simp) (by simp) _).far (by simp) (by simp) _⟩, (h4.far (by simp) _).far (by simp) _, (h5.setLow (by simp) _).setLow (by simp) _, (h6.setCell (by simp) _).setCell (by simp) _, ?_⟩
 simpa [World.setCell] using h7
theorem Caning.row {v' : Value} {rs' : List (Int × Int)} (h : Caning w W A n c v rs zs wr) (hg : wr.grownBy w' v.ownBlock) (hc : Cops w' (w.heap.size + 3) v' rs') : Caning w W A n c v' rs' zs w' := by
 obtain ⟨h1, ⟨B, m, d, h2, h3⟩, h4, h5, h6, h7⟩ := h
 have ne : ∀ b, b < w.heap.size + 3 → some b ≠ v.ownBlock := fun b hb e => by have := own_base h5 b e.symm; omega
 exact ⟨h1.grown hg (ne _ (by omega)), ⟨B, m, d, h2.grown hg (ne _ (by omega)), h3.grown (by omega) h5 hg h6.size⟩, h4.grown hg (ne _ (by omega)), hc, h6.grown hg h6.size (fun k e => by have := own_base h5 k e; omega), by have := hg.size; omega⟩
theorem Caning.start (w : World) (W : Nat) (A B : Option Addr) (n c m d : Nat) {ks : List Nat} (hB : Arg w B m ks) :
 Caning w W A n c (.slice none 0 0) [] ks (((w.alloc (.cells #[.int .i64 W, .slice A n c] 49)).alloc (.cells #[.int .i64 W, .slice B m d] 49)).alloc (.cells #[.int .i64 0, .slice none 0 0, .int .i64 0, .slice none 0 0, .slice none 0 0] 61)) := by
 have b1 := ((Box.new w W A n c).alloc (.cells #[.int .i64 W, .slice B m d] 49)).alloc (.cells #[.int .i64 0, .slice none 0 0, .int .i64 0, .slice none 0 0, .slice none 0 0] 61)
 have b2 := (Box.new (w.alloc (.cells #[.int .i64 W, .slice A n c] 49)) W B m d).alloc (.cells #[.int .i64 0, .slice none 0 0, .int .i64 0, .slice none 0 0, .slice none 0 0] 61)
 have b3 := Fb.new ((w.alloc (.cells #[.int .i64 W, .slice A n c] 49)).alloc (.cells #[.int .i64 W, .slice B m d] 49)) #[.int .i64 0, .slice none 0 0, .int .i64 0, .slice none 0 0, .slice none 0 0] 61
 have bl := below3 w (.cells #[.int .i64 W, .slice A n c] 49) (.cells #[.int .i64 W, .slice B m d] 49) (.cells #[.int .i64 0, .slice none 0 0, .int .i64 0, .slice none 0 0, .slice none 0 0] 61)
 simp only [World.size_alloc] at b2 b3
 exact ⟨b1, ⟨B, m, d, b2, hB.len, .inl (hB.lies.keep (fun p hp => bl.cell hp) (Nat.le_refl _))⟩, b3, World.ownsRow_nil _ _ _ _, bl, by simp⟩
end
theorem restB_snoc (W : Int) (gs : List Nat) (cs : List (Int × Int)) (p : Int × Int) : (cs ++ [p]).filter (restB W gs) = cs.filter (restB W gs) ++ (if restB W gs p then [p] else []) := by
 rw [List.filter_append]
 cases h : restB W gs p <;> simp [h]
def RetCanon (w : World) (W : Nat) (gs ks : List Nat) (cs : List (Int × Int)) (e : Ending) (w' : World) : Prop :=
 if (ord (cs.filter (restB W gs))).length ≤ 64 then RetT w W gs (killC W gs ks cs) (ord (cs.filter (restB W gs))) 0 e w' else RetT w 0 [] [] [] 7 e w'
theorem Arg.apart {w : World} {A : Option Addr} {n : Nat} {ws : List Nat} {g t : Nat} {cs : Array Value} (h : Arg w A n ws) (hf : Fb w g cs t) (hn : ∀ v ∈ cs.toList, ∀ x : Int, v ≠ .int .u64 x) : ws = [] ∨ ∃ ad, A = some ad ∧ ad.block ≠ g := by
 rcases h.lies with h0 | ⟨ad, e, hb, hc⟩
 · left
   cases ws with
   | nil => rfl
   | cons x xs => simp [words] at h0
 · cases ws with
   | nil => exact .inl rfl
   | cons x xs =>
     refine .inr ⟨ad, e, fun he => ?_⟩
     have h0 := hc 0 (.int .u64 x) rfl
     have ha : ad.add 0 = ad := by unfold Addr.add; simp
     rw [ha] at h0
     unfold World.cell? at h0
     rw [he, show w.heap[g]? = _ from hf] at h0
     simp only at h0
     split at h0
     · cases h0
     · have hm : Value.int .u64 x ∈ cs.toList := by
        rw [← Array.getElem?_toList] at h0
        exact List.mem_of_getElem? h0
       exact hn _ hm x rfl
theorem Arg.farB {w : World} {A : Option Addr} {n : Nat} {ws : List Nat} {g : Nat} (h : Arg w A n ws) (ha : ws = [] ∨ ∃ ad, A = some ad ∧ ad.block ≠ g) (j : Nat) (u : Value) : Arg (w.setCell ⟨g, j, none⟩ u) A n ws := by
 refine ⟨?_, h.len, h.ok⟩
 rcases ha with rfl | ⟨ad, rfl, hne⟩
 · exact .inl rfl
 · rcases h.lies with h0 | ⟨ad', e, hb, hc⟩
   · exact .inl h0
   · cases e
     refine .inr ⟨ad, rfl, by simpa [World.setCell] using hb, fun j' u' hu => ?_⟩
     rw [World.cell?_setCell_other _ _ _ _ (by intro e; have := congrArg Addr.block e; rw [add_block] at this; exact hne this.symm)]
     exact hc j' u' hu
def stored5 (w : World) (R : Nat) (a b c d e : Value) : World := ((((w.setCell ⟨R, 0, none⟩ a).setCell ⟨R, 1, none⟩ b).setCell ⟨R, 2, none⟩ c).setCell ⟨R, 3, none⟩ d).setCell ⟨R, 4, none⟩ e
theorem Arg.stored5 {w : World} {A : Option Addr} {n : Nat} {ws : List Nat} {R : Nat} (h : Arg w A n ws) (ha : ws = [] ∨ ∃ ad, A = some ad ∧ ad.block ≠ R) (a b c d e : Value) : Arg (stored5 w R a b c d e) A n ws :=
 ((((h.farB ha 0 a).farB ha 1 b).farB ha 2 c).farB ha 3 d).farB ha 4 e
theorem Cops.stored5 {w : World} {base : Nat} {v : Value} {rs : List (Int × Int)} {R : Nat} (h : Cops w base v rs) (hR : R < base) (a b c d e : Value) : Cops (stored5 w R a b c d e) base v rs :=
 ((((h.setLow (p := ⟨R, 0, none⟩) hR a).setLow (p := ⟨R, 1, none⟩) hR b).setLow (p := ⟨R, 2, none⟩) hR c).setLow (p := ⟨R, 3, none⟩) hR d).setLow (p := ⟨R, 4, none⟩) hR e
theorem below_stored5 {w0 w : World} {B R : Nat} (h : Below B w0 w) (hR : B ≤ R) (a b c d e : Value) : Below B w0 (stored5 w R a b c d e) :=
 ((((h.setCell (by exact hR) _).setCell (by exact hR) _).setCell (by exact hR) _).setCell (by exact hR) _).setCell (by exact hR) _
theorem zero5 : ∀ v ∈ (#[.int .i64 0, .slice none 0 0, .int .i64 0, .slice none 0 0, .slice none 0 0] : Array Value).toList, ∀ x : Int, v ≠ .int .u64 x := by
 intro v hv x e
 subst e
 simp at hv
set_option maxHeartbeats 3200000 in
theorem devCanonical_any (W : Nat) (A B C : Option Addr) (n c m d k q : Nat) (gs ks : List Nat) (cs : List (Int × Int)) (w : World)
 (hA : Arg w A n gs) (hB : Arg w B m ks) (hC : ArgC w C k cs) (hW : W ≤ 256) (hg : Bs.Fit W gs) (hk : Bs.Fit W ks) (hc : ∀ p ∈ cs, inW W p = true) (hk5 : k ≤ 5000) :
 Calls Tryz.prog 156 #[.agg #[.int .i64 W, .slice A n c], .agg #[.int .i64 W, .slice B m d], .slice C k q] w (RetCanon w W gs ks cs) := by
 obtain ⟨i0, hi, hz0, hz1, hz2⟩ := info_parts info35
 have Hi := hid hi; have Hz0 := hid hz0; have Hz1 := hid hz1; have Hz2 := hid hz2
 have HA := hid hA; have HB := hid hB; have HC := hid hC; have Hg := hid hg; have Hk := hid hk; have Hc := hid hc
 have hst := Caning.start w W A B n c m d hB
 rw [← killJ_nil hk] at hst
 have Hst := hid hst
 clear hA hB hC hi hz0 hz1 hz2 hg hk hc hst
 go_enter Tryz.func156, Tryz.ntmps156
 go_wp2_with fail
 generalize ((w.alloc (.cells #[.int .i64 W, .slice A n c] 49)).alloc (.cells #[.int .i64 W, .slice B m d] 49)).alloc (.cells #[.int .i64 0, .slice none 0 0, .int .i64 0, .slice none 0 0, .slice none 0 0] 61) = w1 at *
 go_loopw [8, 10, 14] (fun v _ i wr => ∃ j : Nat, j ≤ k ∧ i = .int .i64 j ∧ Hid (Caning w W A n c v ((cs.take j).filter (restB W gs)) (killJ W ks (cs.take j)) wr)) (fun _ _ i _ => k - (intOf i).toNat)
 case atStart => exact ⟨0, by omega, rfl, Hst.out⟩
 case round =>
  obtain ⟨j, hj, rfl, hG⟩ := hrel
  clear Hst
  by_cases hlt : j < k
  · have hjl : j < cs.length := by rw [HC.out.len]; exact hlt
    have hget : cs[j]? = some cs[j] := List.getElem?_eq_getElem _
    have hsn := take_snoc cs j hjl
    have hin := Hc.out cs[j] (List.getElem_mem hjl)
    generalize cs[j] = p at hget hsn hin
    obtain ⟨p1, p2⟩ := p
    obtain ⟨ad, rfl, had, g1, g2⟩ := (HC.out.below hG.out.2.2.2.2.1).cell hget
    have hin2 := hin
    unfold inW at hin2
    simp at hin2
    obtain ⟨b, rfl⟩ := Int.eq_ofNat_of_zero_le hin2.1.2
    have hb : b < W := by omega
    have Hsn := hid hsn
    clear hget hsn hin hin2
    have H5 := hid (hG.out.below ((Below.refl _ _).alloc (Nat.le_refl _) (.cells #[.int .i64 p1, .int .i64 b] 58)))
    have Hbx := hid (Fb.new wr #[.int .i64 p1, .int .i64 b] 58)
    obtain ⟨b0, b1⟩ := Hbx.out.two
    by_cases hpb : p1 = b
    · subst hpb
      obtain ⟨-, ⟨Bk, mk, dk, hbk, hkw⟩, -⟩ := H5.out
      obtain ⟨t0, t1⟩ := And.intro hbk.c0 hbk.c1
      have Ha := hid (hkw.arg H5.out.2.2.2.2.1.size (fit_killJ W ks (cs.take j)).ok)
      have tt : ((b : Int) == (b : Int)) = true := by simp
      clear hbk hkw
      go_wp2_with fail
      clear g1 g2 b0 b1 tt
      generalize wr.alloc (.cells #[.int .i64 (b : Int), .int .i64 (b : Int)] 58) = wv at *
      generalize wr.heap.size = gv at *
      refine (devWithout_own W Bk mk dk (killJ W ks (cs.take j)) b _ Ha.out (Bs.valid_of_fit (fit_killJ W ks (cs.take j)) hW) hb).mono ?_
      rintro e w6 ⟨g6, c6, rfl, ho6, hb6⟩
      have H6 := hid (H5.out.below hb6)
      obtain ⟨-, ⟨B7, m7, d7, hbk7, -⟩, -⟩ := H6.out
      obtain ⟨t7, t8, f7, f8⟩ := hbk7.four
      have hl7 := hbk7.lt
      have Hkw := hid (show KW w6 w.heap.size (w.heap.size + 3) (some ⟨g6, 0, none⟩) mk (cutB (killJ W ks (cs.take j)) b) from
       ⟨ho6.len, .inr ⟨g6, c6, rfl, OwnW.less ho6 H5.out.2.2.2.2.2⟩⟩)
      have Hfin := hid (H6.out.kill c6 Hkw.out)
      clear ho6 hb6 t0 t1 hbk7
      have Hr := hid (show (cs.take (j + 1)).filter (restB W gs) = (cs.take j).filter (restB W gs) by rw [Hsn.out, restB_snoc]; simp [restB])
      have Hkj := hid (show killJ W ks (cs.take (j + 1)) = cutB (killJ W ks (cs.take j)) b by rw [Hsn.out, killJ_self hb])
      go_wp2_with fail
      go_roundw
      case rel => exact ⟨j + 1, by omega, by go_num, by rw [Hr.out, Hkj.out]; exact Hfin⟩
      case measure => simp [intOf]; omega
    · have tt : (p1 == (b : Int)) = false := by simp [hpb]
      have Hkj := hid (show killJ W ks (cs.take (j + 1)) = killJ W ks (cs.take j) by rw [Hsn.out, killJ_other hpb])
      obtain ⟨s0, s1⟩ := And.intro H5.out.1.c0 H5.out.1.c1
      go_wp2_with fail
      clear g1 g2 tt
      generalize wr.alloc (.cells #[.int .i64 p1, .int .i64 (b : Int)] 58) = wv at *
      generalize wr.heap.size = gv at *
      refine (devHas_any W A n c gs b _ (HA.out.below H5.out.2.2.2.2.1)).mono ?_
      rintro e w6 ⟨rfl, hb6⟩
      have H6 := hid (H5.out.below hb6)
      have hbx6 := hid (Hbx.out.below hb6 Hbx.out.lt)
      clear s0 s1 b0 b1 hb6
      obtain ⟨b0, b1⟩ := hbx6.out.two
      cases hh : Bs.hasB W gs b with
      | true =>
        have Hr := hid (show (cs.take (j + 1)).filter (restB W gs) = (cs.take j).filter (restB W gs) by rw [Hsn.out, restB_snoc]; simp [restB, hh])
        clear hh
        go_wp2_with fail
        go_roundw
        case rel => exact ⟨j + 1, by omega, by go_num, by rw [Hr.out, Hkj.out]; exact H6⟩
        case measure => simp [intOf]; omega
      | false =>
        have Hr := hid (show (cs.take (j + 1)).filter (restB W gs) = (cs.take j).filter (restB W gs) ++ [(p1, (b : Int))] by rw [Hsn.out, restB_snoc]; simp [restB, hh, hpb])
        have hle : ((cs.take j).filter (restB W gs)).length ≤ 5000 := by
         have h1 := List.length_filter_le (restB W gs) (cs.take j)
         rw [List.length_take] at h1; omega
        clear hh
        have hz3 := H6.out.2.2.2.2.2
        generalize (cs.take j).filter (restB W gs) = rs at *
        go_wp2_with (first
         | (at_builtin
            refine wpList_append_own _ rfl _ _ 59 rfl (w.heap.size + 3) 58 i0 _ 2 16 Tryz.underlying59 Hi.out Hz0.out Hz1.out Hz2.out rfl (by decide) u8 rs.length (pairs rs) rfl (World.ownsRow.alloc H6.out.2.2.2.1 _) ⟨w6.heap.size, 0, none⟩ 1 1 [.int .i64 p1, .int .i64 (b : Int)] rfl rfl (two_new _ _ _ _) (by intro u hu; simp at hu; rcases hu with rfl | rfl <;> rfl) (by unfold maxLen; omega) (by omega) (by rw [World.size_alloc]; omega) ?_
            intro v' w7 hown7 hgr7 hnil7
            have H7 := hid (show Caning w W A n c v' (rs ++ [(p1, (b : Int))]) (killJ W ks (cs.take j)) w7 from (H6.out.below ((Below.refl _ _).alloc (Nat.le_refl _) (.cells #[.int .i64 p1, .int .i64 (b : Int)] 58))).row hgr7 (by unfold Cops; rw [pairs_snoc, List.length_append]; exact hown7))
            clear hown7 hgr7 hnil7))
        go_roundw
        case rel => exact ⟨j + 1, by omega, by go_num, by rw [Hr.out, Hkj.out]; exact H7⟩
        case measure => simp [intOf]; omega
  · have hjk : k = j := by omega
    subst hjk
    have hall : cs.take k = cs := List.take_of_length_le (by rw [HC.out.len]; omega)
    rw [hall] at hG
    have hle : (cs.filter (restB W gs)).length ≤ 5000 := by
     have h1 := List.length_filter_le (restB W gs) cs
     have := HC.out.len; omega
    clear hall
    have HG := hid hG.out
    clear hG
    generalize hrs : cs.filter (restB W gs) = rs at HG hle
    have Hrs := hid hrs
    clear hrs
    obtain ⟨Cv, qv, rfl, hs⟩ := sort_any (w.heap.size + 3) rs.length u8 rs wr rfl HG.out.2.2.2.1 (by omega)
    have Hs := hid hs
    clear hs
    go_wp2_with fail
    refine Hs.out.mono ?_
    rintro e w2 ⟨rfl, hc2, hg2⟩
    have H2 := hid (HG.out.row hg2 hc2)
    obtain ⟨C3, q3, e3, hs3⟩ := compact_any (w.heap.size + 3) rs.length (.slice Cv rs.length qv) (srt rs) w2 (srt_len rs) hc2 (by omega)
    injection e3 with e31 _ e33
    subst e31
    subst e33
    have Hs3 := hid hs3
    clear hc2 hg2 hs3 Hs HG
    go_wp2_with fail
    refine Hs3.out.mono ?_
    rintro e w4 ⟨C4, q4, rfl, hc4, hg4⟩
    have H4 := hid (show Caning w W A n c (.slice C4 (ord rs).length q4) (ord rs) (killJ W ks cs) w4 from H2.out.row hg4 hc4)
    have hlen : (ord rs).length ≤ 5000 := by
     have h1 := cpt_len (srt rs); rw [srt_len] at h1; unfold ord; omega
    clear hc4 hg4 Hs3 H2
    have hcc : cpt (srt rs) = ord rs := rfl
    rw [hcc]
    clear hcc
    generalize hord : ord rs = os at H4 hlen ⊢
    have Hord := hid hord
    clear hord
    by_cases h64 : os.length ≤ 64
    · obtain ⟨hb1, ⟨B5, m5, d5, hb2, hkw⟩, hb3, hb4, hb5, hb6⟩ := H4.out
      obtain ⟨s0, s1⟩ := And.intro hb1.c0 hb1.c1
      obtain ⟨t0, t1⟩ := And.intro hb2.c0 hb2.c1
      have Ha := hid (hkw.arg hb5.size (fit_killJ W ks cs).ok)
      have Hb5 := hid hb5
      clear hb1 hb2 hkw hb3 hb4 hb5
      go_wp2_with fail
      refine (devUnion_any W W B5 A m5 d5 n c (killJ W ks cs) gs _ Ha.out (HA.out.below Hb5.out)).mono ?_
      rw [mixR_or hW (fit_killJ W ks cs) Hg.out, killC_eq]
      rintro e w5 ⟨B6, m6, d6, rfl, ha6, hb7⟩
      have H5 := hid (H4.out.below hb7)
      have Ha6 := hid ha6
      clear s0 s1 t0 t1 ha6 hb7 Ha Hb5 H4
      obtain ⟨hb1, ⟨B5', m5', d5', hb2, -⟩, hb3, hb4, hb5, hb8⟩ := H5.out
      obtain ⟨t0, t1, f0, f1⟩ := hb2.four
      have hl2 := hb2.lt
      have Hg6 := hid ((hb1.far (p := ⟨w.heap.size + 1, 0, none⟩) (by simp) (.int .i64 W)).far (p := ⟨w.heap.size + 1, 1, none⟩) (by simp) (.slice B6 m6 d6))
      have Hk6 := hid (hb2.set W B6 m6 d6)
      have Hak := hid (Ha6.out.store hb2 W B6 m6 d6)
      have Hz6 := hid ((hb3.far (p := ⟨w.heap.size + 1, 0, none⟩) (by simp) (.int .i64 W)).far (p := ⟨w.heap.size + 1, 1, none⟩) (by simp) (.slice B6 m6 d6))
      have Hc6 := hid ((hb4.setLow (p := ⟨w.heap.size + 1, 0, none⟩) (by simp) (.int .i64 W)).setLow (p := ⟨w.heap.size + 1, 1, none⟩) (by simp) (.slice B6 m6 d6))
      have Hb6 := hid ((hb5.setCell (p := ⟨w.heap.size + 1, 0, none⟩) (by simp) (.int .i64 W)).setCell (p := ⟨w.heap.size + 1, 1, none⟩) (by simp) (.slice B6 m6 d6))
      clear hb1 hb2 hb3 hb4 hb5 H5 Ha6
      go_upto_region 15 with fail
      generalize (w5.setCell ⟨w.heap.size + 1, 0, none⟩ (.int .i64 W)).setCell ⟨w.heap.size + 1, 1, none⟩ (.slice B6 m6 d6) = w6 at *
      clear t0 t1 f0 f1 hl2 hb8
      have hK : ∀ w', Below w6.heap.size w6 w' → ((fun w' => Below w6.heap.size w6 w' ∧ (w'.cell? ⟨w.heap.size, 0, none⟩ = some (.int .i64 W) ∧ w'.cell? ⟨w.heap.size, 1, none⟩ = some (.slice A n c))) w') := fun w' hb' => ⟨hb', (Hg6.out.below hb' Hg6.out.lt).c0, (Hg6.out.below hb' Hg6.out.lt).c1⟩
      have HK := hid hK
      have hz0 : w.heap.size < w6.heap.size := Hg6.out.lt
      obtain ⟨c0, c1⟩ := And.intro Hg6.out.c0 Hg6.out.c1
      have hn5 : n ≤ 100 := by have := Hg.out.len; have := HA.out.len; unfold Bs.nw at *; omega
      clear hK
      go_upto_region 16 with fail
      go_cut [11] (fun sa wc => ∃ (b : Nat) (A' : Option Addr) (c' : Nat), sa = .pointer (some ⟨b, 0, none⟩) ∧ Hid (Box wc b W A' n c' ∧ Arg wc A' n gs ∧ Below w6.heap.size w6 wc))
      case first =>
       go_region_held3 (fun w' => Below w6.heap.size w6 w' ∧ (w'.cell? ⟨w.heap.size, 0, none⟩ = some (.int .i64 W) ∧ w'.cell? ⟨w.heap.size, 1, none⟩ = some (.slice A n c)))
        (first | exact HK.out _ (Below.refl _ _).drew | exact HK.out _ (((Below.refl _ _).alloc (Nat.le_refl _) _).drew) | exact HK.out _ ((‹Below w6.heap.size w6 _›).alloc (‹Below w6.heap.size w6 _›).size _) | exact HK.out _ (Hcur.out.alloc Hcur.out.size _) | exact HK.out _ (HX.out.stored Hcur.out _ _ _ _) | assumption)
        (first
          | (go_at_call 85
             go_must (
             go_split_ands
             refine (clone_gen A n c gs _ (HA.out.below (Hb6.out.trans ((‹Below w6.heap.size w6 _›).mono Hb6.out.size))) hn5).mono ?_
             rintro e wn ⟨A9, c9, rfl, ha9, hbk⟩
             have Ha9 := hid ha9
             have hcur := below_step (W := w6) (by assumption) hbk
             have hS := HK.out _ hcur
             have Hcur := hid hcur
             try (first
              | (have HX := (by with_reducible exact hid (Fresh.mkD hbk))
                 obtain ⟨x0, x1, y0, y1⟩ := HX.out.1.four)
              | (have HX := (by with_reducible exact hid (Fresh.mk (by assumption) hbk))
                 obtain ⟨x0, x1, y0, y1⟩ := HX.out.1.four))
             clear hbk ha9)))
       all_goals go_wp2_with fail
       all_goals go_meet
       all_goals first
        | (have Q := And.intro (HX.out.1.set W A9 n c9) (And.intro (Ha9.out.store HX.out.1 W A9 n c9) (HX.out.stored Hcur.out W A9 n c9))
           refine ⟨_, A9, c9, rfl, ?_⟩
           with_reducible exact hid Q)
        | (have Q := And.intro (Box.new wn W A9 n c9) (And.intro (Ha9.out.alloc (.cells #[.int .i64 W, .slice A9 n c9] 49)) (Hcur.out.alloc Hcur.out.size (.cells #[.int .i64 W, .slice A9 n c9] 49)))
           refine ⟨_, A9, c9, rfl, ?_⟩
           with_reducible exact hid Q)
      case rest =>
       obtain ⟨bx, A9, c9, rfl, H9⟩ := hcut
       have Hk7 := hid (Hk6.out.below H9.out.2.2 Hk6.out.lt)
       have Hz7 := hid (Hz6.out.below H9.out.2.2 Hz6.out.lt)
       have Hc7 := hid (show Cops wc (w.heap.size + 3) (.slice C4 os.length q4) os from own_below Hc6.out H9.out.2.2)
       have Hak7 := hid (Hak.out.below H9.out.2.2)
       have Hb7 := hid (Hb6.out.trans (H9.out.2.2.mono Hb6.out.size))
       obtain ⟨t0, t1⟩ := And.intro Hk7.out.c0 Hk7.out.c1
       obtain ⟨s0, s1⟩ := And.intro H9.out.1.c0 H9.out.1.c1
       obtain ⟨r0, r1, r2, r3, r4⟩ := Hz7.out.five
       have f0 := Hz7.out.frozen 0
       have f1 := Hz7.out.frozen 1
       have f2 := Hz7.out.frozen 2
       have f3 := Hz7.out.frozen 3
       have f4 := Hz7.out.frozen 4
       have hlR := Hz7.out.lt
       have Fin := hid (show RetT w W gs (killC W gs ks cs) os 0 (.returned (.tuple #[.agg #[.int .i64 W, .slice A9 n c9, .int .i64 W, .slice B6 m6 d6, .slice C4 os.length q4], .int .i64 0])) (stored5 wc (w.heap.size + 2) (.int .i64 W) (.slice A9 n c9) (.int .i64 W) (.slice B6 m6 d6) (.slice C4 os.length q4)) from
        ⟨A9, n, c9, B6, m6, d6, C4, q4, rfl, H9.out.2.1.stored5 (H9.out.2.1.apart Hz7.out zero5) _ _ _ _ _, Hak7.out.stored5 (Hak7.out.apart Hz7.out zero5) _ _ _ _ _, ⟨own_at (Hc7.out.stored5 (by omega) _ _ _ _ _), rfl⟩, below_stored5 Hb7.out (by omega) _ _ _ _ _⟩)
       unfold stored5 at Fin
       clear HK hz0 c0 c1
       go_wp2_with fail
       refine bodyPost_ret (v := .tuple #[.agg #[.int .i64 W, .slice A9 n c9, .int .i64 W, .slice B6 m6 d6, .slice C4 os.length q4], .int .i64 0]) (by simp [results, Tryz.results156, go_sem, r0, r1, r2, r3, r4]) rfl ?_
       unfold RetCanon
       rw [Hrs.out, Hord.out, if_pos h64]
       exact Fin.out
    · obtain ⟨hb1, -, hb3, -, hb5, hb6⟩ := H4.out
      obtain ⟨r0, r1, r2, r3, r4⟩ := hb3.five
      have f0 := hb3.frozen 0
      have f1 := hb3.frozen 1
      have f2 := hb3.frozen 2
      have f3 := hb3.frozen 3
      have f4 := hb3.frozen 4
      have hlR := hb3.lt
      have Fin := hid (show RetT w 0 [] [] [] 7 (.returned (.tuple #[.agg #[.int .i64 0, .slice none 0 0, .int .i64 0, .slice none 0 0, .slice none 0 0], .int .i64 7])) (stored5 w4 (w.heap.size + 2) (.int .i64 0) (.slice none 0 0) (.int .i64 0) (.slice none 0 0) (.slice none 0 0)) from
       ⟨none, 0, 0, none, 0, 0, none, 0, rfl, Arg.nil _ _, Arg.nil _ _, ⟨.inl rfl, rfl⟩, below_stored5 hb5 (by omega) _ _ _ _ _⟩)
      unfold stored5 at Fin
      clear hb1 hb3 hb5
      go_wp2_with fail
      refine bodyPost_ret (v := .tuple #[.agg #[.int .i64 0, .slice none 0 0, .int .i64 0, .slice none 0 0, .slice none 0 0], .int .i64 7]) (by simp [results, Tryz.results156, go_sem, r0, r1, r2, r3, r4]) rfl ?_
      unfold RetCanon
      rw [Hrs.out, Hord.out, if_neg h64]
      exact Fin.out
theorem ArgC.apart {w : World} {A : Option Addr} {n : Nat} {cs : List (Int × Int)} {g t : Nat} {xs : Array Value} (h : ArgC w A n cs) (hf : Fb w g xs t) (hn : ∀ j (x y : Int), xs[j]? = some (.int .i64 x) → xs[j + 1]? ≠ some (.int .i64 y)) : cs = [] ∨ ∃ ad, A = some ad ∧ ad.block ≠ g := by
 rcases h.lies with h0 | ⟨ad, e, hb, hc⟩
 · left
   cases cs with
   | nil => rfl
   | cons p ps => simp [pairs] at h0
 · cases cs with
   | nil => exact .inl rfl
   | cons p ps =>
     refine .inr ⟨ad, e, fun he => ?_⟩
     have c0 := hc 0 (.int .i64 p.1) rfl
     have c1 := hc 1 (.int .i64 p.2) rfl
     have ha : ad.add 0 = ad := by unfold Addr.add; simp
     rw [ha] at c0
     unfold World.cell? at c0 c1
     rw [he, show w.heap[g]? = _ from hf] at c0
     rw [show (ad.add 1).block = g from by rw [add_block]; exact he, show w.heap[g]? = _ from hf] at c1
     have e1 : (ad.add 1).off = ad.off + 1 := by unfold Addr.add; simp
     have e2 : (ad.add 1).spot = none := by unfold Addr.add; simp
     simp only [e1, e2] at c1
     simp only at c0
     split at c0
     · cases c0
     · exact hn _ _ _ c0 (by simpa using c1)
theorem ArgC.farB {w : World} {A : Option Addr} {n : Nat} {cs : List (Int × Int)} {g : Nat} (h : ArgC w A n cs) (ha : cs = [] ∨ ∃ ad, A = some ad ∧ ad.block ≠ g) (j : Nat) (u : Value) : ArgC (w.setCell ⟨g, j, none⟩ u) A n cs := by
 refine ⟨?_, h.len⟩
 rcases ha with rfl | ⟨ad, rfl, hne⟩
 · exact .inl rfl
 · rcases h.lies with h0 | ⟨ad', e, hb, hc⟩
   · exact .inl h0
   · cases e
     refine .inr ⟨ad, rfl, by simpa [World.setCell] using hb, fun j' u' hu => ?_⟩
     rw [World.cell?_setCell_other _ _ _ _ (by intro e; have := congrArg Addr.block e; rw [add_block] at this; exact hne this.symm)]
     exact hc j' u' hu
theorem ArgC.stored5 {w : World} {A : Option Addr} {n : Nat} {cs : List (Int × Int)} {R : Nat} (h : ArgC w A n cs) (ha : cs = [] ∨ ∃ ad, A = some ad ∧ ad.block ≠ R) (a b c d e : Value) : ArgC (stored5 w R a b c d e) A n cs :=
 ((((h.farB ha 0 a).farB ha 1 b).farB ha 2 c).farB ha 3 d).farB ha 4 e
theorem zero5c : ∀ j (x y : Int), (#[.int .i64 0, .slice none 0 0, .int .i64 0, .slice none 0 0, .slice none 0 0] : Array Value)[j]? = some (.int .i64 x) → (#[.int .i64 0, .slice none 0 0, .int .i64 0, .slice none 0 0, .slice none 0 0] : Array Value)[j + 1]? ≠ some (.int .i64 y) := by
 intro j x y h
 match j, h with
 | 0, _ => simp
 | 1, h => simp at h
 | 2, _ => simp
 | 3, h => simp at h
 | 4, h => simp at h
 | j + 5, h => simp at h
def RetR (w : World) (r : Int × List Nat × List Nat × List (Int × Int) × Int) (e : Ending) (w' : World) : Prop := RetT w r.1 r.2.1 r.2.2.1 r.2.2.2.1 r.2.2.2.2 e w'
end Go.Proofs.YtopkmeceakjocaaGreat
namespace Go.Proofs.YtopkmeceakjocaaGreat
set_option maxRecDepth 20000
set_option linter.unusedVariables false
set_option linter.unusedSimpArgs false
open Go.ChangeShapes Go.WideShapes Go.ChangeAt Go.RowKit
theorem ret_b {a b : Bool} (h : a = b) : Ending.returned (.bool b) = Ending.returned (.bool a) := by rw [h]
theorem ret_i {a b : Int} (h : a = b) : Ending.returned (.int .i64 b) = Ending.returned (.int .i64 a) := by rw [h]
theorem ascG_cons (N : Nat) (p a : Int) (l : List Int) : ascG N p (a :: l) = if a ≤ p then false else if (N : Int) ≤ a then false else ascG N a l := rfl
theorem drop_at {α : Type} {l : List α} {k : Nat} {a : α} (h : l[k]? = some a) : l.drop k = a :: l.drop (k + 1) := by
 obtain ⟨h1, h2⟩ := List.getElem?_eq_some_iff.1 h
 rw [List.drop_eq_getElem_cons h1, h2]
theorem tot_take {S : List (List Int)} {k : Nat} {l : List Int} (h : S[k]? = some l) : tot (S.take (k + 1)) = tot (S.take k) + l.length := by
 unfold tot; rw [List.take_add_one, h, List.map_append, List.sum_append]; simp
set_option maxHeartbeats 1600000 in
theorem count_any (x : LH) (ex : List (Option Nat)) (w : World) (h : LHok w ex x) (hN : x.n ≤ 100000) (hr : ∀ y ∈ x.l, y.n ≤ 100000) :
 Calls Tryz.prog 120 #[.slice x.A x.n x.c] w fun e w' => e = .returned (.int .i64 (tot x.v : Nat)) ∧ w = w' := by
 have HX := hid h
 have HR := hid hr
 have HL := hid h.len
 have Hat := hid (fun (k : Nat) (y : RH) (hy : x.l[k]? = some y) => LH.at hy)
 have Hvl := hid (LH.vlen x)
 clear h hr
 generalize hv : LH.v x = v at *
 clear hv
 obtain ⟨A, n, c, l⟩ := x
 simp only at *
 go_enter Tryz.func120, Tryz.ntmps120
 go_wp2_with fail
 go_loop [3, 5, 8] (fun sv _ iv => ∃ (k t : Nat), k ≤ n ∧ iv = .int .i64 k ∧ sv = .int .i64 t ∧ t ≤ k * 100000 ∧ Hid (t = tot (v.take k))) (fun _ _ iv => n - (intOf iv).toNat)
 case atStart => exact ⟨0, 0, by omega, rfl, rfl, by omega, hid rfl⟩
 case round =>
  obtain ⟨k, t, hk, rfl, rfl, ht, hE⟩ := hrel
  by_cases hlt : k < n
  · obtain ⟨y, hy, hym⟩ := get_at HL.out hlt
    obtain ⟨ad, hA, had, hc⟩ := HX.out.cell hy
    simp only at hA
    subst hA
    have hyn := HR.out y hym
    have Ht := hid (show t + y.n = tot (v.take (k + 1)) by rw [tot_take (Hat.out k y hy), ← hE.out, (HX.out.all y hym).len])
    clear hy hym
    obtain ⟨yA, yn, yc, yl⟩ := y
    simp only at *
    go_wp2_with fail
    go_round
    case rel => exact ⟨k + 1, t + yn, by omega, by go_num, by go_num, by omega, Ht⟩
    case measure => simp [intOf]; omega
  · obtain rfl : k = n := by omega
    have Ht := hid (show t = tot v by rw [hE.out, List.take_of_length_le (by rw [Hvl.out, HL.out]; omega)])
    go_wp2_with fail
    go_ret
    exact ⟨ret_i (by rw [Ht.out]), rfl⟩
def linkB (S : List (List Int)) : Bool := decide (1 ≤ S.length) && decide (S.length ≤ 256) && S.all (risB S.length) && decide (tot S ≤ 1024)
theorem ascG_len {N : Nat} {l : List Int} {p : Int} (h0 : -1 ≤ p) (h1 : p < N) (h : ascG N p l = true) : (l.length : Int) ≤ N - 1 - p := by
 induction l generalizing p with
 | nil => simp; omega
 | cons a l ih =>
   rw [ascG_cons] at h
   split at h
   · cases h
   · split at h
     · cases h
     · have := ih (p := a) (by omega) (by omega) h
       simp only [List.length_cons]
       omega
theorem risB_len {N : Nat} {l : List Int} (h : risB N l = true) : l.length ≤ N := by
 have := ascG_len (N := N) (by omega) (by omega) h
 omega
set_option maxHeartbeats 3200000 in
theorem linked_any (x : LH) (ex : List (Option Nat)) (w : World) (h : LHok w ex x) :
 Calls Tryz.prog 87 #[.slice x.A x.n x.c] w fun e w' => e = .returned (.bool (linkB x.v)) ∧ w = w' := by
 have HX := hid h
 have HL := hid h.len
 have hfew := h.few
 have Hat := hid (fun (k : Nat) (y : RH) (hy : x.l[k]? = some y) => LH.at hy)
 have Hvl := hid (LH.vlen x)
 have HC := hid (fun (hn : x.n ≤ 100000) (hr : ∀ y ∈ x.l, y.n ≤ 100000) => count_any x ex w h hn hr)
 clear h
 generalize hv : LH.v x = v at *
 have Hv := hid hv
 clear hv
 obtain ⟨A, n, c, l⟩ := x
 simp only at *
 have Hn := hid (show v.length = n by rw [Hvl.out, HL.out])
 go_enter Tryz.func87, Tryz.ntmps87
 by_cases h1 : n < 1 ∨ 256 < n
 · have Hr := hid (show linkB v = false by
    unfold linkB
    rw [Hn.out]
    rcases h1 with h1 | h1
    · simp [show ¬ 1 ≤ n by omega]
    · simp [show ¬ n ≤ 256 by omega])
   by_cases h2 : n < 1
   · go_wp2_with fail
     go_ret
     exact ⟨ret_b Hr.out, rfl⟩
   · have h3 : 256 < n := by omega
     clear h1
     go_wp2_with fail
     go_ret
     exact ⟨ret_b Hr.out, rfl⟩
 · have h2 : 1 ≤ n := by omega
   have h3 : n ≤ 256 := by omega
   clear h1
   go_wp2_with fail
   go_loop [4, 5, 7, 18] (fun _ _ _ iv => ∃ k : Nat, k ≤ n ∧ iv = .int .i64 k ∧ Hid (∀ y ∈ v.take k, risB n y = true)) (fun _ _ _ iv => n - (intOf iv).toNat)
   case atStart => exact ⟨0, by omega, rfl, hid (by simp)⟩
   case round =>
    obtain ⟨k, hk, rfl, hE⟩ := hrel
    by_cases hlt : k < n
    · obtain ⟨y, hy, hym⟩ := get_at HL.out hlt
      obtain ⟨ad, hA, had, hc⟩ := HX.out.cell hy
      simp only at hA
      subst hA
      have Hy := hid (Hat.out k y hy)
      have HY := hid (HX.out.all y hym)
      clear hy hym
      obtain ⟨yA, yn, yc, yl⟩ := y
      simp only at *
      have hyf := HY.out.few
      simp only at hyf
      go_wp2_with fail
      go_loop [5, 7, 24] (fun pv _ jv => ∃ (j : Nat) (p : Int), j ≤ yn ∧ jv = .int .i64 j ∧ pv = .int .i64 p ∧ Hid (risB n yl = ascG n p (yl.drop j))) (fun _ _ jv => yn - (intOf jv).toNat)
      case atStart => exact ⟨0, -1, by omega, rfl, rfl, hid rfl⟩
      case round =>
       obtain ⟨j, p, hj, rfl, rfl, hP⟩ := hrel
       by_cases hlj : j < yn
       · obtain ⟨a, ha, -⟩ := get_at HY.out.len hlj
         obtain ⟨ad2, hA2, had2, hc2⟩ := HY.out.cell ha
         simp only at hA2
         subst hA2
         have Hd := hid (drop_at ha)
         clear ha
         by_cases h4 : a ≤ p
         · have Hr0 := hid (show risB n yl = false by rw [hP.out, Hd.out, ascG_cons, if_pos h4])
           have Hr := hid (show linkB v = false by
            unfold linkB
            rw [Hn.out, show v.all (risB n) = false from List.all_eq_false.2 ⟨_, List.mem_of_getElem? Hy.out, by rw [Hr0.out]; decide⟩]
            simp)
           go_wp2_with fail
           go_ret
           exact ⟨ret_b Hr.out, rfl⟩
         · by_cases h5 : (n : Int) ≤ a
           · have Hr0 := hid (show risB n yl = false by rw [hP.out, Hd.out, ascG_cons, if_neg h4, if_pos h5])
             have Hr := hid (show linkB v = false by
              unfold linkB
              rw [Hn.out, show v.all (risB n) = false from List.all_eq_false.2 ⟨_, List.mem_of_getElem? Hy.out, by rw [Hr0.out]; decide⟩]
              simp)
             go_wp2_with fail
             go_ret
             exact ⟨ret_b Hr.out, rfl⟩
           · have Hr := hid (show risB n yl = ascG n a (yl.drop (j + 1)) by rw [hP.out, Hd.out, ascG_cons, if_neg h4, if_neg h5])
             go_wp2_with fail
             go_round
             case rel => exact ⟨j + 1, a, by omega, by go_num, rfl, Hr⟩
             case measure => simp [intOf]; omega
       · have Hr0 := hid (show risB n yl = true by rw [hP.out, List.drop_of_length_le (by have e := HY.out.len; simp only at e; omega)]; rfl)
         have Hr := hid (show ∀ y ∈ v.take (k + 1), risB n y = true from fun y hy => by
          rw [List.take_add_one, Hy.out] at hy
          rcases List.mem_append.1 hy with hy | hy
          · exact hE.out y hy
          · simp at hy; subst hy; exact Hr0.out)
         go_wp2_with fail
         go_round
         case rel => exact ⟨k + 1, by omega, by go_num, Hr⟩
         case measure => simp [intOf]; omega
    · obtain rfl : k = n := by omega
      have Hall := hid (show ∀ y ∈ v, risB k y = true from fun y hy => hE.out y (by rw [List.take_of_length_le (by rw [Hn.out]; omega)]; exact hy))
      have Hr := hid (show linkB v = decide (tot v ≤ 1024) by
       unfold linkB
       rw [Hn.out, List.all_eq_true.2 Hall.out]
       simp [h2, h3])
      have HC2 := hid (HC.out (by omega) (fun y hy => by
       have h6 := Hall.out y.l (by rw [← Hv.out]; exact List.mem_map.2 ⟨y, hy, rfl⟩)
       have h7 := risB_len h6
       rw [(HX.out.all y hy).len] at h7
       omega))
      clear HC
      go_wp2_with fail
      refine HC2.out.mono ?_
      rintro e w1 ⟨rfl, rfl⟩
      go_wp2_with fail
      go_ret
      refine ⟨ret_b ?_, rfl⟩
      rw [Hr.out]
      apply Bool.eq_iff_iff.2
      simp only [decide_eq_true_eq]
      omega
set_option maxHeartbeats 1600000 in
theorem fits_any (x : FH) (W : Int) (ex : List (Option Nat)) (w : World) (h : FHok w ex x) :
 Calls Tryz.prog 89 #[x.a, .int .i64 W] w fun e w' => e = .returned (.bool (x.vB && decide (x.G.W = W))) ∧ Below w.heap.size w w' := by
 have HA := hid h.arg
 clear h
 obtain ⟨⟨V0, A, n, c, gs⟩, ⟨V, B, m, d, ks⟩, C, k, q, cs⟩ := x
 unfold FH.a FH.vB at *
 simp only at *
 have Hb0 := hid ((Below.refl w.heap.size w).alloc (Nat.le_refl _) (.cells #[.int .i64 V0, .slice A n c, .int .i64 V, .slice B m d, .slice C k q] 61))
 have HF := hid (Fb.new w #[.int .i64 V0, .slice A n c, .int .i64 V, .slice B m d, .slice C k q] 61)
 have HA1 := hid (HA.out.below Hb0.out)
 go_enter Tryz.func89, Tryz.ntmps89
 go_wp2_with fail
 refine (devValidT_any V0 V A B C n c m d k q gs ks cs _ HA1.out.gen HA1.out.kill HA1.out.cops).mono ?_
 generalize w.alloc (.cells #[.int .i64 V0, .slice A n c, .int .i64 V, .slice B m d, .slice C k q] 61) = w0 at *
 cases hv : validT V0 gs V ks cs with
 | false =>
   rintro e w1 ⟨rfl, hb1⟩
   have Hb := hid (Hb0.out.trans (hb1.mono Hb0.out.size))
   have Hr := hid (show (validT V0 gs V ks cs && decide (V0 = W)) = false by rw [hv]; rfl)
   clear hv hb1
   go_wp2_with fail
   go_ret
   exact ⟨ret_b Hr.out, Hb.out⟩
 | true =>
   rintro e w1 ⟨rfl, hb1⟩
   have Hb := hid (Hb0.out.trans (hb1.mono Hb0.out.size))
   obtain ⟨c0, c1, c2, c3, c4⟩ := (HF.out.below hb1 HF.out.lt).five
   have Hr := hid (show (validT V0 gs V ks cs && decide (V0 = W)) = (V0 == W) by rw [hv]; rfl)
   clear hv hb1 c1 c2 c3 c4
   go_wp2_with fail
   go_ret
   exact ⟨ret_b Hr.out, Hb.out⟩
theorem Fb.four {w : World} {g t : Nat} {a b c d : Value} (h : Fb w g #[a, b, c, d] t) :
 w.cell? ⟨g, 0, none⟩ = some a ∧ w.cell? ⟨g, 1, none⟩ = some b ∧ w.cell? ⟨g, 2, none⟩ = some c ∧ w.cell? ⟨g, 3, none⟩ = some d := ⟨h.cell 0, h.cell 1, h.cell 2, h.cell 3⟩
def zfitB (W : Int) (y : ZH) : Bool := Bs.validB y.W y.ws && decide (y.W = W)
theorem all_take {α : Type} {p : α → Bool} {l : List α} {k : Nat} {y : α} (h : ∀ x ∈ l.take k, p x = true) (hy : l[k]? = some y) (hp : p y = true) : ∀ x ∈ l.take (k + 1), p x = true := by
 intro x hx
 rw [List.take_add_one, hy] at hx
 rcases List.mem_append.1 hx with hx | hx
 · exact h x hx
 · simp at hx; subst hx; exact hp
theorem all_no {α : Type} {p : α → Bool} {l : List α} {k : Nat} {y : α} (hy : l[k]? = some y) (hp : p y = false) : l.all p = false := List.all_eq_false.2 ⟨y, List.mem_of_getElem? hy, by rw [hp]; decide⟩
theorem all_yes {α : Type} {p : α → Bool} {l : List α} {n : Nat} (hl : l.length = n) (h : ∀ x ∈ l.take n, p x = true) : l.all p = true := List.all_eq_true.2 fun x hx => h x (by rw [List.take_of_length_le (by omega)]; exact hx)
set_option maxHeartbeats 3200000 in
theorem allFit_any (x : ZL) (n0 : Nat) (W : Int) (ex : List (Option Nat)) (w : World) (h : ZLok w ex x) (hn0 : n0 ≤ 9223372036854775807) :
 Calls Tryz.prog 88 #[.slice x.A x.n x.c, .int .i64 n0, .int .i64 W] w fun e w' => e = .returned (.bool (decide (x.n = n0) && x.l.all (zfitB W))) ∧ Below w.heap.size w w' := by
 have HX := hid h
 have HL := hid h.len
 have hfew := h.few
 clear h
 obtain ⟨A, n, c, l⟩ := x
 simp only at *
 go_enter Tryz.func88, Tryz.ntmps88
 by_cases h1 : n = n0
 · subst h1
   have t1 : ((n : Int) != (n : Int)) = false := by simp
   have Hd := hid (show (decide (n = n) && l.all (zfitB W)) = l.all (zfitB W) by simp)
   generalize hR : (decide (n = n) && l.all (zfitB W)) = R at *
   clear hR
   go_wp2_with fail
   clear t1
   go_loopw [8, 15] (fun _ iv wr => ∃ k : Nat, k ≤ n ∧ iv = .int .i64 k ∧ Hid (Below w.heap.size w wr) ∧ Hid (∀ y ∈ l.take k, zfitB W y = true)) (fun _ iv _ => n - (intOf iv).toNat)
   case atStart => exact ⟨0, by omega, rfl, hid (Below.refl _ _), hid (by simp)⟩
   case round =>
    obtain ⟨k, hk, rfl, HB, hE⟩ := hrel
    by_cases hlt : k < n
    · obtain ⟨y, hy, hym⟩ := get_at HL.out hlt
      have HXr := hid (HX.out.below HB.out)
      obtain ⟨ad, hA, had, c0, c1⟩ := HXr.out.cell hy
      simp only at hA
      subst hA
      have HY := hid ((HXr.out.all y hym).arg)
      have Hno := hid (fun hp : zfitB W y = false => Hd.out.trans (all_no hy hp))
      have Hyes := hid (fun hp : zfitB W y = true => all_take hE.out hy hp)
      clear hy hym
      obtain ⟨V, yA, yn, yc, ys⟩ := y
      unfold zfitB at Hno Hyes
      simp only at *
      have HB1 := hid (HB.out.alloc HB.out.size (.cells #[.int .i64 V, .slice yA yn yc] 49))
      have Hbx := hid (Fb.new wr #[.int .i64 V, .slice yA yn yc] 49)
      have HYa := hid (HY.out.alloc (.cells #[.int .i64 V, .slice yA yn yc] 49))
      clear HY
      go_wp2_with fail
      clear c0 c1
      refine (devValid_any V yA yn yc ys _ HYa.out).mono ?_
      generalize wr.alloc (.cells #[.int .i64 V, .slice yA yn yc] 49) = wv at *
      generalize wr.heap.size = gv at *
      cases hv : Bs.validB V ys with
      | false =>
        rintro e w1 ⟨rfl, hb1⟩
        have Hr := hid (Hno.out (by rw [hv]; rfl))
        have Hb := hid (HB1.out.trans (hb1.mono HB1.out.size))
        clear hv hb1 Hno Hyes
        go_wp2_with fail
        go_ret
        exact ⟨ret_b Hr.out, Hb.out⟩
      | true =>
        rintro e w1 ⟨rfl, hb1⟩
        have Hb := hid (HB1.out.trans (hb1.mono HB1.out.size))
        obtain ⟨d0, d1⟩ := (Hbx.out.below hb1 Hbx.out.lt).two
        clear hb1 d1
        by_cases h2 : V = W
        · have t2 : (V != W) = false := by simp [h2]
          have Hr := hid (Hyes.out (by rw [hv, h2]; simp))
          clear hv Hno Hyes h2
          go_wp2_with fail
          go_round
          case rel => exact ⟨k + 1, by omega, by go_num, Hb, Hr⟩
          case measure => simp [intOf]; omega
        · have t2 : (V != W) = true := by simp [h2]
          have Hr := hid (Hno.out (by rw [hv]; simp [h2]))
          clear hv Hno Hyes h2
          go_wp2_with fail
          go_ret
          exact ⟨ret_b Hr.out, Hb.out⟩
    · obtain rfl : k = n := by omega
      have Hr := hid (Hd.out.trans (all_yes HL.out hE.out))
      go_wp2_with fail
      go_ret
      exact ⟨ret_b Hr.out, HB.out⟩
 · have t1 : ((n : Int) != (n0 : Int)) = true := by simp; omega
   have Hr := hid (show (decide (n = n0) && l.all (zfitB W)) = false by simp [h1])
   clear h1
   go_wp2_with fail
   go_ret
   exact ⟨ret_b Hr.out, Below.refl _ _⟩
def SY.box (s : SY) : Array Value := #[.int .i64 s.W, .slice s.D.A s.D.n s.D.c, .slice s.T.A s.T.n s.T.c, .slice s.B.A s.B.n s.B.c]
def NewAt (w w' : World) (A : Option Addr) (xs : List Value) : Prop := ∀ ex : List (Option Nat), (∀ k, some k ∈ ex → k < w.heap.size) → EAt w' ex A xs
theorem NewAt.own {w w' : World} {ty k n c : Nat} {A : Option Addr} {xs : List Value} (h : w'.ownsRow w.heap.size ty k (.slice A n c) n xs) : NewAt w w' A xs := fun ex hex =>
 EAt.own h fun g hg hm => by have := hex g hm; have := (h.lt g hg).1; omega
theorem NewAt.nil (w w' : World) (A : Option Addr) : NewAt w w' A [] := fun ex _ => EAt.nil _ _ _
def RetW (w : World) (n : Nat) (ws : List Nat) (e : Ending) (w' : World) : Prop := ∃ (A' : Option Addr) (c' : Nat), e = .returned (.slice A' n c') ∧ NewAt w w' A' (words ws) ∧ Below w.heap.size w w'
theorem cloneW_any (A : Option Addr) (n c : Nat) (ws : List Nat) (w : World) (hA : Arg w A n ws) (hn : n ≤ 100) :
 Calls Tryz.prog 85 #[.slice A n c] w (RetW w n ws) := by
 by_cases h0 : 0 < n
 · refine (clone_any A n c ws w hA hn h0).mono ?_
   rintro e w' ⟨g, c', rfl, ho, hb⟩
   exact ⟨_, _, rfl, NewAt.own ho, hb⟩
 · obtain rfl : n = 0 := by omega
   have hws : ws = [] := List.eq_nil_of_length_eq_zero hA.len
   subst hws
   obtain ⟨i0, hi, hz0, hz1, hz2⟩ := info_parts info62'
   have Hi := hid hi; have Hz0 := hid hz0; have Hz1 := hid hz1; have Hz2 := hid hz2
   clear hA hi hz0 hz1 hz2
   have hb := (Below.refl w.heap.size w).alloc (Nat.le_refl _) (.cells #[] 106)
   have Hb := hid hb
   clear hb
   cases A with
   | none =>
     have hnil : ∀ w : World, (binOp .eql 47 (.slice none 0 c) (.slice none 0 0)).run Tryz.prog w = .ok (.bool true) w := fun w => Lib.run_eql_slice_nil w 47 106 none 0 c 0 0 Tryz.underlying47
     go_enter Tryz.func85, Tryz.ntmps85
     go_wp2_with fail
     go_ret
     exact ⟨_, _, rfl, NewAt.nil _ _ _, Below.refl _ _⟩
   | some ad =>
     have hnil : ∀ w : World, (binOp .eql 47 (.slice (some ad) 0 c) (.slice none 0 0)).run Tryz.prog w = .ok (.bool false) w := fun w => Lib.run_eql_slice_nil w 47 106 (some ad) 0 c 0 0 Tryz.underlying47
     go_enter Tryz.func85, Tryz.ntmps85
     go_wp2_with fail
     go_ret
     exact ⟨_, _, rfl, NewAt.nil _ _ _, Hb.out⟩
end Go.Proofs.YtopkmeceakjocaaGreat
namespace Go.Proofs.YtopkmeceakjocaaGreat
set_option maxRecDepth 20000
set_option linter.unusedVariables false
theorem bit_valR (gs ss : List Nat) (f : Int → Int → Bool) (W i : Nat) : Bs.bit (valR gs ss f W) i = (decide (i < W) && (Bs.bit gs i || (List.range W).any fun x => Bs.bit ss x && f x i)) := by
 unfold valR; rw [Bs.bit_ofP _ _ _ (Nat.le_refl _)]
theorem bit_valR_iff {gs ss : List Nat} {f : Int → Int → Bool} {W i : Nat} (hi : i < W) : Bs.bit (valR gs ss f W) i = true ↔ (Bs.bit gs i = true ∨ ∃ x, x < W ∧ Bs.bit ss x = true ∧ f x i = true) := by
 rw [bit_valR]
 simp only [hi, decide_true, Bool.true_and, Bool.or_eq_true, List.any_eq_true, List.mem_range, Bool.and_eq_true]
theorem bit_orR_iff {ws xs : List Nat} {W i : Nat} (hi : i < W) : Bs.bit (orR W ws xs) i = true ↔ (Bs.bit ws i = true ∨ Bs.bit xs i = true) := by
 unfold orR
 rw [Bs.bit_ofP _ _ _ (Nat.le_refl _)]
 simp only [hi, decide_true, Bool.true_and, Bool.or_eq_true]
theorem bit_orR {W i : Nat} {a b : List Nat} (hi : i < W) : Bs.bit (orR W a b) i = (Bs.bit a i || Bs.bit b i) := by
 unfold orR
 rw [Bs.bit_ofP _ _ _ (Nat.le_refl _)]
 simp [hi]
def vl (v : Nat) (gs ks : List Nat) (cs : List (Int × Int)) (ss : List Nat) : List Nat := valR gs ss (folB v ks cs) v
end Go.Proofs.YtopkmeceakjocaaGreat
namespace Go.Proofs.YtopkmeceakjocaaGreat
set_option maxRecDepth 20000
set_option linter.unusedVariables false
set_option linter.unusedSimpArgs false
structure Pf where
 gs : List Nat
 ks : List Nat
 cs : List (Int × Int)
def Pf.vl (f : Pf) (v : Nat) (ss : List Nat) : List Nat := YtopkmeceakjocaaGreat.vl v f.gs f.ks f.cs ss
structure PW where
 v : Nat
 bd : List (List Nat)
 arcs : List (List (Nat × Pf))
def at0 (l : List (List Nat)) (m : Nat) : List Nat := l.getD m []
def side (v : Nat) (vals : List (List Nat)) (s : List Nat) (l : List (Nat × Pf)) : List Nat := l.foldl (fun s a => orR v s (a.2.vl v (at0 vals a.1))) s
theorem side_cons (v : Nat) (vals : List (List Nat)) (s : List Nat) (a : Nat × Pf) (l : List (Nat × Pf)) : side v vals s (a :: l) = side v vals (orR v s (a.2.vl v (at0 vals a.1))) l := rfl
theorem side_snoc (v : Nat) (vals : List (List Nat)) (s : List Nat) (a : Nat × Pf) (l : List (Nat × Pf)) : side v vals s (l ++ [a]) = orR v (side v vals s l) (a.2.vl v (at0 vals a.1)) := by
 unfold side; rw [List.foldl_append]; rfl
theorem fit_side {v : Nat} {vals : List (List Nat)} {s : List Nat} {l : List (Nat × Pf)} (hs : Bs.Fit v s) : Bs.Fit v (side v vals s l) := by
 induction l generalizing s with
 | nil => exact hs
 | cons a l ih => rw [side_cons]; exact ih (Bs.fit_ofP _ _ _ (Nat.le_refl _))
theorem bit_side {v i : Nat} (hi : i < v) (vals : List (List Nat)) (l : List (Nat × Pf)) (s : List Nat) : Bs.bit (side v vals s l) i = true ↔ (Bs.bit s i = true ∨ ∃ a ∈ l, Bs.bit (a.2.vl v (at0 vals a.1)) i = true) := by
 induction l generalizing s with
 | nil => simp [side]
 | cons a l ih =>
   rw [side_cons, ih, bit_orR hi, Bool.or_eq_true]
   constructor
   · rintro ((h | h) | ⟨b, hb, h⟩)
     · exact .inl h
     · exact .inr ⟨a, List.mem_cons_self, h⟩
     · exact .inr ⟨b, List.mem_cons_of_mem _ hb, h⟩
   · rintro (h | ⟨b, hb, h⟩)
     · exact .inl (.inl h)
     · rcases List.mem_cons.1 hb with rfl | hb
       · exact .inl (.inr h)
       · exact .inr ⟨b, hb, h⟩
theorem Pf.mono (f : Pf) {v i : Nat} (hi : i < v) {ss ts : List Nat} (h : ∀ i, i < v → Bs.bit ss i = true → Bs.bit ts i = true) (hb : Bs.bit (f.vl v ss) i = true) : Bs.bit (f.vl v ts) i = true := by
 unfold Pf.vl YtopkmeceakjocaaGreat.vl at *
 rw [bit_valR_iff hi] at *
 rcases hb with h1 | ⟨x, hx, h1, h2⟩
 · exact .inl h1
 · exact .inr ⟨x, hx, h x hx h1, h2⟩
def PW.n (w : PW) : Nat := w.arcs.length
def PW.right (w : PW) (vals : List (List Nat)) (k : Nat) : List Nat := side w.v vals (at0 w.bd k) (w.arcs.getD k [])
def PW.rights (w : PW) (vals : List (List Nat)) : List (List Nat) := (List.range w.n).map fun k => w.right vals k
structure PW.Ok (w : PW) : Prop where
 len : w.bd.length = w.n
 fit : ∀ s ∈ w.bd, Bs.Fit w.v s
structure PW.Vals (w : PW) (vals : List (List Nat)) : Prop where
 len : vals.length = w.n
 fit : ∀ s ∈ vals, Bs.Fit w.v s
theorem at0_mem {l : List (List Nat)} {k : Nat} (h : k < l.length) : at0 l k ∈ l := by
 unfold at0; rw [List.getD_eq_getElem?_getD, List.getElem?_eq_getElem h]; exact List.getElem_mem _
theorem at0_get {l : List (List Nat)} {k : Nat} {s : List Nat} (h : l[k]? = some s) : at0 l k = s := by
 unfold at0; rw [List.getD_eq_getElem?_getD, h]; rfl
theorem at0_map {n : Nat} {f : Nat → List Nat} {k : Nat} (h : k < n) : at0 ((List.range n).map f) k = f k := at0_get (by rw [List.getElem?_map, List.getElem?_range h]; rfl)
theorem vals_ext {n : Nat} {a b : List (List Nat)} (ha : a.length = n) (hb : b.length = n) (h : ∀ k, k < n → at0 a k = at0 b k) : a = b := by
 apply List.ext_getElem?
 intro k
 by_cases hk : k < n
 · have := h k hk
   unfold at0 at this
   rw [List.getD_eq_getElem?_getD, List.getD_eq_getElem?_getD, List.getElem?_eq_getElem (by omega), List.getElem?_eq_getElem (by omega)] at this
   rw [List.getElem?_eq_getElem (by omega), List.getElem?_eq_getElem (by omega)]
   simpa using this
 · rw [List.getElem?_eq_none (by omega), List.getElem?_eq_none (by omega)]
theorem PW.Vals.at {w : PW} {vals : List (List Nat)} (h : w.Vals vals) {k : Nat} (hk : k < w.n) : Bs.Fit w.v (at0 vals k) := h.fit _ (at0_mem (by rw [h.len]; exact hk))
theorem PW.map_vals (w : PW) {f : Nat → List Nat} (h : ∀ k, k < w.n → Bs.Fit w.v (f k)) : w.Vals ((List.range w.n).map f) :=
 ⟨by simp, fun s hs => by obtain ⟨k, hk, rfl⟩ := List.mem_map.1 hs; exact h k (List.mem_range.1 hk)⟩
theorem PW.Ok.right {w : PW} (h : w.Ok) (vals : List (List Nat)) {k : Nat} (hk : k < w.n) : Bs.Fit w.v (w.right vals k) := fit_side (h.fit _ (at0_mem (by rw [h.len]; exact hk)))
theorem PW.Ok.rights {w : PW} (h : w.Ok) (vals : List (List Nat)) : w.Vals (w.rights vals) := w.map_vals fun k hk => h.right vals hk
def LeV (w : PW) (a b : List (List Nat)) : Prop := ∀ k, k < w.n → ∀ i, i < w.v → Bs.bit (at0 a k) i = true → Bs.bit (at0 b k) i = true
theorem LeV.refl (w : PW) (a : List (List Nat)) : LeV w a a := fun _ _ _ _ h => h
theorem LeV.trans {w : PW} {a b c : List (List Nat)} (h : LeV w a b) (h2 : LeV w b c) : LeV w a c := fun k hk i hi hb => h2 k hk i hi (h k hk i hi hb)
theorem LeV.antisymm {w : PW} {a b : List (List Nat)} (ha : w.Vals a) (hb : w.Vals b) (h : LeV w a b) (h2 : LeV w b a) : a = b :=
 vals_ext ha.len hb.len fun k hk => Bs.ext (ha.at hk) (hb.at hk) fun i hi => Bool.eq_iff_iff.2 ⟨h k hk i hi, h2 k hk i hi⟩
def PW.In (w : PW) : Prop := ∀ l ∈ w.arcs, ∀ a ∈ l, a.1 < w.n
theorem PW.In.at {w : PW} (h : w.In) {k : Nat} {a : Nat × Pf} (ha : a ∈ w.arcs.getD k []) : a.1 < w.n := by
 rw [List.getD_eq_getElem?_getD] at ha
 cases e : w.arcs[k]? with
 | none => rw [e] at ha; simp at ha
 | some l => rw [e] at ha; exact h l (List.mem_of_getElem? e) a ha
theorem PW.right_mono {w : PW} (hw : w.In) {a b : List (List Nat)} (h : LeV w a b) {k i : Nat} (hi : i < w.v) (hb : Bs.bit (w.right a k) i = true) : Bs.bit (w.right b k) i = true := by
 unfold PW.right at *
 rw [bit_side hi] at *
 rcases hb with h1 | ⟨c, hc, h1⟩
 · exact .inl h1
 · exact .inr ⟨c, hc, c.2.mono hi (fun j hj hs => h c.1 (hw.at hc) j hj hs) h1⟩
theorem PW.rights_at {w : PW} {vals : List (List Nat)} {k : Nat} (hk : k < w.n) : at0 (w.rights vals) k = w.right vals k := at0_map hk
theorem PW.rights_mono {w : PW} (hw : w.In) {a b : List (List Nat)} (h : LeV w a b) : LeV w (w.rights a) (w.rights b) := fun k hk i hi hb => by
 rw [PW.rights_at hk] at *; exact PW.right_mono hw h hi hb
def PW.round (w : PW) : Nat → List (List Nat)
 | 0 => (List.range w.n).map fun _ => Bs.emp w.v
 | k + 1 => w.rights (w.round k)
theorem PW.round_vals {w : PW} (h : w.Ok) (k : Nat) : w.Vals (w.round k) := by
 cases k with
 | zero => exact w.map_vals fun _ _ => Bs.fit_emp _
 | succ k => exact h.rights _
theorem PW.round_up {w : PW} (hw : w.In) (k : Nat) : LeV w (w.round k) (w.round (k + 1)) := by
 induction k with
 | zero => intro k hk i hi hb; rw [PW.round, at0_map hk, Bs.bit_emp] at hb; cases hb
 | succ k ih => exact PW.rights_mono hw ih
theorem PW.round_at {w : PW} {k m : Nat} (hm : m < w.n) : at0 (w.round (k + 1)) m = w.right (w.round k) m := PW.rights_at hm
def PW.adv (w : PW) (vals : List (List Nat)) (ch : Nat → Bool) (k : Nat) : List Nat := side w.v vals (at0 vals k) ((w.arcs.getD k []).filter fun a => ch a.1)
def PW.advs (w : PW) (vals : List (List Nat)) (ch : Nat → Bool) : List (List Nat) := (List.range w.n).map fun k => w.adv vals ch k
theorem PW.adv_round {w : PW} (h : w.Ok) (hw : w.In) (k : Nat) (ch : Nat → Bool) (hch : ∀ m, m < w.n → (ch m = true ↔ at0 (w.round k) m ≠ at0 (w.round (k + 1)) m)) : w.advs (w.round (k + 1)) ch = w.round (k + 2) := by
 refine vals_ext (n := w.n) (by simp [PW.advs]) (PW.round_vals h _).len fun m hm => ?_
 rw [PW.advs, at0_map hm, PW.round_at hm]
 refine Bs.ext (fit_side ((PW.round_vals h (k + 1)).at hm)) (h.right _ hm) fun i hi => Bool.eq_iff_iff.2 ?_
 have hup := PW.round_up hw (k + 1) m hm i hi
 unfold PW.adv
 rw [bit_side hi]
 constructor
 · rintro (h1 | ⟨a, ha, h1⟩)
   · have := hup h1
     rw [PW.round_at (k := k + 1) hm] at this
     exact this
   · unfold PW.right
     rw [bit_side hi]
     exact .inr ⟨a, (List.mem_filter.1 ha).1, h1⟩
 · intro h1
   unfold PW.right at h1
   rw [bit_side hi] at h1
   rcases h1 with h1 | ⟨a, ha, h1⟩
   · refine .inl ?_
     rw [PW.round_at hm]
     unfold PW.right
     rw [bit_side hi]
     exact .inl h1
   · by_cases hc : ch a.1 = true
     · exact .inr ⟨a, List.mem_filter.2 ⟨ha, hc⟩, h1⟩
     · have he : at0 (w.round k) a.1 = at0 (w.round (k + 1)) a.1 := Classical.byContradiction fun hne => hc ((hch _ (hw.at ha)).2 hne)
       refine .inl ?_
       rw [PW.round_at hm]
       unfold PW.right
       rw [bit_side hi]
       exact .inr ⟨a, ha, by rw [he]; exact h1⟩
def cntB (W : Nat) (ws : List Nat) : Nat := ((List.range W).filter (Bs.bit ws)).length
def PW.left (w : PW) (a : List (List Nat)) : Nat := ((List.range w.n).map fun k => w.v - cntB w.v (at0 a k)).sum
theorem sum_lt {n : Nat} {f g : Nat → Nat} (h : ∀ k, k < n → f k ≤ g k) {m : Nat} (hm : m < n) (h1 : f m < g m) : ((List.range n).map f).sum < ((List.range n).map g).sum := by
 induction n with
 | zero => omega
 | succ n ih =>
   simp only [List.range_succ, List.map_append, List.sum_append, List.map_cons, List.map_nil, List.sum_cons, List.sum_nil]
   have hle : ((List.range n).map f).sum ≤ ((List.range n).map g).sum := by
    clear ih hm h1 m
    induction n with
    | zero => simp
    | succ n ih =>
      simp only [List.range_succ, List.map_append, List.sum_append, List.map_cons, List.map_nil, List.sum_cons, List.sum_nil]
      have := ih fun k hk => h k (by omega)
      have := h n (by omega)
      omega
   have hn := h n (by omega)
   by_cases e : m = n
   · subst e; omega
   · have := ih (fun k hk => h k (by omega)) (by omega)
     omega
theorem cntB_mono {W : Nat} {a b : List Nat} (h : ∀ i, i < W → Bs.bit a i = true → Bs.bit b i = true) : cntB W a ≤ cntB W b := by
 unfold cntB
 induction W with
 | zero => simp
 | succ W ih =>
   have := ih fun i hi => h i (by omega)
   have hW := h W (by omega)
   simp only [List.range_succ, List.filter_append, List.length_append, List.filter_cons, List.filter_nil]
   split
   · next h1 => rw [if_pos (hW h1)]; simp only [List.length_cons]; omega
   · simp only [List.length_nil]; omega
theorem cntB_eq {W : Nat} {a b : List Nat} (h : ∀ i, i < W → Bs.bit a i = true → Bs.bit b i = true) (he : cntB W a = cntB W b) : ∀ i, i < W → Bs.bit a i = Bs.bit b i := by
 induction W with
 | zero => intro i hi; omega
 | succ W ih =>
   have hm := cntB_mono (W := W) fun i hi => h i (by omega)
   have hW := h W (by omega)
   have e : ∀ c : List Nat, cntB (W + 1) c = cntB W c + if Bs.bit c W then 1 else 0 := fun c => by
    unfold cntB
    simp only [List.range_succ, List.filter_append, List.length_append, List.filter_cons, List.filter_nil]
    split <;> simp
   rw [e, e] at he
   have key : Bs.bit a W = Bs.bit b W ∧ cntB W a = cntB W b := by
    cases ha : Bs.bit a W with
    | true => rw [ha, hW ha] at he; exact ⟨(hW ha).symm, by omega⟩
    | false =>
      cases hb : Bs.bit b W with
      | false => rw [ha, hb] at he; exact ⟨rfl, by simpa using he⟩
      | true => rw [ha, hb] at he; simp at he; omega
   intro i hi
   by_cases e2 : i = W
   · subst e2; exact key.1
   · exact ih (fun j hj => h j (by omega)) key.2 i (by omega)
theorem cntB_lt2 {W : Nat} {a b : List Nat} (ha : Bs.Fit W a) (hb : Bs.Fit W b) (h : ∀ i, i < W → Bs.bit a i = true → Bs.bit b i = true) (hne : a ≠ b) : cntB W a < cntB W b := by
 have h1 := cntB_mono h
 rcases Nat.lt_or_ge (cntB W a) (cntB W b) with h2 | h2
 · exact h2
 · exact absurd (Bs.ext ha hb (cntB_eq h (by omega))) hne
theorem PW.left_lt {w : PW} {a b : List (List Nat)} (ha : w.Vals a) (hb : w.Vals b) (h : LeV w a b) {m : Nat} (hm : m < w.n) (hne : at0 a m ≠ at0 b m) : w.left b < w.left a := by
 have hle : ∀ k, k < w.n → cntB w.v (at0 a k) ≤ cntB w.v (at0 b k) := fun k hk => cntB_mono (fun x hx => h k hk x hx)
 have hmx : ∀ k, cntB w.v (at0 b k) ≤ w.v := fun k => by unfold cntB; exact Nat.le_trans (List.length_filter_le _ _) (by simp)
 have hlt : cntB w.v (at0 a m) < cntB w.v (at0 b m) := cntB_lt2 (ha.at hm) (hb.at hm) (fun i hi => h m hm i hi) hne
 exact sum_lt (fun k hk => by have := hle k hk; omega) hm (by have := hmx m; omega)
theorem PW.left_empty (w : PW) : w.left (w.round 0) ≤ w.n * w.v := by
 unfold PW.left
 have : ∀ n, ((List.range n).map fun k => w.v - cntB w.v (at0 (w.round 0) k)).sum ≤ n * w.v := fun n => by
  induction n with
  | zero => simp
  | succ n ih =>
    simp only [List.range_succ, List.map_append, List.sum_append, List.map_cons, List.map_nil, List.sum_cons, List.sum_nil]
    rw [Nat.succ_mul]
    omega
 exact this _
theorem PW.round_least {w : PW} (hw : w.In) {b : List (List Nat)} (h : LeV w (w.rights b) b) (k : Nat) : LeV w (w.round k) b := by
 induction k with
 | zero => intro k hk i hi hb; rw [PW.round, at0_map hk, Bs.bit_emp] at hb; cases hb
 | succ k ih => exact (PW.rights_mono hw ih).trans h
structure PW.Last (w : PW) (K : Nat) : Prop where
 fix : w.round (K + 1) = w.round K
 before : ∀ k, k < K → w.round (k + 1) ≠ w.round k
theorem differ_at {w : PW} {a b : List (List Nat)} (ha : w.Vals a) (hb : w.Vals b) (h : a ≠ b) : ∃ m, m < w.n ∧ at0 a m ≠ at0 b m :=
 Classical.byContradiction fun hno => h (vals_ext ha.len hb.len fun k hk => Classical.byContradiction fun hne => hno ⟨k, hk, hne⟩)
theorem PW.left_round {w : PW} (h : w.Ok) (hw : w.In) {K : Nat} (hb : ∀ k, k < K → w.round (k + 1) ≠ w.round k) : K + w.left (w.round K) ≤ w.n * w.v := by
 induction K with
 | zero => have := w.left_empty; omega
 | succ K ih =>
   have h1 := ih fun k hk => hb k (by omega)
   obtain ⟨m, hm, hne⟩ := differ_at (PW.round_vals h K) (PW.round_vals h (K + 1)) (fun e => hb K (by omega) e.symm)
   have := PW.left_lt (PW.round_vals h K) (PW.round_vals h (K + 1)) (PW.round_up hw K) hm hne
   omega
theorem PW.Last.sol {w : PW} {K : Nat} (h : w.Last K) : w.rights (w.round K) = w.round K := h.fix
end Go.Proofs.YtopkmeceakjocaaGreat
namespace Go.Proofs.YtopkmeceakjocaaGreat
set_option maxRecDepth 20000
set_option linter.unusedVariables false
set_option linter.unusedSimpArgs false
open Go.ChangeShapes Go.WideShapes Go.ChangeAt Go.RowKit
def RetA (w : World) (v : Nat) (zs : List Nat) (e : Ending) (w' : World) : Prop :=
 ∃ (A : Option Addr) (n c : Nat), e = .returned (.agg #[.int .i64 v, .slice A n c]) ∧ Arg w' A n zs ∧ Below w.heap.size w w'
structure Jn (w0 : World) (v : Nat) (A : Option Addr) (n c : Nat) (ss : List Nat) (m : Nat) (f : FH) (V : Addr) (Y : Option Addr) (yn yc : Nat) (ys : List Nat) (u : World) : Prop where
 sx : Fb u w0.heap.size #[.int .i64 v, .slice A n c] 49
 ax : Fb u (w0.heap.size + 1) #[.int .i64 m, .int .i64 f.G.W, .slice f.G.A f.G.n f.G.c, .int .i64 f.K.W, .slice f.K.A f.K.n f.K.c, .slice f.C f.k f.q] 63
 rx : Fb u (w0.heap.size + 2) #[.int .i64 0, .slice none 0 0] 49
 set : Arg u A n ss
 arg : FArg u f.G.A f.G.n f.K.A f.K.n f.C f.k f.G.ws f.K.ws f.cs
 val : Arg u Y yn ys
 v0 : u.cell? (V.add (m * 2)) = some (.int .i64 v)
 v1 : u.cell? ⟨(V.add (m * 2)).block, (V.add (m * 2)).off + 1, none⟩ = some (.slice Y yn yc)
 vl : V.block < w0.heap.size
 bel : Below w0.heap.size w0 u
 sz : w0.heap.size + 3 ≤ u.heap.size
theorem Jn.below {w0 u u' : World} {v : Nat} {A : Option Addr} {n c : Nat} {ss : List Nat} {m : Nat} {f : FH} {V : Addr} {Y : Option Addr} {yn yc : Nat} {ys : List Nat} (h : Jn w0 v A n c ss m f V Y yn yc ys u) (hb : Below u.heap.size u u') : Jn w0 v A n c ss m f V Y yn yc ys u' := by
 have hz := h.sz
 have hv := h.vl
 exact ⟨h.sx.below hb h.sx.lt, h.ax.below hb h.ax.lt, h.rx.below hb h.rx.lt, h.set.below hb, h.arg.below hb, h.val.below hb, (hb.cell (by rw [add_block]; omega)).trans h.v0, (hb.cell (by simp only [add_block]; omega)).trans h.v1, hv, below_step h.bel hb, by have := hb.size; omega⟩
structure Jn2 (w0 : World) (v : Nat) (A : Option Addr) (n c : Nat) (ss : List Nat) (b : Nat) (A2 : Option Addr) (n2 k2 : Nat) (zs : List Nat) (u : World) : Prop where
 sx : Fb u w0.heap.size #[.int .i64 v, .slice A n c] 49
 rx : Fb u (w0.heap.size + 2) #[.int .i64 0, .slice none 0 0] 49
 px : Fb u b #[.int .i64 v, .slice A2 n2 k2] 49
 set : Arg u A n ss
 pv : Arg u A2 n2 zs
 bel : Below w0.heap.size w0 u
theorem Jn2.below {w0 u u' : World} {v : Nat} {A : Option Addr} {n c : Nat} {ss : List Nat} {b : Nat} {A2 : Option Addr} {n2 k2 : Nat} {zs : List Nat} (h : Jn2 w0 v A n c ss b A2 n2 k2 zs u) (hb : Below u.heap.size u u') : Jn2 w0 v A n c ss b A2 n2 k2 zs u' :=
 ⟨h.sx.below hb h.sx.lt, h.rx.below hb h.rx.lt, h.px.below hb h.px.lt, h.set.below hb, h.pv.below hb, below_step h.bel hb⟩
theorem Jn.one {w0 u : World} {v : Nat} {A : Option Addr} {n c : Nat} {ss : List Nat} {m : Nat} {f : FH} {V : Addr} {Y : Option Addr} {yn yc : Nat} {ys : List Nat} (h : Jn w0 v A n c ss m f V Y yn yc ys u) {b : Nat} {A2 : Option Addr} {n2 k2 : Nat} {zs : List Nat}
 (hb : Fb u b #[.int .i64 0, .slice none 0 0] 49) (hg : w0.heap.size + 3 ≤ b) (ha : Arg u A2 n2 zs) :
 Jn2 w0 v A n c ss b A2 n2 k2 zs ((u.setCell ⟨b, 0, none⟩ (.int .i64 v)).setCell ⟨b, 1, none⟩ (.slice A2 n2 k2)) :=
 ⟨(h.sx.far (by simp; omega) _).far (by simp; omega) _, (h.rx.far (by simp; omega) _).far (by simp; omega) _, (hb.set 0 _).set 1 _, Arg.store h.set (show Box u b 0 none 0 0 from hb) v A2 n2 k2, Arg.store ha (show Box u b 0 none 0 0 from hb) v A2 n2 k2,
   (h.bel.setCell (by simp; omega) _).setCell (by simp; omega) _⟩
theorem Jn.two {w0 u : World} {v : Nat} {A : Option Addr} {n c : Nat} {ss : List Nat} {m : Nat} {f : FH} {V : Addr} {Y : Option Addr} {yn yc : Nat} {ys : List Nat} (h : Jn w0 v A n c ss m f V Y yn yc ys u) {A2 : Option Addr} {n2 k2 : Nat} {zs : List Nat} (ha : Arg u A2 n2 zs) :
 Jn2 w0 v A n c ss u.heap.size A2 n2 k2 zs (u.alloc (.cells #[.int .i64 v, .slice A2 n2 k2] 49)) := by
 have hb := (Below.refl u.heap.size u).alloc (Nat.le_refl _) (.cells #[.int .i64 v, .slice A2 n2 k2] 49)
 exact ⟨h.sx.below hb h.sx.lt, h.rx.below hb h.rx.lt, Fb.new u _ _, h.set.below hb, ha.below hb, below_step h.bel hb⟩
theorem Fb.six {w : World} {g t : Nat} {a b c d e f : Value} (h : Fb w g #[a, b, c, d, e, f] t) :
 w.cell? ⟨g, 0, none⟩ = some a ∧ w.cell? ⟨g, 1, none⟩ = some b ∧ w.cell? ⟨g, 2, none⟩ = some c ∧ w.cell? ⟨g, 3, none⟩ = some d ∧ w.cell? ⟨g, 4, none⟩ = some e ∧ w.cell? ⟨g, 5, none⟩ = some f :=
 ⟨h.cell 0, h.cell 1, h.cell 2, h.cell 3, h.cell 4, h.cell 5⟩
set_option maxHeartbeats 3200000 in
theorem join_any (v : Nat) (hv : v ≤ 256) (A : Option Addr) (n c : Nat) (ss : List Nat) (m : Nat) (f : FH) (V : Addr) (vn vc : Nat) (Y : Option Addr) (yn yc : Nat) (ys : List Nat) (w : World)
 (hs : Arg w A n ss) (hsf : Bs.Fit v ss) (hf : FArg w f.G.A f.G.n f.K.A f.K.n f.C f.k f.G.ws f.K.ws f.cs) (hw1 : f.G.W = v) (hw2 : f.K.W = v) (hfv : validT v f.G.ws v f.K.ws f.cs = true)
 (hm : m < vn) (hc0 : w.cell? (V.add (m * 2)) = some (.int .i64 v)) (hc1 : w.cell? ⟨(V.add (m * 2)).block, (V.add (m * 2)).off + 1, none⟩ = some (.slice Y yn yc)) (hVb : V.block < w.heap.size) (hy : Arg w Y yn ys) (hyf : Bs.Fit v ys) :
 Calls Tryz.prog 126 #[.agg #[.int .i64 v, .slice A n c], .agg #[.int .i64 m, .int .i64 f.G.W, .slice f.G.A f.G.n f.G.c, .int .i64 f.K.W, .slice f.K.A f.K.n f.K.c, .slice f.C f.k f.q], .slice (some V) vn vc] w
  (RetA w v (orR v ss (valR f.G.ws ys (folB v f.K.ws f.cs) v))) := by
 have Happ := hid (show applyR v f.G.ws v f.K.ws f.cs v ys = ((v : Int), valR f.G.ws ys (folB v f.K.ws f.cs) v, 0) by
  unfold applyR; rw [if_neg (by simp [hfv, Bs.valid_of_fit hyf hv]), if_neg (by simp), Int.toNat_natCast])
 have Hun := hid (mixR_or hv hsf (fit_valR f.G.ws ys (folB v f.K.ws f.cs) v))
 have HJ := hid (show Jn w v A n c ss m f V Y yn yc ys (((w.alloc (.cells #[.int .i64 v, .slice A n c] 49)).alloc (.cells #[.int .i64 m, .int .i64 f.G.W, .slice f.G.A f.G.n f.G.c, .int .i64 f.K.W, .slice f.K.A f.K.n f.K.c, .slice f.C f.k f.q] 63)).alloc (.cells #[.int .i64 0, .slice none 0 0] 49)) from by
  have hb := (Below.refl w.heap.size w).alloc (Nat.le_refl _) (.cells #[.int .i64 v, .slice A n c] 49)
  have hb2 := hb.alloc hb.size (.cells #[.int .i64 m, .int .i64 f.G.W, .slice f.G.A f.G.n f.G.c, .int .i64 f.K.W, .slice f.K.A f.K.n f.K.c, .slice f.C f.k f.q] 63)
  have hb3 := hb2.alloc hb2.size (.cells #[.int .i64 0, .slice none 0 0] 49)
  refine ⟨((Fb.new w _ _).alloc _).alloc _, ?_, ?_, hs.below hb3, hf.below hb3, hy.below hb3, (hb3.cell (by rw [add_block]; exact hVb)).trans hc0, (hb3.cell (by simp only [add_block]; exact hVb)).trans hc1, hVb, hb3, by simp only [World.size_alloc]; omega⟩
  · have := (Fb.new (w.alloc (.cells #[.int .i64 v, .slice A n c] 49)) #[.int .i64 m, .int .i64 f.G.W, .slice f.G.A f.G.n f.G.c, .int .i64 f.K.W, .slice f.K.A f.K.n f.K.c, .slice f.C f.k f.q] 63).alloc (.cells #[.int .i64 0, .slice none 0 0] 49)
    rwa [World.size_alloc] at this
  · have := Fb.new ((w.alloc (.cells #[.int .i64 v, .slice A n c] 49)).alloc (.cells #[.int .i64 m, .int .i64 f.G.W, .slice f.G.A f.G.n f.G.c, .int .i64 f.K.W, .slice f.K.A f.K.n f.K.c, .slice f.C f.k f.q] 63)) #[.int .i64 0, .slice none 0 0] 49
    rwa [World.size_alloc, World.size_alloc] at this)
 clear hs hsf hf hfv hc0 hc1 hVb hy hyf
 obtain ⟨⟨GW, GA, gn, gc, gs⟩, ⟨KW, KA, kn, kc, ks⟩, C, k, q, cs⟩ := f
 simp only at *
 subst hw1
 subst hw2
 have Hap := hid (fun (u : World) (hu : Jn w v A n c ss m ⟨⟨v, GA, gn, gc, gs⟩, ⟨v, KA, kn, kc, ks⟩, C, k, q, cs⟩ V Y yn yc ys u) => devApply_any v v v GA KA C Y gn gc kn kc k q yn yc gs ks ys cs u hu.arg.gen hu.arg.kill hu.arg.cops hu.val)
 have Hc := hid (fun (u : World) (hu : Jn w v A n c ss m ⟨⟨v, GA, gn, gc, gs⟩, ⟨v, KA, kn, kc, ks⟩, C, k, q, cs⟩ V Y yn yc ys u) => And.intro hu.ax.six (And.intro hu.v0 hu.v1))
 rw [Happ.out] at Hap
 simp only at Hap Hc
 go_enter Tryz.func126, Tryz.ntmps126
 go_wp2_with fail
 generalize ((w.alloc (.cells #[.int .i64 v, .slice A n c] 49)).alloc (.cells #[.int .i64 m, .int .i64 v, .slice GA gn gc, .int .i64 v, .slice KA kn kc, .slice C k q] 63)).alloc (.cells #[.int .i64 0, .slice none 0 0] 49) = w1 at *
 have HJ := hid (HJ.out.below (Below.refl _ _).drew)
 have hm2 : (m : Int) < vn := by omega
 have Ha := hid (HJ.out.below ((Below.refl _ _).alloc (Nat.le_refl _) (.cells #[.int .i64 0, .slice none 0 0] 49)))
 have c6a : (w1.alloc (.cells #[.int .i64 0, .slice none 0 0] 49)).cell? (V.add (m * 2)) = some (.int .i64 v) := Ha.out.v0
 have c7a : (w1.alloc (.cells #[.int .i64 0, .slice none 0 0] 49)).cell? ⟨(V.add (m * 2)).block, (V.add (m * 2)).off + 1, none⟩ = some (.slice Y yn yc) := Ha.out.v1
 have hsixa : Fb (w1.alloc (.cells #[.int .i64 0, .slice none 0 0] 49)) (w.heap.size + 1) #[.int .i64 m, .int .i64 v, .slice GA gn gc, .int .i64 v, .slice KA kn kc, .slice C k q] 63 := Ha.out.ax
 obtain ⟨d0, d1, d2, d3, d4, d5⟩ := hsixa.six
 clear hsixa
 have c6b : (w1.drew.alloc (.cells #[.int .i64 0, .slice none 0 0] 49)).cell? (V.add (m * 2)) = some (.int .i64 v) := Ha.out.v0
 have c7b : (w1.drew.alloc (.cells #[.int .i64 0, .slice none 0 0] 49)).cell? ⟨(V.add (m * 2)).block, (V.add (m * 2)).off + 1, none⟩ = some (.slice Y yn yc) := Ha.out.v1
 have hz1 : w.heap.size + 3 ≤ w1.heap.size := HJ.out.sz
 go_cut [7] (fun a wd => ∃ (b : Nat) (A2 : Option Addr) (n2 k2 : Nat), a = .pointer (some ⟨b, 0, none⟩) ∧ Hid (Jn2 w v A n c ss b A2 n2 k2 (valR gs ys (folB v ks cs) v) wd))
 case first =>
  obtain ⟨⟨c0, c1, c2, c3, c4, c5⟩, c6, c7⟩ := Hc.out _ HJ.out
  go_region_law (
   (go_simp
    go_at_call 130
    refine (Hap.out _ (by first | exact HJ.out | exact HJ.out.below ((Below.refl _ _).alloc (Nat.le_refl _) _))).mono ?_
    rintro e u2 ⟨A2, n2, k2, rfl, ha2, hb2⟩
    have HA2 := hid ha2
    have HJ2 := hid (Jn.below (by first | exact HJ.out | exact HJ.out.below ((Below.refl _ _).alloc (Nat.le_refl _) _)) hb2)
    have hpl := HJ2.out.sz
    try (have hbx : Fb u2 w1.heap.size #[.int .i64 0, .slice none 0 0] 49 := (Fb.new w1.drew _ _).below hb2 (by simp)
         have x0 := hbx.cell 0
         have x1 := hbx.cell 1
         have y0 := hbx.frozen 0
         have y1 := hbx.frozen 1
         have hbl := hbx.lt)
    clear ha2 hb2))
  all_goals
   go_wp2_with fail
   go_meet
   first
   | exact ⟨_, A2, n2, k2, rfl, hid (Jn.one HJ2.out hbx hz1 HA2.out)⟩
   | exact ⟨_, A2, n2, k2, rfl, hid (Jn.two HJ2.out HA2.out)⟩
 case rest =>
  obtain ⟨b, A2, n2, k2, rfl, H2⟩ := hcut
  clear HJ Hap Hc Ha c6a c7a c6b c7b d0 d1 d2 d3 d4 d5
  obtain ⟨s0, s1⟩ := H2.out.sx.two
  obtain ⟨p0, p1⟩ := H2.out.px.two
  go_wp2_with fail
  refine (devUnion_any v v A A2 n c n2 k2 ss (valR gs ys (folB v ks cs) v) _ H2.out.set H2.out.pv).mono ?_
  rw [Hun.out]
  rintro e u3 ⟨A3, n3, k3, rfl, ha3, hb3⟩
  clear s0 s1 p0 p1
  have hba := (Below.refl u3.heap.size u3).alloc (Nat.le_refl _) (.cells #[.int .i64 v, .slice A3 n3 k3] 49)
  have H3 := hid ((H2.out.below hb3).below hba)
  have HA3 := hid (ha3.below hba)
  have HF3 := hid (Fb.new u3 #[.int .i64 v, .slice A3 n3 k3] 49)
  clear ha3 hb3 hba
  obtain ⟨r0, r1⟩ := H3.out.rx.two
  have f0 := H3.out.rx.frozen 0
  have f1 := H3.out.rx.frozen 1
  have hrl := H3.out.rx.lt
  go_wp2_with fail
  refine bodyPost_ret (v := .agg #[.int .i64 v, .slice A3 n3 k3]) (by simp [results, Tryz.results126, go_sem, r0, r1]) rfl ?_
  exact ⟨A3, n3, k3, rfl, Arg.store HA3.out (show Box _ (w.heap.size + 2) 0 none 0 0 from H3.out.rx) v A3 n3 k3, (H3.out.bel.setCell (by simp; omega) _).setCell (by simp; omega) _⟩
end Go.Proofs.YtopkmeceakjocaaGreat
namespace Go.Proofs.YtopkmeceakjocaaGreat
set_option maxRecDepth 20000
open Go.ChangeShapes Go.WideShapes Go.ChangeAt Go.RowKit
def RetOwn (w : World) (n : Nat) (r : Int × List Nat × Int) (e : Ending) (w' : World) : Prop :=
 ∃ g : Nat, e = .returned (.tuple #[.agg #[.int .i64 r.1, .slice (some ⟨g, 0, none⟩) n n], .int .i64 r.2.2]) ∧ Row w' g r.2.1 ∧ w.heap.size ≤ g ∧ Below w.heap.size w w'
theorem combUnion_own (W : Nat) (A B : Option Addr) (n c d : Nat) (ws xs : List Nat) (w : World) (hA : Arg w A n ws) (hB : Arg w B n xs) (h : Bs.validB W ws = true) (h2 : Bs.validB W xs = true) :
 Calls Tryz.prog 164 #[.agg #[.int .i64 W, .slice A n c], .agg #[.int .i64 W, .slice B n d], .func (Fn.func 165) #[] #[]] w (RetOwn w n (W, Bs.ofP W (fun i => flag true true true (Bs.bit ws i) (Bs.bit xs i)) W, 0)) := by
 have hf1 := Bs.fit_of_valid h hA.ok
 have hf2 := Bs.fit_of_valid h2 hB.ok
 rw [Int.toNat_natCast] at hf1 hf2
 have hn : n = Bs.nw W := by rw [← hf1.len]; exact hA.len.symm
 have hW : W ≤ 256 := by have := (Bs.validB_iff.1 h).2.1; omega
 have hn5 : n ≤ 5 := by rw [hn]; unfold Bs.nw; omega
 rw [← part_done unionW_op hf1 hf2 hn]
 have Hfit := hid (part_fit unionW_op hf1 hf2 hn).1
 have HA := hid hA; have HB := hid hB; have H := hid h; have H2 := hid h2; have Hf1 := hid hf1; have Hf2 := hid hf2
 have hne : ((W : Int) != W) = false := by simp
 have hm := run_rows n (by omega)
 clear hA hB h h2 hf1 hf2 hn hW
 obtain ⟨hx1, hx2, hx3⟩ := box3 w W W A B n c n d
 have hx4 := below3 w (.cells #[.int .i64 W, .slice A n c] 49) (.cells #[.int .i64 W, .slice B n d] 49) (.cells #[.int .i64 0, .slice none 0 0] 49)
 have Hx1 := hid hx1; have Hx2 := hid hx2; have Hx3 := hid hx3; have Hx4 := hid hx4
 clear hx1 hx2 hx3 hx4
 go_enter Tryz.func164, Tryz.ntmps164
 go_wp2_with fail
 refine (devValid_any W A n c ws _ (((HA.out.alloc _).alloc _).alloc _)).mono ?_
 rw [H.out]
 rintro e w1 ⟨rfl, hbl⟩
 have hq2 := Hx2.out.below hbl (by simp)
 have hq20 := hq2.c0
 have hq21 := hq2.c1
 have Hq1 := hid (Hx1.out.below hbl (by simp only [World.size_alloc]; omega))
 have Hq2 := hid hq2
 have Hq3 := hid (Hx3.out.below hbl (by simp))
 have Hb1 := hid (Hx4.out.trans (hbl.mono (by simp only [World.size_alloc]; omega)))
 have hz1 := hbl.size
 simp only [World.size_alloc] at hz1
 clear hbl hq2
 go_wp2_with fail
 refine (devValid_any W B n d xs _ (HB.out.below Hb1.out)).mono ?_
 rw [H2.out]
 rintro e w2 ⟨rfl, hbl⟩
 have hp := Hq1.out.below hbl (by omega)
 have hp0 := hp.c0
 have hp00 := hp.c1
 have hp' := Hq2.out.below hbl (by omega)
 have hp1 := hp'.c0
 have hinv : Comb w W A B n c d w2.heap.size (part unionW ws xs n 0) (w2.alloc (.cells (words (List.replicate n 0)).toArray 106)) := by
  rw [part_zero]
  have hz2 := hbl.size
  exact ⟨hp.alloc _, hp'.alloc _, (Hq3.out.below hbl (by omega)).alloc _, heap_alloc_new w2 _, by omega, (Hb1.out.trans (hbl.mono (by omega))).alloc (by omega) _⟩
 have Hinv := hid hinv
 have hz2 := hbl.size
 clear hbl hp hp' hinv hq20 hq21
 go_wp2_with fail
 clear hp0 hp00 hp1 hne hm Hq1 Hq2 Hq3 Hx1 Hx2 Hx3 Hx4 Hb1
 generalize w2.heap.size = g at Hinv hz2 ⊢
 go_loopw [9, 31] (fun _ i wr => ∃ k : Nat, k ≤ n ∧ i = .int .i64 k ∧ Hid (Comb w W A B n c d g (part unionW ws xs n k) wr)) (fun _ i _ => n - (intOf i).toNat)
 case atStart => exact ⟨0, by omega, rfl, Hinv⟩
 case round =>
  obtain ⟨k, hk, rfl, hG⟩ := hrel
  by_cases hlt : k < n
  · obtain ⟨ad, rfl, had, hcA⟩ := HA.out.lies.cell (words_get (i := k) (by rw [HA.out.len]; exact hlt))
    obtain ⟨bd, rfl, hbd, hcB⟩ := HB.out.lies.cell (words_get (i := k) (by rw [HB.out.len]; exact hlt))
    obtain ⟨g1, g2, g3, g4, g5, g6⟩ := hG.out
    have hc11 := g1.c1
    have hc21 := g2.c1
    have hcA2 := (g6.cell (p := ad.add k) (by rw [add_block]; exact had)).trans hcA
    have hcB2 := (g6.cell (p := bd.add k) (by rw [add_block]; exact hbd)).trans hcB
    have hx := Bs.wd_lt HA.out.ok k
    have hy := Bs.wd_lt HB.out.ok k
    have hst := hG.out.set k (unionW (Bs.wd ws k) (Bs.wd xs k))
    rw [part_set hlt] at hst
    have hcg := (g4.cell k).trans (words_get (by rw [part_len]; exact hlt))
    have hfg := g4.frozen k
    generalize Bs.wd ws k = x at hcA2 hx hst
    generalize Bs.wd xs k = y at hcB2 hy hst
    generalize Bs.wd (part unionW ws xs n k) k = z at hcg
    have Hst := hid hst; have Hx := hid hx; have Hy := hid hy
    clear g1 g2 g3 g4 g5 g6 hcA hcB had hbd hst hx hy Hinv HA HB H H2 Hf1 Hf2 Hfit hG
    go_wp2_with fail
    refine wp_region_still_tail 15 (by kernel_rfl) (by kernel_rfl) ?_
    simp only [List.take_succ_cons, List.take_zero, List.drop_succ_cons, List.drop_zero]
    repeat still_step
    still_call (union1_any _ _ _ Hx.out Hy.out)
    repeat still_step
    try refine wpStill_nil ?_
    change wpList _ _ _ _ _ wr.drew
    go_wp2
    go_roundw
    case rel => exact ⟨k + 1, by omega, by go_num, hid Hst.out.drew⟩
    case measure => simp [intOf]; omega
  · have hkn : k = n := by omega
    subst hkn
    obtain ⟨g1, g2, g3, g4, g5, g6⟩ := hG.out
    have hc10 := g1.c0
    have hr0 := g3.c0
    have hr1 := g3.c1
    have hf0 := g3.f 0
    have hf1 := g3.f 1
    have Hg4 := hid g4; have Hg6 := hid g6
    clear g1 g2 g3 g4 g6 Hinv hG
    go_wp2_with fail
    refine bodyPost_ret (v := .tuple #[.agg #[.int .i64 W, .slice (some ⟨g, 0, none⟩) k k], .int .i64 0]) (by simp [results, Tryz.results164, go_sem, hr0, hr1]) rfl ⟨g, rfl, ?_, ?_, ?_⟩
    · exact (Hg4.out.far (p := ⟨w.heap.size + 1 + 1, 0, none⟩) (by simp; omega) (.int .i64 W)).far (p := ⟨w.heap.size + 1 + 1, 1, none⟩) (by simp; omega) (.slice (some ⟨g, 0, none⟩) k k)
    · omega
    · exact (Hg6.out.setCell (by simp; omega) _).setCell (by simp; omega) _
theorem devUnion_own (v : Nat) (A B : Option Addr) (n c m d : Nat) (ws xs : List Nat) (w : World) (hA : Arg w A n ws) (hB : Arg w B m xs) (hv : v ≤ 256) (h1 : Bs.Fit v ws) (h2 : Bs.Fit v xs) :
 Calls Tryz.prog 132 #[.agg #[.int .i64 v, .slice A n c], .agg #[.int .i64 v, .slice B m d]] w (RetOwn w (Bs.nw v) (v, orR v ws xs, 0)) := by
 have hn := hA.len
 rw [h1.len] at hn
 subst hn
 have hm := hB.len
 rw [h2.len] at hm
 subst hm
 have HA := hid hA; have HB := hid hB
 have hC := hid (fun (u : World) (hu : Below w.heap.size w u) => combUnion_own v A B (Bs.nw v) c d ws xs u (hA.below hu) (hB.below hu) (Bs.valid_of_fit h1 hv) (Bs.valid_of_fit h2 hv))
 have hr : (Bs.ofP v (fun i => flag true true true (Bs.bit ws i) (Bs.bit xs i)) v) = orR v ws xs := by
  unfold orR
  refine Bs.ofP_congr fun i _ => ?_
  unfold flag
  cases Bs.bit ws i <;> cases Bs.bit xs i <;> rfl
 rw [hr] at hC
 clear hA hB h1 h2 hr
 generalize Bs.nw v = n at *
 generalize orR v ws xs = zs at *
 obtain ⟨hx1, hx2, hx3⟩ := box3 w v v A B n c n d
 have hx4 := below3 w (.cells #[.int .i64 v, .slice A n c] 49) (.cells #[.int .i64 v, .slice B n d] 49) (.cells #[.int .i64 0, .slice none 0 0] 49)
 have Hx3 := hid hx3; have Hx4 := hid hx4
 clear hx1 hx2 hx3 hx4
 go_enter Tryz.func132, Tryz.ntmps132
 go_wp2_with fail
 refine (hC.out _ Hx4.out).mono ?_
 rintro e w1 ⟨g, rfl, hr, hg, hb⟩
 have hq := Hx3.out.below hb (by simp)
 have hq0 := hq.c0
 have hq1 := hq.c1
 have hf0 := hq.f 0
 have hf1 := hq.f 1
 simp only [World.size_alloc] at hg
 have Hr := hid hr; have Hb := hid hb; have Hq := hid hq
 clear hq hr hb hC
 go_wp2_with fail
 refine bodyPost_ret (v := .tuple #[.agg #[.int .i64 v, .slice (some ⟨g, 0, none⟩) n n], .int .i64 0]) (by simp [results, Tryz.results132, go_sem, hq0, hq1]) rfl ⟨g, rfl, ?_, ?_, ?_⟩
 · exact (Hr.out.far (by simp; omega) _).far (by simp; omega) _
 · omega
 · exact ((Hx4.out.trans (Hb.out.mono (by simp only [World.size_alloc]; omega))).setCell (by simp; omega) _).setCell (by simp; omega) _
end Go.Proofs.YtopkmeceakjocaaGreat
namespace Go.Proofs.YtopkmeceakjocaaGreat
set_option maxRecDepth 20000
set_option linter.unusedVariables false
set_option linter.unusedSimpArgs false
open Go.ChangeShapes Go.WideShapes Go.ChangeAt Go.RowKit
structure ArgT (w : World) (A : Option Addr) (n : Nat) (ws : List Nat) : Prop where
 arg : Arg w A n ws
 typ : ws = [] ∨ ∃ ad : Addr, A = some ad ∧ Typ w ad.block 106
structure CopT (w : World) (A : Option Addr) (n : Nat) (cs : List (Int × Int)) : Prop where
 arg : ArgC w A n cs
 typ : cs = [] ∨ ∃ ad : Addr, A = some ad ∧ Typ w ad.block 58
section
variable {w w' : World} {A : Option Addr} {n : Nat} {ws : List Nat} {cs : List (Int × Int)}
theorem ArgT.keep (h : ArgT w A n ws) (hz : w.heap.size ≤ w'.heap.size) (hb : ∀ k, Typ w k 106 → w'.heap[k]? = w.heap[k]?) : ArgT w' A n ws := by
 refine ⟨⟨?_, h.arg.len, h.arg.ok⟩, ?_⟩
 · rcases h.typ with e0 | ⟨ad, e, ht⟩
   · subst e0; exact .inl rfl
   · rcases h.arg.lies with e' | ⟨ad', e', hlt, hc⟩
     · exact .inl e'
     · rw [e] at e'
       obtain rfl := Option.some.inj e'
       exact .inr ⟨ad, e, by omega, fun j x hx => (World.cell?_of_block (by rw [add_block]; exact hb _ ht)).trans (hc j x hx)⟩
 · rcases h.typ with h1 | ⟨ad, e, ht⟩
   · exact .inl h1
   · obtain ⟨c, m, hg⟩ := id ht
     exact .inr ⟨ad, e, c, m, (hb _ ht).trans hg⟩
theorem CopT.keep (h : CopT w A n cs) (hz : w.heap.size ≤ w'.heap.size) (hb : ∀ k, Typ w k 58 → w'.heap[k]? = w.heap[k]?) : CopT w' A n cs := by
 refine ⟨⟨?_, h.arg.len⟩, ?_⟩
 · rcases h.typ with e0 | ⟨ad, e, ht⟩
   · subst e0; exact .inl rfl
   · rcases h.arg.lies with e' | ⟨ad', e', hlt, hc⟩
     · exact .inl e'
     · rw [e] at e'
       obtain rfl := Option.some.inj e'
       exact .inr ⟨ad, e, by omega, fun j x hx => (World.cell?_of_block (by rw [add_block]; exact hb _ ht)).trans (hc j x hx)⟩
 · rcases h.typ with h1 | ⟨ad, e, ht⟩
   · exact .inl h1
   · obtain ⟨c, m, hg⟩ := id ht
     exact .inr ⟨ad, e, c, m, (hb _ ht).trans hg⟩
theorem Stp1.size {t : Nat} {u u' : World} (h : Stp1 t u u') : u.heap.size ≤ u'.heap.size := by obtain ⟨row, h1, h2⟩ := h; exact h1.size
theorem ArgT.stp {t : Nat} (h : ArgT w A n ws) (hs : Stp1 t w w') (ht : 106 ≠ t) : ArgT w' A n ws := h.keep hs.size fun k hk => hs.block hk ht hk.lt
theorem CopT.stp {t : Nat} (h : CopT w A n cs) (hs : Stp1 t w w') (ht : 58 ≠ t) : CopT w' A n cs := h.keep hs.size fun k hk => hs.block hk ht hk.lt
theorem ArgT.below (h : ArgT w A n ws) (hb : Below w.heap.size w w') : ArgT w' A n ws := h.stp (Stp1.below (t := 0) hb) (by decide)
theorem CopT.below (h : CopT w A n cs) (hb : Below w.heap.size w w') : CopT w' A n cs := h.stp (Stp1.below (t := 0) hb) (by decide)
theorem ArgT.alloc (h : ArgT w A n ws) (o : Obj) : ArgT (w.alloc o) A n ws := h.below ((Below.refl _ _).alloc (Nat.le_refl _) o)
theorem CopT.alloc (h : CopT w A n cs) (o : Obj) : CopT (w.alloc o) A n cs := h.below ((Below.refl _ _).alloc (Nat.le_refl _) o)
theorem stp_cell {g t : Nat} {c : Array Value} (h : Fb w g c t) (j : Nat) (x : Value) : Stp1 t w (w.setCell ⟨g, j, none⟩ x) := ⟨some g, setCell_grown w ⟨g, j, none⟩ x, fun k e => by obtain rfl := Option.some.inj e; exact h.typ⟩
theorem ArgT.store {b : Nat} {W : Int} {A' : Option Addr} {n' c' : Nat} (h : ArgT w A n ws) (hb : Box w b W A' n' c') (V : Int) (B : Option Addr) (m d : Nat) : ArgT ((w.setCell ⟨b, 0, none⟩ (.int .i64 V)).setCell ⟨b, 1, none⟩ (.slice B m d)) A n ws := by
 have hf : Fb w b _ 49 := hb
 exact (h.stp (stp_cell hf 0 (.int .i64 V)) (by decide)).stp (stp_cell (hf.set 0 _) 1 (.slice B m d)) (by decide)
theorem stp5 {R t : Nat} {zs : Array Value} (hz : Fb w R zs t) (a b c d e : Value) : ∀ {g t' : Nat}, Typ w g t' → t' ≠ t → (stored5 w R a b c d e).heap[g]? = w.heap[g]? := fun {g t'} hg hne => by
 have hR : R ≠ g := fun e => hg.ne hz.typ hne e.symm
 unfold stored5
 rw [Below.heap_setCell _ _ _ _ (by exact hR.symm), Below.heap_setCell _ _ _ _ (by exact hR.symm), Below.heap_setCell _ _ _ _ (by exact hR.symm), Below.heap_setCell _ _ _ _ (by exact hR.symm), Below.heap_setCell _ _ _ _ (by exact hR.symm)]
theorem size5 {R : Nat} (w : World) (a b c d e : Value) : (stored5 w R a b c d e).heap.size = w.heap.size := by simp [stored5]
theorem ArgT.stored5 {R t : Nat} {zs : Array Value} (h : ArgT w A n ws) (hz : Fb w R zs t) (ht : 106 ≠ t) (a b c d e : Value) : ArgT (stored5 w R a b c d e) A n ws := h.keep (by rw [size5]; exact Nat.le_refl _) fun k hk => stp5 hz a b c d e hk ht
theorem CopT.stored5 {R t : Nat} {zs : Array Value} (h : CopT w A n cs) (hz : Fb w R zs t) (ht : 58 ≠ t) (a b c d e : Value) : CopT (stored5 w R a b c d e) A n cs := h.keep (by rw [size5]; exact Nat.le_refl _) fun k hk => stp5 hz a b c d e hk ht
theorem ArgT.row {g : Nat} (h : Row w g ws) (ok : ∀ x ∈ ws, x < Bs.W64) : ArgT w (some ⟨g, 0, none⟩) ws.length ws := ⟨h.arg ok, .inr ⟨_, rfl, h.typ⟩⟩
theorem ArgT.nil (w : World) (A : Option Addr) : ArgT w A 0 [] := ⟨⟨.inl rfl, rfl, fun x h => by cases h⟩, .inl rfl⟩
theorem CopT.nil (w : World) (A : Option Addr) : CopT w A 0 [] := ⟨⟨.inl rfl, rfl⟩, .inl rfl⟩
theorem CopT.own {b c : Nat} (h : w.ownsRow b 58 2 (.slice A cs.length c) cs.length (pairs cs)) : CopT w A cs.length cs := by
 refine ⟨⟨own_at h, rfl⟩, ?_⟩
 rcases h.2 with ⟨e, e2⟩ | ⟨g, cap, cur, e, _⟩
 · exact .inl (List.eq_nil_of_length_eq_zero e2)
 · injection e with e1
   exact .inr ⟨_, e1, own_typ h (by rw [e1]; rfl)⟩
theorem ArgT.own {b c : Nat} (h : w.ownsRow b 106 1 (.slice A n c) n (words ws)) (ha : Arg w A n ws) : ArgT w A n ws := by
 refine ⟨ha, ?_⟩
 rcases h.2 with ⟨e, e2⟩ | ⟨g, cap, cur, e, _⟩
 · exact .inl (List.eq_nil_of_length_eq_zero (by rw [ha.len, e2]))
 · injection e with e1
   exact .inr ⟨_, e1, own_typ h (by rw [e1]; rfl)⟩
end
theorem cloneT_any (A : Option Addr) (n c : Nat) (ws : List Nat) (w : World) (hA : Arg w A n ws) (hn : n ≤ 100) :
 Calls Tryz.prog 85 #[.slice A n c] w fun e w' => ∃ A' c', e = .returned (.slice A' n c') ∧ ArgT w' A' n ws ∧ Below w.heap.size w w' := by
 by_cases h0 : 0 < n
 · refine (clone_any A n c ws w hA hn h0).mono ?_
   rintro e w' ⟨g, c', rfl, ho, hb⟩
   have ho' : OwnW w' w.heap.size g n c' ws := ho
   exact ⟨_, _, rfl, ArgT.own ho (ho'.arg hA.ok), hb⟩
 · obtain rfl : n = 0 := by omega
   have hws : ws = [] := List.eq_nil_of_length_eq_zero hA.len
   subst hws
   refine (clone_gen A 0 c [] w hA hn).mono ?_
   rintro e w' ⟨A', c', rfl, ha, hb⟩
   exact ⟨A', c', rfl, ⟨ha, .inl rfl⟩, hb⟩
structure FArgT (w : World) (A : Option Addr) (n : Nat) (B : Option Addr) (m : Nat) (C : Option Addr) (k : Nat) (gs ks : List Nat) (cs : List (Int × Int)) : Prop where
 gen : ArgT w A n gs
 kill : ArgT w B m ks
 cops : CopT w C k cs
section
variable {w w' : World} {A B C : Option Addr} {n m k : Nat} {gs ks : List Nat} {cs : List (Int × Int)}
theorem FArgT.farg (h : FArgT w A n B m C k gs ks cs) : FArg w A n B m C k gs ks cs := ⟨h.gen.arg, h.kill.arg, h.cops.arg⟩
theorem FArgT.below (h : FArgT w A n B m C k gs ks cs) (hb : Below w.heap.size w w') : FArgT w' A n B m C k gs ks cs := ⟨h.gen.below hb, h.kill.below hb, h.cops.below hb⟩
theorem FArgT.alloc (h : FArgT w A n B m C k gs ks cs) (o : Obj) : FArgT (w.alloc o) A n B m C k gs ks cs := ⟨h.gen.alloc o, h.kill.alloc o, h.cops.alloc o⟩
theorem FArgT.stp {t : Nat} (h : FArgT w A n B m C k gs ks cs) (hs : Stp1 t w w') (h1 : 106 ≠ t) (h2 : 58 ≠ t) : FArgT w' A n B m C k gs ks cs := ⟨h.gen.stp hs h1, h.kill.stp hs h1, h.cops.stp hs h2⟩
end
def RetU (w : World) (W : Int) (gs ks : List Nat) (cs : List (Int × Int)) (err : Int) (e : Ending) (w' : World) : Prop :=
 ∃ (A : Option Addr) (n c : Nat) (B : Option Addr) (m d : Nat) (C : Option Addr) (q : Nat), e = .returned (.tuple #[.agg #[.int .i64 W, .slice A n c, .int .i64 W, .slice B m d, .slice C cs.length q], .int .i64 err]) ∧
   ArgT w' A n gs ∧ ArgT w' B m ks ∧ CopT w' C cs.length cs ∧ Below w.heap.size w w'
def RetRU (w : World) (r : Int × List Nat × List Nat × List (Int × Int) × Int) (e : Ending) (w' : World) : Prop := RetU w r.1 r.2.1 r.2.2.1 r.2.2.2.1 r.2.2.2.2 e w'
theorem RetU.stored {w w1 : World} {W : Int} {gs ks : List Nat} {cs : List (Int × Int)} {err : Int} {A B C : Option Addr} {n c m d q R : Nat} (hA : ArgT w1 A n gs) (hB : ArgT w1 B m ks) (hC : CopT w1 C cs.length cs) (hb : Below w.heap.size w w1)
 (hR : w.heap.size ≤ R) (hz : Fb w1 R #[.int .i64 0, .slice none 0 0, .int .i64 0, .slice none 0 0, .slice none 0 0] 61) :
 RetU w W gs ks cs err (.returned (.tuple #[.agg #[.int .i64 W, .slice A n c, .int .i64 W, .slice B m d, .slice C cs.length q], .int .i64 err])) (stored5 w1 R (.int .i64 W) (.slice A n c) (.int .i64 W) (.slice B m d) (.slice C cs.length q)) :=
 ⟨A, n, c, B, m, d, C, q, rfl, hA.stored5 hz (by decide) _ _ _ _ _, hB.stored5 hz (by decide) _ _ _ _ _, hC.stored5 hz (by decide) _ _ _ _ _, below_stored5 hb hR _ _ _ _ _⟩
def RetCanonU (w : World) (W : Nat) (gs ks : List Nat) (cs : List (Int × Int)) (e : Ending) (w' : World) : Prop :=
 if (ord (cs.filter (restB W gs))).length ≤ 64 then RetU w W gs (killC W gs ks cs) (ord (cs.filter (restB W gs))) 0 e w' else RetU w 0 [] [] [] 7 e w'
structure AH where
 m : Int
 f : FH
def AH.cells (x : AH) : List Value := [.int .i64 x.m, .int .i64 x.f.G.W, .slice x.f.G.A x.f.G.n x.f.G.c, .int .i64 x.f.K.W, .slice x.f.K.A x.f.K.n x.f.K.c, .slice x.f.C x.f.k x.f.q]
theorem AH.cells_len (x : AH) : x.cells.length = 6 := rfl
structure AL where
 A : Option Addr
 n : Nat
 c : Nat
 l : List AH
def AL.v (x : AL) : Value := .slice x.A x.n x.c
structure ALok (w : World) (ex : List (Option Nat)) (x : AL) : Prop where
 lies : EAt w ex x.A (x.l.flatMap AH.cells)
 len : x.l.length = x.n
 few : x.n ≤ 9223372036854775807
 all : ∀ y ∈ x.l, FHok w ex y.f
section
variable {w w' : World} {ex ex' : List (Option Nat)} {x : AL}
theorem ALok.go (h : ALok w ex x) (hg : Go2 w ex w' ex') : ALok w' ex' x := ⟨h.lies.go hg, h.len, h.few, fun y hy => (h.all y hy).go hg⟩
theorem ALok.below (h : ALok w ex x) (hb : Below w.heap.size w w') : ALok w' ex x := h.go (Go2.below hb)
theorem ALok.cell (h : ALok w ex x) {i : Nat} {y : AH} (hi : x.l[i]? = some y) : ∃ ad : Addr, x.A = some ad ∧ ad.block < w.heap.size ∧ w.cell? (ad.add (i * 6)) = some (.int .i64 y.m) ∧ w.cell? ⟨(ad.add (i * 6)).block, (ad.add (i * 6)).off + 1, none⟩ = some (.int .i64 y.f.G.W) ∧
 w.cell? ⟨(ad.add (i * 6)).block, (ad.add (i * 6)).off + 2, none⟩ = some (.slice y.f.G.A y.f.G.n y.f.G.c) ∧ w.cell? ⟨(ad.add (i * 6)).block, (ad.add (i * 6)).off + 3, none⟩ = some (.int .i64 y.f.K.W) ∧ w.cell? ⟨(ad.add (i * 6)).block, (ad.add (i * 6)).off + 4, none⟩ = some (.slice y.f.K.A y.f.K.n y.f.K.c) ∧
 w.cell? ⟨(ad.add (i * 6)).block, (ad.add (i * 6)).off + 5, none⟩ = some (.slice y.f.C y.f.k y.f.q) := by
 obtain ⟨ad, h1, h2, h3⟩ := h.lies.str AH.cells_len hi (by decide)
 refine ⟨ad, h1, h2.1, h3 0 (by decide), ?_, ?_, ?_, ?_, ?_⟩
 · rw [addk _ _ _ (by decide)]; exact h3 1 (by decide)
 · rw [addk _ _ _ (by decide)]; exact h3 2 (by decide)
 · rw [addk _ _ _ (by decide)]; exact h3 3 (by decide)
 · rw [addk _ _ _ (by decide)]; exact h3 4 (by decide)
 · rw [addk _ _ _ (by decide)]; exact h3 5 (by decide)
end
structure AM where
 A : Option Addr
 n : Nat
 c : Nat
 l : List AL
structure AMok (w : World) (ex : List (Option Nat)) (x : AM) : Prop where
 lies : EAt w ex x.A (x.l.map AL.v)
 len : x.l.length = x.n
 few : x.n ≤ 9223372036854775807
 all : ∀ y ∈ x.l, ALok w ex y
section
variable {w w' : World} {ex ex' : List (Option Nat)} {x : AM}
theorem AMok.go (h : AMok w ex x) (hg : Go2 w ex w' ex') : AMok w' ex' x := ⟨h.lies.go hg, h.len, h.few, fun y hy => (h.all y hy).go hg⟩
theorem AMok.below (h : AMok w ex x) (hb : Below w.heap.size w w') : AMok w' ex x := h.go (Go2.below hb)
theorem AMok.cell (h : AMok w ex x) {i : Nat} {y : AL} (hi : x.l[i]? = some y) : ∃ ad : Addr, x.A = some ad ∧ ad.block < w.heap.size ∧ w.cell? (ad.add i) = some (.slice y.A y.n y.c) := by
 obtain ⟨ad, h1, h2, h3⟩ := h.lies.one (i := i) (u := AL.v y) (by rw [List.getElem?_map, hi]; rfl)
 exact ⟨ad, h1, h2.1, h3⟩
end
structure WB where
 W : Int
 B : ZL
 I : AM
def WB.a (x : WB) : Value := .agg #[.int .i64 x.W, .slice x.B.A x.B.n x.B.c, .slice x.I.A x.I.n x.I.c]
structure WBok (w : World) (ex : List (Option Nat)) (x : WB) : Prop where
 b : ZLok w ex x.B
 i : AMok w ex x.I
theorem WBok.go {w w' : World} {ex ex' : List (Option Nat)} {x : WB} (h : WBok w ex x) (hg : Go2 w ex w' ex') : WBok w' ex' x := ⟨h.b.go hg, h.i.go hg⟩
theorem WBok.below {w w' : World} {ex : List (Option Nat)} {x : WB} (h : WBok w ex x) (hb : Below w.heap.size w w') : WBok w' ex x := h.go (Go2.below hb)
def FH.pf (f : FH) : Pf := ⟨f.G.ws, f.K.ws, f.cs⟩
def AH.pa (a : AH) : Nat × Pf := (a.m.toNat, a.f.pf)
def AL.pa (r : AL) : List (Nat × Pf) := r.l.map AH.pa
def WB.pw (x : WB) : PW := ⟨x.W.toNat, x.B.l.map ZH.ws, x.I.l.map AL.pa⟩
structure FOk (v : Nat) (f : FH) : Prop where
 w1 : f.G.W = v
 w2 : f.K.W = v
 ok : validT v f.G.ws v f.K.ws f.cs = true
structure WOk (x : WB) (v n : Nat) : Prop where
 w : x.W = v
 v256 : v ≤ 256
 n256 : n ≤ 256
 bn : x.B.n = n
 inn : x.I.n = n
 bd : ∀ s ∈ x.B.l, s.W = v ∧ Bs.Fit v s.ws
 arcs : ∀ r ∈ x.I.l, r.n ≤ 256 ∧ ∀ a ∈ r.l, (0 ≤ a.m ∧ a.m < n) ∧ FOk v a.f
structure VOk (y : ZL) (v n : Nat) : Prop where
 n : y.n = n
 all : ∀ s ∈ y.l, s.W = v ∧ Bs.Fit v s.ws
def ZL.vs (y : ZL) : List (List Nat) := y.l.map ZH.ws
theorem ZL.vs_at {y : ZL} {i : Nat} {s : ZH} (h : y.l[i]? = some s) : at0 y.vs i = s.ws := at0_get (by unfold ZL.vs; rw [List.getElem?_map, h]; rfl)
theorem WB.arcs_at {x : WB} {i : Nat} {r : AL} (h : x.I.l[i]? = some r) : x.pw.arcs.getD i [] = r.pa := by
 unfold WB.pw
 simp only
 rw [List.getD_eq_getElem?_getD, List.getElem?_map, h]; rfl
theorem side_take {v : Nat} {vals : List (List Nat)} {s : List Nat} {r : AL} {j : Nat} {a : AH} (h : r.l[j]? = some a) : side v vals s ((r.l.take (j + 1)).map AH.pa) = orR v (side v vals s ((r.l.take j).map AH.pa)) (a.f.pf.vl v (at0 vals a.m.toNat)) := by
 rw [List.take_add_one, h, List.map_append]
 exact side_snoc _ _ _ _ _
end Go.Proofs.YtopkmeceakjocaaGreat
namespace Go.Proofs.YtopkmeceakjocaaGreat
set_option linter.unusedVariables false
set_option linter.unusedSimpArgs false
def putL : List (Option Tmp) → (Nat → Value) → Nat → Act → Act
 | [], _, _, a => a
 | d :: ds, f, k, a => putL ds f (k + 1) (a.put d (f k))
def updV (f : Nat → Value) (i : Nat) (v : Value) : Nat → Value := fun j => if j = i then v else f j
theorem updV_self (f : Nat → Value) (i : Nat) (v : Value) : updV f i v i = v := by simp [updV]
theorem updV_ne (f : Nat → Value) {i j : Nat} (v : Value) (h : j ≠ i) : updV f i v j = f j := by simp [updV, h]
theorem putL_congr : ∀ (ds : List (Option Tmp)) (f g : Nat → Value) (k : Nat) (a : Act), (∀ j, k ≤ j → f j = g j) → putL ds f k a = putL ds g k a := by
 intro ds
 induction ds with
 | nil => intro f g k a _; rfl
 | cons d ds ih => intro f g k a h; rw [putL, putL, h k (Nat.le_refl _)]; exact ih f g (k + 1) _ fun j hj => h j (by omega)
theorem put_put (a : Act) (d : Option Tmp) (u v : Value) : (a.put d u).put d v = a.put d v := by
 cases d with
 | none => rfl
 | some d => simp [Act.put]
theorem putL_put : ∀ (ds : List (Option Tmp)) (f : Nat → Value) (k : Nat) (a : Act) (d : Option Tmp) (v : Value), (∀ x ∈ ds, ∀ y, x = some y → d ≠ some y) → (putL ds f k a).put d v = putL ds f k (a.put d v) := by
 intro ds
 induction ds with
 | nil => intro f k a d v _; rfl
 | cons x ds ih =>
   intro f k a d v h
   rw [putL, putL, ih f (k + 1) _ d v fun y hy => h y (by simp [hy])]
   congr 1
   exact Act.put_comm a _ _ fun y hy => h x (by simp) y hy
theorem putL_upd : ∀ (l1 : List (Option Tmp)) (d : Option Tmp) (l2 : List (Option Tmp)) (f : Nat → Value) (k : Nat) (a : Act) (v : Value), (∀ x ∈ l2, ∀ y, x = some y → d ≠ some y) →
 (putL (l1 ++ d :: l2) f k a).put d v = putL (l1 ++ d :: l2) (updV f (k + l1.length) v) k a := by
 intro l1
 induction l1 with
 | nil =>
   intro d l2 f k a v h
   simp only [List.nil_append, putL, List.length_nil, Nat.add_zero]
   rw [putL_put l2 f (k + 1) _ d v h, put_put, updV_self]
   exact putL_congr l2 _ _ (k + 1) _ fun j hj => (updV_ne f v (by omega)).symm
 | cons x l1 ih =>
   intro d l2 f k a v h
   rw [List.cons_append, putL, putL, ih d l2 f (k + 1) _ v h, updV_ne f v (by rw [List.length_cons]; omega), List.length_cons, show k + 1 + l1.length = k + (l1.length + 1) by omega]
def slotV (a : Act) : Option Tmp → Value
 | some d => a.eval (.tmp d)
 | none => undef
theorem put_self (a : Act) (d : Option Tmp) : a.put d (slotV a d) = a := by
 cases d with
 | none => rfl
 | some d =>
   unfold Act.put slotV Act.eval
   obtain ⟨t, ds⟩ := a
   simp only
   congr 1
   apply Array.ext
   · simp
   · intro i h1 h2
     rw [Array.getElem_setIfInBounds]
     split
     · next e => subst e; simp [Array.getD, h2]
     · rfl
theorem putL_self : ∀ (ds : List (Option Tmp)) (k : Nat) (a : Act), putL ds (fun j => slotV a ((ds[j - k]?).getD none)) k a = a := by
 intro ds
 induction ds with
 | nil => intro k a; rfl
 | cons d ds ih =>
   intro k a
   rw [putL]
   simp only [Nat.sub_self, List.getElem?_cons_zero, Option.getD_some]
   rw [put_self]
   refine Eq.trans (putL_congr ds _ _ (k + 1) a fun j hj => ?_) (ih (k + 1) a)
   rw [show j - k = (j - (k + 1)) + 1 by omega, List.getElem?_cons_succ]
def distB : List (Option Tmp) → Bool
 | [] => true
 | d :: ds => (ds.all fun x => x.isNone || x != d) && distB ds
theorem dist_split : ∀ (l1 : List (Option Tmp)) (d : Option Tmp) (l2 : List (Option Tmp)), distB (l1 ++ d :: l2) = true → ∀ x ∈ l2, ∀ y, x = some y → d ≠ some y := by
 intro l1
 induction l1 with
 | nil =>
   intro d l2 h x hx y hy
   simp only [List.nil_append, distB, Bool.and_eq_true, List.all_eq_true] at h
   have := h.1 x hx
   subst hy
   simp at this
   exact fun e => this e.symm
 | cons z l1 ih =>
   intro d l2 h
   simp only [List.cons_append, distB, Bool.and_eq_true] at h
   exact ih d l2 h.2
theorem putL_at {ds : List (Option Tmp)} (hd : distB ds = true) {i : Nat} {d : Option Tmp} (hi : ds[i]? = some d) (f : Nat → Value) (a : Act) (v : Value) : (putL ds f 0 a).put d v = putL ds (updV f i v) 0 a := by
 obtain ⟨h1, rfl⟩ := List.getElem?_eq_some_iff.1 hi
 have e : ds = ds.take i ++ ds[i] :: ds.drop (i + 1) := by rw [← List.drop_eq_getElem_cons h1, List.take_append_drop]
 have := putL_upd (ds.take i) ds[i] (ds.drop (i + 1)) f 0 a v (dist_split _ _ _ (by rw [← e]; exact hd))
 rw [← e, List.length_take, Nat.min_eq_left (by omega), Nat.zero_add] at this
 exact this
def backB (ops : Array Oper) : Bool := (List.range ops.size).all fun i => match ops[i]? with | some o => o.after.all fun e => !Region.binds .any e || decide (e.on < i) | none => true
theorem backB_spec {ops : Array Oper} (h : backB ops = true) {i : Nat} {o : Oper} (ho : ops[i]? = some o) : ∀ e ∈ o.after, Region.binds .any e = true → e.on < i := by
 intro e he hb
 have := List.all_eq_true.1 h i (List.mem_range.2 (Array.getElem?_eq_some_iff.1 ho).1)
 rw [ho] at this
 simp only [Array.all_eq_true_iff_forall_mem] at this
 have := this e he
 rw [hb] at this
 simpa using this
theorem getD_lt {a : Array Bool} {i : Nat} (d : Bool) (h : i < a.size) : a.getD i d = a[i] := by simp [Array.getD, h]
theorem count_set : ∀ (l : List Bool) (i : Nat), l[i]? = some false → (l.set i true).count false + 1 = l.count false := by
 intro l
 induction l with
 | nil => intro i h; simp at h
 | cons b l ih =>
   intro i h
   cases i with
   | zero => simp at h; subst h; simp
   | succ i =>
     have := ih i (by simpa using h)
     rw [List.set_cons_succ, List.count_cons, List.count_cons]
     omega
section
variable {P : Program} {ops : Array Oper} {Q : Exit → Act → World → Prop}
def tailArr (n m : Nat) : Array Bool := (List.replicate m true ++ List.replicate (n - m) false).toArray
theorem tail_count (n m : Nat) : (tailArr n m).toList.count false = n - m := by simp [tailArr, List.count_append, List.count_replicate]
theorem wpOp_of {i : Nat} {o : Oper} {K : Act → World → Prop} {a : Act} {w : World} (ho : ops[i]? = some o) (h : if Region.wanted o (yielded ops a.tmps) = true then Oper.wp P o a w K Q else K (a.put o.dst undef) w) : wpOp P ops Q i K a w := by
 unfold wpOp
 rw [ho]
 show if Region.wanted o (yielded ops a.tmps) = true then _ else _
 split
 · rename_i hw; rw [if_pos hw] at h; exact .inl h
 · rename_i hw; rw [if_neg hw] at h; exact h
theorem tail_two {n m i j : Nat} {o1 o2 : Oper} {a : Act} {w : World} (hr : Region.ready .any ops (tailArr n m) = [i]) (hr2 : Region.ready .any ops ((tailArr n m).setIfInBounds i true) = [j]) (hr3 : Region.ready .any ops (((tailArr n m).setIfInBounds i true).setIfInBounds j true) = [])
 (ho : ops[i]? = some o1) (ho2 : ops[j]? = some o2) {K0 : Act → World → Prop} (hq : ∀ a w, K0 a w → Q .normal a w)
 (h : if Region.wanted o1 (yielded ops a.tmps) = true then Oper.wp P o1 a w (fun a w => if Region.wanted o2 (yielded ops a.tmps) = true then Oper.wp P o2 a w K0 Q else K0 (a.put o2.dst undef) w) Q
   else (if Region.wanted o2 (yielded ops (a.put o1.dst undef).tmps) = true then Oper.wp P o2 (a.put o1.dst undef) w K0 Q else K0 ((a.put o1.dst undef).put o2.dst undef) w)) : wpAny P .any ops Q 2 (tailArr n m) a w := by
 refine ⟨fun h0 => (by rw [hr] at h0; cases h0), fun k hk => ?_⟩
 rw [hr] at hk
 obtain rfl : k = i := by simpa using hk
 refine wpOp_mono (fun a w h2 => ?_) (wpOp_of (K := fun a w => if Region.wanted o2 (yielded ops a.tmps) = true then Oper.wp P o2 a w K0 Q else K0 (a.put o2.dst undef) w) ho h)
 refine ⟨fun h0 => (by rw [hr2] at h0; cases h0), fun k hk => ?_⟩
 rw [hr2] at hk
 obtain rfl : k = j := by simpa using hk
 exact wpOp_mono (fun a w hk => ⟨hr3, hq a w hk⟩) (wpOp_of ho2 h2)
end
theorem fixG (f : Nat → Value) (i : Nat) (c : Value) (h : f i = c) : ∃ g, f = updV g i c := ⟨f, funext fun j => by unfold updV; split <;> simp_all⟩
section
variable {P : Program} {ops : Array Oper} {Q : Exit → Act → World → Prop}
def depsOf (ops : Array Oper) (i : Nat) : List Nat := match ops[i]? with | some o => (o.after.toList.filter fun e => Region.binds .any e).map (·.on) | none => []
def reachL (ops : Array Oper) : Nat → Nat → List Nat
 | 0, i => depsOf ops i
 | n + 1, i => depsOf ops i ++ (depsOf ops i).flatMap (reachL ops n)
def tailB2 (ops : Array Oper) (m : Nat) : Bool := (List.range ops.size).all fun i => decide (i < m) || (List.range m).all fun j => (reachL ops 5 i).contains j
def ClosedL (ops : Array Oper) (listed : Array Bool) : Prop := ∀ k ok, ops[k]? = some ok → listed.getD k false = true → ∀ e ∈ ok.after, Region.binds .any e = true → listed.getD e.on false = true
theorem reach_listed {listed : Array Bool} (hc : ClosedL ops listed) : ∀ (n i : Nat), (∀ j ∈ depsOf ops i, listed.getD j false = true) → ∀ j ∈ reachL ops n i, listed.getD j false = true := by
 intro n
 induction n with
 | zero => intro i h j hj; exact h j hj
 | succ n ih =>
   intro i h j hj
   unfold reachL at hj
   rcases List.mem_append.1 hj with hj | hj
   · exact h j hj
   · obtain ⟨k, hk, hj⟩ := List.mem_flatMap.1 hj
     refine ih k (fun x hx => ?_) j hj
     unfold depsOf at hx
     split at hx
     · rename_i ok hok
       obtain ⟨e, he, rfl⟩ := List.mem_map.1 hx
       obtain ⟨he1, he2⟩ := List.mem_filter.1 he
       exact hc k ok hok (h k hk) e (Array.mem_toList_iff.1 he1) he2
     · cases hx
theorem tailB2_spec {m : Nat} (h : tailB2 ops m = true) {i : Nat} {o : Oper} (ho : ops[i]? = some o) (hm : m ≤ i) {listed : Array Bool} (hc : ClosedL ops listed) (ha : ∀ e ∈ o.after, Region.binds .any e = true → listed.getD e.on false = true) : ∀ j, j < m → listed.getD j false = true := by
 intro j hj
 have := List.all_eq_true.1 h i (List.mem_range.2 (Array.getElem?_eq_some_iff.1 ho).1)
 have hn : decide (i < m) = false := by simp; omega
 rw [hn, Bool.false_or, List.all_eq_true] at this
 have := this j (List.mem_range.2 hj)
 rw [List.contains_iff_mem] at this
 refine reach_listed hc 5 i (fun x hx => ?_) j this
 unfold depsOf at hx
 rw [ho] at hx
 obtain ⟨e, he, rfl⟩ := List.mem_map.1 hx
 obtain ⟨he1, he2⟩ := List.mem_filter.1 he
 exact ha e (Array.mem_toList_iff.1 he1) he2
theorem wpAny_factsG (G : Nat → World → Prop) (F : Nat → Value → World → Prop) (B : World → Prop) (use : Nat → Option Nat) (R : Nat → World → World → Prop) (m : Nat) (ds : List (Option Tmp)) (a0 : Act) (hds : ops.toList.map (·.dst) = ds) (hd : distB ds = true) (hb : backB ops = true) (ht : tailB2 ops m = true) (hm : m ≤ ops.size)
 (hst : ∀ j w w' i v, R j w w' → i ≠ j → use i ≠ some j → F i v w → F i v w')
 (hstG : ∀ j w w' c, R j w w' → c ≠ j → G c w → G c w')
 (hstep : ∀ (i : Nat) (o : Oper) (f : Nat → Value) (w : World), ops[i]? = some o → i < m → B w → G i w → (∀ e ∈ o.after, Region.binds .any e = true → use e.on = none ∨ use e.on = some i → F e.on (f e.on) w) → ∀ K : Act → World → Prop, (∀ v w', B w' → R i w w' → F i v w' → K ((putL ds f 0 a0).put o.dst v) w') → wpOp P ops Q i K (putL ds f 0 a0) w)
 (hend : ∀ (f : Nat → Value) (w : World), B w → (∀ i, i < m → use i = none → F i (f i) w) → wpAny P .any ops Q (ops.size - m) (tailArr ops.size m) (putL ds f 0 a0) w) :
 ∀ (fuel : Nat) (listed : Array Bool) (f : Nat → Value) (w : World), listed.size = ops.size → (∀ i, m ≤ i → i < ops.size → listed.getD i true = false) → ClosedL ops listed → B w → (∀ c, listed.getD c false = false → G c w) → (∀ i, listed.getD i false = true → (∀ c, use i = some c → listed.getD c false = false) → F i (f i) w) → listed.toList.count false = fuel →
   wpAny P .any ops Q fuel listed (putL ds f 0 a0) w := by
 intro fuel
 induction fuel with
 | zero =>
   intro listed f w hs htl hcl hB hGc hF hc
   have hall : ∀ i, i < m → listed.getD i false = true := by
    intro i hi
    have h1 : i < listed.size := by omega
    rw [getD_lt _ h1]
    cases hv : listed[i] with
    | true => rfl
    | false => exact absurd (List.count_pos_iff.2 (Array.mem_toList_iff.2 (hv ▸ Array.getElem_mem h1))) (by omega)
   have e : listed = tailArr ops.size m := by
    apply Array.ext
    · simp [tailArr]; omega
    · intro i h1 h2
      by_cases him : i < m
      · have := hall i him
        rw [getD_lt _ h1] at this
        rw [this]
        simp [tailArr, List.getElem_append, him]
      · have := htl i (by omega) (by omega)
        rw [getD_lt _ h1] at this
        rw [this]
        simp [tailArr, List.getElem_append, him]
   have hn : ops.size - m = 0 := by
    rw [e, tail_count] at hc
    exact hc
   have := hend f w hB fun i hi hu => hF i (hall i hi) (fun c hc => by rw [hu] at hc; cases hc)
   rw [hn] at this
   rw [e]; exact this
 | succ fuel ih =>
   intro listed f w hs htl hcl hB hGc hF hc
   by_cases hall : ∀ i, i < m → listed.getD i false = true
   · have e : listed = tailArr ops.size m := by
      apply Array.ext
      · simp [tailArr]; omega
      · intro i h1 h2
        by_cases him : i < m
        · have := hall i him
          rw [getD_lt _ h1] at this
          rw [this]
          simp [tailArr, List.getElem_append, him]
        · have := htl i (by omega) (by omega)
          rw [getD_lt _ h1] at this
          rw [this]
          simp [tailArr, List.getElem_append, him]
     have hn : ops.size - m = fuel + 1 := by
      rw [e, tail_count] at hc
      exact hc
     have := hend f w hB fun i hi hu => hF i (hall i hi) (fun c hc => by rw [hu] at hc; cases hc)
     rw [hn] at this
     rw [e]; exact this
   · have hun : ∃ i, i < m ∧ listed.getD i false = false := by
      refine Classical.byContradiction fun hno => hall fun i hi => ?_
      cases hv : listed.getD i false with
      | true => rfl
      | false => exact absurd ⟨i, hi, hv⟩ hno
     -- the first that has not come up may come up
     have hmin : ∀ n i, i ≤ n → i < m → listed.getD i false = false → ∃ j, j < m ∧ listed.getD j false = false ∧ ∀ k, k < j → listed.getD k false = true := by
      intro n
      induction n with
      | zero => intro i hi him hv; exact ⟨i, him, hv, fun k hk => by omega⟩
      | succ n ihn =>
        intro i hi him hv
        by_cases hex : ∃ k, k < i ∧ listed.getD k false = false
        · obtain ⟨k, hk, hkv⟩ := hex
          exact ihn k (by omega) (by omega) hkv
        · refine ⟨i, him, hv, fun k hk => ?_⟩
          cases hkv : listed.getD k false with
          | true => rfl
          | false => exact absurd ⟨k, hk, hkv⟩ hex
     obtain ⟨i0, hi0, hv0⟩ := hun
     obtain ⟨j0, hj0, hj1, hj2⟩ := hmin i0 i0 (Nat.le_refl _) hi0 hv0
     have hgd : ∀ i, i < ops.size → listed.getD i true = listed.getD i false := by
      intro i hi
      rw [getD_lt true (show i < listed.size by omega), getD_lt false (show i < listed.size by omega)]
     obtain ⟨oj, hoj⟩ : ∃ o, ops[j0]? = some o := ⟨_, Array.getElem?_eq_getElem (by omega)⟩
     have hrj : j0 ∈ Region.ready .any ops listed := mem_ready.2 ⟨by rw [hgd j0 (by omega)]; exact hj1, oj, hoj, fun e he hbe => hj2 _ (backB_spec hb hoj e he hbe)⟩
     refine ⟨fun h => (by rw [h] at hrj; cases hrj), fun i hi => ?_⟩
     obtain ⟨hiu, o, ho, hafter⟩ := mem_ready.1 hi
     have hin : i < ops.size := (Array.getElem?_eq_some_iff.1 ho).1
     have him : i < m := by
      rcases Nat.lt_or_ge i m with h | h
      · exact h
      · exfalso
        have := tailB2_spec ht ho h hcl hafter j0 hj0
        rw [hj1] at this
        cases this
     have hil : listed.getD i false = false := by rw [← hgd i hin]; exact hiu
     refine hstep i o f w ho him hB (hGc i hil) (fun e he hbe hu => hF e.on (hafter e he hbe) (fun c hc => by
      rcases hu with hu | hu
      · rw [hu] at hc; cases hc
      · rw [hu] at hc; obtain rfl := Option.some.inj hc; rw [← hgd i hin]; exact hiu)) _ fun v w' hB' hR hFi => ?_
     have hdi : ds[i]? = some o.dst := by
      rw [← hds, List.getElem?_map, Array.getElem?_toList, ho]; rfl
     rw [putL_at hd hdi]
     have hlf : listed.toList[i]? = some false := by
      rw [Array.getElem?_toList, Array.getElem?_eq_getElem (by omega)]
      rw [getD_lt _ (by omega)] at hiu
      exact congrArg some hiu
     refine ih _ _ _ (by simp [hs]) (fun k hk hk2 => ?_) (fun k ok hok hk e he hbe => ?_) hB' (fun k hk => ?_) (fun k hk hku => ?_) ?_
     · have hk3 : k < (listed.setIfInBounds i true).size := by rw [Array.size_setIfInBounds]; omega
       rw [getD_lt _ hk3, Array.getElem_setIfInBounds, if_neg (by omega)]
       have := htl k hk hk2
       rw [getD_lt _ (by omega)] at this
       exact this
     · have hdep : listed.getD e.on false = true := by
        by_cases hki : k = i
        · subst hki
          rw [ho] at hok
          obtain rfl := Option.some.inj hok
          exact hafter e he hbe
        · rw [getD_set_ne false (fun h => hki h.symm)] at hk
          exact hcl k ok hok hk e he hbe
       by_cases hei : e.on = i
       · rw [hei, getD_lt _ (by rw [Array.size_setIfInBounds]; omega), Array.getElem_setIfInBounds_self]
       · rw [getD_set_ne false (fun h => hei h.symm)]; exact hdep
     · by_cases e : k = i
       · subst e
         rw [getD_lt _ (by rw [Array.size_setIfInBounds]; omega), Array.getElem_setIfInBounds_self] at hk
         cases hk
       · exact hstG i w w' k hR e (hGc k (by rw [getD_set_ne false (by omega)] at hk; exact hk))
     · by_cases e : k = i
       · subst e; rw [updV_self]; exact hFi
       · rw [updV_ne f v e]
         have hki : use k ≠ some i := fun h => by
          have := hku i h
          rw [getD_lt _ (by rw [Array.size_setIfInBounds]; omega), Array.getElem_setIfInBounds_self] at this
          cases this
         refine hst i w w' k _ hR e hki (hF k ?_ fun c hc => ?_)
         · rw [getD_set_ne false (by omega)] at hk
           exact hk
         · have := hku c hc
           rw [getD_set_ne false (by intro h; exact hki (h ▸ hc))] at this
           exact this
     · have := count_set listed.toList i hlf
       rw [Array.toList_setIfInBounds]
       omega
theorem wp_region_factsG {id : Nat} {a0 : Act} {w : World} (G : Nat → World → Prop) (F : Nat → Value → World → Prop) (B : World → Prop) (use : Nat → Option Nat) (R : Nat → World → World → Prop) (K0 : Act → World → Prop) (hK0 : ∀ a w, K0 a w → Q .normal a w) (n m : Nat) (ds : List (Option Tmp)) (hn : ops.size = n) (hmix : P.follows .mixedOrders = true) (hds : ops.toList.map (·.dst) = ds) (hd : distB ds = true) (hb : backB ops = true) (ht : tailB2 ops m = true) (hm : m ≤ n)
 (hst : ∀ j w w' i v, R j w w' → i ≠ j → use i ≠ some j → F i v w → F i v w') (hB : B w.drew) (hG : ∀ c, G c w.drew) (hstG : ∀ j w w' c, R j w w' → c ≠ j → G c w → G c w')
 (hstep : ∀ (i : Nat) (o : Oper) (f : Nat → Value) (w : World), ops[i]? = some o → i < m → B w → G i w → (∀ e ∈ o.after, Region.binds .any e = true → use e.on = none ∨ use e.on = some i → F e.on (f e.on) w) → ∀ K : Act → World → Prop, (∀ v w', B w' → R i w w' → F i v w' → K ((putL ds f 0 a0).put o.dst v) w') → wpOp P ops Q i K (putL ds f 0 a0) w)
 (hend : ∀ (Q2 : Exit → Act → World → Prop), (∀ a w, K0 a w → Q2 .normal a w) → ∀ (f : Nat → Value) (w : World), B w → (∀ i, i < m → use i = none → F i (f i) w) → wpAny P .any ops Q2 (n - m) (tailArr n m) (putL ds f 0 a0) w) :
 (Code.region id ops true).wp P Q a0 w := by
 subst hn
 refine wp_region_any hmix ?_
 have := wpAny_factsG G F B use R m ds a0 hds hd hb ht hm hst hstG hstep (hend Q hK0) ops.size (Array.replicate ops.size false) (fun j => slotV a0 ((ds[j - 0]?).getD none)) w.drew (by simp)
  (fun i _ hi => by simp [Array.getD, hi]) (fun k _ _ hk => by simp [Array.getD] at hk) hB (fun c _ => hG c) (fun i hi _ => by simp [Array.getD] at hi) (by simp)
 rw [putL_self] at this
 exact this
end
end Go.Proofs.YtopkmeceakjocaaGreat
namespace Go.Proofs.YtopkmeceakjocaaGreat
set_option maxRecDepth 20000
set_option linter.unusedVariables false
set_option linter.unusedSimpArgs false
open Go.ChangeShapes Go.WideShapes Go.ChangeAt Go.RowKit
theorem one_int1 (x : Int) : ∀ u ∈ [Value.int .i64 x], u.oneCell' = true := by intro u hu; simp at hu; subst hu; rfl
theorem int_new (w : World) (x : Int) (t : Nat) : ∀ (j : Nat) (u : Value), [Value.int .i64 x][j]? = some u → (w.alloc (.cells #[.int .i64 x] t)).cell? ((⟨w.heap.size, 0, none⟩ : Addr).add j) = some u := by
 intro j u h
 have hb := Fb.new w #[.int .i64 x] t
 rw [add_of, hb.cell]
 simpa using h
theorem one_ints (l : List Int) : ∀ u ∈ ints l, u.oneCell' = true := by
 intro u hu
 unfold ints at hu
 obtain ⟨x, _, rfl⟩ := List.mem_map.1 hu
 rfl
def RetIR (w : World) (ex : List (Option Nat)) (l : List Int) (e : Ending) (w' : World) : Prop :=
 ∃ y : RH, e = .returned (.slice y.A y.n y.c) ∧ y.l = l ∧ RHok w' ex y ∧ y.n ≤ y.c ∧ Below w.heap.size w w'
theorem RetIR.own {w w' : World} {ex : List (Option Nat)} {l : List Int} {A : Option Addr} {n c : Nat} (hex : ∀ k, some k ∈ ex → k < w.heap.size) (ho : w'.ownsRow w.heap.size 3 1 (.slice A n c) n (ints l)) (hl : l.length = n) (hn : n ≤ 200000) (hb : Below w.heap.size w w') :
 RetIR w ex l (.returned (.slice A n c)) w' := by
 refine ⟨⟨A, n, c, l⟩, rfl, rfl, ⟨EAt.own ho (fun g hg hm => by have := hex g hm; have := (ho.lt g hg).1; omega), hl, by show n ≤ _; omega⟩, ?_, hb⟩
 rcases ho.2 with ⟨e, h0⟩ | ⟨g, cap, cur, e, _, _, h1, _⟩
 · show n ≤ c; omega
 · injection e with _ _ e3
   show n ≤ c; omega
theorem ins_take {l : List Int} {v a : Int} {k : Nat} (h : ∀ x ∈ l.take k, x < v) (ha : l[k]? = some a) (hlt : a < v) : ∀ x ∈ l.take (k + 1), x < v := by
 intro x hx
 rw [List.take_add_one, ha] at hx
 rcases List.mem_append.1 hx with hx | hx
 · exact h x hx
 · simp at hx; subst hx; exact hlt
theorem add_nil (a : Addr) : a.add 0 = a := by
 obtain ⟨b, o, p⟩ := a
 cases p <;> simp [Addr.add]
theorem int_new1 (w : World) (o : Obj) (x : Int) (t : Nat) : ∀ (j : Nat) (u : Value), [Value.int .i64 x][j]? = some u → ((w.alloc o).alloc (.cells #[.int .i64 x] t)).cell? ((⟨w.heap.size + 1, 0, none⟩ : Addr).add j) = some u := by
 intro j u h
 have := int_new (w.alloc o) x t j u h
 rw [World.size_alloc] at this
 exact this
theorem own_capn {w : World} {base ty k g n cap : Nat} {xs : List Value} (h : w.ownsRow base ty k (.slice (some ⟨g, 0, none⟩) n cap) n xs) : n ≤ cap := by
 rcases h.2 with ⟨e, h0⟩ | ⟨g2, cap2, cur, e, _, _, h1, _⟩
 · omega
 · injection e with _ _ e3; omega
theorem own_step {w W w5 : World} {v : Value} {ty k n : Nat} {xs : List Value} (hB : Below w.heap.size w W) (ho : W.ownsRow w.heap.size ty k v n xs) (hg : W.grownBy w5 v.ownBlock) : Below w.heap.size w w5 := hB.grown hg hB.size (fun k hk => (ho.lt k hk).1)
theorem ints_take (l : List Int) (k : Nat) : ints (l.take k) = (ints l).take k := by simp [ints, List.map_take]
set_option maxHeartbeats 6400000 in
theorem insert_any (x : RH) (v : Int) (ex : List (Option Nat)) (w : World) (h : RHok w ex x) (hcap : x.n ≤ x.c) (hn : x.n ≤ 100000) (hex : ∀ k, some k ∈ ex → k < w.heap.size) :
 Calls Tryz.prog 37 #[.slice x.A x.n x.c, .int .i64 v] w (RetIR w ex (insI x.l v)) := by
 obtain ⟨i1, hi, hz0, hz1, hz2⟩ := info_parts info3
 have Hi := hid hi; have Hz0 := hid hz0; have Hz1 := hid hz1; have Hz2 := hid hz2
 clear hi hz0 hz1 hz2
 have HX := hid h
 have HL := hid h.len
 have Hex := hid hex
 clear h hex
 obtain ⟨A, n, c, l⟩ := x
 simp only at *
 have hb1 := (Below.refl w.heap.size w).alloc (Nat.le_refl _) (.cells #[] 3)
 have HB1 := hid hb1
 have HO := hid (World.ownsRow_lit (base := w.heap.size) (e := 3) (size := 1) w #[] 0 (Nat.le_refl _) (by unfold maxLen; omega) rfl)
 clear hb1
 go_enter Tryz.func37, Tryz.ntmps37
 go_wp2_with fail
 go_loop [5] (fun iv => ∃ k : Nat, k ≤ n ∧ iv = .int .i64 k ∧ Hid (∀ z ∈ l.take k, z < v)) (fun iv => n - (intOf iv).toNat)
 case atStart => exact ⟨0, by omega, rfl, hid (by simp)⟩
 case round =>
  obtain ⟨k, hk, rfl, hP⟩ := hrel
  by_cases hlt : k < n
  · obtain ⟨a, ha, -⟩ := get_at HL.out hlt
    obtain ⟨ad, hA, had, hc⟩ := HX.out.cell ha
    simp only at hA
    subst hA
    have Ha := hid ha
    clear ha
    by_cases h1 : a < v
    · as_aux_lemma =>
       have Hr := hid (ins_take hP.out Ha.out h1)
       go_wp2_with fail
       go_round
       case rel => exact ⟨k + 1, by omega, by go_num, Hr⟩
       case measure => simp [intOf]; omega
    · by_cases h2 : a = v
      · as_aux_lemma =>
         subst h2
         have Hr := hid (insI_hit hP.out Ha.out)
         go_wp2_with fail
         go_ret
         exact ⟨⟨some ad, n, c, l⟩, rfl, Hr.out.symm, HX.out, hcap, Below.refl _ _⟩
      · have Hr := hid (insI_put hP.out Ha.out (by omega))
        have t1 : (a == v) = false := by simpa using h2
        have hkc : k < c := by omega
        have Hal := hid (fun (v : World) (hb : Below w.heap.size w v) (j : Nat) (u : Value) (hj : (ints l)[j]? = some u) => show v.cell? (ad.add j) = some u by
         rcases HX.out.lies with h | ⟨ad2, e, hs, hcc⟩
         · rw [h] at hj; simp at hj
         · obtain rfl := Option.some.inj e
           exact (hb.cell (p := ad.add j) (by rw [add_block]; exact hs.1)).trans (hcc j u hj))
        have Hlen := hid (show (l.take k ++ v :: l.drop k).length = n + 1 by rw [List.length_append, List.length_take, List.length_cons, List.length_drop, HL.out]; omega)
        have Hdl := hid (show (ints (l.drop k)).length = (n - k) * 1 by unfold ints; rw [List.length_map, List.length_drop, HL.out]; omega)
        have Hdc := hid (fun (u : World) (hb : Below w.heap.size w u) (j : Nat) (z : Value) (hj : (ints (l.drop k))[j]? = some z) => show u.cell? ((ad.add k).add j) = some z by
         rw [Go.Deep.add_add]
         refine Hal.out u hb (k + j) z ?_
         unfold ints at hj ⊢
         rw [List.getElem?_map, List.getElem?_drop] at hj
         rw [List.getElem?_map]; exact hj)
        by_cases hk0 : k = 0
        · subst hk0
          have hc0 : w.cell? ad = some (.int .i64 a) := by rw [add_nil] at hc; exact hc
          have Hr2 := hid Hr.out
          as_aux_lemma =>
           go_wp2_with (
            first
            | (
             at_builtin
             refine wpList_append_lies _ rfl _ _ 22 rfl w.heap.size 3 i1 _ 1 8 Tryz.underlying22 Hi.out Hz0.out Hz1.out Hz2.out rfl (by decide) _ 0 [] rfl (HO.out.alloc _) ⟨w.heap.size + 1, 0, none⟩ 1 1 [Value.int .i64 v] rfl rfl (int_new1 w (.cells #[] 3) v 3) (one_int1 _) (by omega) (by unfold maxLen; omega) (by omega) (by rw [World.size_alloc]; have := (HB1.out).size; omega) _ rfl ?_
             intro g5 cap5 w5 hown5 hgr5 hat5 hlt5
             try rw [Nat.zero_add] at hown5
             try rw [List.nil_append] at hown5
             have HB5 := hid (own_step ((HB1.out).alloc (HB1.out).size (.cells #[Value.int .i64 v] 3)) (HO.out.alloc _) hgr5)
             have H5 := hid hown5
             have hcp5 := own_capn hown5
             clear hown5 hgr5 hat5 hlt5)
            | (
             at_builtin
             refine wpList_append_lies _ rfl _ _ 22 rfl w.heap.size 3 i1 _ 1 8 Tryz.underlying22 Hi.out Hz0.out Hz1.out Hz2.out rfl (by decide) _ 1 [Value.int .i64 v] rfl H5.out ad n c (ints l) rfl (by unfold ints; rw [List.length_map, HL.out]; omega) (Hal.out _ HB5.out) (one_ints _) (by omega) (by unfold maxLen; omega) (by omega) (HB5.out).size _ rfl ?_
             intro g7 cap7 w7 hown7 hgr7 hat7 hlt7
             try rw [Nat.zero_add] at hown7
             try rw [List.nil_append] at hown7
             have HB7 := hid (own_step (HB5.out) H5.out hgr7)
             have H7 := hid hown7
             clear hown7 hgr7 hat7 hlt7))
           go_ret
           exact RetIR.own Hex.out (by rw [Hr.out]; have := H7.out; simpa [ints] using this) (by rw [Hr.out]; have := Hlen.out; omega) (by omega) HB7.out
        ·
         have Htk := hid (show (ints (l.take k)).length = k * 1 by unfold ints; rw [List.length_map, List.length_take, HL.out]; omega)
         have Htc := hid (fun (u : World) (hb : Below w.heap.size w u) (j : Nat) (z : Value) (hj : (ints (l.take k))[j]? = some z) => show u.cell? (ad.add j) = some z by
          refine Hal.out u hb j z ?_
          rw [ints_take, List.getElem?_take] at hj
          split at hj
          · exact hj
          · cases hj)
         as_aux_lemma =>
          go_wp2_with (
           first
           | (
            at_builtin
            refine wpList_append_lies _ rfl _ _ 22 rfl w.heap.size 3 i1 _ 1 8 Tryz.underlying22 Hi.out Hz0.out Hz1.out Hz2.out rfl (by decide) _ 0 [] rfl HO.out ad k c (ints (l.take k)) rfl Htk.out (Htc.out _ HB1.out) (one_ints _) (by omega) (by unfold maxLen; omega) (by omega) (HB1.out).size _ rfl ?_
            intro g3 cap3 w3 hown3 hgr3 hat3 hlt3
            try rw [Nat.zero_add] at hown3
            try rw [List.nil_append] at hown3
            have HB3 := hid (own_step (HB1.out) HO.out hgr3)
            have H3 := hid hown3
            clear hown3 hgr3 hat3 hlt3
            clear HO)
           | (
            at_builtin
            refine wpList_append_lies _ rfl _ _ 22 rfl w.heap.size 3 i1 _ 1 8 Tryz.underlying22 Hi.out Hz0.out Hz1.out Hz2.out rfl (by decide) _ k (ints (l.take k)) rfl (H3.out.alloc _) ⟨(w3).heap.size, 0, none⟩ 1 1 [Value.int .i64 v] rfl rfl (int_new (w3) v 3) (one_int1 _) (by omega) (by unfold maxLen; omega) (by omega) (by rw [World.size_alloc]; have := (HB3.out).size; omega) _ rfl ?_
            intro g5 cap5 w5 hown5 hgr5 hat5 hlt5
            try rw [Nat.zero_add] at hown5
            try rw [List.nil_append] at hown5
            have HB5 := hid (own_step ((HB3.out).alloc (HB3.out).size (.cells #[Value.int .i64 v] 3)) (H3.out.alloc _) hgr5)
            have H5 := hid hown5
            have hcp5 := own_capn hown5
            clear hown5 hgr5 hat5 hlt5
            clear H3)
           | (
            at_builtin
            refine wpList_append_lies _ rfl _ _ 22 rfl w.heap.size 3 i1 _ 1 8 Tryz.underlying22 Hi.out Hz0.out Hz1.out Hz2.out rfl (by decide) _ (k + 1) (ints (l.take k) ++ [Value.int .i64 v]) rfl H5.out (ad.add k) (n - k) (c - k) (ints (l.drop k)) rfl Hdl.out (Hdc.out _ HB5.out) (one_ints _) (by omega) (by unfold maxLen; omega) (by omega) (HB5.out).size _ rfl ?_
            intro g7 cap7 w7 hown7 hgr7 hat7 hlt7
            try rw [Nat.zero_add] at hown7
            try rw [List.nil_append] at hown7
            have HB7 := hid (own_step (HB5.out) H5.out hgr7)
            have H7 := hid hown7
            clear hown7 hgr7 hat7 hlt7))
          go_ret
          exact RetIR.own Hex.out (by rw [Hr.out]; have := H7.out; simpa [ints] using this) (by rw [Hr.out]; have := Hlen.out; omega) (by omega) HB7.out
  · obtain rfl : k = n := by omega
    have Hr := hid (insI_end (l := l) (n := v) (by have := hP.out; rw [List.take_of_length_le (by rw [HL.out]; omega)] at this; exact this))
    have Hlen := hid (show (l ++ [v]).length = k + 1 by rw [List.length_append, HL.out]; rfl)
    have Hex2 := Hex
    by_cases h0 : k = 0
    · subst h0
      have Hl0 := hid (show l = [] from List.length_eq_zero_iff.1 HL.out)
      rcases A with _ | ad
      all_goals
       by_cases hc0 : c = 0
       · as_aux_lemma =>
          subst hc0
          go_wp2_with (
           first
           | (
            at_builtin
            refine wpList_append_lies _ rfl _ _ 22 rfl w.heap.size 3 i1 _ 1 8 Tryz.underlying22 Hi.out Hz0.out Hz1.out Hz2.out rfl (by decide) _ 0 [] rfl (HO.out.alloc _) ⟨w.heap.size + 1, 0, none⟩ 1 1 [Value.int .i64 v] rfl rfl (int_new1 w (.cells #[] 3) v 3) (one_int1 _) (by omega) (by unfold maxLen; omega) (by omega) (by rw [World.size_alloc]; have := (HB1.out).size; omega) _ rfl ?_
            intro g5 cap5 w5 hown5 hgr5 hat5 hlt5
            try rw [Nat.zero_add] at hown5
            try rw [List.nil_append] at hown5
            have HB5 := hid (own_step ((HB1.out).alloc (HB1.out).size (.cells #[Value.int .i64 v] 3)) (HO.out.alloc _) hgr5)
            have H5 := hid hown5
            have hcp5 := own_capn hown5
            clear hown5 hgr5 hat5 hlt5))
          go_ret
          exact RetIR.own Hex.out (by rw [Hr.out, Hl0.out]; have := H5.out; simpa [ints] using this) (by rw [Hr.out, Hl0.out]; rfl) (by omega) HB5.out
       · as_aux_lemma =>
          have hcp : 0 < c := by omega
          go_wp2_with (
           first
           | (
            at_builtin
            refine wpList_append_lies _ rfl _ _ 22 rfl w.heap.size 3 i1 _ 1 8 Tryz.underlying22 Hi.out Hz0.out Hz1.out Hz2.out rfl (by decide) _ 0 [] rfl (HO.out.alloc _) ⟨w.heap.size + 1, 0, none⟩ 1 1 [Value.int .i64 v] rfl rfl (int_new1 w (.cells #[] 3) v 3) (one_int1 _) (by omega) (by unfold maxLen; omega) (by omega) (by rw [World.size_alloc]; have := (HB1.out).size; omega) _ rfl ?_
            intro g5 cap5 w5 hown5 hgr5 hat5 hlt5
            try rw [Nat.zero_add] at hown5
            try rw [List.nil_append] at hown5
            have HB5 := hid (own_step ((HB1.out).alloc (HB1.out).size (.cells #[Value.int .i64 v] 3)) (HO.out.alloc _) hgr5)
            have H5 := hid hown5
            have hcp5 := own_capn hown5
            clear hown5 hgr5 hat5 hlt5))
          go_ret
          exact RetIR.own Hex.out (by rw [Hr.out, Hl0.out]; have := H5.out; simpa [ints] using this) (by rw [Hr.out, Hl0.out]; rfl) (by omega) HB5.out
    · obtain ⟨ad, rfl, had, hc⟩ : ∃ ad, A = some ad ∧ Safe w ex ad.block ∧ ∀ j u, (ints l)[j]? = some u → w.cell? (ad.add j) = some u := by
       rcases HX.out.lies with h | h
       · have h := congrArg List.length h; simp [ints] at h; have := HL.out; rw [h] at this; simp at this; omega
       · exact h
      have Htk := hid (show (ints l).length = k * 1 by unfold ints; rw [List.length_map, HL.out]; omega)
      have Htc := hid (fun (u : World) (hb : Below w.heap.size w u) (j : Nat) (z : Value) (hj : (ints l)[j]? = some z) => show u.cell? (ad.add j) = some z from (hb.cell (p := ad.add j) (by rw [add_block]; exact had.1)).trans (hc j z hj))
      clear hc had
      by_cases hkc : k = c
      · as_aux_lemma =>
         subst hkc
         go_wp2_with (
          first
          | (
           at_builtin
           refine wpList_append_lies _ rfl _ _ 22 rfl w.heap.size 3 i1 _ 1 8 Tryz.underlying22 Hi.out Hz0.out Hz1.out Hz2.out rfl (by decide) _ 0 [] rfl HO.out ad k k (ints l) rfl Htk.out (Htc.out _ HB1.out) (one_ints _) (by omega) (by unfold maxLen; omega) (by omega) (HB1.out).size _ rfl ?_
           intro g3 cap3 w3 hown3 hgr3 hat3 hlt3
           try rw [Nat.zero_add] at hown3
           try rw [List.nil_append] at hown3
           have HB3 := hid (own_step (HB1.out) HO.out hgr3)
           have H3 := hid hown3
           clear hown3 hgr3 hat3 hlt3
           clear HO)
          | (
           at_builtin
           refine wpList_append_lies _ rfl _ _ 22 rfl w.heap.size 3 i1 _ 1 8 Tryz.underlying22 Hi.out Hz0.out Hz1.out Hz2.out rfl (by decide) _ k (ints l) rfl (H3.out.alloc _) ⟨(w3).heap.size, 0, none⟩ 1 1 [Value.int .i64 v] rfl rfl (int_new (w3) v 3) (one_int1 _) (by omega) (by unfold maxLen; omega) (by omega) (by rw [World.size_alloc]; have := (HB3.out).size; omega) _ rfl ?_
           intro g5 cap5 w5 hown5 hgr5 hat5 hlt5
           try rw [Nat.zero_add] at hown5
           try rw [List.nil_append] at hown5
           have HB5 := hid (own_step ((HB3.out).alloc (HB3.out).size (.cells #[Value.int .i64 v] 3)) (H3.out.alloc _) hgr5)
           have H5 := hid hown5
           have hcp5 := own_capn hown5
           clear hown5 hgr5 hat5 hlt5
           clear H3))
         go_ret
         exact RetIR.own Hex.out (by rw [Hr.out]; have := H5.out; simpa [ints] using this) (by rw [Hr.out]; have := Hlen.out; omega) (by omega) HB5.out
      · as_aux_lemma =>
         have hkc2 : k < c := by omega
         go_wp2_with (
          first
          | (
           at_builtin
           refine wpList_append_lies _ rfl _ _ 22 rfl w.heap.size 3 i1 _ 1 8 Tryz.underlying22 Hi.out Hz0.out Hz1.out Hz2.out rfl (by decide) _ 0 [] rfl HO.out ad k c (ints l) rfl Htk.out (Htc.out _ HB1.out) (one_ints _) (by omega) (by unfold maxLen; omega) (by omega) (HB1.out).size _ rfl ?_
           intro g3 cap3 w3 hown3 hgr3 hat3 hlt3
           try rw [Nat.zero_add] at hown3
           try rw [List.nil_append] at hown3
           have HB3 := hid (own_step (HB1.out) HO.out hgr3)
           have H3 := hid hown3
           clear hown3 hgr3 hat3 hlt3
           clear HO)
          | (
           at_builtin
           refine wpList_append_lies _ rfl _ _ 22 rfl w.heap.size 3 i1 _ 1 8 Tryz.underlying22 Hi.out Hz0.out Hz1.out Hz2.out rfl (by decide) _ k (ints l) rfl (H3.out.alloc _) ⟨(w3).heap.size, 0, none⟩ 1 1 [Value.int .i64 v] rfl rfl (int_new (w3) v 3) (one_int1 _) (by omega) (by unfold maxLen; omega) (by omega) (by rw [World.size_alloc]; have := (HB3.out).size; omega) _ rfl ?_
           intro g5 cap5 w5 hown5 hgr5 hat5 hlt5
           try rw [Nat.zero_add] at hown5
           try rw [List.nil_append] at hown5
           have HB5 := hid (own_step ((HB3.out).alloc (HB3.out).size (.cells #[Value.int .i64 v] 3)) (H3.out.alloc _) hgr5)
           have H5 := hid hown5
           have hcp5 := own_capn hown5
           clear hown5 hgr5 hat5 hlt5
           clear H3))
         go_ret
         exact RetIR.own Hex.out (by rw [Hr.out]; have := H5.out; simpa [ints] using this) (by rw [Hr.out]; have := Hlen.out; omega) (by omega) HB5.out
structure WLk (x : WB) (N : Nat) : Prop where
 n1 : 1 ≤ N
 ris : ∀ r ∈ x.I.l, RisP N (r.l.map AH.m)
 tt : tot (x.I.l.map fun r => r.l.map AH.m) ≤ 1024
theorem WLk.link {x : WB} {v N : Nat} {w : World} {ex : List (Option Nat)} (h : WLk x N) (ho : WOk x v N) (hx : WBok w ex x) : linkB (x.I.l.map fun r => r.l.map AH.m) = true := by
 unfold linkB
 rw [List.length_map, hx.i.len, ho.inn]
 simp only [Bool.and_eq_true, decide_eq_true_eq, List.all_eq_true]
 refine ⟨⟨⟨h.n1, ho.n256⟩, fun l hm => ?_⟩, h.tt⟩
 obtain ⟨r, hr, rfl⟩ := List.mem_map.1 hm
 exact risB_iff.2 (h.ris r hr)
def exV (gD : Nat) (Iv : Value) : List (Option Nat) := [some gD, Iv.ownBlock]
structure Vg (w0 : World) (x : WB) (N gD b0 : Nat) (Iv : Value) (done : List RH) (cur : List Int) (ivs : List Value) (u : World) : Prop where
 wx : Fb u w0.heap.size #[.int .i64 x.W, .slice x.B.A x.B.n x.B.c, .slice x.I.A x.I.n x.I.c] 67
 ix : Fb u gD ivs.toArray 22
 h2 : w0.heap.size < gD
 h4 : gD < b0
 bel : Below w0.heap.size w0 u
 oI : u.ownsRow b0 3 1 Iv cur.length (ints cur)
 eD : ∀ y ∈ done, RHok u (exV gD Iv) y
 i1 : ivs.length = N
 i2 : ∀ (j : Nat) (y : RH), done[j]? = some y → ivs[j]? = some y.v
 i3 : done.length < N → ivs[done.length]? = some Iv
 i4 : ∀ j, done.length < j → j < N → ivs[j]? = some (.slice none 0 0)
structure VgK (w0 w1 : World) (x : WB) (gD : Nat) (Iv : Value) (ivs : List Value) (ba : Nat) (ca : Array Value) (u : World) : Prop where
 gx : GrX w1 (exV gD Iv) u
 wx : Fb u w0.heap.size #[.int .i64 x.W, .slice x.B.A x.B.n x.B.c, .slice x.I.A x.I.n x.I.c] 67
 ix : Fb u gD ivs.toArray 22
 bel : Below w0.heap.size w0 u
 ab : Fb u ba ca 63
section
variable {w0 w1 u u' : World} {x : WB} {N gD b0 ba : Nat} {ca : Array Value} {Iv : Value} {done : List RH} {cur : List Int} {ivs : List Value}
theorem vfar {w : World} {v : Value} {ty k n b : Nat} {xs : List Value} (h : w.ownsRow b ty k v n xs) {j : Nat} (hj : j < b) : v.ownBlock = none ∨ v.ownBlock ≠ some j := by
 cases hv : v.ownBlock with
 | none => exact .inl rfl
 | some g => exact .inr fun e => by have := (h.lt g hv).1; have := Option.some.inj e; omega
theorem Vg.below (h : Vg w0 x N gD b0 Iv done cur ivs u) (hb : Below u.heap.size u u') : Vg w0 x N gD b0 Iv done cur ivs u' :=
 ⟨h.wx.below hb h.wx.lt, h.ix.below hb h.ix.lt, h.h2, h.h4, below_step h.bel hb, h.oI.kept (grown_of_below hb none) (by cases Iv.ownBlock <;> simp), fun y hy => (h.eD y hy).below hb, h.i1, h.i2, h.i3, h.i4⟩
theorem Vg.k (h : Vg w0 x N gD b0 Iv done cur ivs w1) (hb : Fb w1 ba ca 63) : VgK w0 w1 x gD Iv ivs ba ca w1 := ⟨GrX.refl _ _, h.wx, h.ix, h.bel, hb⟩
theorem VgK.below (h : VgK w0 w1 x gD Iv ivs ba ca u) (hb : Below u.heap.size u u') : VgK w0 w1 x gD Iv ivs ba ca u' := ⟨h.gx.below hb, h.wx.below hb h.wx.lt, h.ix.below hb h.ix.lt, below_step h.bel hb, h.ab.below hb h.ab.lt⟩
theorem VgK.app {n : Nat} {xs : List Value} (h : VgK w0 w1 x gD Iv ivs ba ca u) (hs : Vg w0 x N gD b0 Iv done cur ivs w1) (ho : u.ownsRow b0 3 1 Iv n xs) (hg : u.grownBy u' Iv.ownBlock) : VgK w0 w1 x gD Iv ivs ba ca u' := by
 have h2 := hs.h2; have h4 := hs.h4
 have far : ∀ j, j < b0 → some j ≠ Iv.ownBlock := fun j hj e => by have := (ho.lt j e.symm).1; omega
 exact ⟨h.gx.step hg (fun g e => .inl (by simp [exV])), h.wx.grown hg (far _ (by omega)), h.ix.grown hg (far _ (by omega)), h.bel.grown hg h.bel.size (fun k hk => by have := (ho.lt k hk).1; omega),
  h.ab.grown hg (fun e => (h.ab.typ.ne (own_typ ho e.symm) (by decide)) rfl)⟩
theorem VgK.push (h : VgK w0 w1 x gD Iv ivs ba ca u) (hs : Vg w0 x N gD b0 Iv done cur ivs w1) (hk : done.length < N) {g q : Nat} {m : Int}
 (o : u.ownsRow b0 3 1 (.slice (some ⟨g, 0, none⟩) (cur.length + 1) q) (cur.length + 1) (ints cur ++ [.int .i64 m])) (hn : Iv.ownBlock = some g ∨ w1.heap.size ≤ g) :
 Vg w0 x N gD b0 (.slice (some ⟨g, 0, none⟩) (cur.length + 1) q) done (cur ++ [m]) (ivs.set done.length (.slice (some ⟨g, 0, none⟩) (cur.length + 1) q)) (u.setCell ⟨gD, done.length, none⟩ (.slice (some ⟨g, 0, none⟩) (cur.length + 1) q)) := by
 have h2 := hs.h2; have h4 := hs.h4
 generalize hv : Value.slice (some ⟨g, 0, none⟩) (cur.length + 1) q = Iv' at *
 have kB : Iv'.ownBlock = some g := by rw [← hv]; rfl
 have hG1 : Go2 w1 (exV gD Iv) u (exV gD Iv') := h.gx.go fun k hk hm => by
  simp only [exV, List.mem_cons, List.not_mem_nil, or_false, kB, Option.some.injEq] at hm ⊢
  rcases hm with e | e
  · exact .inl e
  · subst e
    rcases hn with n | n
    · exact .inr n.symm
    · omega
 have hS := setCell_grown u ⟨gD, done.length, none⟩ Iv'
 have hG := hG1.trans (Go2.same (ex := exV gD Iv') hS (.inr (by simp [exV])))
 have hix := h.ix.set done.length Iv'
 rw [List.setIfInBounds_toArray] at hix
 refine ⟨h.wx.far (by show w0.heap.size ≠ gD; omega) _, hix, h2, h4, h.bel.setCell (by show w0.heap.size ≤ gD; omega) _, ?_, fun y hy => (hs.eD y hy).go hG, by rw [List.length_set]; exact hs.i1, fun j y hj => ?_, fun _ => ?_, fun j hj hjN => ?_⟩
 · have o2 := o.kept hS (vfar o (by show gD < b0; omega))
   rw [List.length_append]
   have e : ints (cur ++ [m]) = ints cur ++ [.int .i64 m] := by simp [ints]
   rw [e]; exact o2
 · have := (List.getElem?_eq_some_iff.1 hj).1
   rw [List.getElem?_set_ne (by omega)]; exact hs.i2 j y hj
 · rw [List.getElem?_set_self (by rw [hs.i1]; exact hk)]
 · rw [List.getElem?_set_ne (by omega)]; exact hs.i4 j hj hjN
theorem Vg.next {A : Option Addr} {c : Nat} (h : Vg w0 x N gD b0 (.slice A cur.length c) done cur ivs u) (hl : cur.length ≤ 100000) (hk : done.length < N) :
 Vg w0 x N gD b0 (.slice none 0 0) (done ++ [⟨A, cur.length, c, cur⟩]) [] ivs u := by
 have h2 := h.h2; have h4 := h.h4
 have hG : Go2 u (exV gD (.slice A cur.length c)) u (exV gD (.slice none 0 0)) := Go2.less _ fun k hk => by
  simp only [exV, List.mem_cons, Value.ownBlock, reduceCtorEq, List.not_mem_nil, or_false] at hk ⊢
  exact .inl hk
 refine ⟨h.wx, h.ix, h2, h4, h.bel, World.ownsRow_nil _ _ _ _, ?_, h.i1, fun j y hj => ?_, fun hj => ?_, fun j hj hjN => ?_⟩
 · intro y hy
   rcases List.mem_append.1 hy with hy | hy
   · exact (h.eD y hy).go hG
   · rw [List.mem_singleton.1 hy]
     refine ⟨EAt.own h.oI fun g hg hm => ?_, rfl, by show cur.length ≤ _; omega⟩
     have hgb := (h.oI.lt g hg).1
     simp only [exV, List.mem_cons, Option.some.injEq, Value.ownBlock, reduceCtorEq, List.not_mem_nil, or_false] at hm
     omega
 · rcases Nat.lt_or_ge j done.length with hlt | hge
   · rw [List.getElem?_append_left hlt] at hj; exact h.i2 j y hj
   · rw [List.getElem?_append_right hge] at hj
     have e : j = done.length := by
      have := (List.getElem?_eq_some_iff.1 hj).1
      simp at this; omega
     subst e
     simp at hj
     subst hj
     exact h.i3 hk
 · rw [List.length_append] at hj ⊢
   exact h.i4 _ (by simp) hj
 · rw [List.length_append] at hj
   exact h.i4 j (by simp at hj; omega) hjN
theorem Vg.lh (h : Vg w0 x N gD b0 Iv done cur ivs u) (hN : done.length = N) (hn : N ≤ 100000) : LHok u [] ⟨some ⟨gD, 0, none⟩, N, N, done⟩ := by
 refine ⟨EAt.fb h.ix (by simp) (fun j z hz => ?_), hN, by show N ≤ _; omega, fun y hy => (h.eD y hy).go (Go2.less _ fun k hk => by cases hk)⟩
 rw [List.getElem?_map] at hz
 cases hy : done[j]? with
 | none => rw [hy] at hz; cases hz
 | some y =>
   rw [hy] at hz
   rw [List.getElem?_toArray, h.i2 j y hy]
   exact hz
end
def vaF (w1 : World) (gD b0 N : Nat) (Iv : Value) (cur : List Int) (k ba : Nat) (m : Int) : Nat → Value → World → Prop
 | 0, v, _ => v = .slice (some ⟨gD, 0, none⟩) N N
 | 1, v, _ => v = .int .i64 k
 | 2, v, _ => v = .slice (some ⟨gD, 0, none⟩) N N
 | 3, v, _ => v = .int .i64 k
 | 4, v, _ => v = .pointer (some ⟨gD, k, none⟩)
 | 5, v, _ => v = Iv
 | 6, v, _ => v = .pointer (some ⟨ba, 0, none⟩)
 | 7, v, _ => v = .int .i64 m
 | 8, v, u => ∃ g, v = .slice (some ⟨g, 0, none⟩) 1 1 ∧ Fb u g #[.int .i64 m] 3
 | 9, v, u => ∃ g q, v = .slice (some ⟨g, 0, none⟩) (cur.length + 1) q ∧ u.ownsRow b0 3 1 (.slice (some ⟨g, 0, none⟩) (cur.length + 1) q) (cur.length + 1) (ints cur ++ [.int .i64 m]) ∧ (Iv.ownBlock = some g ∨ w1.heap.size ≤ g)
 | _, _, _ => True
def vaU : Nat → Option Nat
 | 8 => some 9
 | _ => none
def vaR (Iv : Value) (j : Nat) (u u' : World) : Prop := ∃ row, u.grownBy u' row ∧ (row = none ∨ (j = 9 ∧ row = Iv.ownBlock))
theorem vaR.below {Iv : Value} {j : Nat} {u u' : World} (h : Below u.heap.size u u') : vaR Iv j u u' := ⟨none, grown_of_below h _, .inl rfl⟩
theorem vaR.refl (Iv : Value) (j : Nat) (u : World) : vaR Iv j u u := vaR.below (Below.refl _ _)
theorem vaF_st {w1 : World} {gD b0 N : Nat} {Iv : Value} {cur : List Int} {k ba : Nat} {m : Int} (j : Nat) (u u' : World) (i : Nat) (v : Value) (hR : vaR Iv j u u') (hne : i ≠ j) (hu : vaU i ≠ some j) (h : vaF w1 gD b0 N Iv cur k ba m i v u) : vaF w1 gD b0 N Iv cur k ba m i v u' := by
 obtain ⟨row, hg, hr⟩ := hR
 have hN : j ≠ 9 → row = none := fun h9 => by rcases hr with e | ⟨e, _⟩; exact e; exact absurd e h9
 match i, hne, hu, h with
 | 0, _, _, h => exact h
 | 1, _, _, h => exact h
 | 2, _, _, h => exact h
 | 3, _, _, h => exact h
 | 4, _, _, h => exact h
 | 5, _, _, h => exact h
 | 6, _, _, h => exact h
 | 7, _, _, h => exact h
 | 8, _, hu, h =>
   obtain ⟨g, h1, h2⟩ := h
   have := hN fun e => hu (by rw [e]; rfl)
   subst this
   exact ⟨g, h1, h2.grown hg (by simp)⟩
 | 9, hne, _, h =>
   obtain ⟨g, q, h1, h2, h3⟩ := h
   have := hN hne.symm
   subst this
   exact ⟨g, q, h1, h2.kept hg (.inr (by simp [Value.ownBlock])), h3⟩
 | i + 10, _, _, h => trivial
def vaG (b0 : Nat) (Iv : Value) (cur : List Int) : Nat → World → Prop
 | 9, u => u.ownsRow b0 3 1 Iv cur.length (ints cur)
 | _, _ => True
theorem vaG_st {b0 : Nat} {Iv : Value} {cur : List Int} (j : Nat) (u u' : World) (c : Nat) (hR : vaR Iv j u u') (hne : c ≠ j) (h : vaG b0 Iv cur c u) : vaG b0 Iv cur c u' := by
 by_cases h9 : c = 9
 · subst h9
   obtain ⟨row, hg, hr⟩ := hR
   have : row = none := by rcases hr with e | ⟨e, _⟩; exact e; exact absurd e.symm hne
   subst this
   exact (show u.ownsRow _ _ _ _ _ _ from h).kept hg (by cases Iv.ownBlock <;> simp)
 · unfold vaG; split <;> first | omega | trivial
theorem infoRow : (Tryz.prog.info? 22).map (fun i => (i.zero, i.size, i.bytes)) = some (some (.slice none 0 0), 1, 24) := by kernel_rfl
theorem run_mkints (n : Nat) (hn : n ≤ 100000) (w : World) :
 (Instr.makeSlice 23 (.int .i64 (n : Int)) (.int .i64 (n : Int))).run Tryz.prog w = .ok (.slice (some ⟨w.heap.size, 0, none⟩) n n) (w.alloc (.cells (List.replicate n (Value.slice none 0 0)).toArray 22)) := by
 obtain ⟨i, hi, hz0, hz1, hz2⟩ := info_parts infoRow
 have h := run_make (P := Tryz.prog) w 23 22 i (.slice none 0 0) Tryz.underlying23 hi hz0 .i64 .i64 n n (by omega) (by omega) (by rw [hz2]; omega) (by omega)
 rw [h, hz1]
 simp only [Int.toNat_natCast, Nat.mul_one]
 have e2 : madeCells (Value.slice none 0 0).cells n = (List.replicate n (Value.slice none 0 0)).toArray := by
  rw [show (Value.slice none 0 0).cells = #[Value.slice none 0 0] from rfl]
  unfold madeCells
  apply Array.ext
  · simp
  · intro j h1 h2
    simp [Nat.mod_one]
 rw [e2]
structure FWt (u : World) (v : Nat) (f : FH) : Prop where
 ok : FOk v f
 t : FArgT u f.G.A f.G.n f.K.A f.K.n f.C f.k f.G.ws f.K.ws f.cs
theorem FWt.stp {t v : Nat} {u u' : World} {f : FH} (h : FWt u v f) (hs : Stp1 t u u') (h1 : 106 ≠ t) (h2 : 58 ≠ t) : FWt u' v f := ⟨h.ok, h.t.stp hs h1 h2⟩
theorem FWt.below {v : Nat} {u u' : World} {f : FH} (h : FWt u v f) (hb : Below u.heap.size u u') : FWt u' v f := ⟨h.ok, h.t.below hb⟩
structure ZWt (u : World) (v : Nat) (z : ZH) : Prop where
 w : z.W = v
 fit : Bs.Fit v z.ws
 t : ArgT u z.A z.n z.ws
theorem ZWt.stp {t v : Nat} {u u' : World} {z : ZH} (h : ZWt u v z) (hs : Stp1 t u u') (h1 : 106 ≠ t) : ZWt u' v z := ⟨h.w, h.fit, h.t.stp hs h1⟩
theorem ZWt.below {v : Nat} {u u' : World} {z : ZH} (h : ZWt u v z) (hb : Below u.heap.size u u') : ZWt u' v z := ⟨h.w, h.fit, h.t.below hb⟩
structure RowA (b : Nat) (u : World) (v N : Nat) (r : AL) : Prop where
 own : u.ownsRow b 63 6 r.v r.n (r.l.flatMap AH.cells)
 arcs : ∀ a ∈ r.l, FWt u v a.f
 ris : RisP N (r.l.map AH.m)
section
variable {b v N : Nat} {u u' : World} {r : AL}
theorem RowA.len (h : RowA b u v N r) : r.l.length = r.n := by
 have h1 := h.own.1
 rw [flat_len AH.cells_len] at h1
 omega
theorem RowA.few (h : RowA b u v N r) : r.n ≤ N := by
 have := ris_len h.ris
 rw [List.length_map, h.len] at this
 exact this
theorem RowA.stp {t : Nat} (h : RowA b u v N r) (hs : Stp1 t u u') (h1 : 106 ≠ t) (h2 : 58 ≠ t) (h3 : 63 ≠ t) : RowA b u' v N r := ⟨hs.own h.own h3, fun a ha => (h.arcs a ha).stp hs h1 h2, h.ris⟩
theorem RowA.below (h : RowA b u v N r) (hb : Below u.heap.size u u') : RowA b u' v N r := h.stp (Stp1.below (t := 0) hb) (by decide) (by decide) (by decide)
theorem RowA.at (h : RowA b u v N r) {i : Nat} {a : AH} (hi : r.l[i]? = some a) : ∃ g, r.A = some ⟨g, 0, none⟩ ∧ b ≤ g ∧ g < u.heap.size ∧ Typ u g 63 ∧ (∀ j, j < 6 → u.cell? ⟨g, i * 6 + j, none⟩ = (a.cells)[j]?) ∧ (∀ j, u.frozen? ⟨g, j, none⟩ = false) := by
 have hl := (List.getElem?_eq_some_iff.1 hi).1
 rcases h.own.2 with ⟨e, e2⟩ | ⟨g, cap, cur, e, hg, hc, h1, h2, h3, h4⟩
 · have := h.len; omega
 · unfold AL.v at e
   injection e with e1 e2 e3
   have hbk : r.v.ownBlock = some g := by unfold AL.v; rw [e1]; rfl
   refine ⟨g, e1, hg, (h.own.lt g hbk).2, own_typ h.own hbk, fun j hj => ?_, fun j => by simp [World.frozen?, hc]⟩
   have hx := flat_cell AH.cells_len hi hj
   have hs : (a.cells)[j]? = some ((a.cells)[j]'(by rw [AH.cells_len]; exact hj)) := List.getElem?_eq_getElem _
   rw [hs] at hx
   have := h.own.cells hbk _ _ hx
   rw [add_of] at this
   rw [this, hs]
end
structure Ow (w0 : World) (v N gB gI : Nat) (B : List ZH) (M : List Value) (J : List AL) (u : World) : Prop where
 bel : Below w0.heap.size w0 u
 gb : w0.heap.size ≤ gB
 gi : w0.heap.size ≤ gI
 fb : Fb u gB (B.flatMap ZH.cs).toArray 49
 fi : Fb u gI M.toArray 64
 bl : B.length = N
 ml : M.length = N
 jl : J.length = N
 bt : ∀ z ∈ B, ZWt u v z
 rt : ∀ r ∈ J, RowA w0.heap.size u v N r
 ap : ∀ (j k : Nat) (x y : AL) (g : Nat), J[j]? = some x → J[k]? = some y → x.v.ownBlock = some g → y.v.ownBlock = some g → j = k
section
variable {w0 u u' : World} {v N gB gI : Nat} {B : List ZH} {M : List Value} {J : List AL}
theorem Ow.below (h : Ow w0 v N gB gI B M J u) (hb : Below u.heap.size u u') : Ow w0 v N gB gI B M J u' :=
 ⟨below_step h.bel hb, h.gb, h.gi, h.fb.below hb h.fb.lt, h.fi.below hb h.fi.lt, h.bl, h.ml, h.jl, fun z hz => (h.bt z hz).below hb, fun r hr => (h.rt r hr).below hb, h.ap⟩
theorem below_set {g j : Nat} (h : Below w0.heap.size w0 u) (hg : w0.heap.size ≤ g) (x : Value) : Below w0.heap.size w0 (u.setCell ⟨g, j, none⟩ x) := h.setCell (by exact hg) x
theorem Ow.setM (h : Ow w0 v N gB gI B M J u) {k : Nat} (hk : k < N) (x : Value) : Ow w0 v N gB gI B (M.set k x) J (u.setCell ⟨gI, k, none⟩ x) := by
 have hs := stp_cell h.fi k x
 have hfi := h.fi.set k x
 rw [List.setIfInBounds_toArray] at hfi
 exact ⟨below_set h.bel h.gi x, h.gb, h.gi, hs.fb h.fb (by decide), hfi, h.bl, by rw [List.length_set]; exact h.ml, h.jl, fun z hz => (h.bt z hz).stp hs (by decide), fun r hr => (h.rt r hr).stp hs (by decide) (by decide) (by decide), h.ap⟩
theorem Ow.cellM (h : Ow w0 v N gB gI B M J u) {k : Nat} {x : Value} (hk : M[k]? = some x) : u.cell? ⟨gI, k, none⟩ = some x := by rw [h.fi.cell]; simpa using hk
theorem Ow.cellB (h : Ow w0 v N gB gI B M J u) {k : Nat} {z : ZH} (hk : B[k]? = some z) : u.cell? ⟨gB, k * 2, none⟩ = some (.int .i64 z.W) ∧ u.cell? ⟨gB, k * 2 + 1, none⟩ = some (.slice z.A z.n z.c) := by
 have h0 := flat_cell ZH.cs_len hk (j := 0) (by decide)
 have h1 := flat_cell ZH.cs_len hk (j := 1) (by decide)
 rw [Nat.add_zero] at h0
 constructor
 · rw [h.fb.cell]; simpa [ZH.cs] using h0
 · rw [h.fb.cell]; simpa [ZH.cs] using h1
theorem flat_put {B : List ZH} {k : Nat} (hk : k < B.length) (z : ZH) : ((B.flatMap ZH.cs).set (k * 2) (.int .i64 z.W)).set (k * 2 + 1) (.slice z.A z.n z.c) = (B.set k z).flatMap ZH.cs := by
 apply List.ext_getElem?
 intro j
 have hl := flat_len ZH.cs_len B
 have hl2 := flat_len ZH.cs_len (B.set k z)
 rw [List.length_set] at hl2
 by_cases hj : j < B.length * 2
 · have hi : j / 2 < B.length := by omega
   have hB : B[j / 2]? = some (B[j / 2]'hi) := List.getElem?_eq_getElem _
   have h4 : j % 2 < 2 := Nat.mod_lt _ (by decide)
   have e : j / 2 * 2 + j % 2 = j := by omega
   have hc := flat_cell ZH.cs_len hB h4
   rw [e] at hc
   by_cases hjk : j / 2 = k
   · have hB2 : (B.set k z)[j / 2]? = some z := by rw [hjk, List.getElem?_set_self hk]
     have hc2 := flat_cell ZH.cs_len hB2 h4
     rw [e] at hc2
     rw [hc2]
     by_cases h0 : j % 2 = 0
     · have ej : j = k * 2 := by omega
       rw [h0, ej, List.getElem?_set_ne (by omega), List.getElem?_set_self (by omega)]; rfl
     · have h1 : j % 2 = 1 := by omega
       have ej : j = k * 2 + 1 := by omega
       rw [h1, ej, List.getElem?_set_self (by rw [List.length_set]; omega)]; rfl
   · have hB2 : (B.set k z)[j / 2]? = some (B[j / 2]'hi) := by rw [List.getElem?_set_ne (fun e => hjk e.symm)]; exact hB
     have hc2 := flat_cell ZH.cs_len hB2 h4
     rw [e] at hc2
     rw [hc2, List.getElem?_set_ne (by omega), List.getElem?_set_ne (by omega), hc]
 · rw [List.getElem?_eq_none (by simp only [List.length_set]; omega), List.getElem?_eq_none (by rw [hl2]; omega)]
theorem Ow.setB (h : Ow w0 v N gB gI B M J u) {k : Nat} (hk : k < N) {z : ZH} (hz : ZWt u v z) : Ow w0 v N gB gI (B.set k z) M J ((u.setCell ⟨gB, k * 2, none⟩ (.int .i64 z.W)).setCell ⟨gB, k * 2 + 1, none⟩ (.slice z.A z.n z.c)) := by
 have s1 := stp_cell h.fb (k * 2) (.int .i64 z.W)
 have f1 := h.fb.set (k * 2) (.int .i64 z.W)
 have s2 := stp_cell f1 (k * 2 + 1) (.slice z.A z.n z.c)
 have f2 := f1.set (k * 2 + 1) (.slice z.A z.n z.c)
 rw [List.setIfInBounds_toArray, List.setIfInBounds_toArray, flat_put (by rw [h.bl]; exact hk)] at f2
 refine ⟨below_set (below_set h.bel h.gb _) h.gb _, h.gb, h.gi, f2, s2.fb (s1.fb h.fi (by decide)) (by decide), by rw [List.length_set]; exact h.bl, h.ml, h.jl, fun y hy => ?_, fun r hr => ((h.rt r hr).stp s1 (by decide) (by decide) (by decide)).stp s2 (by decide) (by decide) (by decide), h.ap⟩
 rcases List.mem_or_eq_of_mem_set hy with h1 | rfl
 · exact ((h.bt y h1).stp s1 (by decide)).stp s2 (by decide)
 · exact (hz.stp s1 (by decide)).stp s2 (by decide)
theorem Ow.row (h : Ow w0 v N gB gI B M J u) {t : Nat} {r r' : AL} (ht : J[t]? = some r) (hg : u.grownBy u' r.v.ownBlock) (hr : RowA w0.heap.size u' v N r') (hn : ∀ g, r'.v.ownBlock = some g → r.v.ownBlock = some g ∨ u.heap.size ≤ g) :
 Ow w0 v N gB gI B M (J.set t r') u' := by
 have hra := h.rt r (List.mem_of_getElem? ht)
 have hs : Stp1 63 u u' := ⟨_, hg, fun g e => own_typ hra.own e⟩
 have htl : t < J.length := (List.getElem?_eq_some_iff.1 ht).1
 refine ⟨h.bel.grown hg h.bel.size (fun g e => (hra.own.lt g e).1), h.gb, h.gi, hs.fb h.fb (by decide), hs.fb h.fi (by decide), h.bl, h.ml, by rw [List.length_set]; exact h.jl, fun z hz => (h.bt z hz).stp hs (by decide), fun y hy => ?_, fun j k x y g hj hk hx hy => ?_⟩
 · obtain ⟨j, hj⟩ := List.mem_iff_getElem?.1 hy
   by_cases e : j = t
   · subst e
     rw [List.getElem?_set_self htl] at hj
     obtain rfl := Option.some.inj hj
     exact hr
   · rw [List.getElem?_set_ne (fun e' => e e'.symm)] at hj
     have hy := h.rt y (List.mem_of_getElem? hj)
     refine ⟨hy.own.kept hg ?_, fun a ha => (hy.arcs a ha).stp hs (by decide) (by decide), hy.ris⟩
     cases hb : y.v.ownBlock with
     | none => exact .inl rfl
     | some g => exact .inr fun e2 => e (h.ap j t y r g hj ht hb e2.symm)
 · by_cases e : j = t <;> by_cases e2 : k = t
   · omega
   · subst e
     rw [List.getElem?_set_self htl] at hj
     obtain rfl := Option.some.inj hj
     rw [List.getElem?_set_ne (fun e' => e2 e'.symm)] at hk
     rcases hn g hx with h1 | h1
     · exact h.ap j k r y g ht hk h1 hy
     · have := ((h.rt y (List.mem_of_getElem? hk)).own.lt g hy).2; omega
   · subst e2
     rw [List.getElem?_set_self htl] at hk
     obtain rfl := Option.some.inj hk
     rw [List.getElem?_set_ne (fun e' => e e'.symm)] at hj
     rcases hn g hy with h1 | h1
     · exact h.ap j k x r g hj ht hx h1
     · have := ((h.rt x (List.mem_of_getElem? hj)).own.lt g hx).2; omega
   · rw [List.getElem?_set_ne (fun e' => e e'.symm)] at hj
     rw [List.getElem?_set_ne (fun e' => e2 e'.symm)] at hk
     exact h.ap j k x y g hj hk hx hy
end
def arcSet (a : AH) (f : FH) : AH := ⟨a.m, f⟩
theorem flat_putF {l : List AH} {i : Nat} {a : AH} {f : FH} (hi : l[i]? = some a) : (((((l.flatMap AH.cells).set (i * 6 + 1) (.int .i64 f.G.W)).set (i * 6 + 2) (.slice f.G.A f.G.n f.G.c)).set (i * 6 + 3) (.int .i64 f.K.W)).set (i * 6 + 4) (.slice f.K.A f.K.n f.K.c)).set (i * 6 + 5) (.slice f.C f.k f.q) = (l.set i (arcSet a f)).flatMap AH.cells := by
 have hil := (List.getElem?_eq_some_iff.1 hi).1
 apply List.ext_getElem?
 intro j
 have hl := flat_len AH.cells_len l
 have hl2 := flat_len AH.cells_len (l.set i (arcSet a f))
 rw [List.length_set] at hl2
 by_cases hj : j < l.length * 6
 · have hd : j / 6 < l.length := by omega
   obtain ⟨y, hB⟩ : ∃ y, l[j / 6]? = some y := ⟨_, List.getElem?_eq_getElem hd⟩
   have h4 : j % 6 < 6 := Nat.mod_lt _ (by decide)
   have e : j / 6 * 6 + j % 6 = j := by omega
   have hc := flat_cell AH.cells_len hB h4
   rw [e] at hc
   by_cases hji : j / 6 = i
   · have hB2 : (l.set i (arcSet a f))[j / 6]? = some (arcSet a f) := by rw [hji, List.getElem?_set_self hil]
     have hc2 := flat_cell AH.cells_len hB2 h4
     rw [e] at hc2
     rw [hc2]
     have hla : a = y := by
      rw [hji, hi] at hB; exact Option.some.inj hB
     subst hla
     generalize hm : j % 6 = m at *
     match m, h4 with
     | 0, _ => rw [List.getElem?_set_ne (by omega), List.getElem?_set_ne (by omega), List.getElem?_set_ne (by omega), List.getElem?_set_ne (by omega), List.getElem?_set_ne (by omega), hc]; rfl
     | 1, _ => rw [List.getElem?_set_ne (by omega), List.getElem?_set_ne (by omega), List.getElem?_set_ne (by omega), List.getElem?_set_ne (by omega), show j = i * 6 + 1 by omega, List.getElem?_set_self (by first | omega | (simp only [List.length_set]; omega))]; rfl
     | 2, _ => rw [List.getElem?_set_ne (by omega), List.getElem?_set_ne (by omega), List.getElem?_set_ne (by omega), show j = i * 6 + 2 by omega, List.getElem?_set_self (by first | omega | (simp only [List.length_set]; omega))]; rfl
     | 3, _ => rw [List.getElem?_set_ne (by omega), List.getElem?_set_ne (by omega), show j = i * 6 + 3 by omega, List.getElem?_set_self (by first | omega | (simp only [List.length_set]; omega))]; rfl
     | 4, _ => rw [List.getElem?_set_ne (by omega), show j = i * 6 + 4 by omega, List.getElem?_set_self (by first | omega | (simp only [List.length_set]; omega))]; rfl
     | 5, _ => rw [show j = i * 6 + 5 by omega, List.getElem?_set_self (by first | omega | (simp only [List.length_set]; omega))]; rfl
   · have hB2 : (l.set i (arcSet a f))[j / 6]? = some y := by rw [List.getElem?_set_ne (fun e => hji e.symm)]; exact hB
     have hc2 := flat_cell AH.cells_len hB2 h4
     rw [e] at hc2
     rw [hc2, List.getElem?_set_ne (by omega), List.getElem?_set_ne (by omega), List.getElem?_set_ne (by omega), List.getElem?_set_ne (by omega), List.getElem?_set_ne (by omega), hc]
 · rw [List.getElem?_eq_none (by simp only [List.length_set]; omega), List.getElem?_eq_none (by rw [hl2]; omega)]
def putF (u : World) (g o : Nat) (f : FH) : World := ((((u.setCell ⟨g, o, none⟩ (.int .i64 f.G.W)).setCell ⟨g, o + 1, none⟩ (.slice f.G.A f.G.n f.G.c)).setCell ⟨g, o + 2, none⟩ (.int .i64 f.K.W)).setCell ⟨g, o + 3, none⟩ (.slice f.K.A f.K.n f.K.c)).setCell ⟨g, o + 4, none⟩ (.slice f.C f.k f.q)
theorem putF_grown (u : World) (g o : Nat) (f : FH) : u.grownBy (putF u g o f) (some g) := by
 unfold putF
 exact grown_trans (grown_trans (grown_trans (grown_trans (grown_set u g rfl _) (grown_set _ g rfl _)) (grown_set _ g rfl _)) (grown_set _ g rfl _)) (grown_set _ g rfl _)
theorem take_sets {cur : List Value} {xs : List Value} {n k : Nat} (h : cur.take n = xs) (hk : k < n) (x : Value) : (cur.set k x).take n = xs.set k x := by
 rw [← h, List.take_set]
theorem RowA.putF {b v N : Nat} {u : World} {r : AL} (h : RowA b u v N r) {i : Nat} {a : AH} {f : FH} (hi : r.l[i]? = some a) (hf : FWt u v f) {g : Nat} (hg : r.A = some ⟨g, 0, none⟩) :
 RowA b (putF u g (i * 6 + 1) f) v N ⟨r.A, r.n, r.c, r.l.set i (arcSet a f)⟩ := by
 have hil := (List.getElem?_eq_some_iff.1 hi).1
 have hlen := h.len
 have hG := putF_grown u g (i * 6 + 1) f
 have hbk : r.v.ownBlock = some g := by unfold AL.v; rw [hg]; rfl
 have hs : Stp1 63 u (YtopkmeceakjocaaGreat.putF u g (i * 6 + 1) f) := ⟨_, hG, fun k e => by obtain rfl := Option.some.inj e; exact own_typ h.own hbk⟩
 refine ⟨?_, fun x hx => ?_, ?_⟩
 · rcases h.own.2 with ⟨e, e2⟩ | ⟨g', cap, cur, e, hge, hc, h1, h2, h3, h4⟩
   · omega
   · unfold AL.v at e
     injection e with e1 e2 e3
     rw [hg] at e1
     injection e1 with e1
     injection e1 with e1
     subst e1
     have f0 : Fb u g cur 63 := hc
     have f5 := ((((f0.set (i * 6 + 1) (.int .i64 f.G.W)).set (i * 6 + 1 + 1) (.slice f.G.A f.G.n f.G.c)).set (i * 6 + 1 + 2) (.int .i64 f.K.W)).set (i * 6 + 1 + 3) (.slice f.K.A f.K.n f.K.c)).set (i * 6 + 1 + 4) (.slice f.C f.k f.q)
     refine ⟨by rw [← flat_putF hi]; simp only [List.length_set]; exact h.own.1, .inr ⟨g, cap, _, by unfold AL.v; rw [hg, e3], hge, f5, h1, h2, by simp only [Array.size_setIfInBounds]; exact h3, ?_⟩⟩
     rw [← flat_putF hi]
     simp only [Array.toList_setIfInBounds]
     rw [take_sets (take_sets (take_sets (take_sets (take_sets h4 (by omega) _) (by omega) _) (by omega) _) (by omega) _) (by omega) _]
 · rcases List.mem_or_eq_of_mem_set hx with hx | rfl
   · exact (h.arcs x hx).stp hs (by decide) (by decide)
   · exact hf.stp hs (by decide) (by decide)
 · have : (r.l.set i (arcSet a f)).map AH.m = r.l.map AH.m := by
    rw [List.map_set]
    apply List.ext_getElem?
    intro j
    by_cases e : j = i
    · subst e
      rw [List.getElem?_set_self (by simpa using hil), List.getElem?_map, hi]; rfl
    · rw [List.getElem?_set_ne (fun e' => e e'.symm)]
   show RisP N ((r.l.set i (arcSet a f)).map AH.m)
   rw [this]; exact h.ris
theorem Ow.wb {w0 u : World} {v N gB gI : Nat} {B : List ZH} {J : List AL} (h : Ow w0 v N gB gI B (J.map AL.v) J u) (hN : N ≤ 256) : WBok u [] ⟨v, ⟨some ⟨gB, 0, none⟩, N, N, B⟩, ⟨some ⟨gI, 0, none⟩, N, N, J⟩⟩ := by
 have hz : ∀ {A : Option Addr} {n : Nat} {ws : List Nat}, Arg u A n ws → EAt u [] A (words ws) := fun ha => by
  rcases ha.lies with e | ⟨ad, e, hb, hc⟩
  · exact .inl e
  · exact .inr ⟨ad, e, ⟨hb, by simp⟩, hc⟩
 refine ⟨⟨EAt.fb h.fb (by simp) (fun j x hx => by simpa using hx), h.bl, by show N ≤ _; omega, fun y hy => ⟨hz (h.bt y hy).t.arg, (h.bt y hy).t.arg.len, (h.bt y hy).t.arg.ok⟩⟩,
  ⟨EAt.fb h.fi (by simp) (fun j x hx => by simpa using hx), h.jl, by show N ≤ _; omega, fun r hr => ⟨EAt.own (h.rt r hr).own (fun g hg => by simp), (h.rt r hr).len, by have := (h.rt r hr).few; omega, fun a ha => ?_⟩⟩⟩
 have hf := ((h.rt r hr).arcs a ha).t
 refine ⟨⟨hz hf.gen.arg, hf.gen.arg.len, hf.gen.arg.ok⟩, ⟨hz hf.kill.arg, hf.kill.arg.len, hf.kill.arg.ok⟩, ?_, hf.cops.arg.len⟩
 rcases hf.cops.arg.lies with e | ⟨ad, e, hb, hc⟩
 · exact .inl e
 · exact .inr ⟨ad, e, ⟨hb, by simp⟩, hc⟩
theorem Ow.wok {w0 u : World} {v N gB gI : Nat} {B : List ZH} {M : List Value} {J : List AL} (h : Ow w0 v N gB gI B M J u) (hv : v ≤ 256) (hN : N ≤ 256) : WOk ⟨v, ⟨some ⟨gB, 0, none⟩, N, N, B⟩, ⟨some ⟨gI, 0, none⟩, N, N, J⟩⟩ v N :=
 ⟨rfl, hv, hN, rfl, rfl, fun s hs => ⟨(h.bt s hs).w, (h.bt s hs).fit⟩, fun r hr => ⟨by have := (h.rt r hr).few; omega, fun a ha => ⟨(h.rt r hr).ris.2 _ (List.mem_map.2 ⟨a, ha, rfl⟩), ((h.rt r hr).arcs a ha).ok⟩⟩⟩
theorem Ow.wlk {w0 u : World} {v N gB gI : Nat} {B : List ZH} {M : List Value} {J : List AL} (h : Ow w0 v N gB gI B M J u) (h1 : 1 ≤ N) (hN : N ≤ 30) : WLk ⟨v, ⟨some ⟨gB, 0, none⟩, N, N, B⟩, ⟨some ⟨gI, 0, none⟩, N, N, J⟩⟩ N := by
 refine ⟨h1, fun r hr => (h.rt r hr).ris, ?_⟩
 have key : ∀ l : List AL, (∀ r ∈ l, r.l.length ≤ N) → tot (l.map fun r => r.l.map AH.m) ≤ l.length * N := by
  intro l
  induction l with
  | nil => intro _; simp [tot]
  | cons r l ih =>
    intro hl
    have := ih fun x hx => hl x (List.mem_cons_of_mem _ hx)
    have h2 := hl r List.mem_cons_self
    unfold tot at *
    simp only [List.map_cons, List.sum_cons, List.length_map, List.length_cons, Nat.succ_mul] at *
    omega
 have := key J fun r hr => by have := (h.rt r hr).few; rw [(h.rt r hr).len]; exact this
 rw [h.jl] at this
 have hm : N * N ≤ 30 * 30 := Nat.mul_le_mul hN hN
 show tot (J.map fun r => r.l.map AH.m) ≤ 1024
 omega
structure SOk (s : SY) (v N : Nat) : Prop where
 w : s.W = v
 v256 : v ≤ 256
 n1 : 1 ≤ N
 n256 : N ≤ 256
 dn : s.D.n = N
 tn : s.T.n = N
 bn : s.B.n = N
 d : ∀ y ∈ s.D.l, RisP N y.l
 tt : tot s.D.v ≤ 1024
 t : ∀ y ∈ s.T.l, FOk v y
 b : ∀ y ∈ s.B.l, y.W = v ∧ Bs.Fit v y.ws
section
variable {X : List (Option Nat)} {w0 w1 u u' : World} {s : SY} {v N bW gI b0 : Nat} {Bv Iv : Value} {lB : List ZH} {done : List AL} {cur : List AH} {ivs : List Value}
theorem flat_one {α : Type} (l : List α) (x : α) (f : α → List Value) : (l ++ [x]).flatMap f = l.flatMap f ++ f x := by rw [List.flatMap_append]; simp
end
theorem info89 : (Tryz.prog.info? 63).map (fun i => (i.zero, i.size, i.bytes)) = some (some (.agg #[.int .i64 0, .int .i64 0, .slice none 0 0, .int .i64 0, .slice none 0 0, .slice none 0 0]), 6, 96) := by kernel_rfl
end Go.Proofs.YtopkmeceakjocaaGreat
namespace Go.Proofs.YtopkmeceakjocaaGreat
set_option linter.unusedVariables false
set_option linter.unusedSimpArgs false
def updL (L : Nat → Bool) (i : Nat) : Nat → Bool := fun j => if j = i then true else L j
theorem updL_self (L : Nat → Bool) (i : Nat) : updL L i i = true := by simp [updL]
theorem updL_ne (L : Nat → Bool) {i j : Nat} (h : j ≠ i) : updL L i j = L j := by simp [updL, h]
section
variable {P : Program} {ops : Array Oper} {Q : Exit → Act → World → Prop}
theorem wpAny_inv (Inv : (Nat → Bool) → (Nat → Value) → World → Prop) (ds : List (Option Tmp)) (a0 : Act) (hds : ops.toList.map (·.dst) = ds) (hd : distB ds = true) (hb : backB ops = true)
 (hstep : ∀ (i : Nat) (o : Oper) (L : Nat → Bool) (f : Nat → Value) (w : World), ops[i]? = some o → L i = false → (∀ e ∈ o.after, Region.binds .any e = true → L e.on = true) → Inv L f w → ∀ K : Act → World → Prop, (∀ v w', Inv (updL L i) (updV f i v) w' → K ((putL ds f 0 a0).put o.dst v) w') → wpOp P ops Q i K (putL ds f 0 a0) w)
 (hend : ∀ (L : Nat → Bool) (f : Nat → Value) (w : World), (∀ i, i < ops.size → L i = true) → Inv L f w → Q .normal (putL ds f 0 a0) w) :
 ∀ (fuel : Nat) (listed : Array Bool) (f : Nat → Value) (w : World), listed.size = ops.size → Inv (fun i => listed.getD i false) f w → listed.toList.count false = fuel →
   wpAny P .any ops Q fuel listed (putL ds f 0 a0) w := by
 intro fuel
 induction fuel with
 | zero =>
   intro listed f w hs hI hc
   have hall : ∀ i, i < ops.size → listed.getD i false = true := by
    intro i hi
    have h1 : i < listed.size := by omega
    rw [getD_lt _ h1]
    cases hv : listed[i] with
    | true => rfl
    | false => exact absurd (List.count_pos_iff.2 (Array.mem_toList_iff.2 (hv ▸ Array.getElem_mem h1))) (by omega)
   refine wpAny_done (List.eq_nil_iff_forall_not_mem.2 fun i hi => ?_) (hend _ f w hall hI) 0
   obtain ⟨hiu, o, ho, _⟩ := mem_ready.1 hi
   have hin : i < ops.size := (Array.getElem?_eq_some_iff.1 ho).1
   have h1 := hall i hin
   rw [getD_lt _ (by omega)] at h1 hiu
   rw [h1] at hiu; cases hiu
 | succ fuel ih =>
   intro listed f w hs hI hc
   have hun : ∃ i, i < ops.size ∧ listed.getD i false = false := by
    refine Classical.byContradiction fun hno => ?_
    have hmem : false ∈ listed.toList := List.count_pos_iff.1 (by omega)
    obtain ⟨i, hi, he⟩ := List.getElem_of_mem hmem
    have hi' : i < listed.size := by simpa using hi
    refine hno ⟨i, by omega, ?_⟩
    rw [getD_lt _ hi']
    simpa using he
   have hmin : ∀ n i, i ≤ n → i < ops.size → listed.getD i false = false → ∃ j, j < ops.size ∧ listed.getD j false = false ∧ ∀ k, k < j → listed.getD k false = true := by
    intro n
    induction n with
    | zero => intro i hi him hv; exact ⟨i, him, hv, fun k hk => by omega⟩
    | succ n ihn =>
      intro i hi him hv
      by_cases hex : ∃ k, k < i ∧ listed.getD k false = false
      · obtain ⟨k, hk, hkv⟩ := hex
        exact ihn k (by omega) (by omega) hkv
      · refine ⟨i, him, hv, fun k hk => ?_⟩
        cases hkv : listed.getD k false with
        | true => rfl
        | false => exact absurd ⟨k, hk, hkv⟩ hex
   obtain ⟨i0, hi0, hv0⟩ := hun
   obtain ⟨j0, hj0, hj1, hj2⟩ := hmin i0 i0 (Nat.le_refl _) hi0 hv0
   have hgd : ∀ i, i < ops.size → listed.getD i true = listed.getD i false := by
    intro i hi
    rw [getD_lt true (show i < listed.size by omega), getD_lt false (show i < listed.size by omega)]
   obtain ⟨oj, hoj⟩ : ∃ o, ops[j0]? = some o := ⟨_, Array.getElem?_eq_getElem hj0⟩
   have hrj : j0 ∈ Region.ready .any ops listed := mem_ready.2 ⟨by rw [hgd j0 hj0]; exact hj1, oj, hoj, fun e he hbe => hj2 _ (backB_spec hb hoj e he hbe)⟩
   refine ⟨fun h => (by rw [h] at hrj; cases hrj), fun i hi => ?_⟩
   obtain ⟨hiu, o, ho, hafter⟩ := mem_ready.1 hi
   have hin : i < ops.size := (Array.getElem?_eq_some_iff.1 ho).1
   refine hstep i o _ f w ho (by rw [← hgd i hin]; exact hiu) (fun e he hbe => hafter e he hbe) hI _ fun v w' hI' => ?_
   have hdi : ds[i]? = some o.dst := by
    rw [← hds, List.getElem?_map, Array.getElem?_toList, ho]; rfl
   rw [putL_at hd hdi]
   have hlf : listed.toList[i]? = some false := by
    rw [Array.getElem?_toList, Array.getElem?_eq_getElem (by omega)]
    rw [getD_lt _ (by omega)] at hiu
    exact congrArg some hiu
   refine ih _ _ _ (by simp [hs]) ?_ ?_
   · have e : updL (fun i => listed.getD i false) i = fun j => (listed.setIfInBounds i true).getD j false := by
      funext k
      by_cases e : k = i
      · subst e
        rw [updL_self, getD_lt _ (by rw [Array.size_setIfInBounds]; omega), Array.getElem_setIfInBounds_self]
      · rw [updL_ne _ e, getD_set_ne false (fun h => e h.symm)]
     rw [← e]; exact hI'
   · have := count_set listed.toList i hlf
     rw [Array.toList_setIfInBounds]
     omega
end
end Go.Proofs.YtopkmeceakjocaaGreat
namespace Go.Proofs.YtopkmeceakjocaaGreat
set_option maxRecDepth 20000
set_option linter.unusedVariables false
set_option linter.unusedSimpArgs false
open Go.ChangeShapes Go.WideShapes Go.ChangeAt Go.RowKit
def exS (T R bS : Nat) (D B Tr : Value) : List (Option Nat) := [some T, some R, some bS, D.ownBlock, B.ownBlock, Tr.ownBlock]
def lhc (y : RH) : List Value := [.slice y.A y.n y.c]
def gD (N : Nat) (y : RH) : Prop := RisP N y.l ∧ y.n ≤ 3
def gB (W : Nat) (y : ZH) : Prop := y.W = W ∧ Bs.Fit W y.ws
def gT (W : Nat) (y : FH) : Prop := FOk W y ∧ y.k ≤ 12
structure Sg (w : World) (T bS W N : Nat) (D B Tr : Value) (lD : List RH) (lB : List ZH) (lT : List FH) (u : World) : Prop where
 tp : Tape u T
 hT : T < w.heap.size
 hb : w.heap.size < bS
 gr : w.grownBy u (some T)
 rx : Fb u w.heap.size #[.int .i64 0, .slice none 0 0, .slice none 0 0, .slice none 0 0] 27
 bx : Fb u bS #[.int .i64 W, D, Tr, B] 27
 oD : u.ownsRow (bS + 1) 22 1 D lD.length (lD.flatMap lhc)
 oB : u.ownsRow (bS + 1) 49 2 B lB.length (lB.flatMap ZH.cs)
 oT : u.ownsRow (bS + 1) 61 5 Tr lT.length (lT.flatMap FH.cells)
 eD : ∀ y ∈ lD, RHok u (exS T w.heap.size bS D B Tr) y
 eB : ∀ y ∈ lB, ZHok u (exS T w.heap.size bS D B Tr) y
 eT : ∀ y ∈ lT, FHok u (exS T w.heap.size bS D B Tr) y
 okD : ∀ y ∈ lD, gD N y
 okB : ∀ y ∈ lB, gB W y
 okT : ∀ y ∈ lT, gT W y
section
variable {w u u' : World} {T bS W N : Nat} {D B Tr : Value} {lD : List RH} {lB : List ZH} {lT : List FH}
theorem Sg.far {v : Value} {ty k n b : Nat} {xs : List Value} (h : u.ownsRow b ty k v n xs) {j : Nat} (hj : j < b) : v.ownBlock = none ∨ v.ownBlock ≠ some j := by
 cases hv : v.ownBlock with
 | none => exact .inl rfl
 | some g => exact .inr fun e => by have := (h.lt g hv).1; have := Option.some.inj e; omega
theorem Sg.step (h : Sg w T bS W N D B Tr lD lB lT u) (ht : Tape u' T) (hg : u.grownBy u' (some T)) : Sg w T bS W N D B Tr lD lB lT u' := by
 have hT := h.hT; have hb := h.hb
 have hG : Go2 u (exS T w.heap.size bS D B Tr) u' (exS T w.heap.size bS D B Tr) := Go2.same hg (.inr (by simp [exS]))
 exact ⟨ht, hT, hb, grown_trans h.gr hg, h.rx.grown hg (by simp; omega), h.bx.grown hg (by simp; omega), h.oD.kept hg (Sg.far h.oD (by omega)), h.oB.kept hg (Sg.far h.oB (by omega)), h.oT.kept hg (Sg.far h.oT (by omega)),
  fun y hy => (h.eD y hy).go hG, fun y hy => (h.eB y hy).go hG, fun y hy => (h.eT y hy).go hG, h.okD, h.okB, h.okT⟩
theorem Sg.below (h : Sg w T bS W N D B Tr lD lB lT u) (hb : Below u.heap.size u u') : Sg w T bS W N D B Tr lD lB lT u' := h.step (h.tp.below hb h.tp.lt) (grown_of_below hb _)
theorem Sg.exlt (h : Sg w T bS W N D B Tr lD lB lT u) : ∀ k, some k ∈ exS T w.heap.size bS D B Tr → k < u.heap.size := by
 intro k hk
 simp only [exS, List.mem_cons, Option.some.injEq, List.not_mem_nil, or_false] at hk
 rcases hk with rfl | rfl | rfl | hk | hk | hk
 · exact h.tp.lt
 · exact h.rx.lt
 · exact h.bx.lt
 · exact (h.oD.lt k hk.symm).2
 · exact (h.oB.lt k hk.symm).2
 · exact (h.oT.lt k hk.symm).2
theorem Sg.ges (h : Sg w T bS W N D B Tr lD lB lT u) : ∀ k, some k ∈ exS T w.heap.size bS D B Tr → k = T ∨ w.heap.size ≤ k := by
 have hb := h.hb
 intro k hk
 simp only [exS, List.mem_cons, Option.some.injEq, List.not_mem_nil, or_false] at hk
 rcases hk with rfl | rfl | rfl | hk | hk | hk
 · exact .inl rfl
 · exact .inr (Nat.le_refl _)
 · exact .inr (by omega)
 · exact .inr (by have := (h.oD.lt k hk.symm).1; omega)
 · exact .inr (by have := (h.oB.lt k hk.symm).1; omega)
 · exact .inr (by have := (h.oT.lt k hk.symm).1; omega)
theorem ex_typ {w u : World} {T bS nD nB nT b : Nat} {cs cs' : Array Value} {D B Tr : Value} {xD xB xT : List Value} (ht : Tape u T) (hr : Fb u w.heap.size cs' 27) (hb : Fb u bS cs 27) (oD : u.ownsRow b 22 1 D nD xD) (oB : u.ownsRow b 49 2 B nB xB) (oT : u.ownsRow b 61 5 Tr nT xT) :
 ∀ k, some k ∈ exS T w.heap.size bS D B Tr → ¬ Typ u k 106 ∧ ¬ Typ u k 58 := by
 intro k hk
 simp only [exS, List.mem_cons, Option.some.injEq, List.not_mem_nil, or_false] at hk
 rcases hk with rfl | rfl | rfl | hk | hk | hk
 · exact ⟨fun h => h.ne ht.typ (by decide) rfl, fun h => h.ne ht.typ (by decide) rfl⟩
 · exact ⟨fun h => h.ne hr.typ (by decide) rfl, fun h => h.ne hr.typ (by decide) rfl⟩
 · exact ⟨fun h => h.ne hb.typ (by decide) rfl, fun h => h.ne hb.typ (by decide) rfl⟩
 · exact ⟨fun h => h.ne (own_typ oD hk.symm) (by decide) rfl, fun h => h.ne (own_typ oD hk.symm) (by decide) rfl⟩
 · exact ⟨fun h => h.ne (own_typ oB hk.symm) (by decide) rfl, fun h => h.ne (own_typ oB hk.symm) (by decide) rfl⟩
 · exact ⟨fun h => h.ne (own_typ oT hk.symm) (by decide) rfl, fun h => h.ne (own_typ oT hk.symm) (by decide) rfl⟩
theorem Sg.set (h : Sg w T bS W N D B Tr lD lB lT u) {g : Nat} {ws : List Nat} (hr : Row u g ws) (hf : Bs.Fit W ws) : ZHok u (exS T w.heap.size bS D B Tr) ⟨W, some ⟨g, 0, none⟩, Bs.nw W, Bs.nw W, ws⟩ :=
 ⟨EAt.fb hr (fun hm => (ex_typ h.tp h.rx h.bx h.oD h.oB h.oT g hm).1 hr.typ) (fun j x hx => by simpa using hx), by have := hf.len; simpa using this, hf.ok⟩
theorem Sg.drow (h : Sg w T bS W N D B Tr lD lB lT u) {y : RH} (hy : RHok u (exS T w.heap.size bS D B Tr) y) (ht : Tape u' T) (hg : u.grownBy u' (some T)) : RHok u' (exS T w.heap.size bS D B Tr) y := hy.go (Go2.same hg (.inr (by simp [exS])))
theorem Sg.zset (h : Sg w T bS W N D B Tr lD lB lT u) {y : ZH} (hy : ZHok u (exS T w.heap.size bS D B Tr) y) (ht : Tape u' T) (hg : u.grownBy u' (some T)) : ZHok u' (exS T w.heap.size bS D B Tr) y := hy.go (Go2.same hg (.inr (by simp [exS])))
end
theorem info22 : (Tryz.prog.info? 22).map (fun i => (i.zero, i.size, i.bytes)) = some (some (.slice none 0 0), 1, 24) := by kernel_rfl
theorem info41 : (Tryz.prog.info? 49).map (fun i => (i.zero, i.size, i.bytes)) = some (some (.agg #[.int .i64 0, .slice none 0 0]), 2, 32) := by kernel_rfl
theorem info70 : (Tryz.prog.info? 61).map (fun i => (i.zero, i.size, i.bytes)) = some (some (.agg #[.int .i64 0, .slice none 0 0, .int .i64 0, .slice none 0 0, .slice none 0 0]), 5, 88) := by kernel_rfl
theorem one_lhc (y : RH) : ∀ u ∈ lhc y, u.oneCell' = true := by intro u hu; simp [lhc] at hu; subst hu; rfl
theorem one_zcs (y : ZH) : ∀ u ∈ y.cs, u.oneCell' = true := by intro u hu; simp [ZH.cs] at hu; rcases hu with rfl | rfl <;> rfl
theorem one_fcells (y : FH) : ∀ u ∈ y.cells, u.oneCell' = true := by intro u hu; simp [FH.cells] at hu; rcases hu with rfl | rfl | rfl | rfl | rfl <;> rfl
def tyO (j : Nat) : Nat := if j = 4 then 22 else if j = 9 then 49 else if j = 17 then 61 else 80
theorem tyO_4 {j : Nat} (h : j ≠ 4) : 22 ≠ tyO j := by unfold tyO; rw [if_neg h]; split; decide; split; decide; decide
theorem tyO_9 {j : Nat} (h : j ≠ 9) : 49 ≠ tyO j := by unfold tyO; rw [if_neg h]; split; decide; split; decide; decide
theorem tyO_17 {j : Nat} (h : j ≠ 17) : 61 ≠ tyO j := by unfold tyO; rw [if_neg h]; split; decide; split; decide; decide
theorem tyO_u (j : Nat) : 106 ≠ tyO j := by unfold tyO; split; decide; split; decide; split; decide; decide
theorem tyO_c (j : Nat) : 58 ≠ tyO j := by unfold tyO; split; decide; split; decide; split; decide; decide
def sgF (w1 : World) (T bS W : Nat) (D B Tr : Value) (lD : List RH) (lB : List ZH) (lT : List FH) (d : RH) (b : ZH) : Nat → Value → World → Prop
 | 0, v, _ => v = .pointer (some ⟨bS, 1, none⟩)
 | 1, v, _ => v = D
 | 2, v, _ => v = .slice d.A d.n d.c
 | 3, v, u => ∃ g, v = .slice (some ⟨g, 0, none⟩) 1 1 ∧ Fb u g (lhc d).toArray 22
 | 4, v, u => ∃ g q, v = .slice (some ⟨g, 0, none⟩) (lD.length + 1) q ∧ u.ownsRow (bS + 1) 22 1 (.slice (some ⟨g, 0, none⟩) (lD.length + 1) q) (lD.length + 1) (lD.flatMap lhc ++ lhc d) ∧ (D.ownBlock = some g ∨ w1.heap.size ≤ g)
 | 5, v, _ => v = .pointer (some ⟨bS, 3, none⟩)
 | 6, v, _ => v = B
 | 7, v, _ => v = b.a
 | 8, v, u => ∃ g, v = .slice (some ⟨g, 0, none⟩) 1 1 ∧ Fb u g b.cs.toArray 49
 | 9, v, u => ∃ g q, v = .slice (some ⟨g, 0, none⟩) (lB.length + 1) q ∧ u.ownsRow (bS + 1) 49 2 (.slice (some ⟨g, 0, none⟩) (lB.length + 1) q) (lB.length + 1) (lB.flatMap ZH.cs ++ b.cs) ∧ (B.ownBlock = some g ∨ w1.heap.size ≤ g)
 | 10, v, _ => v = .pointer (some ⟨bS, 2, none⟩)
 | 11, v, _ => v = Tr
 | 12, v, _ => v = .pointer (some ⟨T, 0, none⟩)
 | 13, v, _ => v = .pointer (some ⟨bS, 0, none⟩)
 | 14, v, _ => v = .int .i64 W
 | 15, v, u => ∃ F : FH, v = F.a ∧ Ft u W F
 | 16, v, u => ∃ (F : FH) (g : Nat), v = .slice (some ⟨g, 0, none⟩) 1 1 ∧ Fb u g F.cells.toArray 61 ∧ Ft u W F
 | 17, v, u => ∃ (F : FH) (g q : Nat), v = .slice (some ⟨g, 0, none⟩) (lT.length + 1) q ∧ u.ownsRow (bS + 1) 61 5 (.slice (some ⟨g, 0, none⟩) (lT.length + 1) q) (lT.length + 1) (lT.flatMap FH.cells ++ F.cells) ∧ (Tr.ownBlock = some g ∨ w1.heap.size ≤ g) ∧ Ft u W F
 | 18, v, _ => v = .pointer (some ⟨bS, 1, none⟩)
 | _, _, _ => True
def sgU : Nat → Option Nat
 | 3 => some 4
 | 8 => some 9
 | 16 => some 17
 | _ => none
theorem sgF_st {w1 : World} {T bS W : Nat} {D B Tr : Value} {lD : List RH} {lB : List ZH} {lT : List FH} {d : RH} {b : ZH} (j : Nat) (u u' : World) (i : Nat) (v : Value) (hR : Stp1 (tyO j) u u') (hne : i ≠ j) (hu : sgU i ≠ some j) (h : sgF w1 T bS W D B Tr lD lB lT d b i v u) : sgF w1 T bS W D B Tr lD lB lT d b i v u' := by
 match i, hne, hu, h with
 | 0, _, _, h => exact h
 | 1, _, _, h => exact h
 | 2, _, _, h => exact h
 | 3, _, hu, h => obtain ⟨g, h1, h2⟩ := h; exact ⟨g, h1, hR.fb h2 (tyO_4 fun e => hu (by rw [e]; rfl))⟩
 | 4, hne, _, h => obtain ⟨g, q, h1, h2, h3⟩ := h; exact ⟨g, q, h1, hR.own h2 (tyO_4 hne.symm), h3⟩
 | 5, _, _, h => exact h
 | 6, _, _, h => exact h
 | 7, _, _, h => exact h
 | 8, _, hu, h => obtain ⟨g, h1, h2⟩ := h; exact ⟨g, h1, hR.fb h2 (tyO_9 fun e => hu (by rw [e]; rfl))⟩
 | 9, hne, _, h => obtain ⟨g, q, h1, h2, h3⟩ := h; exact ⟨g, q, h1, hR.own h2 (tyO_9 hne.symm), h3⟩
 | 10, _, _, h => exact h
 | 11, _, _, h => exact h
 | 12, _, _, h => exact h
 | 13, _, _, h => exact h
 | 14, _, _, h => exact h
 | 15, _, _, h => obtain ⟨F, h1, h2⟩ := h; exact ⟨F, h1, hR.ft h2 (tyO_u j) (tyO_c j)⟩
 | 16, _, hu, h => obtain ⟨F, g, h1, h2, h3⟩ := h; exact ⟨F, g, h1, hR.fb h2 (tyO_17 fun e => hu (by rw [e]; rfl)), hR.ft h3 (tyO_u j) (tyO_c j)⟩
 | 17, hne, _, h => obtain ⟨F, g, q, h1, h2, h3, h4⟩ := h; exact ⟨F, g, q, h1, hR.own h2 (tyO_17 hne.symm), h3, hR.ft h4 (tyO_u j) (tyO_c j)⟩
 | 18, _, _, h => exact h
 | i + 19, _, _, h => trivial
def sgG (bS : Nat) (D B Tr : Value) (lD : List RH) (lB : List ZH) (lT : List FH) : Nat → World → Prop
 | 4, u => u.ownsRow (bS + 1) 22 1 D lD.length (lD.flatMap lhc)
 | 9, u => u.ownsRow (bS + 1) 49 2 B lB.length (lB.flatMap ZH.cs)
 | 17, u => u.ownsRow (bS + 1) 61 5 Tr lT.length (lT.flatMap FH.cells)
 | _, _ => True
theorem sgG_st {bS : Nat} {D B Tr : Value} {lD : List RH} {lB : List ZH} {lT : List FH} (j : Nat) (u u' : World) (c : Nat) (hR : Stp1 (tyO j) u u') (hne : c ≠ j) (h : sgG bS D B Tr lD lB lT c u) : sgG bS D B Tr lD lB lT c u' := by
 by_cases h4 : c = 4
 · subst h4; exact hR.own (show u.ownsRow _ _ _ _ _ _ from h) (tyO_4 hne.symm)
 · by_cases h9 : c = 9
   · subst h9; exact hR.own (show u.ownsRow _ _ _ _ _ _ from h) (tyO_9 hne.symm)
   · by_cases h17 : c = 17
     · subst h17; exact hR.own (show u.ownsRow _ _ _ _ _ _ from h) (tyO_17 hne.symm)
     · unfold sgG; split <;> first | omega | trivial
theorem Sg.sgG {w u : World} {T bS W N : Nat} {D B Tr : Value} {lD : List RH} {lB : List ZH} {lT : List FH} (h : Sg w T bS W N D B Tr lD lB lT u) (c : Nat) : sgG bS D B Tr lD lB lT c u := by
 unfold YtopkmeceakjocaaGreat.sgG
 split
 · exact h.oD
 · exact h.oB
 · exact h.oT
 · trivial
structure SgB (w w1 : World) (T bS W : Nat) (D B Tr : Value) (bb : Nat) (b : ZH) (u : World) : Prop where
 gx : GrX w1 (exS T w.heap.size bS D B Tr) u
 tp : Tape u T
 rx : Fb u w.heap.size #[.int .i64 0, .slice none 0 0, .slice none 0 0, .slice none 0 0] 27
 bx : Fb u bS #[.int .i64 W, D, Tr, B] 27
 bb : Fb u bb b.cs.toArray 49
section
variable {w w1 u u' : World} {T bS W N bb : Nat} {D B Tr : Value} {lD : List RH} {lB : List ZH} {lT : List FH} {d : RH} {b : ZH}
theorem SgB.below (h : SgB w w1 T bS W D B Tr bb b u) (hb : Below u.heap.size u u') : SgB w w1 T bS W D B Tr bb b u' :=
 ⟨h.gx.below hb, h.tp.below hb h.tp.lt, h.rx.below hb h.rx.lt, h.bx.below hb h.bx.lt, h.bb.below hb h.bb.lt⟩
theorem SgB.tape (h : SgB w w1 T bS W D B Tr bb b u) (hs : Sg w T bS W N D B Tr lD lB lT w1) (ht : Tape u' T) (hg : u.grownBy u' (some T)) : SgB w w1 T bS W D B Tr bb b u' := by
 have hT := hs.hT; have hb := hs.hb
 exact ⟨h.gx.step hg (fun g e => .inl (by simp [exS])), ht, h.rx.grown hg (by simp; omega), h.bx.grown hg (by simp; omega), h.bb.grown hg fun e => (h.bb.typ.ne h.tp.typ (by decide)) (Option.some.inj e)⟩
theorem SgB.app {v : Value} {ty k n : Nat} {xs : List Value} (h : SgB w w1 T bS W D B Tr bb b u) (hs : Sg w T bS W N D B Tr lD lB lT w1) (hv : v = D ∨ v = B ∨ v = Tr) (ho : u.ownsRow (bS + 1) ty k v n xs) (hbb : v.ownBlock ≠ some bb) (hg : u.grownBy u' v.ownBlock) : SgB w w1 T bS W D B Tr bb b u' := by
 have hT := hs.hT; have hb := hs.hb
 have far : ∀ j, j < bS + 1 → some j ≠ v.ownBlock := fun j hj e => by have := (ho.lt j e.symm).1; omega
 refine ⟨h.gx.step hg fun g e => .inl ?_, h.tp.keep fun k hk => hg.block k (by have := h.tp.lt; omega) (far k (by omega)), h.rx.grown hg (far _ (by omega)), h.bx.grown hg (far _ (by omega)), h.bb.grown hg (Ne.symm hbb)⟩
 rcases hv with rfl | rfl | rfl <;> simp [exS]
theorem Sg.sgB (h : Sg w T bS W N D B Tr lD lB lT w1) (hb : Fb w1 bb b.cs.toArray 49) : SgB w w1 T bS W D B Tr bb b w1 := ⟨GrX.refl _ _, h.tp, h.rx, h.bx, hb⟩
structure TlI (D' B' T' : Value) (bS : Nat) (u0 : World) (L : Nat → Bool) (f : Nat → Value) (u : World) : Prop where
 pre : ∀ i, i < 19 → L i = true
 v4 : f 4 = D'
 v9 : f 9 = B'
 v17 : f 17 = T'
 a18 : L 18 = true → f 18 = .pointer (some ⟨bS, 1, none⟩)
 a20 : L 20 = true → f 20 = .pointer (some ⟨bS, 3, none⟩)
 a22 : L 22 = true → f 22 = .pointer (some ⟨bS, 2, none⟩)
 c21 : L 21 = true → L 19 = true
 c23 : L 23 = true → L 21 = true
 w0 : L 19 = false → u = u0
 w1 : L 19 = true → L 21 = false → u = u0.setCell ⟨bS, 1, none⟩ D'
 w2 : L 21 = true → L 23 = false → u = (u0.setCell ⟨bS, 1, none⟩ D').setCell ⟨bS, 3, none⟩ B'
 w3 : L 23 = true → u = ((u0.setCell ⟨bS, 1, none⟩ D').setCell ⟨bS, 3, none⟩ B').setCell ⟨bS, 2, none⟩ T'
end
section
variable {D' B' T' : Value} {bS : Nat} {u0 : World} {L : Nat → Bool} {f : Nat → Value} {u : World}
theorem TlI.op20 (h : TlI D' B' T' bS u0 L f u) : TlI D' B' T' bS u0 (updL L 20) (updV f 20 (.pointer (some ⟨bS, 3, none⟩))) u := by
 obtain ⟨h1, h2, h3, h4, h5, h6, h7, h8, h9, h10, h11, h12, h13⟩ := h
 exact ⟨fun i hi => by rw [updL_ne _ (by omega)]; exact h1 i hi, by simpa [updV] using h2, by simpa [updV] using h3, by simpa [updV] using h4, by simpa [updV, updL] using h5, fun _ => updV_self _ _ _, by simpa [updV, updL] using h7, by simpa [updL] using h8, by simpa [updL] using h9, by simpa [updL] using h10, by simpa [updL] using h11, by simpa [updL] using h12, by simpa [updL] using h13⟩
theorem TlI.op22 (h : TlI D' B' T' bS u0 L f u) : TlI D' B' T' bS u0 (updL L 22) (updV f 22 (.pointer (some ⟨bS, 2, none⟩))) u := by
 obtain ⟨h1, h2, h3, h4, h5, h6, h7, h8, h9, h10, h11, h12, h13⟩ := h
 exact ⟨fun i hi => by rw [updL_ne _ (by omega)]; exact h1 i hi, by simpa [updV] using h2, by simpa [updV] using h3, by simpa [updV] using h4, by simpa [updV, updL] using h5, by simpa [updV, updL] using h6, fun _ => updV_self _ _ _, by simpa [updL] using h8, by simpa [updL] using h9, by simpa [updL] using h10, by simpa [updL] using h11, by simpa [updL] using h12, by simpa [updL] using h13⟩
theorem TlI.op19 (h : TlI D' B' T' bS u0 L f u) (hL : L 19 = false) (x : Value) : u = u0 ∧ TlI D' B' T' bS u0 (updL L 19) (updV f 19 x) (u0.setCell ⟨bS, 1, none⟩ D') := by
 obtain ⟨h1, h2, h3, h4, h5, h6, h7, h8, h9, h10, h11, h12, h13⟩ := h
 have l21 : L 21 = false := by cases e : L 21 with | false => rfl | true => rw [h8 e] at hL; cases hL
 have l23 : L 23 = false := by cases e : L 23 with | false => rfl | true => rw [h9 e] at l21; cases l21
 exact ⟨h10 hL, fun i hi => by rw [updL_ne _ (by omega)]; exact h1 i hi, by simpa [updV] using h2, by simpa [updV] using h3, by simpa [updV] using h4, by simpa [updV, updL] using h5, by simpa [updV, updL] using h6, by simpa [updV, updL] using h7, by simp [updL], by simpa [updL] using h9, by simp [updL], by simp [updL], by simp [updL, l21], by simp [updL, l23]⟩
theorem TlI.op21 (h : TlI D' B' T' bS u0 L f u) (hL : L 21 = false) (h19 : L 19 = true) (x : Value) : u = u0.setCell ⟨bS, 1, none⟩ D' ∧ TlI D' B' T' bS u0 (updL L 21) (updV f 21 x) ((u0.setCell ⟨bS, 1, none⟩ D').setCell ⟨bS, 3, none⟩ B') := by
 obtain ⟨h1, h2, h3, h4, h5, h6, h7, h8, h9, h10, h11, h12, h13⟩ := h
 have l23 : L 23 = false := by cases e : L 23 with | false => rfl | true => rw [h9 e] at hL; cases hL
 exact ⟨h11 h19 hL, fun i hi => by rw [updL_ne _ (by omega)]; exact h1 i hi, by simpa [updV] using h2, by simpa [updV] using h3, by simpa [updV] using h4, by simpa [updV, updL] using h5, by simpa [updV, updL] using h6, by simpa [updV, updL] using h7, by simp [updL, h19], by simp [updL], by simp [updL, h19], by simp [updL], by simp [updL], by simp [updL, l23]⟩
theorem TlI.op23 (h : TlI D' B' T' bS u0 L f u) (hL : L 23 = false) (h21 : L 21 = true) (x : Value) : u = (u0.setCell ⟨bS, 1, none⟩ D').setCell ⟨bS, 3, none⟩ B' ∧ TlI D' B' T' bS u0 (updL L 23) (updV f 23 x) (((u0.setCell ⟨bS, 1, none⟩ D').setCell ⟨bS, 3, none⟩ B').setCell ⟨bS, 2, none⟩ T') := by
 obtain ⟨h1, h2, h3, h4, h5, h6, h7, h8, h9, h10, h11, h12, h13⟩ := h
 have l19 := h8 h21
 exact ⟨h12 h21 hL, fun i hi => by rw [updL_ne _ (by omega)]; exact h1 i hi, by simpa [updV] using h2, by simpa [updV] using h3, by simpa [updV] using h4, by simpa [updV, updL] using h5, by simpa [updV, updL] using h6, by simpa [updV, updL] using h7, by simp [updL, l19], by simp [updL, h21], by simp [updL, l19], by simp [updL, h21], by simp [updL], by simp [updL]⟩
end
section
variable {w w1 u : World} {T bS W N bb : Nat} {D B Tr : Value} {lD : List RH} {lB : List ZH} {lT : List FH} {d : RH} {b : ZH}
theorem SgB.done (h : SgB w w1 T bS W D B Tr bb b u) (hs : Sg w T bS W N D B Tr lD lB lT w1) (hd : RHok w1 (exS T w.heap.size bS D B Tr) d) (hz : ZHok w1 (exS T w.heap.size bS D B Tr) b) (hgd : gD N d) (hgb : gB W b) {g1 q1 g2 q2 g3 q3 : Nat} {F : FH}
 (o1 : u.ownsRow (bS + 1) 22 1 (.slice (some ⟨g1, 0, none⟩) (lD.length + 1) q1) (lD.length + 1) (lD.flatMap lhc ++ lhc d)) (n1 : D.ownBlock = some g1 ∨ w1.heap.size ≤ g1)
 (o2 : u.ownsRow (bS + 1) 49 2 (.slice (some ⟨g2, 0, none⟩) (lB.length + 1) q2) (lB.length + 1) (lB.flatMap ZH.cs ++ b.cs)) (n2 : B.ownBlock = some g2 ∨ w1.heap.size ≤ g2)
 (o3 : u.ownsRow (bS + 1) 61 5 (.slice (some ⟨g3, 0, none⟩) (lT.length + 1) q3) (lT.length + 1) (lT.flatMap FH.cells ++ F.cells)) (n3 : Tr.ownBlock = some g3 ∨ w1.heap.size ≤ g3) (hF : Ft u W F) :
 Sg w T bS W N (.slice (some ⟨g1, 0, none⟩) (lD.length + 1) q1) (.slice (some ⟨g2, 0, none⟩) (lB.length + 1) q2) (.slice (some ⟨g3, 0, none⟩) (lT.length + 1) q3) (lD ++ [d]) (lB ++ [b]) (lT ++ [F])
  (((u.setCell ⟨bS, 1, none⟩ (.slice (some ⟨g1, 0, none⟩) (lD.length + 1) q1)).setCell ⟨bS, 3, none⟩ (.slice (some ⟨g2, 0, none⟩) (lB.length + 1) q2)).setCell ⟨bS, 2, none⟩ (.slice (some ⟨g3, 0, none⟩) (lT.length + 1) q3)) := by
 have hT := hs.hT; have hb := hs.hb
 have hgs := hs.ges
 generalize hvD : Value.slice (some ⟨g1, 0, none⟩) (lD.length + 1) q1 = D' at *
 generalize hvB : Value.slice (some ⟨g2, 0, none⟩) (lB.length + 1) q2 = B' at *
 generalize hvT : Value.slice (some ⟨g3, 0, none⟩) (lT.length + 1) q3 = T' at *
 have kD : D'.ownBlock = some g1 := by rw [← hvD]; rfl
 have kB : B'.ownBlock = some g2 := by rw [← hvB]; rfl
 have kT : T'.ownBlock = some g3 := by rw [← hvT]; rfl
 have ht := ex_typ h.tp h.rx h.bx o1 o2 o3
 have hG1 : Go2 w1 (exS T w.heap.size bS D B Tr) u (exS T w.heap.size bS D' B' T') := h.gx.go fun k hk hm => by
  simp only [exS, List.mem_cons, List.not_mem_nil, or_false, kD, kB, kT, Option.some.injEq] at hm ⊢
  rcases hm with e | e | e | e | e | e
  · exact .inl e
  · exact .inr (.inl e)
  · exact .inr (.inr (.inl e))
  · subst e; rcases n1 with n | n
    · exact .inr (.inr (.inr (.inl n.symm)))
    · omega
  · subst e; rcases n2 with n | n
    · exact .inr (.inr (.inr (.inr (.inl n.symm))))
    · omega
  · subst e; rcases n3 with n | n
    · exact .inr (.inr (.inr (.inr (.inr n.symm))))
    · omega
 have s1 := setCell_grown u ⟨bS, 1, none⟩ D'
 have s2 := setCell_grown (u.setCell ⟨bS, 1, none⟩ D') ⟨bS, 3, none⟩ B'
 have s3 := setCell_grown ((u.setCell ⟨bS, 1, none⟩ D').setCell ⟨bS, 3, none⟩ B') ⟨bS, 2, none⟩ T'
 have hS := grown_trans (grown_trans s1 s2) s3
 have hG2 : Go2 u (exS T w.heap.size bS D' B' T') _ (exS T w.heap.size bS D' B' T') := Go2.same hS (.inr (by simp [exS]))
 have hG := hG1.trans hG2
 have hgr : w.grownBy u (some T) := h.gx.grown hs.gr fun k hk => hgs k hk
 have e3 := ((h.bx.set 1 D').set 3 B').set 2 T'
 have fl : ∀ {α : Type} (l : List α) (x : α) (f : α → List Value), (l ++ [x]).flatMap f = l.flatMap f ++ f x := fun l x f => by rw [List.flatMap_append]; simp
 refine ⟨((h.tp.far (by simp; omega) _).far (by simp; omega) _).far (by simp; omega) _, hT, hb, grown_set_new (grown_set_new (grown_set_new hgr (by simp; omega) _) (by simp; omega) _) (by simp; omega) _,
  ((h.rx.far (by simp; omega) _).far (by simp; omega) _).far (by simp; omega) _, e3, ?_, ?_, ?_, ?_, ?_, ?_, ?_, ?_, ?_⟩
 · rw [List.length_append, fl]; exact o1.kept hS (Sg.far o1 (by show bS < bS + 1; omega))
 · rw [List.length_append, fl]; exact o2.kept hS (Sg.far o2 (by show bS < bS + 1; omega))
 · rw [List.length_append, fl]; exact o3.kept hS (Sg.far o3 (by show bS < bS + 1; omega))
 · intro y hy
   rcases List.mem_append.1 hy with hy | hy
   · exact (hs.eD y hy).go hG
   · rw [List.mem_singleton.1 hy]; exact hd.go hG
 · intro y hy
   rcases List.mem_append.1 hy with hy | hy
   · exact (hs.eB y hy).go hG
   · rw [List.mem_singleton.1 hy]; exact hz.go hG
 · intro y hy
   rcases List.mem_append.1 hy with hy | hy
   · exact (hs.eT y hy).go hG
   · rw [List.mem_singleton.1 hy]; exact (hF.fh ht).go hG2
 · intro y hy
   rcases List.mem_append.1 hy with hy | hy
   · exact hs.okD y hy
   · rw [List.mem_singleton.1 hy]; exact hgd
 · intro y hy
   rcases List.mem_append.1 hy with hy | hy
   · exact hs.okB y hy
   · rw [List.mem_singleton.1 hy]; exact hgb
 · intro y hy
   rcases List.mem_append.1 hy with hy | hy
   · exact hs.okT y hy
   · rw [List.mem_singleton.1 hy]; exact ⟨⟨hF.g1.1, hF.k1.1, hF.ok⟩, hF.c1.2⟩
end
theorem one_ah (a : AH) : ∀ u ∈ a.cells, u.oneCell' = true := by intro u hu; simp [AH.cells] at hu; rcases hu with rfl | rfl | rfl | rfl | rfl | rfl <;> rfl
end Go.Proofs.YtopkmeceakjocaaGreat
namespace Go.Proofs.YtopkmeceakjocaaGreat
set_option linter.unusedVariables false
set_option linter.unusedSimpArgs false
section
variable {P : Program} {ops : Array Oper} {Q : Exit → Act → World → Prop}
theorem wpAny_factsI (G : Nat → World → Prop) (F : Nat → (Nat → Value) → World → Prop) (B : World → Prop) (use : Nat → Option Nat) (R : Nat → World → World → Prop) (m : Nat) (ds : List (Option Tmp)) (a0 : Act) (hds : ops.toList.map (·.dst) = ds) (hd : distB ds = true) (hb : backB ops = true) (ht : tailB2 ops m = true) (hm : m ≤ ops.size)
 (hst : ∀ j v w w' i f, R j w w' → i ≠ j → use i ≠ some j → (reachL ops 5 i).contains j = false → F i f w → F i (updV f j v) w')
 (hstG : ∀ j w w' c, R j w w' → c ≠ j → (reachL ops 5 j).contains c = false → G c w → G c w')
 (hstep : ∀ (i : Nat) (o : Oper) (f : Nat → Value) (w : World), ops[i]? = some o → i < m → B w → G i w → (∀ e ∈ o.after, Region.binds .any e = true → use e.on = none ∨ use e.on = some i → F e.on f w) → ∀ K : Act → World → Prop, (∀ v w', B w' → R i w w' → F i (updV f i v) w' → K ((putL ds f 0 a0).put o.dst v) w') → wpOp P ops Q i K (putL ds f 0 a0) w)
 (hend : ∀ (f : Nat → Value) (w : World), B w → (∀ i, i < m → use i = none → F i f w) → wpAny P .any ops Q (ops.size - m) (tailArr ops.size m) (putL ds f 0 a0) w) :
 ∀ (fuel : Nat) (listed : Array Bool) (f : Nat → Value) (w : World), listed.size = ops.size → (∀ i, m ≤ i → i < ops.size → listed.getD i true = false) → ClosedL ops listed → B w → (∀ c, listed.getD c false = false → G c w) → (∀ i, listed.getD i false = true → (∀ c, use i = some c → listed.getD c false = false) → F i f w) → listed.toList.count false = fuel →
   wpAny P .any ops Q fuel listed (putL ds f 0 a0) w := by
 intro fuel
 induction fuel with
 | zero =>
   intro listed f w hs htl hcl hB hGc hF hc
   have hall : ∀ i, i < m → listed.getD i false = true := by
    intro i hi
    have h1 : i < listed.size := by omega
    rw [getD_lt _ h1]
    cases hv : listed[i] with
    | true => rfl
    | false => exact absurd (List.count_pos_iff.2 (Array.mem_toList_iff.2 (hv ▸ Array.getElem_mem h1))) (by omega)
   have e : listed = tailArr ops.size m := by
    apply Array.ext
    · simp [tailArr]; omega
    · intro i h1 h2
      by_cases him : i < m
      · have := hall i him
        rw [getD_lt _ h1] at this
        rw [this]
        simp [tailArr, List.getElem_append, him]
      · have := htl i (by omega) (by omega)
        rw [getD_lt _ h1] at this
        rw [this]
        simp [tailArr, List.getElem_append, him]
   have hn : ops.size - m = 0 := by
    rw [e, tail_count] at hc
    exact hc
   have := hend f w hB fun i hi hu => hF i (hall i hi) (fun c hc => by rw [hu] at hc; cases hc)
   rw [hn] at this
   rw [e]; exact this
 | succ fuel ih =>
   intro listed f w hs htl hcl hB hGc hF hc
   by_cases hall : ∀ i, i < m → listed.getD i false = true
   · have e : listed = tailArr ops.size m := by
      apply Array.ext
      · simp [tailArr]; omega
      · intro i h1 h2
        by_cases him : i < m
        · have := hall i him
          rw [getD_lt _ h1] at this
          rw [this]
          simp [tailArr, List.getElem_append, him]
        · have := htl i (by omega) (by omega)
          rw [getD_lt _ h1] at this
          rw [this]
          simp [tailArr, List.getElem_append, him]
     have hn : ops.size - m = fuel + 1 := by
      rw [e, tail_count] at hc
      exact hc
     have := hend f w hB fun i hi hu => hF i (hall i hi) (fun c hc => by rw [hu] at hc; cases hc)
     rw [hn] at this
     rw [e]; exact this
   · have hun : ∃ i, i < m ∧ listed.getD i false = false := by
      refine Classical.byContradiction fun hno => hall fun i hi => ?_
      cases hv : listed.getD i false with
      | true => rfl
      | false => exact absurd ⟨i, hi, hv⟩ hno
     -- the first that has not come up may come up
     have hmin : ∀ n i, i ≤ n → i < m → listed.getD i false = false → ∃ j, j < m ∧ listed.getD j false = false ∧ ∀ k, k < j → listed.getD k false = true := by
      intro n
      induction n with
      | zero => intro i hi him hv; exact ⟨i, him, hv, fun k hk => by omega⟩
      | succ n ihn =>
        intro i hi him hv
        by_cases hex : ∃ k, k < i ∧ listed.getD k false = false
        · obtain ⟨k, hk, hkv⟩ := hex
          exact ihn k (by omega) (by omega) hkv
        · refine ⟨i, him, hv, fun k hk => ?_⟩
          cases hkv : listed.getD k false with
          | true => rfl
          | false => exact absurd ⟨k, hk, hkv⟩ hex
     obtain ⟨i0, hi0, hv0⟩ := hun
     obtain ⟨j0, hj0, hj1, hj2⟩ := hmin i0 i0 (Nat.le_refl _) hi0 hv0
     have hgd : ∀ i, i < ops.size → listed.getD i true = listed.getD i false := by
      intro i hi
      rw [getD_lt true (show i < listed.size by omega), getD_lt false (show i < listed.size by omega)]
     obtain ⟨oj, hoj⟩ : ∃ o, ops[j0]? = some o := ⟨_, Array.getElem?_eq_getElem (by omega)⟩
     have hrj : j0 ∈ Region.ready .any ops listed := mem_ready.2 ⟨by rw [hgd j0 (by omega)]; exact hj1, oj, hoj, fun e he hbe => hj2 _ (backB_spec hb hoj e he hbe)⟩
     refine ⟨fun h => (by rw [h] at hrj; cases hrj), fun i hi => ?_⟩
     obtain ⟨hiu, o, ho, hafter⟩ := mem_ready.1 hi
     have hin : i < ops.size := (Array.getElem?_eq_some_iff.1 ho).1
     have him : i < m := by
      rcases Nat.lt_or_ge i m with h | h
      · exact h
      · exfalso
        have := tailB2_spec ht ho h hcl hafter j0 hj0
        rw [hj1] at this
        cases this
     have hil : listed.getD i false = false := by rw [← hgd i hin]; exact hiu
     refine hstep i o f w ho him hB (hGc i hil) (fun e he hbe hu => hF e.on (hafter e he hbe) (fun c hc => by
      rcases hu with hu | hu
      · rw [hu] at hc; cases hc
      · rw [hu] at hc; obtain rfl := Option.some.inj hc; rw [← hgd i hin]; exact hiu)) _ fun v w' hB' hR hFi => ?_
     have hdi : ds[i]? = some o.dst := by
      rw [← hds, List.getElem?_map, Array.getElem?_toList, ho]; rfl
     rw [putL_at hd hdi]
     have hlf : listed.toList[i]? = some false := by
      rw [Array.getElem?_toList, Array.getElem?_eq_getElem (by omega)]
      rw [getD_lt _ (by omega)] at hiu
      exact congrArg some hiu
     refine ih _ _ _ (by simp [hs]) (fun k hk hk2 => ?_) (fun k ok hok hk e he hbe => ?_) hB' (fun k hk => ?_) (fun k hk hku => ?_) ?_
     · have hk3 : k < (listed.setIfInBounds i true).size := by rw [Array.size_setIfInBounds]; omega
       rw [getD_lt _ hk3, Array.getElem_setIfInBounds, if_neg (by omega)]
       have := htl k hk hk2
       rw [getD_lt _ (by omega)] at this
       exact this
     · have hdep : listed.getD e.on false = true := by
        by_cases hki : k = i
        · subst hki
          rw [ho] at hok
          obtain rfl := Option.some.inj hok
          exact hafter e he hbe
        · rw [getD_set_ne false (fun h => hki h.symm)] at hk
          exact hcl k ok hok hk e he hbe
       by_cases hei : e.on = i
       · rw [hei, getD_lt _ (by rw [Array.size_setIfInBounds]; omega), Array.getElem_setIfInBounds_self]
       · rw [getD_set_ne false (fun h => hei h.symm)]; exact hdep
     · by_cases e : k = i
       · subst e
         rw [getD_lt _ (by rw [Array.size_setIfInBounds]; omega), Array.getElem_setIfInBounds_self] at hk
         cases hk
       · rw [getD_set_ne false (by omega)] at hk
         refine hstG i w w' k hR e ?_ (hGc k hk)
         cases hc : (reachL ops 5 i).contains k with
         | false => rfl
         | true =>
           have h1 := reach_listed hcl 5 i (fun x hx => by
            unfold depsOf at hx
            rw [ho] at hx
            obtain ⟨e, he, rfl⟩ := List.mem_map.1 hx
            obtain ⟨he1, he2⟩ := List.mem_filter.1 he
            exact hafter e (Array.mem_toList_iff.1 he1) he2) k (List.contains_iff_mem.1 hc)
           rw [hk] at h1
           cases h1
     · by_cases e : k = i
       · subst e; exact hFi
       · have hki : use k ≠ some i := fun h => by
          have := hku i h
          rw [getD_lt _ (by rw [Array.size_setIfInBounds]; omega), Array.getElem_setIfInBounds_self] at this
          cases this
         rw [getD_set_ne false (by omega)] at hk
         refine hst i v w w' k f hR e hki ?_ (hF k hk fun c hc => ?_)
         · cases hc : (reachL ops 5 k).contains i with
           | false => rfl
           | true =>
             have h1 := reach_listed hcl 5 k (fun x hx => by
              unfold depsOf at hx
              split at hx
              · next ok hok =>
                obtain ⟨e, he, rfl⟩ := List.mem_map.1 hx
                obtain ⟨he1, he2⟩ := List.mem_filter.1 he
                exact hcl k ok hok hk e (Array.mem_toList_iff.1 he1) he2
              · cases hx) i (List.contains_iff_mem.1 hc)
             rw [hil] at h1
             cases h1
         · have := hku c hc
           rw [getD_set_ne false (by intro h; exact hki (h ▸ hc))] at this
           exact this
     · have := count_set listed.toList i hlf
       rw [Array.toList_setIfInBounds]
       omega
theorem wp_region_factsI {id : Nat} {a0 : Act} {w : World} (G : Nat → World → Prop) (F : Nat → (Nat → Value) → World → Prop) (B : World → Prop) (use : Nat → Option Nat) (R : Nat → World → World → Prop) (K0 : Act → World → Prop) (hK0 : ∀ a w, K0 a w → Q .normal a w) (n m : Nat) (ds : List (Option Tmp)) (hn : ops.size = n) (hmix : P.follows .mixedOrders = true) (hds : ops.toList.map (·.dst) = ds) (hd : distB ds = true) (hb : backB ops = true) (ht : tailB2 ops m = true) (hm : m ≤ n)
 (hst : ∀ j v w w' i f, R j w w' → i ≠ j → use i ≠ some j → (reachL ops 5 i).contains j = false → F i f w → F i (updV f j v) w') (hB : B w.drew) (hG : ∀ c, G c w.drew) (hstG : ∀ j w w' c, R j w w' → c ≠ j → (reachL ops 5 j).contains c = false → G c w → G c w')
 (hstep : ∀ (i : Nat) (o : Oper) (f : Nat → Value) (w : World), ops[i]? = some o → i < m → B w → G i w → (∀ e ∈ o.after, Region.binds .any e = true → use e.on = none ∨ use e.on = some i → F e.on f w) → ∀ K : Act → World → Prop, (∀ v w', B w' → R i w w' → F i (updV f i v) w' → K ((putL ds f 0 a0).put o.dst v) w') → wpOp P ops Q i K (putL ds f 0 a0) w)
 (hend : ∀ (Q2 : Exit → Act → World → Prop), (∀ a w, K0 a w → Q2 .normal a w) → ∀ (f : Nat → Value) (w : World), B w → (∀ i, i < m → use i = none → F i f w) → wpAny P .any ops Q2 (n - m) (tailArr n m) (putL ds f 0 a0) w) :
 (Code.region id ops true).wp P Q a0 w := by
 subst hn
 refine wp_region_any hmix ?_
 have := wpAny_factsI G F B use R m ds a0 hds hd hb ht hm hst hstG hstep (hend Q hK0) ops.size (Array.replicate ops.size false) (fun j => slotV a0 ((ds[j - 0]?).getD none)) w.drew (by simp)
  (fun i _ hi => by simp [Array.getD, hi]) (fun k _ _ hk => by simp [Array.getD] at hk) hB (fun c _ => hG c) (fun i hi _ => by simp [Array.getD] at hi) (by simp)
 rw [putL_self] at this
 exact this
end
end Go.Proofs.YtopkmeceakjocaaGreat
