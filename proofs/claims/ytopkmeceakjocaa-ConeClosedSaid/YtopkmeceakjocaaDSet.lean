/- The package's Full, Of, With and Without. -/
import Derived.Test.YtopkmeceakjocaaDPut
namespace Go.Proofs.Ytopkmeceakjocaa
set_option maxRecDepth 20000
open Go.ChangeShapes Go.WideShapes Go.ChangeAt Go.RowKit

theorem OwnW.less {w : World} {base base' g n c : Nat} {ws : List Nat} (h : OwnW w base g n c ws) (hb : base' ≤ base) : OwnW w base' g n c ws := by
  refine ⟨h.1, ?_⟩
  rcases h.2 with h' | ⟨g', cap, cur, h1, h2, h3⟩
  · exact .inl h'
  · exact .inr ⟨g', cap, cur, h1, Nat.le_trans hb h2, h3⟩

/-- A set that is being filled in variable b, its words in block g; the result's cell r is still empty. -/
def Filling (w : World) (b r v g n c : Nat) (zs : List Nat) (wr : World) : Prop :=
  Box wr b v (some ⟨g, 0, none⟩) n c ∧ OwnW wr w.heap.size g n c zs ∧ w.heap.size ≤ b ∧ b ≠ r ∧ w.heap.size ≤ r ∧ Box wr r 0 none 0 0 ∧ Below w.heap.size w wr
theorem Filling.put {w wr w5 : World} {b r v g n c : Nat} {zs zs' : List Nat} (h : Filling w b r v g n c zs wr) (ho : OwnW w5 w.heap.size g n c zs') (hg : wr.grownBy w5 (some g)) : Filling w b r v g n c zs' w5 := by
  obtain ⟨h1, h2, h3, h4, h5, h6, h7⟩ := h
  have e1 := h1.own_ne h2
  have e2 := h6.own_ne h2
  have hge := h2.ge
  exact ⟨h1.grown hg (some_ne (Ne.symm e1)), ho, h3, h4, h5, h6.grown hg (some_ne (Ne.symm e2)), h7.grown hg h7.size (by intro k hk; injection hk with hk; omega)⟩
theorem Filling.start {w w2 : World} {g r v n c : Nat} {zs : List Nat} (ho : OwnW w2 w.heap.size g n c zs) (hr : Box w2 r 0 none 0 0) (hr2 : w.heap.size ≤ r) (hb : Below w.heap.size w w2) :
    Filling w w2.heap.size r v g n c zs (w2.alloc (.cells #[.int .i64 v, .slice (some ⟨g, 0, none⟩) n c] 50)) := by
  have := hr.lt
  exact ⟨Box.new _ _ _ _ _, ho.below ((Below.refl _ _).alloc (Nat.le_refl _) _), hb.size, by omega, hr2, hr.alloc _, hb.alloc hb.size _⟩
theorem Filling.cells {w wr : World} {b r v g n c : Nat} {zs : List Nat} (h : Filling w b r v g n c zs wr) :
    ((wr.cell? ⟨b, 0, none⟩ = some (.int .i64 v) ∧ wr.cell? ⟨b, 1, none⟩ = some (.slice (some ⟨g, 0, none⟩) n c)) ∧ (wr.cell? ⟨r, 0, none⟩ = some (.int .i64 0) ∧ wr.cell? ⟨r, 1, none⟩ = some (.slice none 0 0))) ∧ (wr.frozen? ⟨r, 0, none⟩ = false ∧ wr.frozen? ⟨r, 1, none⟩ = false) ∧ b ≠ r := by
  obtain ⟨h1, h2, h3, h4, h5, h6, h7⟩ := h
  exact ⟨⟨⟨h1.c0, h1.c1⟩, h6.c0, h6.c1⟩, ⟨h6.f 0, h6.f 1⟩, h4⟩
/-- The set is stored into the result's cell. -/
theorem Filling.done {w wr : World} {b r v g n c : Nat} {zs : List Nat} (h : Filling w b r v g n c zs wr) (ok : ∀ x ∈ zs, x < Bs.W64) :
    Arg ((wr.setCell ⟨r, 0, none⟩ (.int .i64 v)).setCell ⟨r, 1, none⟩ (.slice (some ⟨g, 0, none⟩) n c)) (some ⟨g, 0, none⟩) n zs ∧
      Below w.heap.size w ((wr.setCell ⟨r, 0, none⟩ (.int .i64 v)).setCell ⟨r, 1, none⟩ (.slice (some ⟨g, 0, none⟩) n c)) := by
  obtain ⟨h1, h2, h3, h4, h5, h6, h7⟩ := h
  have e2 := h6.own_ne h2
  exact ⟨((h2.far (p := ⟨r, 0, none⟩) e2 _).far (p := ⟨r, 1, none⟩) e2 _).arg ok, (h7.setCell (by simpa using h5) _).setCell (by simpa using h5) _⟩

theorem devOf_any (W : Int) (A : Option Addr) (n c : Nat) (l : List Int) (w : World) (hA : IArg w A n l) (hn : n ≤ maxLen) :
    Calls Try.prog 114 #[.int .i64 W, .slice A n c] w (RetErr w (ofR W l)) := by
  by_cases h : W < 0 ∨ 256 < W
  · have hr : ofR W l = (0, [], 3) := by unfold ofR; rw [if_pos h]
    have hr2 : emptyR W = (0, [], 3) := by unfold emptyR; rw [if_pos h]
    rw [hr]
    have Hr2 := hid hr2
    have Hx := hid (Box.new w 0 none 0 0)
    clear hr hr2 h hA
    go_enter Try.func114, Try.ntmps114
    go_wp2_with fail
    refine (devEmpty_any W _).mono ?_
    rw [Hr2.out]
    rintro e w1 ⟨A1, n1, c1, rfl, ha, hb⟩
    have hq := Hx.out.below hb (by simp)
    have hq0 := hq.c0
    have hq1 := hq.c1
    have hf0 := hq.f 0
    have hf1 := hq.f 1
    have hz := hb.size
    rw [World.size_alloc] at hz
    have hz2 : w.heap.size < w1.heap.size := hz
    have Hb := hid (((Below.refl w.heap.size w).alloc (Nat.le_refl _) _).trans (hb.mono (by simp)))
    clear hq ha hb
    simp only []
    go_wp2_with fail
    exact bodyPost_ret (v := .tuple #[.agg #[.int .i64 0, .slice none 0 0], .int .i64 3]) (by simp [results, Try.results114, go_sem, hq0, hq1, hz2]) rfl ⟨_, _, _, rfl, Arg.nil _ _, ((Hb.out.setCell (by simp) _).setCell (by simp) _).alloc (by simp; omega) _⟩
  · obtain ⟨v, rfl⟩ := Int.eq_ofNat_of_zero_le (a := W) (by omega)
    have hv : v ≤ 256 := by omega
    unfold maxLen at hn
    have Hx := hid (Box.new w 0 none 0 0)
    have HA := hid hA; have H0 := hid h
    clear h hA
    go_enter Try.func114, Try.ntmps114
    go_wp2_with fail
    refine (devEmpty_own v _ hv).mono ?_
    rintro e w2 ⟨g, rfl, ho, hb⟩
    have hst := Filling.start (w := w) (r := w.heap.size) (v := v) (zs := Bs.emp v) (by rw [World.size_alloc] at ho; exact OwnW.less ho (by omega)) (Hx.out.below hb (by simp)) (Nat.le_refl _) (((Below.refl _ _).alloc (Nat.le_refl _) _).trans (hb.mono (by simp)))
    have he : Bs.emp v = Bs.ofP v (fun i => decide ((i : Int) ∈ l.take 0)) v := by
      rw [show (fun i : Nat => decide ((i : Int) ∈ l.take 0)) = fun _ => false from by funext i; simp]; exact (Bs.ofP_false v v).symm
    rw [he] at hst
    have Hst := hid hst
    clear hst ho hb Hx he
    go_wp2_with fail
    go_loopw [9, 21] (fun _ i wr => ∃ k : Nat, k ≤ n ∧ i = .int .i64 k ∧ Hid ((∀ x ∈ l.take k, 0 ≤ x ∧ x < v) ∧ Filling w w2.heap.size w.heap.size v g (Bs.nw v) (Bs.nw v) (Bs.ofP v (fun i => decide ((i : Int) ∈ l.take k)) v) wr)) (fun _ i _ => n - (intOf i).toNat)
    case atStart => exact ⟨0, by omega, rfl, hid ⟨by simp, Hst.out⟩⟩
    case round =>
      obtain ⟨k, hk, rfl, hG⟩ := hrel
      have Hfit := hid (Bs.fit_ofP v (fun i => decide ((i : Int) ∈ l.take k)) v (Nat.le_refl _))
      obtain ⟨⟨⟨hc0, hc1⟩, hr0, hr1⟩, ⟨hf0, hf1⟩, hne⟩ := hG.out.2.cells
      have Hfr := hid hG.out.2.2.2.2.2.2.2
      clear Hst
      by_cases hlt : k < n
      · have hkl : k < l.length := by rw [HA.out.len]; exact hlt
        obtain ⟨ad, rfl, had, hcell⟩ := (HA.out.below Hfr.out).lies.cell (ints_get hkl)
        have hsn := take_snoc l k hkl
        have hxl : l.getD k 0 = l[k] := by rw [List.getD_eq_getElem?_getD, List.getElem?_eq_getElem hkl]; rfl
        have hmem : l[k] ∈ l := List.getElem_mem hkl
        rw [← hxl] at hsn hmem
        generalize l.getD k 0 = x at hcell hsn hmem
        have Hsn := hid hsn; have Hmem := hid hmem
        clear hsn hmem hxl
        have hk0 : (0 : Int) ≤ k := by omega
        have hkn : (k : Int).toNat = k := by omega
        have hk1 : (k : Int) < n := by omega
        cases hi : (decide (0 ≤ x) && decide (x < (v : Int))) with
        | true =>
          have h2 := hi
          simp at h2
          obtain ⟨hx0, hx1⟩ := h2
          obtain ⟨b, rfl⟩ := Int.eq_ofNat_of_zero_le hx0
          have hbv : b < v := by omega
          have Hi := hid hi
          clear hi hr0 hr1 hf0 hf1
          go_wp2_with (first
            | (go_at_call 121; refine (inside_is _ _ _ _ Hi).mono ?_; rintro e w5 ⟨rfl, rfl⟩)
            | (go_at_call 123; refine (put_any v _ g _ _ _ b _ hG.out.2.2.1 Hfit.out.ok (Bs.lt_nw hbv) (by omega)).mono ?_
               rintro e w5 ⟨⟨v5, rfl⟩, ho, hg⟩
               have hfin := hG.out.2.put ho hg
               rw [Bs.put_ofP _ hbv] at hfin
               have Hfin := hid hfin
               clear hfin ho hg))
          go_roundw
          case rel =>
            refine ⟨k + 1, by omega, by go_num, hid ⟨?_, ?_⟩⟩
            · rw [Hsn.out]; intro y hy
              rcases List.mem_append.1 hy with h | h
              · exact hG.out.1 y h
              · simp at h; subst h; exact ⟨hx0, hx1⟩
            · rw [Bs.ofP_congr (q := fun i => decide ((i : Int) ∈ l.take k) || decide (i = b)) (fun i _ => by rw [Hsn.out]; exact mem_snoc _ _ _)]
              exact Hfin.out
          case measure => simp [intOf]; omega
        | false =>
          have hres : ofR (v : Int) l = (0, [], 3) := by
            unfold ofR
            rw [if_neg H0.out, if_pos]
            refine List.any_eq_true.2 ⟨x, Hmem.out, ?_⟩
            simp at hi ⊢; omega
          have Hres := hid hres; have Hi := hid hi
          clear hres hi
          go_wp2_with (go_at_call 121; refine (inside_is _ _ _ _ Hi).mono ?_; rintro e w5 ⟨rfl, rfl⟩)
          refine bodyPost_ret (v := .tuple #[.agg #[.int .i64 0, .slice none 0 0], .int .i64 3]) (by simp [results, Try.results114, go_sem, hr0, hr1]) rfl ?_
          rw [Hres.out]
          exact ⟨_, _, _, rfl, Arg.nil _ _, (Hfr.out.setCell (by simp) _).setCell (by simp) _⟩
      · have hkW : k = n := by omega
        have hall : l.take k = l := List.take_of_length_le (by rw [HA.out.len]; omega)
        have hres : ofR (v : Int) l = ((v : Int), Bs.ofP v (fun i => decide ((i : Int) ∈ l)) v, 0) := by
          unfold ofR
          rw [if_neg H0.out, if_neg, Int.toNat_natCast]
          intro h
          obtain ⟨x, hx, hb⟩ := List.any_eq_true.1 h
          have := hG.out.1 x (by rw [hall]; exact hx)
          simp at hb; omega
        have hd := hG.out.2.done Hfit.out.ok
        have Hres := hid hres; have Hall := hid hall; have Hd := hid hd
        clear hres hall hkW hd hG Hfr
        go_wp2_with fail
        refine bodyPost_ret (v := .tuple #[.agg #[.int .i64 v, .slice (some ⟨g, 0, none⟩) (Bs.nw v) (Bs.nw v)], .int .i64 0]) (by simp [results, Try.results114, go_sem, hr0, hr1]) rfl ?_
        rw [Hres.out]
        refine ⟨_, _, _, rfl, ?_, Hd.out.2⟩
        have hh := Hd.out.1
        rw [Hall.out] at hh
        exact hh
end Go.Proofs.Ytopkmeceakjocaa
