/- Texts that the proof leans on, merged. -/
import Derived.Test.YtadkjnjibefocaaCa
import Derived.Test.YtadkjnjibefocaaCb
import Derived.Deep.RegionLaw
import Derived.Deep.DeepCutAuto
import Derived.Deep.DrawnRows
namespace Go.Proofs.Ytadkjnjibefocaa
set_option maxRecDepth 20000
set_option linter.unusedVariables false
set_option linter.unusedSimpArgs false
open Go.ChangeShapes Go.WideShapes Go.ChangeAt Go.RowKit
attribute [local go_sem ↓] Go.wp_at_zero Go.wp_at_succ

/-- The start: the copies lie in a row of the call's own. -/
theorem Spf.start {w w' : World} {T : Nat} {W V : Int} {A B C : Option Addr} {n c m d k q C9 q9 : Nat} {gs ks : List Nat} {cs : List (Int × Int)} {row : Option Nat} (ht : Tape w T) (hA : Arg w A n gs) (hB : Arg w B m ks) (hl : cs.length = k)
    (hg : ((((w.alloc (.cells (cells5 W A n c V B m d C k q) 51)).alloc (.cells #[.int .i64 0, .slice none 0 0, .int .i64 0, .slice none 0 0, .slice none 0 0] 51)).alloc (.cells (cells5 W A n c V B m d C k q) 51)).alloc (.cells #[] 62)).grownBy w' row)
    (hown : w'.ownsRow (w.heap.size + 1 + 1 + 1) 62 2 (.slice (some ⟨C9, 0, none⟩) k q9) k (pairs cs)) (hrow : ∀ j, row = some j → w.heap.size + 1 + 1 + 1 ≤ j) :
    (w'.cell? ⟨w.heap.size + 1 + 1, 4, none⟩ = some (.slice C k q) ∧ w'.frozen? ⟨w.heap.size + 1 + 1, 4, none⟩ = false) ∧
    Spf w T (cells5 W A n c V B m d C k q) W A n c V B m d C9 k q9 gs ks cs (w'.setCell ⟨w.heap.size + 1 + 1, 4, none⟩ (.slice (some ⟨C9, 0, none⟩) k q9)) := by
  have hT := ht.lt
  have hne : ∀ j, j < w.heap.size + 1 + 1 + 1 → some j ≠ row := fun j hj e => by have := hrow j e.symm; omega
  have f0 := (((Fb.new w (cells5 W A n c V B m d C k q) 51).alloc (.cells #[.int .i64 0, .slice none 0 0, .int .i64 0, .slice none 0 0, .slice none 0 0] 51)).alloc (.cells (cells5 W A n c V B m d C k q) 51)).alloc (.cells #[] 62)
  have f1 := ((Fb.new (w.alloc (.cells (cells5 W A n c V B m d C k q) 51)) #[.int .i64 0, .slice none 0 0, .int .i64 0, .slice none 0 0, .slice none 0 0] 51).alloc (.cells (cells5 W A n c V B m d C k q) 51)).alloc (.cells #[] 62)
  have f2 := (Fb.new ((w.alloc (.cells (cells5 W A n c V B m d C k q) 51)).alloc (.cells #[.int .i64 0, .slice none 0 0, .int .i64 0, .slice none 0 0, .slice none 0 0] 51)) (cells5 W A n c V B m d C k q) 51).alloc (.cells #[] 62)
  rw [World.size_alloc] at f1
  rw [World.size_alloc, World.size_alloc] at f2
  have b0 := (((((Below.refl w.heap.size w).alloc (Nat.le_refl _) (.cells (cells5 W A n c V B m d C k q) 51)).alloc (by simp) (.cells #[.int .i64 0, .slice none 0 0, .int .i64 0, .slice none 0 0, .slice none 0 0] 51)).alloc (by simp; omega) (.cells (cells5 W A n c V B m d C k q) 51)).alloc (by simp; omega) (.cells #[] 62))
  have g0 := grown_of_below b0 (some T)
  have e7 : Tape w' T := (ht.below b0 hT).keep fun j hj => hg.block j (by simp; omega) (hne _ (by omega))
  have e8 : w.grownBy w' (some T) := ⟨hg.os.trans g0.os, hg.tape.trans g0.tape, hg.output.trans g0.output, Nat.le_trans g0.size hg.size, fun j hj hn => (hg.block j (by simp; omega) (hne _ (by omega))).trans (g0.block j hj hn)⟩
  have e9 := grown_set_new e8 (p := ⟨w.heap.size + 1 + 1, 4, none⟩) (by show w.heap.size ≤ w.heap.size + 1 + 1; omega) (.slice (some ⟨C9, 0, none⟩) k q9)
  have e1 := f0.grown hg (hne _ (by omega))
  have e2 := f1.grown hg (hne _ (by omega))
  have e3 := f2.grown hg (hne _ (by omega))
  exact ⟨⟨e3.cell 4, e3.frozen 4⟩, hl, e1.far (by simp; omega) _, e2.far (by simp) _, e3.set 4 _, hA.tape ht e9, hB.tape ht e9, World.ownsRow.kept hown (setCell_grown _ _ _) (own_row' hown (by simp)), e7.far (by simp; omega) _, e9, hT⟩

theorem one_pairI (a b : Int) : ∀ u ∈ [Value.int .i64 a, Value.int .i64 b], u.oneCell' = true := by
  intro u hu
  simp at hu
  rcases hu with rfl | rfl <;> rfl
theorem Spf.alloc {w wr : World} {T : Nat} {fc : Array Value} {W1 V1 : Int} {A1 B1 : Option Addr} {n1 c1 m1 d1 C1 k1 q1 : Nat} {gs1 ks1 : List Nat} {cs1 : List (Int × Int)} (h : Spf w T fc W1 A1 n1 c1 V1 B1 m1 d1 C1 k1 q1 gs1 ks1 cs1 wr) (o : Obj) : Spf w T fc W1 A1 n1 c1 V1 B1 m1 d1 C1 k1 q1 gs1 ks1 cs1 (wr.alloc o) :=
  h.below ((Below.refl _ _).alloc (Nat.le_refl _) o)
theorem Spf.push {w wr w' : World} {T : Nat} {fc : Array Value} {W1 V1 x y : Int} {A1 B1 : Option Addr} {n1 c1 m1 d1 C1 k1 q1 g cap : Nat} {gs1 ks1 : List Nat} {cs1 : List (Int × Int)} (h : Spf w T fc W1 A1 n1 c1 V1 B1 m1 d1 C1 k1 q1 gs1 ks1 cs1 wr) (o : Obj) (hgen : Arg w A1 n1 gs1) (hkill : Arg w B1 m1 ks1) (ht0 : Tape w T)
    (hown : w'.ownsRow (w.heap.size + 1 + 1 + 1) 62 2 (.slice (some ⟨g, 0, none⟩) (k1 + 1) cap) (k1 + 1) (pairs cs1 ++ [.int .i64 x, .int .i64 y])) (hg : (wr.alloc o).grownBy w' (Value.slice (some ⟨C1, 0, none⟩) k1 q1).ownBlock) :
    (w'.cell? ⟨w.heap.size + 1 + 1, 4, none⟩ = some (.slice (some ⟨C1, 0, none⟩) k1 q1) ∧ w'.frozen? ⟨w.heap.size + 1 + 1, 4, none⟩ = false) ∧
    Spf w T fc W1 A1 n1 c1 V1 B1 m1 d1 g (k1 + 1) cap gs1 ks1 (cs1 ++ [(x, y)]) (w'.setCell ⟨w.heap.size + 1 + 1, 4, none⟩ (.slice (some ⟨g, 0, none⟩) (k1 + 1) cap)) :=
  (h.alloc o).copies hgen hkill ht0 (by rw [List.length_append, h.len]; rfl) (by rw [pairs_snoc]; exact hown) hg (fun j hj => (h.own.lt j hj).1)
theorem Spf.front {w wr w' : World} {T : Nat} {fc : Array Value} {W1 V1 x y : Int} {A1 B1 : Option Addr} {n1 c1 m1 d1 C1 k1 q1 L : Nat} {v : Value} {gs1 ks1 : List Nat} {cs1 : List (Int × Int)} (h : Spf w T fc W1 A1 n1 c1 V1 B1 m1 d1 C1 k1 q1 gs1 ks1 cs1 wr) (o : Obj) (hgen : Arg w A1 n1 gs1) (hkill : Arg w B1 m1 ks1) (ht0 : Tape w T)
    (hown : w'.ownsRow (w.heap.size + 1 + 1 + 1) 62 2 v (1 + k1) ([.int .i64 x, .int .i64 y] ++ pairs cs1)) (hg : (wr.alloc o).grownBy w' (some L)) (hL : L = wr.heap.size) :
    ∃ g cap, v = .slice (some ⟨g, 0, none⟩) (1 + k1) cap ∧ (w'.cell? ⟨w.heap.size + 1 + 1, 4, none⟩ = some (.slice (some ⟨C1, 0, none⟩) k1 q1) ∧ w'.frozen? ⟨w.heap.size + 1 + 1, 4, none⟩ = false) ∧
    Spf w T fc W1 A1 n1 c1 V1 B1 m1 d1 g (1 + k1) cap gs1 ks1 ((x, y) :: cs1) (w'.setCell ⟨w.heap.size + 1 + 1, 4, none⟩ (.slice (some ⟨g, 0, none⟩) (1 + k1) cap)) := by
  rcases hown.2 with ⟨_, h0⟩ | ⟨g, cap, cur, rfl, _⟩
  · omega
  · have hz := h.q0.lt
    exact ⟨g, cap, rfl, (h.alloc o).copies hgen hkill ht0 (by rw [List.length_cons, h.len]; omega) (by simpa [pairs] using hown) hg (fun j hj => by injection hj with hj; omega)⟩
theorem Spf.row {w wr : World} {T : Nat} {fc : Array Value} {W1 V1 : Int} {A1 B1 : Option Addr} {n1 c1 m1 d1 C1 k1 q1 : Nat} {gs1 ks1 : List Nat} {cs1 : List (Int × Int)} (h : Spf w T fc W1 A1 n1 c1 V1 B1 m1 d1 C1 k1 q1 gs1 ks1 cs1 wr) :
    ∀ (j : Nat) (u : Value), (pairs cs1)[j]? = some u → wr.cell? ((⟨C1, 0, none⟩ : Addr).add j) = some u := by
  intro j u hu
  have hj : j < (pairs cs1).length := (List.getElem?_eq_some_iff.1 hu).1
  rw [pairs_length, h.len] at hj
  rw [add_of, World.ownsRow.cellAt h.own j (by omega), hu]
theorem Spf.lit {w wr : World} {T : Nat} {fc : Array Value} {W1 V1 : Int} {A1 B1 : Option Addr} {n1 c1 m1 d1 C1 k1 q1 : Nat} {gs1 ks1 : List Nat} {cs1 : List (Int × Int)} (h : Spf w T fc W1 A1 n1 c1 V1 B1 m1 d1 C1 k1 q1 gs1 ks1 cs1 wr) (x y : Int) :
    (wr.alloc (.cells #[.int .i64 x, .int .i64 y] 62)).ownsRow (w.heap.size + 1 + 1 + 1) 62 2 (.slice (some ⟨wr.heap.size, 0, none⟩) 1 1) 1 [.int .i64 x, .int .i64 y] :=
  World.ownsRow_lit wr #[.int .i64 x, .int .i64 y] 1 (by have := h.q0.lt; omega) (by simp [maxLen]) rfl
theorem Spf.start0 {w : World} {T : Nat} {W V : Int} {A B C : Option Addr} {n c m d k q : Nat} {gs ks : List Nat} (ht : Tape w T) (hA : Arg w A n gs) (hB : Arg w B m ks) :
    Spf w T (cells5 W A n c V B m d C k q) W A n c V B m d (w.heap.size + 1 + 1 + 1) 0 0 gs ks []
      ((((w.alloc (.cells (cells5 W A n c V B m d C k q) 51)).alloc (.cells #[.int .i64 0, .slice none 0 0, .int .i64 0, .slice none 0 0, .slice none 0 0] 51)).alloc (.cells (cells5 W A n c V B m d (some ⟨w.heap.size + 1 + 1 + 1, 0, none⟩) 0 0) 51)).alloc (.cells #[] 62)) := by
  have hT := ht.lt
  have f0 := (((Fb.new w (cells5 W A n c V B m d C k q) 51).alloc (.cells #[.int .i64 0, .slice none 0 0, .int .i64 0, .slice none 0 0, .slice none 0 0] 51)).alloc (.cells (cells5 W A n c V B m d (some ⟨w.heap.size + 1 + 1 + 1, 0, none⟩) 0 0) 51)).alloc (.cells #[] 62)
  have f1 := ((Fb.new (w.alloc (.cells (cells5 W A n c V B m d C k q) 51)) #[.int .i64 0, .slice none 0 0, .int .i64 0, .slice none 0 0, .slice none 0 0] 51).alloc (.cells (cells5 W A n c V B m d (some ⟨w.heap.size + 1 + 1 + 1, 0, none⟩) 0 0) 51)).alloc (.cells #[] 62)
  have f2 := (Fb.new ((w.alloc (.cells (cells5 W A n c V B m d C k q) 51)).alloc (.cells #[.int .i64 0, .slice none 0 0, .int .i64 0, .slice none 0 0, .slice none 0 0] 51)) (cells5 W A n c V B m d (some ⟨w.heap.size + 1 + 1 + 1, 0, none⟩) 0 0) 51).alloc (.cells #[] 62)
  rw [World.size_alloc] at f1
  rw [World.size_alloc, World.size_alloc] at f2
  have b0 := (((((Below.refl w.heap.size w).alloc (Nat.le_refl _) (.cells (cells5 W A n c V B m d C k q) 51)).alloc (by simp) (.cells #[.int .i64 0, .slice none 0 0, .int .i64 0, .slice none 0 0, .slice none 0 0] 51)).alloc (by simp; omega) (.cells (cells5 W A n c V B m d (some ⟨w.heap.size + 1 + 1 + 1, 0, none⟩) 0 0) 51)).alloc (by simp; omega) (.cells #[] 62))
  have g0 := grown_of_below b0 (some T)
  have ho := World.ownsRow_lit (base := w.heap.size + 1 + 1 + 1) (e := 62) (size := 2) ((((w.alloc (.cells (cells5 W A n c V B m d C k q) 51)).alloc (.cells #[.int .i64 0, .slice none 0 0, .int .i64 0, .slice none 0 0, .slice none 0 0] 51)).alloc (.cells (cells5 W A n c V B m d (some ⟨w.heap.size + 1 + 1 + 1, 0, none⟩) 0 0) 51))) #[] 0 (by simp) (by simp [maxLen]) rfl
  refine ⟨rfl, f0, f1, f2, hA.below b0, hB.below b0, ?_, ht.below b0 hT, g0, hT⟩
  simpa [pairs] using ho

set_option maxHeartbeats 12800000 in
theorem spoilT_any (T W g1 g2 n c m d k q : Nat) (C : Option Addr) (gs ks : List Nat) (cs : List (Int × Int)) (w : World) (ht : Tape w T) (hA : Arg w (some ⟨g1, 0, none⟩) n gs) (hB : Arg w (some ⟨g2, 0, none⟩) m ks) (hC : ArgC w C k cs)
    (hk : k ≤ 12) (hW : W ≤ 16) (hn : n ≤ 50) (hm : m ≤ 50) :
    Calls Try.prog 26 #[.pointer (some ⟨T, 0, none⟩), .agg #[.int .i64 W, .slice (some ⟨g1, 0, none⟩) n c, .int .i64 W, .slice (some ⟨g2, 0, none⟩) m d, .slice C k q]] w (GenF w T) := by
  obtain ⟨i0, hi, hz0, hz1, hz2⟩ := info_parts info35
  have Hi := hid hi; have Hz0 := hid hz0; have Hz1 := hid hz1; have Hz2 := hid hz2
  have Ht := hid ht; have HA := hid hA; have HB := hid hB; have HC := hid hC
  have HL := hid hC.len
  have hb3 := ((((Below.refl w.heap.size w).alloc (Nat.le_refl _) (.cells (cells5 W (some ⟨g1, 0, none⟩) n c W (some ⟨g2, 0, none⟩) m d C k q) 51)).alloc (by simp) (.cells #[.int .i64 0, .slice none 0 0, .int .i64 0, .slice none 0 0, .slice none 0 0] 51)).alloc (by simp; omega) (.cells (cells5 W (some ⟨g1, 0, none⟩) n c W (some ⟨g2, 0, none⟩) m d C k q) 51))
  have hb4 := hb3.alloc (by simp; omega) (.cells #[] 62)
  have HC4 := hid (hC.below hb4)
  have HE := hid (show ((((w.alloc (.cells (cells5 W (some ⟨g1, 0, none⟩) n c W (some ⟨g2, 0, none⟩) m d C k q) 51)).alloc (.cells #[.int .i64 0, .slice none 0 0, .int .i64 0, .slice none 0 0, .slice none 0 0] 51)).alloc (.cells (cells5 W (some ⟨g1, 0, none⟩) n c W (some ⟨g2, 0, none⟩) m d C k q) 51)).alloc (.cells #[] 62)).ownsRow (w.heap.size + 1 + 1 + 1) 62 2 (.slice (some ⟨w.heap.size + 1 + 1 + 1, 0, none⟩) 0 0) 0 [] from by
    have := World.ownsRow_lit (base := w.heap.size + 1 + 1 + 1) (e := 62) (size := 2) ((((w.alloc (.cells (cells5 W (some ⟨g1, 0, none⟩) n c W (some ⟨g2, 0, none⟩) m d C k q) 51)).alloc (.cells #[.int .i64 0, .slice none 0 0, .int .i64 0, .slice none 0 0, .slice none 0 0] 51)).alloc (.cells (cells5 W (some ⟨g1, 0, none⟩) n c W (some ⟨g2, 0, none⟩) m d C k q) 51))) #[] 0 (by simp) (by simp [maxLen]) rfl
    simpa using this)
  clear hi hz0 hz1 hz2 ht hA hB hC hb3 hb4
  unfold cells5 at HC4 HE
  go_enter Try.func26, Try.ntmps26
  go_upto_region 2 with fail
  go_cut [] (fun wc => Hid (∃ C9 q9 : Nat, Spf w T (cells5 W (some ⟨g1, 0, none⟩) n c W (some ⟨g2, 0, none⟩) m d C k q) W (some ⟨g1, 0, none⟩) n c W (some ⟨g2, 0, none⟩) m d C9 k q9 gs ks cs wc))
  case first =>
    by_cases hk0 : k = 0
    · subst hk0
      have h0 : cs = [] := List.eq_nil_of_length_eq_zero HL.out
      subst h0
      have HS := hid (Spf.start0 (W := W) (V := W) (c := c) (d := d) (C := C) (k := 0) (q := q) Ht.out HA.out HB.out)
      go_wp2_with (at_builtin; refine Lib.wpList_append_run _ rfl _ _ _ _ rfl _ _ rfl rfl _ _ (run_app_none _ _ _ _ _ _ _ (Nat.le_refl _) rfl _) ?_)
      go_meet
      exact ⟨_, _, HS.out⟩
    · obtain ⟨ad, rfl⟩ : ∃ ad, C = some ad := by
        rcases HC.out.lies with h | ⟨ad, e, _⟩
        · exfalso
          have h2 := pairs_length cs
          have h3 := HL.out
          rw [h] at h2; simp at h2; omega
        · exact ⟨ad, e⟩
      have hcs := hid (show ∀ (j : Nat) (u : Value), (pairs cs)[j]? = some u → ((((w.alloc (.cells #[.int .i64 W, .slice (some ⟨g1, 0, none⟩) n c, .int .i64 W, .slice (some ⟨g2, 0, none⟩) m d, .slice (some ad) k q] 51)).alloc (.cells #[.int .i64 0, .slice none 0 0, .int .i64 0, .slice none 0 0, .slice none 0 0] 51)).alloc (.cells #[.int .i64 W, .slice (some ⟨g1, 0, none⟩) n c, .int .i64 W, .slice (some ⟨g2, 0, none⟩) m d, .slice (some ad) k q] 51)).alloc (.cells #[] 62)).cell? (ad.add j) = some u from fun j u hu => by
        obtain ⟨ad', e, _, hc⟩ := HC4.out.lies.cell hu
        injection e with e
        subst e
        exact hc)
      have hl2 := hid (show (pairs cs).length = k * 2 by rw [pairs_length, HL.out]; omega)
      have h1 := hid (show ∀ u ∈ pairs cs, u.oneCell' = true from pairs_one cs)
      have hk1 : 0 < k := by omega
      go_wp2_with ((
        at_builtin
        refine wpList_append_lies _ rfl _ _ 49 rfl (w.heap.size + 1 + 1 + 1) 62 i0 _ 2 16 Try.underlying49 Hi.out Hz0.out Hz1.out Hz2.out rfl (by decide) (.slice (some ⟨w.heap.size + 1 + 1 + 1, 0, none⟩) 0 0) 0 [] rfl HE.out ad k q (pairs cs) rfl hl2.out hcs.out h1.out hk1 (by unfold maxLen; omega) (by omega) (by simp) _ rfl ?_
        intro g9 cap9 w9 hown9 hgr9 hat9 hlt9
        rw [Nat.zero_add, List.nil_append] at hown9
        obtain ⟨⟨y0, y1⟩, hs⟩ := Spf.start (w := w) (W := W) (V := W) (c := c) (d := d) (C := some ad) (q := q) Ht.out HA.out HB.out HL.out hgr9 hown9 (fun j hj => by simp [Value.ownBlock] at hj; omega)
        have HS := hid hs
        clear hown9 hgr9 hat9 hlt9 hs))
      go_meet
      exact ⟨_, _, HS.out⟩
  case rest =>
    obtain ⟨C9, q9, hS⟩ := hcut
    have H0 := hid hS
    clear hS HE HC4 HC
    go_wp2_with fail
    refine (next_any T 5 _ H0.out.tape (by omega)).mono ?_
    rintro e w5 ⟨r5, rfl, hr0, hr1, ht5, hg5, -⟩
    have H5 := hid (H0.out.step ht5 hg5)
    clear ht5 hg5 H0
    by_cases e0 : r5 = 0
    · subst e0
      obtain ⟨f0, f1, f2, f3, f4⟩ := H5.out.f0.five
      have hfl := H5.out.f0.lt
      go_wp2_with fail
      refine (spoil_any T W ⟨g1, 0, none⟩ n c gs _ H5.out.tape (HA.out.tape Ht.out H5.out.gr) hn (by omega) (by omega)).mono ?_
      rintro e w7 ⟨W9, ad9, n9, c9, ws9, rfl, hn9, ha9, ht9, hg9⟩
      have H7 := hid (H5.out.step ht9 hg9)
      have H6 := hid (H7.out.setGen (c9 := c9) (W9 := W9) ha9)
      obtain ⟨⟨c0, c1', c2, c3, c4⟩, ⟨fz0, fz1, fz2, fz3, fz4⟩, hz⟩ := H7.out.cells
      clear ha9 ht9 hg9 f0 f1 f2 f3 f4 hfl H5
      go_upto_region 14 with fail
      generalize (w7.setCell ⟨w.heap.size + 1 + 1, 0, none⟩ (.int .i64 W9)).setCell ⟨w.heap.size + 1 + 1, 1, none⟩ (.slice (some ad9) n9 c9) = wA at *
      clear H7 c0 c1' c2 c3 c4 fz0 fz1 fz2 fz3 fz4 hz
      obtain ⟨⟨c0, c1', c2, c3, c4⟩, ⟨fz0, fz1, fz2, fz3, fz4⟩, hz⟩ := H6.out.cells
      obtain ⟨z0, z1, z2, z3, z4⟩ := H6.out.r0.five
      have zf0 := H6.out.r0.frozen 0
      have zf1 := H6.out.r0.frozen 1
      have zf2 := H6.out.r0.frozen 2
      have zf3 := H6.out.r0.frozen 3
      have zf4 := H6.out.r0.frozen 4
      have hzr := H6.out.r0.lt
      go_wp2_with fail
      refine bodyPost_ret (v := .agg #[.int .i64 W9, .slice (some ad9) n9 c9, .int .i64 W, .slice (some ⟨g2, 0, none⟩) m d, .slice (some ⟨C9, 0, none⟩) k q9]) (by simp [results, Try.results26, go_sem, z0, z1, z2, z3, z4, hzr]) rfl ?_
      exact H6.out.done
    by_cases e1 : r5 = 1
    · subst e1
      obtain ⟨f0, f1, f2, f3, f4⟩ := H5.out.f0.five
      have hfl := H5.out.f0.lt
      go_wp2_with fail
      refine (spoil_any T W ⟨g2, 0, none⟩ m d ks _ H5.out.tape (HB.out.tape Ht.out H5.out.gr) hm (by omega) (by omega)).mono ?_
      rintro e w7 ⟨W9, ad9, n9, c9, ws9, rfl, hn9, ha9, ht9, hg9⟩
      have H7 := hid (H5.out.step ht9 hg9)
      have H6 := hid (H7.out.setKill (c9 := c9) (W9 := W9) ha9)
      obtain ⟨⟨c0, c1', c2, c3, c4⟩, ⟨fz0, fz1, fz2, fz3, fz4⟩, hz⟩ := H7.out.cells
      clear ha9 ht9 hg9 f0 f1 f2 f3 f4 hfl H5
      go_upto_region 14 with fail
      generalize (w7.setCell ⟨w.heap.size + 1 + 1, 2, none⟩ (.int .i64 W9)).setCell ⟨w.heap.size + 1 + 1, 3, none⟩ (.slice (some ad9) n9 c9) = wA at *
      clear H7 c0 c1' c2 c3 c4 fz0 fz1 fz2 fz3 fz4 hz
      obtain ⟨⟨c0, c1', c2, c3, c4⟩, ⟨fz0, fz1, fz2, fz3, fz4⟩, hz⟩ := H6.out.cells
      obtain ⟨z0, z1, z2, z3, z4⟩ := H6.out.r0.five
      have zf0 := H6.out.r0.frozen 0
      have zf1 := H6.out.r0.frozen 1
      have zf2 := H6.out.r0.frozen 2
      have zf3 := H6.out.r0.frozen 3
      have zf4 := H6.out.r0.frozen 4
      have hzr := H6.out.r0.lt
      go_wp2_with fail
      refine bodyPost_ret (v := .agg #[.int .i64 W, .slice (some ⟨g1, 0, none⟩) n c, .int .i64 W9, .slice (some ad9) n9 c9, .slice (some ⟨C9, 0, none⟩) k q9]) (by simp [results, Try.results26, go_sem, z0, z1, z2, z3, z4, hzr]) rfl ?_
      exact H6.out.done
    by_cases e2 : r5 = 2
    · subst e2
      have H5d := hid (H5.out.below ((Below.refl _ _).drew))
      change Hid (Spf w T (cells5 W (some ⟨g1, 0, none⟩) n c W (some ⟨g2, 0, none⟩) m d C k q) W (some ⟨g1, 0, none⟩) n c W (some ⟨g2, 0, none⟩) m d C9 k q9 gs ks cs w5.drew) at H5d
      obtain ⟨⟨c0, c1', c2, c3, c4⟩, ⟨fz0, fz1, fz2, fz3, fz4⟩, hz⟩ := H5.out.cells
      go_upto_region 11 with fail
      go_region_law (first
        | ((refine step_append_lies _ (by rfl) _ _ 49 (by rfl) (w.heap.size + 1 + 1 + 1) 62 i0 _ 2 16 Try.underlying49 Hi.out Hz0.out Hz1.out Hz2.out (by rfl) (by decide) (.slice (some ⟨C9, 0, none⟩) k q9) k (pairs cs) (by rfl) (by exact (H8.out.alloc _).own)
               ⟨w8.heap.size, 0, none⟩ 1 1 [.int .i64 (IntKind.i64.wrap (r7 - 1)), .int .i64 (IntKind.i64.wrap (r8 - 1))] (by rfl) rfl (by exact two_new _ _ _ _) (by exact one_pairI _ _) (by decide) (by unfold maxLen; omega) (by omega) (by have := (H8.out.alloc (.cells #[] 0)).q0.lt; rw [World.size_alloc] at this ⊢; omega) _ rfl ?_)
           intro g9 cap9 w9 hown9 hgr9 hat9 hlt9
           obtain ⟨⟨y0, y1⟩, hs⟩ := Spf.push H8.out _ HA.out HB.out Ht.out hown9 hgr9
           have HP := hid hs
           clear hown9 hgr9 hat9 hlt9 hs)
        | (go_simp
           go_at_call 7
           go_must (
           first
           | (refine (next_any T 9 _ H7.out.tape (by omega)).mono ?_
              rintro e w8 ⟨r8, rfl, hr80, hr81, ht8, hg8, -⟩
              have H8 := hid (H7.out.step ht8 hg8)
              obtain ⟨⟨c0, c1', c2, c3, c4⟩, ⟨fz0, fz1, fz2, fz3, fz4⟩, hz⟩ := H8.out.cells
              clear ht8 hg8)
           | (refine (next_any T 9 _ H5d.out.tape (by omega)).mono ?_
              rintro e w7 ⟨r7, rfl, hr70, hr71, ht7, hg7, -⟩
              have H7 := hid (H5d.out.step ht7 hg7)
              obtain ⟨⟨c0, c1', c2, c3, c4⟩, ⟨fz0, fz1, fz2, fz3, fz4⟩, hz⟩ := H7.out.cells
              clear ht7 hg7))))
      all_goals
        go_upto_region 14 with fail
        have H6 := HP
        generalize w9.setCell ⟨w.heap.size + 1 + 1, 4, none⟩ (.slice (some ⟨g9, 0, none⟩) (k + 1) cap9) = wA at *
        clear H7 H8 H5 H5d HP c0 c1' c2 c3 c4 fz0 fz1 fz2 fz3 fz4 hz y0 y1
        obtain ⟨⟨c0, c1', c2, c3, c4⟩, ⟨fz0, fz1, fz2, fz3, fz4⟩, hz⟩ := H6.out.cells
        obtain ⟨z0, z1, z2, z3, z4⟩ := H6.out.r0.five
        have zf0 := H6.out.r0.frozen 0
        have zf1 := H6.out.r0.frozen 1
        have zf2 := H6.out.r0.frozen 2
        have zf3 := H6.out.r0.frozen 3
        have zf4 := H6.out.r0.frozen 4
        have hzr := H6.out.r0.lt
        go_wp2_with fail
        refine bodyPost_ret (v := .agg #[.int .i64 W, .slice (some ⟨g1, 0, none⟩) n c, .int .i64 W, .slice (some ⟨g2, 0, none⟩) m d, .slice (some ⟨g9, 0, none⟩) (k + 1) cap9]) (by simp [results, Try.results26, go_sem, z0, z1, z2, z3, z4, hzr]) rfl ?_
        exact H6.out.done
    by_cases e3 : r5 = 3
    · subst e3
      have H5d := hid (H5.out.below ((Below.refl _ _).drew))
      change Hid (Spf w T (cells5 W (some ⟨g1, 0, none⟩) n c W (some ⟨g2, 0, none⟩) m d C k q) W (some ⟨g1, 0, none⟩) n c W (some ⟨g2, 0, none⟩) m d C9 k q9 gs ks cs w5.drew) at H5d
      obtain ⟨⟨c0, c1', c2, c3, c4⟩, ⟨fz0, fz1, fz2, fz3, fz4⟩, hz⟩ := H5.out.cells
      obtain ⟨f0, f1, f2, f3, f4⟩ := H5.out.f0.five
      have hfl := H5.out.f0.lt
      have Hl2 := hid (show (pairs cs).length = k * 2 by rw [pairs_length, HL.out]; omega)
      go_upto_region 13 with fail
      go_region_law (first
        | ((refine step_appv (by rfl) _ _ 49 (by rfl) (w.heap.size + 1 + 1 + 1) 62 i0 _ 2 16 Try.underlying49 Hi.out Hz0.out Hz1.out Hz2.out (by rfl) (by decide) (.slice (some ⟨w8.heap.size, 0, none⟩) 1 1) 1 [.int .i64 r7, .int .i64 (IntKind.i64.wrap ((W : Int) - r8))] (by rfl) (by exact Spf.lit H8.out _ _)
               ⟨C9, 0, none⟩ k q9 (pairs cs) (by rfl) Hl2.out (by exact (H8.out.alloc _).row) (pairs_one cs) (by unfold maxLen; omega) (by omega) (by have := (H8.out.alloc (.cells #[] 0)).q0.lt; rw [World.size_alloc] at this ⊢; omega) ?_)
           intro v9 w9 hown9 hgr9 hnil9
           obtain ⟨g9, cap9, rfl, ⟨y0, y1⟩, hs⟩ := Spf.front H8.out _ HA.out HB.out Ht.out hown9 hgr9 rfl
           have HP := hid hs
           clear hown9 hgr9 hnil9 hs)
        | (go_simp
           go_at_call 7
           go_must (
           first
           | (refine (next_any T 2 _ H7.out.tape (by omega)).mono ?_
              rintro e w8 ⟨r8, rfl, hr80, hr81, ht8, hg8, -⟩
              have H8 := hid (H7.out.step ht8 hg8)
              obtain ⟨⟨c0, c1', c2, c3, c4⟩, ⟨fz0, fz1, fz2, fz3, fz4⟩, hz⟩ := H8.out.cells
              obtain ⟨f0, f1, f2, f3, f4⟩ := H8.out.f0.five
              have hfl := H8.out.f0.lt
              clear ht8 hg8)
           | (refine (next_any T 4 _ H5d.out.tape (by omega)).mono ?_
              rintro e w7 ⟨r7, rfl, hr70, hr71, ht7, hg7, -⟩
              have H7 := hid (H5d.out.step ht7 hg7)
              obtain ⟨⟨c0, c1', c2, c3, c4⟩, ⟨fz0, fz1, fz2, fz3, fz4⟩, hz⟩ := H7.out.cells
              obtain ⟨f0, f1, f2, f3, f4⟩ := H7.out.f0.five
              have hfl := H7.out.f0.lt
              clear ht7 hg7))))
      all_goals
        go_upto_region 14 with fail
        have H6 := HP
        generalize w9.setCell ⟨w.heap.size + 1 + 1, 4, none⟩ (.slice (some ⟨g9, 0, none⟩) (1 + k) cap9) = wA at *
        clear H7 H8 H5 H5d HP c0 c1' c2 c3 c4 fz0 fz1 fz2 fz3 fz4 hz y0 y1 f0 f1 f2 f3 f4 hfl
        obtain ⟨⟨c0, c1', c2, c3, c4⟩, ⟨fz0, fz1, fz2, fz3, fz4⟩, hz⟩ := H6.out.cells
        obtain ⟨z0, z1, z2, z3, z4⟩ := H6.out.r0.five
        have zf0 := H6.out.r0.frozen 0
        have zf1 := H6.out.r0.frozen 1
        have zf2 := H6.out.r0.frozen 2
        have zf3 := H6.out.r0.frozen 3
        have zf4 := H6.out.r0.frozen 4
        have hzr := H6.out.r0.lt
        go_wp2_with fail
        refine bodyPost_ret (v := .agg #[.int .i64 W, .slice (some ⟨g1, 0, none⟩) n c, .int .i64 W, .slice (some ⟨g2, 0, none⟩) m d, .slice (some ⟨g9, 0, none⟩) (1 + k) cap9]) (by simp [results, Try.results26, go_sem, z0, z1, z2, z3, z4, hzr]) rfl ?_
        exact H6.out.done
    have t0 : (r5 == 0) = false := by simp [e0]
    have t1 : (r5 == 1) = false := by simp [e1]
    have t2 : (r5 == 2) = false := by simp [e2]
    have t3 : (r5 == 3) = false := by simp [e3]
    clear e0 e1 e2 e3 hr0 hr1
    obtain ⟨⟨c0, c1', c2, c3, c4⟩, ⟨fz0, fz1, fz2, fz3, fz4⟩, hz⟩ := H5.out.cells
    by_cases hk0 : 0 < k
    · have H5d := hid (H5.out.below ((Below.refl _ _).drew))
      change Hid (Spf w T (cells5 W (some ⟨g1, 0, none⟩) n c W (some ⟨g2, 0, none⟩) m d C k q) W (some ⟨g1, 0, none⟩) n c W (some ⟨g2, 0, none⟩) m d C9 k q9 gs ks cs w5.drew) at H5d
      obtain ⟨x, y, hx, hy⟩ : ∃ x y : Int, (pairs cs)[(k - 1) * 2]? = some (Value.int .i64 x) ∧ (pairs cs)[(k - 1) * 2 + 1]? = some (Value.int .i64 y) := by
        have hl := HL.out
        have hg := pairs_get (List.getElem?_eq_getElem (show k - 1 < cs.length by omega))
        exact ⟨_, _, hg.1, hg.2⟩
      have u0 := H5.out.row _ _ hx
      have u1 := H5.out.row _ _ hy
      rw [add_of] at u0 u1
      have hc9 := (H5.out.own.lt C9 rfl).2
      have w1 : IntKind.i64.wrap ((k : Int) - 1) = (k : Int) - 1 := IntWalk.i64_in _ ⟨by omega, by omega⟩
      have w2 : (1 : Int) ≤ (k : Int) := by omega
      have w3 : (k : Int) - 1 < (k : Int) := by omega
      have w4 : ((k : Int) - 1).toNat = k - 1 := by omega
      have W1 := hid w1; have W4 := hid w4
      have p1 := hid (show k + 1 ≤ maxLen by unfold maxLen; omega)
      have p2 := hid (show (k + 1) * 16 ≤ 140737488355328 by omega)
      have p3 := hid (show w.heap.size + 1 + 1 + 1 ≤ (w5.drew.alloc (.cells #[.int .i64 x, .int .i64 y] 62)).heap.size by have := H5d.out.q0.lt; rw [World.size_alloc]; omega)
      clear hx hy
      go_upto_region 5 with fail
      go_region_law (
        ((refine step_append_lies _ (by rfl) _ _ 49 (by rfl) (w.heap.size + 1 + 1 + 1) 62 i0 _ 2 16 Try.underlying49 Hi.out Hz0.out Hz1.out Hz2.out (by rfl) (by decide) (.slice (some ⟨C9, 0, none⟩) k q9) k (pairs cs) (by rfl) (by exact (H5d.out.alloc _).own)
               ⟨w5.heap.size, 0, none⟩ 1 1 [.int .i64 x, .int .i64 y] (by rfl) rfl (by exact two_new w5.drew _ _ _) (by exact one_pairI _ _) (by decide) p1.out p2.out p3.out _ rfl ?_)
         intro g9 cap9 w9 hown9 hgr9 hat9 hlt9
         obtain ⟨⟨y0, y1⟩, hs⟩ := Spf.push H5d.out _ HA.out HB.out Ht.out hown9 hgr9
         have HP := hid hs
         clear hown9 hgr9 hat9 hlt9 hs))
      all_goals
        clear w1 w2 w3 w4
        go_upto_region 14 with fail
        have H6 := HP
        generalize w9.setCell ⟨w.heap.size + 1 + 1, 4, none⟩ (.slice (some ⟨g9, 0, none⟩) (k + 1) cap9) = wA at *
        clear H5 H5d HP c0 c1' c2 c3 c4 fz0 fz1 fz2 fz3 fz4 hz y0 y1 u0 u1
        obtain ⟨⟨c0, c1', c2, c3, c4⟩, ⟨fz0, fz1, fz2, fz3, fz4⟩, hz⟩ := H6.out.cells
        obtain ⟨z0, z1, z2, z3, z4⟩ := H6.out.r0.five
        have zf0 := H6.out.r0.frozen 0
        have zf1 := H6.out.r0.frozen 1
        have zf2 := H6.out.r0.frozen 2
        have zf3 := H6.out.r0.frozen 3
        have zf4 := H6.out.r0.frozen 4
        have hzr := H6.out.r0.lt
        go_wp2_with fail
        refine bodyPost_ret (v := .agg #[.int .i64 W, .slice (some ⟨g1, 0, none⟩) n c, .int .i64 W, .slice (some ⟨g2, 0, none⟩) m d, .slice (some ⟨g9, 0, none⟩) (k + 1) cap9]) (by simp [results, Try.results26, go_sem, z0, z1, z2, z3, z4, hzr]) rfl ?_
        exact H6.out.done
    · have H6 := H5
      go_upto_region 14 with fail
      clear c0 c1' c2 c3 c4 fz0 fz1 fz2 fz3 fz4 hz
      obtain ⟨⟨c0, c1', c2, c3, c4⟩, ⟨fz0, fz1, fz2, fz3, fz4⟩, hz⟩ := H6.out.cells
      obtain ⟨z0, z1, z2, z3, z4⟩ := H6.out.r0.five
      have zf0 := H6.out.r0.frozen 0
      have zf1 := H6.out.r0.frozen 1
      have zf2 := H6.out.r0.frozen 2
      have zf3 := H6.out.r0.frozen 3
      have zf4 := H6.out.r0.frozen 4
      have hzr := H6.out.r0.lt
      go_wp2_with fail
      refine bodyPost_ret (v := .agg #[.int .i64 W, .slice (some ⟨g1, 0, none⟩) n c, .int .i64 W, .slice (some ⟨g2, 0, none⟩) m d, .slice (some ⟨C9, 0, none⟩) k q9]) (by simp [results, Try.results26, go_sem, z0, z1, z2, z3, z4, hzr]) rfl ?_
      exact H6.out.done
end Go.Proofs.Ytadkjnjibefocaa
