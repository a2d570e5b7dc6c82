/- The package's Apply: the value of a function. -/
import Derived.Test.YtmbelhdkaepohaaDvT
import Derived.Test.YtmbelhdkaepohaaTimg
import Derived.Test.YtmbelhdkaepohaaDSet
namespace Go.Proofs.Ytmbelhdkaepohaa
set_option maxRecDepth 20000
open Go.ChangeShapes Go.WideShapes Go.ChangeAt Go.RowKit

/-- The bits that the copies from members lead to. -/
def tgt (W : Int) (ss : List Nat) (cs : List (Int × Int)) : List Int := (cs.filter fun p => Bs.hasB W ss p.1).map (·.2)
theorem tgt_snoc (W : Int) (ss : List Nat) (cs : List (Int × Int)) (p : Int × Int) : tgt W ss (cs ++ [p]) = tgt W ss cs ++ (if Bs.hasB W ss p.1 then [p.2] else []) := by
  unfold tgt; rw [List.filter_append, List.map_append]
  by_cases h : Bs.hasB W ss p.1 <;> simp [h]
theorem tgt_len (W : Int) (ss : List Nat) (cs : List (Int × Int)) : (tgt W ss cs).length ≤ cs.length := by
  unfold tgt; rw [List.length_map]; exact List.length_filter_le _ _
theorem mem_tgt {W : Int} {ss : List Nat} {cs : List (Int × Int)} {b : Int} : b ∈ tgt W ss cs ↔ ∃ a, (a, b) ∈ cs ∧ Bs.hasB W ss a = true := by
  unfold tgt; simp only [List.mem_map, List.mem_filter]
  constructor
  · rintro ⟨⟨a, c⟩, ⟨h1, h2⟩, rfl⟩; exact ⟨a, h1, h2⟩
  · rintro ⟨a, h1, h2⟩; exact ⟨(a, b), ⟨h1, h2⟩, rfl⟩

theorem mixR_ok (f : Bool → Bool → Bool) {W : Nat} {ws xs : List Nat} (hW : W ≤ 256) (h1 : Bs.Fit W ws) (h2 : Bs.Fit W xs) :
    mixR f W ws W xs = ((W : Int), Bs.ofP W (fun i => f (Bs.bit ws i) (Bs.bit xs i)) W, 0) := by
  unfold mixR
  rw [if_neg (by simp [Bs.valid_of_fit h1 hW, Bs.valid_of_fit h2 hW]), if_neg (by simp), Int.toNat_natCast]

theorem dev_value {W : Nat} (hW : W ≤ 256) {gs ks ss : List Nat} {cs : List (Int × Int)} (hk : Bs.Fit W ks) (hs : Bs.Fit W ss) (hc : ∀ p ∈ cs, inW W p = true) :
    orR W gs (orR W (Bs.ofP W (fun i => flag true false false (Bs.bit ss i) (Bs.bit ks i)) W) (Bs.ofP W (fun i => decide ((i : Int) ∈ tgt W ss cs)) W)) = valR gs ss (folB W ks cs) W := by
  unfold orR valR
  refine Bs.ofP_congr fun i hi => ?_
  rw [Bs.bit_ofP _ _ _ (Nat.le_refl _), Bs.bit_ofP _ _ _ (Nat.le_refl _), Bs.bit_ofP _ _ _ (Nat.le_refl _)]
  congr 1
  simp only [hi, decide_true, Bool.true_and]
  apply Bool.eq_iff_iff.2
  rw [List.any_eq_true]
  simp only [Bool.or_eq_true, decide_eq_true_eq, mem_tgt]
  constructor
  · rintro (h | ⟨a, ha, hb⟩)
    · refine ⟨i, List.mem_range.2 hi, ?_⟩
      unfold folB
      rw [Bs.hasB_nat hk hW]
      revert h
      cases Bs.bit ss i <;> cases Bs.bit ks i <;> simp [flag]
    · have h1 := hc _ ha
      simp [inW] at h1
      obtain ⟨x, rfl⟩ := Int.eq_ofNat_of_zero_le h1.1.1
      rw [Bs.hasB_nat hs hW] at hb
      refine ⟨x, List.mem_range.2 (by omega), ?_⟩
      unfold folB
      simp [hb, ha]
  · rintro ⟨x, hx, h⟩
    rw [List.mem_range] at hx
    unfold folB at h
    rw [Bs.hasB_nat hk hW] at h
    simp only [Bool.and_eq_true, Bool.or_eq_true, decide_eq_true_eq, Bool.not_eq_true'] at h
    obtain ⟨h1, ⟨h2, h3⟩ | h2⟩ := h
    · have : x = i := by omega
      subst this
      left; simp [flag, h1, h3]
    · exact .inr ⟨x, h2, by rw [Bs.hasB_nat hs hW]; exact h1⟩
theorem tgt_of {W : Nat} (hW : W ≤ 256) {ss : List Nat} {cs : List (Int × Int)} (hc : ∀ p ∈ cs, inW W p = true) :
    ofR W (tgt W ss cs) = ((W : Int), Bs.ofP W (fun i => decide ((i : Int) ∈ tgt W ss cs)) W, 0) := by
  unfold ofR
  rw [if_neg (by omega), if_neg, Int.toNat_natCast]
  intro h
  obtain ⟨b, hb, h2⟩ := List.any_eq_true.1 h
  obtain ⟨a, ha, _⟩ := mem_tgt.1 hb
  have h1 := hc _ ha
  simp [inW] at h1
  simp at h2
  omega
theorem inW_of_ok {W : Int} {cs : List (Int × Int)} (h : ∀ i, i < cs.length → okAt W cs i = true) : ∀ p ∈ cs, inW W p = true := by
  intro p hp
  obtain ⟨i, hi, e⟩ := List.getElem_of_mem hp
  have := h i hi
  unfold okAt at this
  rw [List.getD_eq_getElem?_getD, List.getElem?_eq_getElem hi, Option.getD_some, e] at this
  simp only [Bool.and_eq_true] at this
  exact this.1

section
variable {w : World} {W V X : Int} {A B C D : Option Addr} {n c m d k q x y : Nat} {wr w' : World}
theorem Applying.grown {row : Option Nat} (h : Applying w W V X A B C D n c m d k q x y wr) (hg : wr.grownBy w' row) (hr : ∀ g, row = some g → w.heap.size + 3 ≤ g) : Applying w W V X A B C D n c m d k q x y w' := by
  have ne : ∀ b, b < w.heap.size + 3 → some b ≠ row := fun b hb e => by have := hr b e.symm; omega
  exact ⟨h.1.grown hg (ne _ (by omega)), h.2.1.grown hg (ne _ (by omega)), h.2.2.1.grown hg (ne _ (by omega)), h.2.2.2.grown hg h.2.2.2.size (fun g e => by have := hr g e; omega)⟩
end
/-- While the targets are gathered. -/
def Aiming (w : World) (W V X : Int) (A B C D : Option Addr) (n c m d k q x y : Nat) (v : Value) (l : List Int) (wr : World) : Prop :=
  Applying w W V X A B C D n c m d k q x y wr ∧ wr.ownsRow (w.heap.size + 3) 3 1 v l.length (ints l) ∧ w.heap.size + 3 ≤ wr.heap.size
theorem Aiming.below {w : World} {W V X : Int} {A B C D : Option Addr} {n c m d k q x y : Nat} {v : Value} {l : List Int} {wr w' : World} (h : Aiming w W V X A B C D n c m d k q x y v l wr) (hb : Below wr.heap.size wr w') :
    Aiming w W V X A B C D n c m d k q x y v l w' := ⟨h.1.below hb, own_below h.2.1 hb, by have := hb.size; have := h.2.2; omega⟩
theorem Aiming.push {w : World} {W V X : Int} {A B C D : Option Addr} {n c m d k q x y : Nat} {v v' : Value} {l : List Int} {b : Int} {o : Obj} {wr w' : World} (h : Aiming w W V X A B C D n c m d k q x y v l wr)
    (ho : w'.ownsRow (w.heap.size + 3) 3 1 v' (l.length + 1) (ints l ++ [.int .i64 b])) (hg : (wr.alloc o).grownBy w' v.ownBlock) : Aiming w W V X A B C D n c m d k q x y v' (l ++ [b]) w' := by
  have h' := h.below ((Below.refl _ _).alloc (Nat.le_refl _) o)
  refine ⟨h'.1.grown hg (fun g e => (h.2.1.lt g e).1), ?_, ?_⟩
  · rw [ints_snoc, List.length_append]; exact ho
  · have := hg.size; have := h'.2.2; omega

set_option maxHeartbeats 1600000 in
theorem devApply_any (W V X : Int) (A B C D : Option Addr) (n c m d k q x y : Nat) (gs ks ss : List Nat) (cs : List (Int × Int)) (w : World)
    (hA : Arg w A n gs) (hB : Arg w B m ks) (hC : ArgC w C k cs) (hD : Arg w D x ss) :
    Calls Try.prog 31 #[.agg #[.int .i64 W, .slice A n c, .int .i64 V, .slice B m d, .slice C k q], .agg #[.int .i64 X, .slice D x y]] w
      (RetErr w (applyR W gs V ks cs X ss)) := by
  obtain ⟨i0, hi, hz0, hz1, hz2⟩ := info_parts info3
  have Hi := hid hi; have Hz0 := hid hz0; have Hz1 := hid hz1; have Hz2 := hid hz2
  have HA := hid hA; have HB := hid hB; have HC := hid hC; have HD := hid hD
  have H0 := hid (Applying.start w W V X A B C D n c m d k q x y)
  clear hA hB hC hD hi hz0 hz1 hz2
  go_enter Try.func31, Try.ntmps31
  go_wp2_with fail
  refine (devValidT_any W V A B C n c m d k q gs ks cs _ (HA.out.below H0.out.2.2.2) (HB.out.below H0.out.2.2.2) (HC.out.below H0.out.2.2.2)).mono ?_
  cases hv : validT W gs V ks cs with
  | false =>
    rintro e w1 ⟨rfl, hb1⟩
    have H1 := hid (H0.out.below hb1)
    have Hr := hid (show applyR W gs V ks cs X ss = (0, [], 1) by unfold applyR; rw [if_pos (.inl hv)])
    clear hb1 hv
    obtain ⟨⟨r0, r1⟩, f0, f1⟩ := H1.out.res
    go_wp2_with fail
    refine bodyPost_ret (v := .tuple #[.agg #[.int .i64 0, .slice none 0 0], .int .i64 1]) (by simp [results, Try.results31, go_sem, r0, r1]) rfl ?_
    rw [Hr.out]
    exact ⟨_, _, _, rfl, Arg.nil _ _, H1.out.stored _ _ _ _⟩
  | true =>
    have Hv := hid hv
    obtain ⟨h1, h2, h3, h4, h5⟩ := validT_iff hv
    have hk64 : k ≤ 64 := by rw [HC.out.len] at h4; exact h4
    have HK := hid hk64
    have Hin := hid (inW_of_ok h5)
    rintro e w1 ⟨rfl, hb1⟩
    have H1 := hid (H0.out.below hb1)
    clear hb1 hv h4 h5
    obtain ⟨s0, s1⟩ := And.intro H1.out.2.1.c0 H1.out.2.1.c1
    go_wp2_with fail
    refine (devValid_any X D x y ss _ (HD.out.below H1.out.2.2.2)).mono ?_
    clear s0 s1
    cases hs : Bs.validB X ss with
    | false =>
      rintro e w2 ⟨rfl, hb2⟩
      have H2 := hid (H1.out.below hb2)
      have Hr := hid (show applyR W gs V ks cs X ss = (0, [], 1) by unfold applyR; rw [if_pos (.inr hs)])
      clear hb2 hs h1 h2 h3
      obtain ⟨⟨r0, r1⟩, f0, f1⟩ := H2.out.res
      go_wp2_with fail
      refine bodyPost_ret (v := .tuple #[.agg #[.int .i64 0, .slice none 0 0], .int .i64 1]) (by simp [results, Try.results31, go_sem, r0, r1]) rfl ?_
      rw [Hr.out]
      exact ⟨_, _, _, rfl, Arg.nil _ _, H2.out.stored _ _ _ _⟩
    | true =>
      rintro e w2 ⟨rfl, hb2⟩
      have H2 := hid (H1.out.below hb2)
      have hz2 : w.heap.size + 3 ≤ w2.heap.size := by
        have e1 := H1.out.2.2.1.lt; have e2 := hb2.size; omega
      clear hb2
      obtain ⟨⟨r0, r1⟩, f0, f1⟩ := H2.out.res
      obtain ⟨s0, s1⟩ := And.intro H2.out.2.1.c0 H2.out.2.1.c1
      obtain ⟨t0, t1, t2, t3, t4⟩ := H2.out.1.five
      by_cases hWX : W = X
      · subst hWX
        subst h3
        have Hr := hid (show applyR W gs W ks cs W ss = (W, valR gs ss (folB W ks cs) W.toNat, 0) by unfold applyR; rw [if_neg (by simp [Hv.out, hs]), if_neg (by simp)])
        have hfg := Bs.fit_of_valid h1 HA.out.ok
        have hfk := Bs.fit_of_valid h2 HB.out.ok
        have hfs := Bs.fit_of_valid hs HD.out.ok
        obtain ⟨v, rfl⟩ := Int.eq_ofNat_of_zero_le (Bs.validB_iff.1 h1).1
        have hv256 : v ≤ 256 := by have := (Bs.validB_iff.1 h1).2.1; omega
        rw [Int.toNat_natCast] at hfg hfs hfk
        have Hfg := hid hfg; have Hfs := hid hfs; have Hfk := hid hfk; have Hv2 := hid hv256
        have Hst := hid (show Aiming w v v v A B C D n c m d k q x y (.slice none 0 0) (tgt v ss (cs.take 0)) w2 from ⟨H2.out, World.ownsRow_nil _ _ _ _, hz2⟩)
        clear h1 h2 hs hfg hfs hfk hv256 r0 r1 f0 f1 hz2
        go_wp2_with fail
        clear s0 s1 t0 t1 t2 t3 t4
        go_loopw [6, 8, 34] (fun u _ i wr => ∃ j : Nat, j ≤ k ∧ i = .int .i64 j ∧ Hid (Aiming w v v v A B C D n c m d k q x y u (tgt v ss (cs.take j)) wr)) (fun _ _ i _ => k - (intOf i).toNat)
        case atStart => exact ⟨0, by omega, rfl, Hst⟩
        case round =>
          obtain ⟨j, hj, rfl, hG⟩ := hrel
          clear Hst
          by_cases hlt : j < k
          · have hjl : j < cs.length := by rw [HC.out.len]; exact hlt
            have hget : cs[j]? = some cs[j] := List.getElem?_eq_getElem _
            have hsn := take_snoc cs j hjl
            generalize cs[j] = p at hget hsn
            obtain ⟨p1, p2⟩ := p
            obtain ⟨ad, rfl, had, g1, g2⟩ := (HC.out.below hG.out.1.2.2.2).cell hget
            have Hsn := hid hsn
            have hle := tgt_len v ss (cs.take j)
            rw [List.length_take] at hle
            have hle2 : (tgt (v : Int) ss (cs.take j)).length ≤ 64 := by have := HK.out; omega
            clear hget hsn hle
            have H5 := hid (hG.out.below ((Below.refl _ _).alloc (Nat.le_refl _) (.cells #[.int .i64 p1, .int .i64 p2] 48)))
            have Hbx := hid (Fb.new wr #[.int .i64 p1, .int .i64 p2] 48)
            obtain ⟨s0, s1⟩ := And.intro H5.out.1.2.1.c0 H5.out.1.2.1.c1
            obtain ⟨b0, b1⟩ := Hbx.out.two
            go_wp2_with fail
            clear g1 g2
            generalize wr.alloc (.cells #[.int .i64 p1, .int .i64 p2] 48) = wv at *
            generalize wr.heap.size = gv at *
            refine (devHas_any v D x y ss p1 _ (HD.out.below H5.out.1.2.2.2)).mono ?_
            rintro e w6 ⟨rfl, hb6⟩
            have H6 := hid (H5.out.below hb6)
            have hbx6 := hid (Hbx.out.below hb6 Hbx.out.lt)
            clear s0 s1 b0 b1 hb6
            obtain ⟨b0, b1⟩ := hbx6.out.two
            cases hh : Bs.hasB v ss p1 with
            | false =>
              have Hl := hid (show tgt v ss (cs.take (j + 1)) = tgt v ss (cs.take j) by rw [Hsn.out, tgt_snoc]; simp [hh])
              clear hh
              go_wp2_with fail
              go_roundw
              case rel => exact ⟨j + 1, by omega, by go_num, by rw [Hl.out]; exact H6⟩
              case measure => simp [intOf]; omega
            | true =>
              have Hl := hid (show tgt v ss (cs.take (j + 1)) = tgt v ss (cs.take j) ++ [p2] by rw [Hsn.out, tgt_snoc]; simp [hh])
              clear hh
              have Hle := hid hle2
              go_wp2_with (first
                | (at_builtin
                   refine wpList_append_own _ rfl _ _ 22 rfl (w.heap.size + 3) 3 i0 (.int .i64 0) 1 8 Try.underlying22 Hi.out Hz0.out Hz1.out Hz2.out rfl (by decide) _ _ _ rfl (H6.out.2.1.alloc _) ⟨w6.heap.size, 0, none⟩ 1 1 [.int .i64 p2] rfl rfl (new_one _ _ _) (one_int _ _) (by unfold maxLen; omega) (by omega) (by have := H6.out.2.2; rw [World.size_alloc]; omega) ?_
                   intro v' w7 hown7 hgr7 hnil7
                   have H7 := hid (H6.out.push hown7 hgr7)
                   clear hown7 hgr7 hnil7))
              go_roundw
              case rel => exact ⟨j + 1, by omega, by go_num, by rw [Hl.out]; exact H7⟩
              case measure => simp [intOf]; omega
          · have hjk : j = k := by omega
            subst hjk
            have hall : cs.take j = cs := List.take_of_length_le (by rw [HC.out.len]; omega)
            rw [hall] at hG
            have hle := tgt_len v ss cs
            have Hle := hid (show (tgt (v : Int) ss cs).length ≤ maxLen by have := HK.out; have := HC.out.len; unfold maxLen; omega)
            clear hall hle
            obtain ⟨A', c', e', hat, _⟩ := own_slice hG.out.2.1
            subst e'
            have Hat := hid (show IArg wr A' (tgt (v : Int) ss cs).length (tgt v ss cs) from ⟨hat, rfl⟩)
            clear hat
            obtain ⟨s0, s1⟩ := And.intro hG.out.1.2.1.c0 hG.out.1.2.1.c1
            obtain ⟨t0, t1, t2, t3, t4⟩ := hG.out.1.1.five
            go_wp2_with fail
            refine (devDiff_any v v D B x y m d ss ks _ (HD.out.below hG.out.1.2.2.2) (HB.out.below hG.out.1.2.2.2)).mono ?_
            rw [mixR_ok _ Hv2.out Hfs.out Hfk.out]
            generalize hS1 : Bs.ofP v (fun i => flag true false false (Bs.bit ss i) (Bs.bit ks i)) v = z1
            have Hz1f := hid (show Bs.Fit v z1 by rw [← hS1]; exact Bs.fit_ofP _ _ _ (Nat.le_refl _))
            have HS1 := hid hS1
            rintro e wd1 ⟨A1, n1, c1, rfl, ha1, hb1⟩
            have HG1 := hid (hG.out.below hb1)
            have Hat1 := hid (Hat.out.below hb1)
            have Ha1 := hid ha1
            clear ha1 hb1 s0 s1 t0 t1 t2 t3 t4 Hat hS1 hG
            have HG2 := hid (HG1.out.below ((Below.refl _ _).alloc (Nat.le_refl _) (.cells #[.int .i64 (v : Int), .slice A1 n1 c1] 25)))
            have Hat2 := hid (Hat1.out.alloc (.cells #[.int .i64 (v : Int), .slice A1 n1 c1] 25))
            have Ha2 := hid (Ha1.out.alloc (.cells #[.int .i64 (v : Int), .slice A1 n1 c1] 25))
            have HB1 := hid (Box.new wd1 (v : Int) A1 n1 c1)
            obtain ⟨s0, s1⟩ := And.intro HG2.out.1.2.1.c0 HG2.out.1.2.1.c1
            go_wp2_with fail
            clear HG1 Hat1 Ha1
            generalize wd1.alloc (.cells #[.int .i64 (v : Int), .slice A1 n1 c1] 25) = wd2 at *
            generalize wd1.heap.size = b1 at *
            refine (devOf_any v A' _ c' (tgt (v : Int) ss cs) _ Hat2.out Hle.out).mono ?_
            rw [tgt_of Hv2.out Hin.out]
            generalize hS2 : Bs.ofP v (fun i => decide ((i : Int) ∈ tgt v ss cs)) v = z2
            have Hz2f := hid (show Bs.Fit v z2 by rw [← hS2]; exact Bs.fit_ofP _ _ _ (Nat.le_refl _))
            have HS2 := hid hS2
            rintro e wd3 ⟨A2, n2, c2, rfl, ha2, hb2⟩
            have HG3 := hid (HG2.out.below hb2)
            have Ha3 := hid (Ha2.out.below hb2)
            have HB3 := hid (HB1.out.below hb2 HB1.out.lt)
            have Hb2 := hid ha2
            clear ha2 hb2 s0 s1 hS2 Hat2 Ha2 HB1 HG2
            have HG4 := hid (HG3.out.below ((Below.refl _ _).alloc (Nat.le_refl _) (.cells #[.int .i64 (v : Int), .slice A2 n2 c2] 25)))
            have Ha4 := hid (Ha3.out.alloc (.cells #[.int .i64 (v : Int), .slice A2 n2 c2] 25))
            have Hb4 := hid (Hb2.out.alloc (.cells #[.int .i64 (v : Int), .slice A2 n2 c2] 25))
            have HB4 := hid (HB3.out.alloc (.cells #[.int .i64 (v : Int), .slice A2 n2 c2] 25))
            have HC4 := hid (Box.new wd3 (v : Int) A2 n2 c2)
            obtain ⟨p0, p1⟩ := And.intro HB4.out.c0 HB4.out.c1
            obtain ⟨q0, q1⟩ := And.intro HC4.out.c0 HC4.out.c1
            go_wp2_with fail
            clear HG3 Ha3 HB3 Hb2
            generalize wd3.alloc (.cells #[.int .i64 (v : Int), .slice A2 n2 c2] 25) = wd4 at *
            generalize wd3.heap.size = b2 at *
            refine (devUnion_any v v A1 A2 n1 c1 n2 c2 z1 z2 _ Ha4.out Hb4.out).mono ?_
            rw [mixR_or Hv2.out Hz1f.out Hz2f.out]
            generalize hS3 : orR v z1 z2 = z3
            have Hz3f := hid (show Bs.Fit v z3 by rw [← hS3]; exact fit_orR _ _ _)
            have HS3 := hid hS3
            rintro e wd5 ⟨A3, n3, c3, rfl, ha3, hb3⟩
            have HG5 := hid (HG4.out.below hb3)
            have Ha5 := hid ha3
            clear ha3 hb3 hS3 p0 p1 q0 q1 Ha4 Hb4 HB4 HC4 HG4
            have HG6 := hid (HG5.out.below ((Below.refl _ _).alloc (Nat.le_refl _) (.cells #[.int .i64 (v : Int), .slice A3 n3 c3] 25)))
            have Ha6 := hid (Ha5.out.alloc (.cells #[.int .i64 (v : Int), .slice A3 n3 c3] 25))
            have HB6 := hid (Box.new wd5 (v : Int) A3 n3 c3)
            obtain ⟨t0, t1, t2, t3, t4⟩ := HG6.out.1.1.five
            obtain ⟨p0, p1⟩ := And.intro HB6.out.c0 HB6.out.c1
            go_wp2_with fail
            clear HG5 Ha5
            generalize wd5.alloc (.cells #[.int .i64 (v : Int), .slice A3 n3 c3] 25) = wd6 at *
            generalize wd5.heap.size = b3 at *
            refine (devUnion_any v v A A3 n c n3 c3 gs z3 _ (HA.out.below HG6.out.1.2.2.2) Ha6.out).mono ?_
            rw [mixR_or Hv2.out Hfg.out Hz3f.out]
            have hfin := dev_value Hv2.out Hfk.out Hfs.out Hin.out (gs := gs)
            rw [HS1.out, HS2.out, HS3.out] at hfin
            rw [hfin]
            rw [Int.toNat_natCast] at Hr
            clear hfin
            generalize valR gs ss (folB (v : Int) ks cs) v = z4 at *
            rintro e wd7 ⟨A4, n4, c4, rfl, ha4, hb4⟩
            have HG7 := hid (HG6.out.1.below hb4)
            have Ha7 := hid ha4
            clear ha4 hb4 t0 t1 t2 t3 t4 p0 p1 HG6 Ha6 HB6
            obtain ⟨⟨r0, r1⟩, f0, f1⟩ := HG7.out.res
            go_wp2_with fail
            refine bodyPost_ret (v := .tuple #[.agg #[.int .i64 v, .slice A4 n4 c4], .int .i64 0]) (by simp [results, Try.results31, go_sem, r0, r1]) rfl ?_
            rw [Hr.out]
            exact ⟨_, _, _, rfl, Ha7.out.store HG7.out.2.2.1 _ _ _ _, HG7.out.stored _ _ _ _⟩
      · have Hr := hid (show applyR W gs V ks cs X ss = (0, [], 2) by unfold applyR; rw [if_neg (by simp [Hv.out, hs]), if_pos hWX])
        have t : (W != X) = true := by simp [hWX]
        clear hWX h1 h2 h3 hs
        go_wp2_with fail
        refine bodyPost_ret (v := .tuple #[.agg #[.int .i64 0, .slice none 0 0], .int .i64 2]) (by simp [results, Try.results31, go_sem, r0, r1]) rfl ?_
        rw [Hr.out]
        exact ⟨_, _, _, rfl, Arg.nil _ _, H2.out.stored _ _ _ _⟩
end Go.Proofs.Ytmbelhdkaepohaa
