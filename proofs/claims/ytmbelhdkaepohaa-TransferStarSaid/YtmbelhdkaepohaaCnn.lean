/- Canon, the package's and the reference's: the canonical form of a function. -/
import Derived.Test.YtmbelhdkaepohaaCnw
import Derived.Test.YtmbelhdkaepohaaDvT
namespace Go.Proofs.Ytmbelhdkaepohaa
set_option maxRecDepth 20000
open Go.ChangeShapes Go.WideShapes Go.ChangeAt Go.RowKit

/-- Copies do not lie in a block where no two numbers lie side by side. -/
theorem ArgC.apart {w : World} {A : Option Addr} {n : Nat} {cs : List (Int × Int)} {g t : Nat} {xs : Array Value} (h : ArgC w A n cs) (hf : Fb w g xs t) (hn : ∀ j (x y : Int), xs[j]? = some (.int .i64 x) → xs[j + 1]? ≠ some (.int .i64 y)) : cs = [] ∨ ∃ ad, A = some ad ∧ ad.block ≠ g := by
  rcases h.lies with h0 | ⟨ad, e, hb, hc⟩
  · left
    cases cs with
    | nil => rfl
    | cons p ps => simp [pairs] at h0
  · cases cs with
    | nil => exact .inl rfl
    | cons p ps =>
      refine .inr ⟨ad, e, fun he => ?_⟩
      have c0 := hc 0 (.int .i64 p.1) rfl
      have c1 := hc 1 (.int .i64 p.2) rfl
      have ha : ad.add 0 = ad := by unfold Addr.add; simp
      rw [ha] at c0
      unfold World.cell? at c0 c1
      rw [he, show w.heap[g]? = _ from hf] at c0
      rw [show (ad.add 1).block = g from by rw [add_block]; exact he, show w.heap[g]? = _ from hf] at c1
      have e1 : (ad.add 1).off = ad.off + 1 := by unfold Addr.add; simp
      have e2 : (ad.add 1).spot = none := by unfold Addr.add; simp
      simp only [e1, e2] at c1
      simp only at c0
      split at c0
      · cases c0
      · exact hn _ _ _ c0 (by simpa using c1)
theorem ArgC.farB {w : World} {A : Option Addr} {n : Nat} {cs : List (Int × Int)} {g : Nat} (h : ArgC w A n cs) (ha : cs = [] ∨ ∃ ad, A = some ad ∧ ad.block ≠ g) (j : Nat) (u : Value) : ArgC (w.setCell ⟨g, j, none⟩ u) A n cs := by
  refine ⟨?_, h.len⟩
  rcases ha with rfl | ⟨ad, rfl, hne⟩
  · exact .inl rfl
  · rcases h.lies with h0 | ⟨ad', e, hb, hc⟩
    · exact .inl h0
    · cases e
      refine .inr ⟨ad, rfl, by simpa [World.setCell] using hb, fun j' u' hu => ?_⟩
      rw [World.cell?_setCell_other _ _ _ _ (by intro e; have := congrArg Addr.block e; rw [add_block] at this; exact hne this.symm)]
      exact hc j' u' hu
theorem ArgC.stored5 {w : World} {A : Option Addr} {n : Nat} {cs : List (Int × Int)} {R : Nat} (h : ArgC w A n cs) (ha : cs = [] ∨ ∃ ad, A = some ad ∧ ad.block ≠ R) (a b c d e : Value) : ArgC (stored5 w R a b c d e) A n cs :=
  ((((h.farB ha 0 a).farB ha 1 b).farB ha 2 c).farB ha 3 d).farB ha 4 e
theorem zero5c : ∀ j (x y : Int), (#[.int .i64 0, .slice none 0 0, .int .i64 0, .slice none 0 0, .slice none 0 0] : Array Value)[j]? = some (.int .i64 x) → (#[.int .i64 0, .slice none 0 0, .int .i64 0, .slice none 0 0, .slice none 0 0] : Array Value)[j + 1]? ≠ some (.int .i64 y) := by
  intro j x y h
  match j, h with
  | 0, _ => simp
  | 1, h => simp at h
  | 2, _ => simp
  | 3, h => simp at h
  | 4, h => simp at h
  | j + 5, h => simp at h

/-- P3.3. -/
def canR (W : Int) (gs : List Nat) (V : Int) (ks : List Nat) (cs : List (Int × Int)) : Int × List Nat × List Nat × List (Int × Int) × Int :=
  if validT W gs V ks cs = false then (0, [], [], [], 1)
  else (W, gs, killTo gs (oneR gs (folB W ks cs) W.toNat) W.toNat W.toNat, copsTo gs (oneR gs (folB W ks cs) W.toNat) W.toNat W.toNat, 0)
/-- A function and an error, as a value. -/
def RetR (w : World) (r : Int × List Nat × List Nat × List (Int × Int) × Int) (e : Ending) (w' : World) : Prop := RetT w r.1 r.2.1 r.2.2.1 r.2.2.2.1 r.2.2.2.2 e w'

/-- A result that is stored into the result's variable in block R. -/
theorem RetT.stored {w w1 : World} {W : Int} {gs ks : List Nat} {cs : List (Int × Int)} {err : Int} {A B C : Option Addr} {n c m d q R : Nat} (hA : Arg w1 A n gs) (hB : Arg w1 B m ks) (hC : ArgC w1 C cs.length cs) (hb : Below w.heap.size w w1)
    (hR : w.heap.size ≤ R) (hz : Fb w1 R #[.int .i64 0, .slice none 0 0, .int .i64 0, .slice none 0 0, .slice none 0 0] 28) :
    RetT w W gs ks cs err (.returned (.tuple #[.agg #[.int .i64 W, .slice A n c, .int .i64 W, .slice B m d, .slice C cs.length q], .int .i64 err])) (stored5 w1 R (.int .i64 W) (.slice A n c) (.int .i64 W) (.slice B m d) (.slice C cs.length q)) :=
  ⟨A, n, c, B, m, d, C, q, rfl, hA.stored5 (hA.apart hz zero5) _ _ _ _ _, hB.stored5 (hB.apart hz zero5) _ _ _ _ _, hC.stored5 (hC.apart hz zero5c) _ _ _ _ _, below_stored5 hb hR _ _ _ _ _⟩

theorem RetCanon.ok {w w' : World} {W : Nat} {gs ks : List Nat} {cs : List (Int × Int)} {e : Ending} (h : (ord (cs.filter (restB W gs))).length ≤ 64) (hh : RetCanon w W gs ks cs e w') :
    RetT w W gs (killC W gs ks cs) (ord (cs.filter (restB W gs))) 0 e w' := by
  unfold RetCanon at hh; rwa [if_pos h] at hh
theorem RetCanon.full {w w' : World} {W : Nat} {gs ks : List Nat} {cs : List (Int × Int)} {e : Ending} (h : ¬(ord (cs.filter (restB W gs))).length ≤ 64) (hh : RetCanon w W gs ks cs e w') : RetT w 0 [] [] [] 7 e w' := by
  unfold RetCanon at hh; rwa [if_neg h] at hh

set_option maxHeartbeats 800000 in
theorem devCanon_any (W V : Int) (A B C : Option Addr) (n c m d k q : Nat) (gs ks : List Nat) (cs : List (Int × Int)) (w : World) (hA : Arg w A n gs) (hB : Arg w B m ks) (hC : ArgC w C k cs) :
    Calls Try.prog 54 #[.agg #[.int .i64 W, .slice A n c, .int .i64 V, .slice B m d, .slice C k q]] w (RetR w (canR W gs V ks cs)) := by
  have HA := hid hA; have HB := hid hB; have HC := hid hC
  have HT := hid ((Fb.new w #[.int .i64 W, .slice A n c, .int .i64 V, .slice B m d, .slice C k q] 28).alloc (.cells #[.int .i64 0, .slice none 0 0, .int .i64 0, .slice none 0 0, .slice none 0 0] 28))
  have HR := hid (show Fb _ (w.heap.size + 1) _ 28 from by
    have := Fb.new (w.alloc (.cells #[.int .i64 W, .slice A n c, .int .i64 V, .slice B m d, .slice C k q] 28)) #[.int .i64 0, .slice none 0 0, .int .i64 0, .slice none 0 0, .slice none 0 0] 28
    rw [World.size_alloc] at this; exact this)
  have Hb := hid (((Below.refl w.heap.size w).alloc (Nat.le_refl _) (.cells #[.int .i64 W, .slice A n c, .int .i64 V, .slice B m d, .slice C k q] 28)).alloc (by simp) (.cells #[.int .i64 0, .slice none 0 0, .int .i64 0, .slice none 0 0, .slice none 0 0] 28))
  clear hA hB hC
  go_enter Try.func54, Try.ntmps54
  go_wp2_with fail
  refine (devValidT_any W V A B C n c m d k q gs ks cs _ (HA.out.below Hb.out) (HB.out.below Hb.out) (HC.out.below Hb.out)).mono ?_
  cases hv : validT W gs V ks cs with
  | false =>
    rintro e w1 ⟨rfl, hb1⟩
    have HR1 := hid (HR.out.below hb1 HR.out.lt)
    have Hb1 := hid (Hb.out.trans (hb1.mono Hb.out.size))
    have Hr := hid (show canR W gs V ks cs = (0, [], [], [], 1) by unfold canR; rw [if_pos hv])
    clear hb1 hv HR HT
    obtain ⟨r0, r1, r2, r3, r4⟩ := HR1.out.five
    have f0 := HR1.out.frozen 0
    have f1 := HR1.out.frozen 1
    have f2 := HR1.out.frozen 2
    have f3 := HR1.out.frozen 3
    have f4 := HR1.out.frozen 4
    have hlR := HR1.out.lt
    have Fin := hid (RetT.stored (err := 1) (c := 0) (d := 0) (q := 0) (cs := []) (C := none) (Arg.nil w1 none) (Arg.nil w1 none) ⟨.inl rfl, rfl⟩ Hb1.out (by omega) HR1.out (W := 0))
    unfold stored5 at Fin
    go_wp2_with fail
    refine bodyPost_ret (v := .tuple #[.agg #[.int .i64 0, .slice none 0 0, .int .i64 0, .slice none 0 0, .slice none 0 0], .int .i64 1]) (by simp [results, Try.results54, go_sem, r0, r1, r2, r3, r4]) rfl ?_
    rw [Hr.out]
    exact Fin.out
  | true =>
    obtain ⟨h1, h2, h3, h4, h5⟩ := validT_iff hv
    subst h3
    have hin := inW_of_ok h5
    have Hr := hid (show canR W gs W ks cs = (W, gs, killTo gs (oneR gs (folB W ks cs) W.toNat) W.toNat W.toNat, copsTo gs (oneR gs (folB W ks cs) W.toNat) W.toNat W.toNat, 0) by unfold canR; rw [if_neg (by rw [hv]; simp)])
    obtain ⟨v, rfl⟩ := Int.eq_ofNat_of_zero_le (Bs.validB_iff.1 h1).1
    have hv256 : v ≤ 256 := by have := (Bs.validB_iff.1 h1).2.1; omega
    have hfg : Bs.Fit v gs := by have := Bs.fit_of_valid h1 HA.out.ok; rwa [Int.toNat_natCast] at this
    have hfk : Bs.Fit v ks := by have := Bs.fit_of_valid h2 HB.out.ok; rwa [Int.toNat_natCast] at this
    rw [Int.toNat_natCast, ← canon_kill hv256 hfk, ← canon_cops hv256 hfg hin] at Hr
    have hlen : (ord (cs.filter (restB v gs))).length ≤ 64 := by
      have a1 := cpt_len (srt (cs.filter (restB v gs)))
      rw [srt_len] at a1
      have a2 := List.length_filter_le (restB v gs) cs
      unfold ord; omega
    rintro e w1 ⟨rfl, hb1⟩
    have HR1 := hid (HR.out.below hb1 HR.out.lt)
    have HT1 := hid (HT.out.below hb1 HT.out.lt)
    have Hb1 := hid (Hb.out.trans (hb1.mono Hb.out.size))
    have hk5 : k ≤ 5000 := by rw [HC.out.len] at h4; omega
    have Hin := hid hin; have Hfg := hid hfg; have Hfk := hid hfk; have Hlen := hid hlen
    clear hb1 hv h1 h2 h4 h5 hin hfg hfk hlen HR HT
    obtain ⟨t0, t1, t2, t3, t4⟩ := HT1.out.five
    go_wp2_with fail
    refine (devCanonical_any v A B C n c m d k q gs ks cs _ (HA.out.below Hb1.out) (HB.out.below Hb1.out) (HC.out.below Hb1.out) hv256 Hfg.out Hfk.out Hin.out hk5).mono ?_
    rintro e w2 hcan
    obtain ⟨A2, n2, c2, B2, m2, d2, C2, q2, rfl, hA2, hB2, hC2, hb2⟩ := RetCanon.ok Hlen.out hcan
    clear hcan
    have HR2 := hid (HR1.out.below hb2 HR1.out.lt)
    have Hb2 := hid (Hb1.out.trans (hb2.mono Hb1.out.size))
    have Fin := hid (RetT.stored (err := 0) (c := c2) (d := d2) (q := q2) (W := v) hA2 hB2 hC2 Hb2.out (by omega : w.heap.size ≤ w.heap.size + 1) HR2.out)
    unfold stored5 at Fin
    generalize ord (cs.filter (restB v gs)) = os at *
    clear hA2 hB2 hC2 hb2 t0 t1 t2 t3 t4 HR1 HT1
    obtain ⟨r0, r1, r2, r3, r4⟩ := HR2.out.five
    have f0 := HR2.out.frozen 0
    have f1 := HR2.out.frozen 1
    have f2 := HR2.out.frozen 2
    have f3 := HR2.out.frozen 3
    have f4 := HR2.out.frozen 4
    have hlR := HR2.out.lt
    go_wp2_with fail
    refine bodyPost_ret (v := .tuple #[.agg #[.int .i64 v, .slice A2 n2 c2, .int .i64 v, .slice B2 m2 d2, .slice C2 os.length q2], .int .i64 0]) (by simp [results, Try.results54, go_sem, r0, r1, r2, r3, r4]) rfl ?_
    rw [Hr.out]
    exact Fin.out

set_option maxHeartbeats 800000 in
theorem refCanon_any (W V : Int) (A B C : Option Addr) (n c m d k q : Nat) (gs ks : List Nat) (cs : List (Int × Int)) (w : World) (hA : Arg w A n gs) (hB : Arg w B m ks) (hC : ArgC w C k cs) :
    Calls Try.prog 8 #[.agg #[.int .i64 W, .slice A n c, .int .i64 V, .slice B m d, .slice C k q]] w (RetR w (canR W gs V ks cs)) := by
  have HA := hid hA; have HB := hid hB; have HC := hid hC
  have HT := hid ((Fb.new w #[.int .i64 W, .slice A n c, .int .i64 V, .slice B m d, .slice C k q] 28).alloc (.cells #[.int .i64 0, .slice none 0 0, .int .i64 0, .slice none 0 0, .slice none 0 0] 28))
  have HR := hid (show Fb _ (w.heap.size + 1) _ 28 from by
    have := Fb.new (w.alloc (.cells #[.int .i64 W, .slice A n c, .int .i64 V, .slice B m d, .slice C k q] 28)) #[.int .i64 0, .slice none 0 0, .int .i64 0, .slice none 0 0, .slice none 0 0] 28
    rw [World.size_alloc] at this; exact this)
  have Hb := hid (((Below.refl w.heap.size w).alloc (Nat.le_refl _) (.cells #[.int .i64 W, .slice A n c, .int .i64 V, .slice B m d, .slice C k q] 28)).alloc (by simp) (.cells #[.int .i64 0, .slice none 0 0, .int .i64 0, .slice none 0 0, .slice none 0 0] 28))
  clear hA hB hC
  go_enter Try.func8, Try.ntmps8
  go_wp2_with fail
  refine (refValidT_any W V A B C n c m d k q gs ks cs _ (HA.out.below Hb.out) (HB.out.below Hb.out) (HC.out.below Hb.out)).mono ?_
  cases hv : validT W gs V ks cs with
  | false =>
    rintro e w1 ⟨rfl, hb1⟩
    have HR1 := hid (HR.out.below hb1 HR.out.lt)
    have Hb1 := hid (Hb.out.trans (hb1.mono Hb.out.size))
    have Hr := hid (show canR W gs V ks cs = (0, [], [], [], 1) by unfold canR; rw [if_pos hv])
    clear hb1 hv HR HT
    obtain ⟨r0, r1, r2, r3, r4⟩ := HR1.out.five
    have f0 := HR1.out.frozen 0
    have f1 := HR1.out.frozen 1
    have f2 := HR1.out.frozen 2
    have f3 := HR1.out.frozen 3
    have f4 := HR1.out.frozen 4
    have hlR := HR1.out.lt
    have Fin := hid (RetT.stored (err := 1) (c := 0) (d := 0) (q := 0) (cs := []) (C := none) (Arg.nil w1 none) (Arg.nil w1 none) ⟨.inl rfl, rfl⟩ Hb1.out (by omega) HR1.out (W := 0))
    unfold stored5 at Fin
    go_wp2_with fail
    refine bodyPost_ret (v := .tuple #[.agg #[.int .i64 0, .slice none 0 0, .int .i64 0, .slice none 0 0, .slice none 0 0], .int .i64 1]) (by simp [results, Try.results8, go_sem, r0, r1, r2, r3, r4]) rfl ?_
    rw [Hr.out]
    exact Fin.out
  | true =>
    obtain ⟨h1, h2, h3, h4, h5⟩ := validT_iff hv
    subst h3
    have Hr := hid (show canR W gs W ks cs = (W, gs, killTo gs (oneR gs (folB W ks cs) W.toNat) W.toNat W.toNat, copsTo gs (oneR gs (folB W ks cs) W.toNat) W.toNat W.toNat, 0) by unfold canR; rw [if_neg (by rw [hv]; simp)])
    obtain ⟨v, rfl⟩ := Int.eq_ofNat_of_zero_le (Bs.validB_iff.1 h1).1
    have hv256 : v ≤ 256 := by have := (Bs.validB_iff.1 h1).2.1; omega
    have hfg : Bs.Fit v gs := by have := Bs.fit_of_valid h1 HA.out.ok; rwa [Int.toNat_natCast] at this
    rw [Int.toNat_natCast] at Hr
    rintro e w1 ⟨rfl, hb1⟩
    have HR1 := hid (HR.out.below hb1 HR.out.lt)
    have HT1 := hid (HT.out.below hb1 HT.out.lt)
    have Hb1 := hid (Hb.out.trans (hb1.mono Hb.out.size))
    have hk5 : k ≤ maxLen := by rw [HC.out.len] at h4; unfold maxLen; omega
    have Hfg := hid hfg
    clear hb1 hv h1 h2 h4 h5 hfg HR HT
    obtain ⟨t0, t1, t2, t3, t4⟩ := HT1.out.five
    go_wp2_with fail
    refine (refTable_any v A B C n c m d k q gs ks cs _ (HA.out.below Hb1.out) (HB.out.below Hb1.out) (HC.out.below Hb1.out) hk5 hv256 Hfg.out).mono ?_
    rintro e w2 ⟨vo, rfl, hO, hb2⟩
    obtain ⟨Ao, co, rfl⟩ := hO.slice
    have Hb2 := hid (Hb1.out.trans (hb2.mono Hb1.out.size))
    have HR2 := hid (HR1.out.below hb2 HR1.out.lt)
    have HO := hid (hO.argO hb2.size (fun i hi x hx => (fit_oneR gs (folB v ks cs) v i).ok x hx))
    clear hb2 hO t0 t1 t2 t3 t4 HT1 HR1
    go_wp2_with fail
    refine (refFunction_any v A Ao n c co gs (oneR gs (folB v ks cs) v) _ (HA.out.below Hb2.out) HO.out hv256 Hfg.out (fun i _ => fit_oneR gs (folB v ks cs) v i)).mono ?_
    rintro e w3 ⟨B3, m3, d3, C3, q3, rfl, hB3, hC3, hb3⟩
    generalize copsTo gs (oneR gs (folB v ks cs) v) v v = os at *
    generalize killTo gs (oneR gs (folB v ks cs) v) v v = ke at *
    have HR3 := hid (HR2.out.below hb3 HR2.out.lt)
    have Hb3 := hid (Hb2.out.trans (hb3.mono Hb2.out.size))
    have HR4 := hid (HR3.out.alloc (.cells #[.int .i64 v, .slice A n c, .int .i64 v, .slice B3 m3 d3, .slice C3 os.length q3] 28))
    have Hb4 := hid (Hb3.out.alloc Hb3.out.size (.cells #[.int .i64 v, .slice A n c, .int .i64 v, .slice B3 m3 d3, .slice C3 os.length q3] 28))
    have HX4 := hid (Fb.new w3 #[.int .i64 v, .slice A n c, .int .i64 v, .slice B3 m3 d3, .slice C3 os.length q3] 28)
    have Fin := hid (RetT.stored (err := 0) (c := c) (d := d3) (q := q3) (W := v) (HA.out.below Hb4.out) (hB3.alloc (.cells #[.int .i64 v, .slice A n c, .int .i64 v, .slice B3 m3 d3, .slice C3 os.length q3] 28)) (hC3.alloc (.cells #[.int .i64 v, .slice A n c, .int .i64 v, .slice B3 m3 d3, .slice C3 os.length q3] 28)) Hb4.out (by omega : w.heap.size ≤ w.heap.size + 1) HR4.out)
    unfold stored5 at Fin
    clear hB3 hC3 hb3 HR3 Hb3 HR2 Hb2
    obtain ⟨x0, x1, x2, x3, x4⟩ := HX4.out.five
    obtain ⟨r0, r1, r2, r3, r4⟩ := HR4.out.five
    have f0 := HR4.out.frozen 0
    have f1 := HR4.out.frozen 1
    have f2 := HR4.out.frozen 2
    have f3 := HR4.out.frozen 3
    have f4 := HR4.out.frozen 4
    have hlR := HR4.out.lt
    go_wp2_with fail
    refine bodyPost_ret (v := .tuple #[.agg #[.int .i64 v, .slice A n c, .int .i64 v, .slice B3 m3 d3, .slice C3 os.length q3], .int .i64 0]) (by simp [results, Try.results8, go_sem, r0, r1, r2, r3, r4]) rfl ?_
    rw [Hr.out]
    exact Fin.out
end Go.Proofs.Ytmbelhdkaepohaa
