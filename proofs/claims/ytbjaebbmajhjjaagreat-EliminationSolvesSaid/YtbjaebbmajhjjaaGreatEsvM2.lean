/- Merged texts: what YtbjaebbmajhjjaaGreatEliminationSolvesProof leans on. -/
import Derived.Lib.AppendZeros
import Derived.Deep.AppendLies
import Derived.Test.YtbjaebbmajhjjaaGreatEsvM0
import Derived.Test.YtbjaebbmajhjjaaGreatEsvM0a
namespace Go.Proofs.YtbjaebbmajhjjaaGreat
set_option maxRecDepth 20000
open Go.ChangeShapes Go.WideShapes Go.ChangeAt Go.RowKit
def TwoT (w : World) (W V : Int) (A B C : Option Addr) (n c m d k q : Nat) (W' V' : Int) (A' B' C' : Option Addr) (n' c' m' d' k' q' : Nat) (wr : World) : Prop :=
  Fb wr w.heap.size #[.int .i64 W, .slice A n c, .int .i64 V, .slice B m d, .slice C k q] 30 ∧ Fb wr (w.heap.size + 1) #[.int .i64 W', .slice A' n' c', .int .i64 V', .slice B' m' d', .slice C' k' q'] 30 ∧ Below w.heap.size w wr
section
variable {w : World} {W V : Int} {A B C : Option Addr} {n c m d k q : Nat} {W' V' : Int} {A' B' C' : Option Addr} {n' c' m' d' k' q' : Nat} {wr w' : World}
theorem TwoT.start (w : World) (W V : Int) (A B C : Option Addr) (n c m d k q : Nat) (W' V' : Int) (A' B' C' : Option Addr) (n' c' m' d' k' q' : Nat) :
    TwoT w W V A B C n c m d k q W' V' A' B' C' n' c' m' d' k' q' ((w.alloc (.cells #[.int .i64 W, .slice A n c, .int .i64 V, .slice B m d, .slice C k q] 30)).alloc (.cells #[.int .i64 W', .slice A' n' c', .int .i64 V', .slice B' m' d', .slice C' k' q'] 30)) := by
  have hS := Fb.new (w.alloc (.cells #[.int .i64 W, .slice A n c, .int .i64 V, .slice B m d, .slice C k q] 30)) #[.int .i64 W', .slice A' n' c', .int .i64 V', .slice B' m' d', .slice C' k' q'] 30
  simp only [World.size_alloc] at hS
  exact ⟨(Fb.new w _ 30).alloc _, hS, ((Below.refl _ _).alloc (Nat.le_refl _) _).alloc (by simp) _⟩
theorem TwoT.below (h : TwoT w W V A B C n c m d k q W' V' A' B' C' n' c' m' d' k' q' wr) (hb : Below wr.heap.size wr w') : TwoT w W V A B C n c m d k q W' V' A' B' C' n' c' m' d' k' q' w' :=
  ⟨h.1.below hb h.1.lt, h.2.1.below hb h.2.1.lt, h.2.2.trans (hb.mono h.2.2.size)⟩
end
theorem list_ext_to {α : Type} {a b : List α} (hl : a.length = b.length) (h : ∀ x, x < a.length → a[x]? = b[x]?) : a = b :=
  List.ext_getElem? fun i => by
    rcases Nat.lt_or_ge i a.length with hi | hi
    · exact h i hi
    · rw [List.getElem?_eq_none hi, List.getElem?_eq_none (by omega)]
end Go.Proofs.YtbjaebbmajhjjaaGreat
namespace Go.Proofs.YtbjaebbmajhjjaaGreat
set_option maxRecDepth 20000
open Go.ChangeShapes Go.WideShapes Go.ChangeAt Go.RowKit
theorem copsEq_any (A B : Option Addr) (n c m d : Nat) (xs ys : List (Int × Int)) (w : World) (hA : ArgC w A n xs) (hB : ArgC w B m ys) (hn : n ≤ 100000) :
    Calls Tryz.prog 145 #[.slice A n c, .slice B m d] w fun e w' => e = .returned (.bool (decide (xs = ys))) ∧ Below w.heap.size w w' := by
  by_cases hnm : n = m
  · subst hnm
    have HA := hid hA; have HB := hid hB
    have t2 : ((n : Int) != (n : Int)) = false := by simp
    clear hA hB
    go_enter Tryz.func145, Tryz.ntmps145
    go_wp2
    clear t2
    go_loopw [5, 13] (fun _ i wr => ∃ k : Nat, k ≤ n ∧ i = .int .i64 k ∧ Hid (∀ j, j < k → xs[j]? = ys[j]?) ∧ ∃ q : Nat, wr = w.drewN q) (fun _ i _ => n - (intOf i).toNat)
    case atStart => exact ⟨0, by omega, rfl, fun j h => by omega, 0, rfl⟩
    case round =>
      obtain ⟨k, hk, rfl, hb, q, rfl⟩ := hrel
      by_cases hlt : k < n
      · have hgx : xs[k]? = some (xs[k]'(by rw [HA.out.len]; exact hlt)) := List.getElem?_eq_getElem _
        have hgy : ys[k]? = some (ys[k]'(by rw [HB.out.len]; exact hlt)) := List.getElem?_eq_getElem _
        generalize (xs[k]'(by rw [HA.out.len]; exact hlt)) = x at hgx
        generalize (ys[k]'(by rw [HB.out.len]; exact hlt)) = y at hgy
        obtain ⟨x1, x2⟩ := x
        obtain ⟨y1, y2⟩ := y
        obtain ⟨ad, rfl, had, a1, a2⟩ := HA.out.cell hgx
        obtain ⟨bd, rfl, hbd, b1, b2⟩ := HB.out.cell hgy
        have Hx := hid hgx; have Hy := hid hgy
        clear hgx hgy
        have a1' : (w.drewN q).cell? (ad.add (k * 2)) = some (.int .i64 x1) := a1
        have a2' : (w.drewN q).cell? ⟨(ad.add (k * 2)).block, (ad.add (k * 2)).off + 1, none⟩ = some (.int .i64 x2) := a2
        have b1' : (w.drewN q).cell? (bd.add (k * 2)) = some (.int .i64 y1) := b1
        have b2' : (w.drewN q).cell? ⟨(bd.add (k * 2)).block, (bd.add (k * 2)).off + 1, none⟩ = some (.int .i64 y2) := b2
        clear a1 a2 b1 b2
        have hk0 : (0 : Int) ≤ k := by omega
        have hkn : (k : Int).toNat = k := by omega
        have hk1 : (k : Int) < n := by omega
        have bad : ¬(x1 = y1 ∧ x2 = y2) → (decide (xs = ys)) = false := by
          intro h
          refine decide_eq_false fun e => h ?_
          have := Hx.out.symm.trans ((congrArg (·[k]?) e).trans Hy.out)
          simp at this
          exact this
        have Bad := hid bad
        clear bad
        generalize hwq : w.drewN q = wq at *
        have Hwq := hid hwq
        clear hwq
        by_cases e1 : x1 = y1
        · subst e1
          by_cases e2 : x2 = y2
          · subst e2
            go_wp2_with fail
            go_quiet (fail)
            clear a1' a2' b1' b2'
            go_wp2
            go_roundw
            case rel =>
              refine ⟨k + 1, by omega, by go_num, fun j hj => ?_, q + nq, by rw [← Hwq.out, World.drewN_drewN]⟩
              by_cases e : j = k
              · rw [e, Hx.out, Hy.out]
              · exact hb.out j (by omega)
            case measure => simp [intOf]; omega
          · have E := hid (Bad.out (by simp [e2]))
            go_wp2_with fail
            go_quiet (fail)
            go_wp2
            go_ret
            refine ⟨ret_bool E.out.symm, ?_⟩
            rw [← Hwq.out, World.drewN_drewN]; exact below_drewN (Below.refl _ _) _
        · have E := hid (Bad.out (by simp [e1]))
          go_wp2_with fail
          go_quiet (fail)
          go_wp2
          go_ret
          refine ⟨ret_bool E.out.symm, ?_⟩
          rw [← Hwq.out, World.drewN_drewN]; exact below_drewN (Below.refl _ _) _
      · have hkn : k = n := by omega
        subst hkn
        have E := hid (show decide (xs = ys) = true from decide_eq_true (list_ext_to (by rw [HA.out.len, HB.out.len]) (fun x hx => hb.out x (by rw [HA.out.len] at hx; exact hx))))
        go_wp2
        go_ret
        exact ⟨ret_bool E.out.symm, below_drewN (Below.refl _ _) _⟩
  · have t2 : ((n : Int) != (m : Int)) = true := by simp; omega
    have E := hid (show decide (xs = ys) = false from decide_eq_false fun e => hnm (by rw [← hA.len, ← hB.len, e]))
    clear hA hB
    go_enter Tryz.func145, Tryz.ntmps145
    go_wp2
    go_ret
    exact ⟨ret_bool E.out.symm, Below.refl _ _⟩
def checkR (v1 v2 : Bool) (W V : Int) : Int := if v1 = false ∨ v2 = false then 1 else if W ≠ V then 2 else 0
set_option maxHeartbeats 800000 in
theorem devCheck_any (W V : Int) (A B C : Option Addr) (n c m d k q : Nat) (gs ks : List Nat) (cs : List (Int × Int)) (W' V' : Int) (A' B' C' : Option Addr) (n' c' m' d' k' q' : Nat) (gs' ks' : List Nat) (cs' : List (Int × Int)) (w : World)
    (hF : FArg w A n B m C k gs ks cs) (hG : FArg w A' n' B' m' C' k' gs' ks' cs') :
    Calls Tryz.prog 120 #[.agg #[.int .i64 W, .slice A n c, .int .i64 V, .slice B m d, .slice C k q], .agg #[.int .i64 W', .slice A' n' c', .int .i64 V', .slice B' m' d', .slice C' k' q']] w
      fun e w' => e = .returned (.int .i64 (checkR (validT W gs V ks cs) (validT W' gs' V' ks' cs') W W')) ∧ Below w.heap.size w w' := by
  have HF := hid hF; have HG := hid hG
  have H0 := hid (TwoT.start w W V A B C n c m d k q W' V' A' B' C' n' c' m' d' k' q')
  clear hF hG
  go_enter Tryz.func120, Tryz.ntmps120
  go_wp2_with fail
  have HF0 := hid (HF.out.below H0.out.2.2)
  refine (devValidT_any W V A B C n c m d k q gs ks cs _ HF0.out.gen HF0.out.kill HF0.out.cops).mono ?_
  cases hv : validT W gs V ks cs with
  | false =>
    have Hr := hid (show checkR (validT W gs V ks cs) (validT W' gs' V' ks' cs') W W' = 1 by rw [hv]; unfold checkR; simp)
    rintro e w1 ⟨rfl, hb1⟩
    have H1 := hid (H0.out.below hb1)
    clear hb1 hv HF0
    go_wp2
    go_ret
    exact ⟨ret_int Hr.out.symm, H1.out.2.2⟩
  | true =>
    have Hv := hid hv
    rintro e w1 ⟨rfl, hb1⟩
    have H1 := hid (H0.out.below hb1)
    clear hb1 hv HF0
    obtain ⟨t0, t1, t2, t3, t4⟩ := H1.out.2.1.five
    have HG1 := hid (HG.out.below H1.out.2.2)
    go_wp2_with fail
    refine (devValidT_any W' V' A' B' C' n' c' m' d' k' q' gs' ks' cs' _ HG1.out.gen HG1.out.kill HG1.out.cops).mono ?_
    cases hv2 : validT W' gs' V' ks' cs' with
    | false =>
      have Hr := hid (show checkR (validT W gs V ks cs) (validT W' gs' V' ks' cs') W W' = 1 by rw [Hv.out, hv2]; unfold checkR; simp)
      rintro e w2 ⟨rfl, hb2⟩
      have H2 := hid (H1.out.below hb2)
      clear hb2 hv2 HG1 t0 t1 t2 t3 t4
      go_wp2
      go_ret
      exact ⟨ret_int Hr.out.symm, H2.out.2.2⟩
    | true =>
      have Hv2 := hid hv2
      rintro e w2 ⟨rfl, hb2⟩
      have H2 := hid (H1.out.below hb2)
      clear hb2 hv2 HG1 t0 t1 t2 t3 t4
      obtain ⟨t0, t1, t2, t3, t4⟩ := H2.out.2.1.five
      obtain ⟨s0, s1, s2, s3, s4⟩ := H2.out.1.five
      by_cases hw : W = W'
      · have Hr := hid (show checkR (validT W gs V ks cs) (validT W' gs' V' ks' cs') W W' = 0 by rw [Hv.out, Hv2.out]; unfold checkR; simp [hw])
        have tt : (W != W') = false := by simp [hw]
        clear hw
        go_wp2
        go_ret
        exact ⟨ret_int Hr.out.symm, H2.out.2.2⟩
      · have Hr := hid (show checkR (validT W gs V ks cs) (validT W' gs' V' ks' cs') W W' = 2 by rw [Hv.out, Hv2.out]; unfold checkR; simp [hw])
        have tt : (W != W') = true := by simp [hw]
        clear hw
        go_wp2
        go_ret
        exact ⟨ret_int Hr.out.symm, H2.out.2.2⟩
def equal2 (W : Int) (gs : List Nat) (V : Int) (ks : List Nat) (cs : List (Int × Int)) (W' : Int) (gs' : List Nat) (V' : Int) (ks' : List Nat) (cs' : List (Int × Int)) : Bool :=
  equalB W gs W' gs' && equalB V ks V' ks' && decide (cs = cs')
set_option maxHeartbeats 800000 in
theorem devEqual2_any (W V : Int) (A B C : Option Addr) (n c m d k q : Nat) (gs ks : List Nat) (cs : List (Int × Int)) (W' V' : Int) (A' B' C' : Option Addr) (n' c' m' d' k' q' : Nat) (gs' ks' : List Nat) (cs' : List (Int × Int)) (w : World)
    (hF : FArg w A n B m C k gs ks cs) (hG : FArg w A' n' B' m' C' k' gs' ks' cs') (hn : n ≤ maxLen) (hm : m ≤ maxLen) (hk : k ≤ 100000) :
    Calls Tryz.prog 132 #[.agg #[.int .i64 W, .slice A n c, .int .i64 V, .slice B m d, .slice C k q], .agg #[.int .i64 W', .slice A' n' c', .int .i64 V', .slice B' m' d', .slice C' k' q']] w
      fun e w' => e = .returned (.bool (equal2 W gs V ks cs W' gs' V' ks' cs')) ∧ Below w.heap.size w w' := by
  have HF := hid hF; have HG := hid hG
  have H0 := hid (TwoT.start w W V A B C n c m d k q W' V' A' B' C' n' c' m' d' k' q')
  clear hF hG
  go_enter Tryz.func132, Tryz.ntmps132
  go_wp2_with fail
  refine (devEqual_any W W' A A' n c n' c' gs gs' _ (HF.out.gen.below H0.out.2.2) (HG.out.gen.below H0.out.2.2) hn).mono ?_
  cases h1 : equalB W gs W' gs' with
  | false =>
    have Hr := hid (show equal2 W gs V ks cs W' gs' V' ks' cs' = false by unfold equal2; rw [h1]; rfl)
    rintro e w1 ⟨rfl, hb1⟩
    have H1 := hid (H0.out.below hb1)
    clear hb1 h1
    go_wp2
    go_ret
    exact ⟨ret_bool Hr.out.symm, H1.out.2.2⟩
  | true =>
    rintro e w1 ⟨rfl, hb1⟩
    have H1 := hid (H0.out.below hb1)
    have Hq1 := hid h1
    clear hb1 h1
    obtain ⟨t0, t1, t2, t3, t4⟩ := H1.out.2.1.five
    obtain ⟨s0, s1, s2, s3, s4⟩ := H1.out.1.five
    go_wp2_with fail
    refine (devEqual_any V V' B B' m d m' d' ks ks' _ (HF.out.kill.below H1.out.2.2) (HG.out.kill.below H1.out.2.2) hm).mono ?_
    cases h2 : equalB V ks V' ks' with
    | false =>
      have Hr := hid (show equal2 W gs V ks cs W' gs' V' ks' cs' = false by unfold equal2; rw [h2]; simp)
      rintro e w2 ⟨rfl, hb2⟩
      have H2 := hid (H1.out.below hb2)
      clear hb2 h2 t0 t1 t2 t3 t4 s0 s1 s2 s3 s4
      go_wp2
      go_ret
      exact ⟨ret_bool Hr.out.symm, H2.out.2.2⟩
    | true =>
      have Hr := hid (show equal2 W gs V ks cs W' gs' V' ks' cs' = decide (cs = cs') by unfold equal2; rw [h2, Hq1.out]; rfl)
      rintro e w2 ⟨rfl, hb2⟩
      have H2 := hid (H1.out.below hb2)
      clear hb2 h2 t0 t1 t2 t3 t4 s0 s1 s2 s3 s4
      obtain ⟨t0, t1, t2, t3, t4⟩ := H2.out.2.1.five
      obtain ⟨s0, s1, s2, s3, s4⟩ := H2.out.1.five
      go_wp2_with fail
      refine (copsEq_any C C' k q k' q' cs cs' _ (HF.out.cops.below H2.out.2.2) (HG.out.cops.below H2.out.2.2) hk).mono ?_
      generalize decide (cs = cs') = r at Hr
      rintro e w3 ⟨rfl, hb3⟩
      have H3 := hid (H2.out.below hb3)
      clear hb3 t0 t1 t2 t3 t4 s0 s1 s2 s3 s4
      go_wp2
      go_ret
      exact ⟨ret_bool Hr.out.symm, H3.out.2.2⟩
end Go.Proofs.YtbjaebbmajhjjaaGreat
namespace Go.Proofs.YtbjaebbmajhjjaaGreat
set_option maxRecDepth 20000
open Go.ChangeShapes Go.WideShapes Go.ChangeAt Go.RowKit
theorem zc_size (n : Nat) : (Builtin.zeroCells #[Value.int .i64 0, Value.int .i64 0] n).size = n * 2 := by simp [Builtin.zeroCells]
theorem grow_any (n : Nat) (w : World) (hn : n ≤ 10000) :
    Calls Tryz.prog 148 #[.slice none 0 0, .int .i64 n] w fun e w' => ∃ C q, e = .returned (.slice C 0 q) ∧ Cops w' w.heap.size (.slice C 0 q) [] ∧ Below w.heap.size w w' := by
  by_cases h0 : n = 0
  · subst h0
    go_enter Tryz.func148, Tryz.ntmps148
    go_wp2
    go_ret
    exact ⟨none, 0, rfl, World.ownsRow_nil _ _ _ _, Below.refl _ _⟩
  · obtain ⟨i0, hi, hz0, hz1, hz2⟩ := info_parts info35
    have hr : ∀ ty, (Builtin.append_ #[28, 3] ty #[.slice none 0 0, .int .i64 n]).run Tryz.prog w = .ok (.slice (some ⟨w.heap.size, 0, none⟩) n (grownCap w n 0 27)) (w.drew.alloc (.cells (Builtin.zeroCells #[Value.int .i64 0, Value.int .i64 0] n ++ Builtin.zeroCells #[Value.int .i64 0, Value.int .i64 0] (grownCap w n 0 27 - n)) 27)) := fun ty => by
      have := Lib.run_append_nil_zeros (P := Tryz.prog) w 28 3 ty 27 i0 _ .i64 .i64 Tryz.underlying28 Tryz.underlying3 hi hz0 n (by omega) (by rw [hz1]; omega) (by omega) (by rw [hz2]; omega)
      exact this
    have hge := grownCap_ge w n 0 27
    have hle : grownCap w n 0 27 ≤ maxLen := grownCap_le_maxLen w n 0 27 (by unfold maxLen; omega)
    have Hr := hid hr
    generalize grownCap w n 0 27 = G at *
    have Hrow := hid (show Cops (w.drew.alloc (.cells (Builtin.zeroCells #[Value.int .i64 0, Value.int .i64 0] n ++ Builtin.zeroCells #[Value.int .i64 0, Value.int .i64 0] (G - n)) 27)) w.heap.size (.slice (some ⟨w.heap.size, 0, none⟩) 0 G) [] from
      ⟨rfl, .inr ⟨w.heap.size, G, _, rfl, Nat.le_refl _, heap_alloc_new w.drew _, Nat.zero_le _, hle, by rw [Array.size_append, zc_size, zc_size]; omega, by simp [pairs]⟩⟩)
    have Hb := hid (show Below w.heap.size w (w.drew.alloc (.cells (Builtin.zeroCells #[Value.int .i64 0, Value.int .i64 0] n ++ Builtin.zeroCells #[Value.int .i64 0, Value.int .i64 0] (G - n)) 27)) from (Below.refl _ _).drew.alloc (Nat.le_refl _) _)
    have hn0 : (0 : Int) < (n : Int) := by omega
    unfold maxLen at hle
    clear hr hi hz0 hz1 hz2
    go_enter Tryz.func148, Tryz.ntmps148
    go_wp2_with (at_builtin; refine Lib.wpList_append_run _ rfl _ _ _ _ rfl _ _ rfl rfl _ _ (Hr.out _) ?_)
    go_ret
    exact ⟨_, _, rfl, Hrow.out, Hb.out⟩
theorem run_app_none (w : World) (C A : Option Addr) (n qr m q : Nat) (h : n ≤ qr) (hm : m = 0) (ty : TypeId) : (Builtin.append_ #[28, 28] ty #[.slice C n qr, .slice A m q]).run Tryz.prog w = .ok (.slice C n qr) w := by
  subst hm
  cases C with
  | none => cases A with
    | none => go_simp
    | some a => go_simp
  | some g => cases A with
    | none => go_simp
    | some a => go_simp
theorem Cops.cap {w : World} {base q n : Nat} {C : Option Addr} {rs : List (Int × Int)} (h : Cops w base (.slice C n q) rs) : rs.length ≤ q := by
  rcases h.2 with ⟨_, h0⟩ | ⟨g, cap, cur, e, _, _, hc, _⟩
  · omega
  · injection e with _ _ e; omega
def Catting (w : World) (g : Nat) (X Y : Option Addr) (kx qx ky qy : Nat) (v : Value) (rs : List (Int × Int)) (wr : World) : Prop :=
  (wr.cell? ⟨g, 0, none⟩ = some (.slice X kx qx) ∧ wr.cell? ⟨g, 1, none⟩ = some (.slice Y ky qy)) ∧ Cops wr w.heap.size v rs ∧ Below w.heap.size w wr
theorem Catting.row {w wr w' : World} {g : Nat} {X Y : Option Addr} {kx qx ky qy : Nat} {v v' : Value} {rs rs' : List (Int × Int)} (h : Catting w g X Y kx qx ky qy v rs wr) (hgl : g < w.heap.size) (hg : wr.grownBy w' v.ownBlock) (hc : Cops w' w.heap.size v' rs') : Catting w g X Y kx qx ky qy v' rs' w' := by
  have ne : ∀ k, v.ownBlock = some k → w.heap.size ≤ k := own_base h.2.1
  have hs := h.2.2.size
  have hb : w'.heap[g]? = wr.heap[g]? := hg.block g (by omega) (by
    intro e; have := ne g e.symm; omega)
  exact ⟨⟨(World.cell?_of_block (a := ⟨g, 0, none⟩) hb).trans h.1.1, (World.cell?_of_block (a := ⟨g, 1, none⟩) hb).trans h.1.2⟩, hc, h.2.2.grown hg hs ne⟩
theorem pairs_app (a b : List (Int × Int)) : pairs (a ++ b) = pairs a ++ pairs b := by simp [pairs]
theorem pairs_one (cs : List (Int × Int)) : ∀ u ∈ pairs cs, u.oneCell' = true := by
  intro u hu
  unfold pairs at hu
  obtain ⟨p, _, hp⟩ := List.mem_flatMap.1 hu
  simp at hp
  rcases hp with rfl | rfl <;> rfl
theorem ArgC.cells {w w' : World} {ad : Addr} {n : Nat} {cs : List (Int × Int)} (h : ArgC w (some ad) n cs) (hb : Below w.heap.size w w') : ∀ j u, (pairs cs)[j]? = some u → w'.cell? (ad.add j) = some u := by
  intro j u hu
  rcases h.lies with h0 | ⟨ad', e, hl, hc⟩
  · rw [h0] at hu; simp at hu
  · cases e
    exact (hb.cell (by rw [add_block]; exact hl)).trans (hc j u hu)
set_option maxHeartbeats 1600000 in
theorem concat_any (g c : Nat) (X Y : Option Addr) (kx qx ky qy : Nat) (xs ys : List (Int × Int)) (w : World) (hg : g < w.heap.size) (h0 : w.cell? ⟨g, 0, none⟩ = some (.slice X kx qx)) (h1 : w.cell? ⟨g, 1, none⟩ = some (.slice Y ky qy))
    (hX : ArgC w X kx xs) (hY : ArgC w Y ky ys) (hkx : kx ≤ 64) (hky : ky ≤ 64) :
    Calls Tryz.prog 140 #[.slice (some ⟨g, 0, none⟩) 2 c] w fun e w' => ∃ C q, e = .returned (.slice C (xs ++ ys).length q) ∧ ArgC w' C (xs ++ ys).length (xs ++ ys) ∧ Below w.heap.size w w' := by
  obtain ⟨i0, hi, hz0, hz1, hz2⟩ := info_parts info35
  have Hi := hid hi; have Hz0 := hid hz0; have Hz1 := hid hz1; have Hz2 := hid hz2
  have HX := hid hX; have HY := hid hY; have H0 := hid h0; have H1 := hid h1
  clear hi hz0 hz1 hz2 hX hY
  go_enter Tryz.func140, Tryz.ntmps140
  go_wp2_with fail
  go_loopw [3, 5, 11] (fun s _ i wr => ((i = .int .i64 (0 : Nat) ∧ s = .int .i64 (0 : Nat)) ∨ (i = .int .i64 (1 : Nat) ∧ s = .int .i64 (kx : Nat)) ∨ (i = .int .i64 (2 : Nat) ∧ s = .int .i64 (kx + ky : Nat))) ∧ wr = w) (fun _ _ i _ => 2 - (intOf i).toNat)
  case atStart => exact ⟨.inl ⟨rfl, rfl⟩, rfl⟩
  case round =>
    obtain ⟨⟨rfl, rfl⟩ | ⟨rfl, rfl⟩ | ⟨rfl, rfl⟩, hw⟩ := hrel
    all_goals subst wr
    · go_wp2
      go_roundw
      case rel => exact ⟨.inr (.inl ⟨rfl, by go_num⟩), by trivial⟩
      case measure => simp [intOf]
    · go_wp2
      go_roundw
      case rel => exact ⟨.inr (.inr ⟨rfl, by go_num⟩), by trivial⟩
      case measure => simp [intOf]
    · go_wp2_with fail
      have Hg := hid hg
      have hgr := grow_any (kx + ky) w (by omega)
      rw [Int.natCast_add] at hgr
      refine hgr.mono ?_
      rintro e w3 ⟨C0, q0, rfl, hc0, hb3⟩
      have H3 := hid (show Catting w g X Y kx qx ky qy (.slice C0 0 q0) [] w3 from ⟨⟨(hb3.cell hg).trans h0, (hb3.cell hg).trans h1⟩, hc0, hb3⟩)
      clear hc0 hb3 hgr h0 h1
      go_wp2_with fail
      go_loopw [6, 8, 27] (fun v _ i wr => ∃ (Cr : Option Addr) (qr : Nat), (i = .int .i64 (0 : Nat) ∧ v = .slice Cr ([] : List (Int × Int)).length qr ∧ Hid (Catting w g X Y kx qx ky qy (.slice Cr ([] : List (Int × Int)).length qr) [] wr)) ∨ (i = .int .i64 (1 : Nat) ∧ v = .slice Cr xs.length qr ∧ Hid (Catting w g X Y kx qx ky qy (.slice Cr xs.length qr) xs wr)) ∨ (i = .int .i64 (2 : Nat) ∧ v = .slice Cr (xs ++ ys).length qr ∧ Hid (Catting w g X Y kx qx ky qy (.slice Cr (xs ++ ys).length qr) (xs ++ ys) wr))) (fun _ _ i _ => 2 - (intOf i).toNat)
      case atStart => exact ⟨C0, q0, .inl ⟨rfl, rfl, H3.out⟩⟩
      case round =>
        obtain ⟨Cr, qr, ⟨rfl, rfl, hK⟩ | ⟨rfl, rfl, hK⟩ | ⟨rfl, rfl, hK⟩⟩ := hrel
        · obtain ⟨c0, c1⟩ := hK.out.1
          by_cases hz : kx = 0
          · have e0 : xs = [] := List.eq_nil_of_length_eq_zero (by rw [HX.out.len]; exact hz)
            have Hz := hid hz
            clear hz
            have E0 := hid e0
            clear e0
            have hcap := hK.out.2.1.cap
            go_wp2_with (at_builtin; refine Lib.wpList_append_run _ rfl _ _ _ _ rfl _ _ rfl rfl _ _ (run_app_none _ _ _ _ _ _ _ hcap Hz.out _) ?_)
            go_roundw
            case rel => exact ⟨Cr, qr, .inr (.inl ⟨rfl, by rw [E0.out]; rfl, by rw [E0.out]; exact hK⟩)⟩
            case measure => simp [intOf]
          · obtain ⟨ad, rfl⟩ : ∃ ad, X = some ad := by
              rcases HX.out.lies with h | ⟨ad, e, _⟩
              · exfalso
                have := HX.out.len
                have h2 := pairs_length xs
                rw [h] at h2; simp at h2; omega
              · exact ⟨ad, e⟩
            go_wp2_with ((
                 at_builtin
                 refine wpList_append_own _ rfl _ _ 28 rfl w.heap.size 27 i0 _ 2 16 Tryz.underlying28 Hi.out Hz0.out Hz1.out Hz2.out rfl (by decide) (.slice Cr (([] : List (Int × Int))).length qr) (([] : List (Int × Int))).length (pairs (([] : List (Int × Int)))) rfl hK.out.2.1 ad kx qx (pairs xs) rfl (by rw [pairs_length, HX.out.len]; omega) (HX.out.cells hK.out.2.2) (pairs_one _) (by unfold maxLen; (try simp only [List.length_nil]); omega) (by (try simp only [List.length_nil]); omega) hK.out.2.2.size ?_
                 intro v' w7 hown7 hgr7 hnil7
                 have hl7 : ∃ C7 q7, v' = .slice C7 (([] : List (Int × Int)) ++ xs).length q7 := by
                   rcases hown7.2 with ⟨_, h0⟩ | ⟨g7, cap7, cur7, e7, _⟩
                   · omega
                   · exact ⟨_, cap7, by rw [e7, List.length_append, HX.out.len]⟩
                 obtain ⟨C7, q7, rfl⟩ := hl7
                 have H7 := hid (hK.out.row Hg.out hgr7 (show Cops w7 w.heap.size (.slice C7 (([] : List (Int × Int)) ++ xs).length q7) (([] : List (Int × Int)) ++ xs) from by have e : (([] : List (Int × Int)) ++ xs).length = (([] : List (Int × Int))).length + kx := (by rw [List.length_append, HX.out.len]); have hh := hown7; rw [← e, ← pairs_app] at hh; exact hh))
                 clear hown7 hgr7 hnil7))
            go_roundw
            case rel => exact ⟨C7, q7, .inr (.inl ⟨rfl, by first | rfl | rw [List.length_append], H7⟩)⟩
            case measure => simp [intOf]
        · obtain ⟨c0, c1⟩ := hK.out.1
          have hlx : xs.length ≤ 64 := by have := HX.out.len; omega
          by_cases hz : ky = 0
          · have e0 : ys = [] := List.eq_nil_of_length_eq_zero (by rw [HY.out.len]; exact hz)
            have Hz := hid hz
            clear hz
            have E0 := hid e0
            clear e0
            have hcap := hK.out.2.1.cap
            go_wp2_with (at_builtin; refine Lib.wpList_append_run _ rfl _ _ _ _ rfl _ _ rfl rfl _ _ (run_app_none _ _ _ _ _ _ _ hcap Hz.out _) ?_)
            go_roundw
            case rel => exact ⟨Cr, qr, .inr (.inr ⟨rfl, by rw [E0.out, List.append_nil], by rw [E0.out, List.append_nil]; exact hK⟩)⟩
            case measure => simp [intOf]
          · obtain ⟨ad, rfl⟩ : ∃ ad, Y = some ad := by
              rcases HY.out.lies with h | ⟨ad, e, _⟩
              · exfalso
                have := HY.out.len
                have h2 := pairs_length ys
                rw [h] at h2; simp at h2; omega
              · exact ⟨ad, e⟩
            go_wp2_with ((
                 at_builtin
                 refine wpList_append_own _ rfl _ _ 28 rfl w.heap.size 27 i0 _ 2 16 Tryz.underlying28 Hi.out Hz0.out Hz1.out Hz2.out rfl (by decide) (.slice Cr (xs).length qr) (xs).length (pairs (xs)) rfl hK.out.2.1 ad ky qy (pairs ys) rfl (by rw [pairs_length, HY.out.len]; omega) (HY.out.cells hK.out.2.2) (pairs_one _) (by unfold maxLen; (try simp only [List.length_nil]); omega) (by (try simp only [List.length_nil]); omega) hK.out.2.2.size ?_
                 intro v' w7 hown7 hgr7 hnil7
                 have hl7 : ∃ C7 q7, v' = .slice C7 (xs ++ ys).length q7 := by
                   rcases hown7.2 with ⟨_, h0⟩ | ⟨g7, cap7, cur7, e7, _⟩
                   · omega
                   · exact ⟨_, cap7, by rw [e7, List.length_append, HY.out.len]⟩
                 obtain ⟨C7, q7, rfl⟩ := hl7
                 have H7 := hid (hK.out.row Hg.out hgr7 (show Cops w7 w.heap.size (.slice C7 (xs ++ ys).length q7) (xs ++ ys) from by have e : (xs ++ ys).length = (xs).length + ky := (by rw [List.length_append, HY.out.len]); have hh := hown7; rw [← e, ← pairs_app] at hh; exact hh))
                 clear hown7 hgr7 hnil7))
            go_roundw
            case rel => exact ⟨C7, q7, .inr (.inr ⟨rfl, by first | rfl | rw [List.length_append], H7⟩)⟩
            case measure => simp [intOf]
        · go_wp2_with fail
          go_ret
          exact ⟨Cr, qr, rfl, ⟨own_at hK.out.2.1, rfl⟩, hK.out.2.2⟩
end Go.Proofs.YtbjaebbmajhjjaaGreat
namespace Go.Proofs.YtbjaebbmajhjjaaGreat
set_option maxRecDepth 20000
open Go.ChangeShapes Go.WideShapes Go.ChangeAt Go.RowKit
theorem Arg.skip {w w' : World} {A : Option Addr} {n : Nat} {ws : List Nat} {R : Nat} (h : Arg w A n ws) (ha : ws = [] ∨ ∃ ad, A = some ad ∧ ad.block ≠ R) (hg : w.grownBy w' (some R)) : Arg w' A n ws := by
  refine ⟨?_, h.len, h.ok⟩
  rcases ha with rfl | ⟨ad, rfl, hne⟩
  · exact .inl rfl
  · rcases h.lies with h0 | ⟨ad', e, hb, hc⟩
    · exact .inl h0
    · cases e
      exact .inr ⟨ad, rfl, by have := hg.size; omega, fun j u hu => hg.cell (hc j u hu) (by rw [add_block]; intro e; injection e with e; exact hne e)⟩
theorem ArgC.skip {w w' : World} {A : Option Addr} {n : Nat} {cs : List (Int × Int)} {R : Nat} (h : ArgC w A n cs) (ha : cs = [] ∨ ∃ ad, A = some ad ∧ ad.block ≠ R) (hg : w.grownBy w' (some R)) : ArgC w' A n cs := by
  refine ⟨?_, h.len⟩
  rcases ha with rfl | ⟨ad, rfl, hne⟩
  · exact .inl rfl
  · rcases h.lies with h0 | ⟨ad', e, hb, hc⟩
    · exact .inl h0
    · cases e
      exact .inr ⟨ad, rfl, by have := hg.size; omega, fun j u hu => hg.cell (hc j u hu) (by rw [add_block]; intro e; injection e with e; exact hne e)⟩
theorem grown_stored5 {w0 w : World} {R : Nat} (h : w0.grownBy w (some R)) (a b c d e : Value) : w0.grownBy (stored5 w R a b c d e) (some R) :=
  grown_trans (grown_trans (grown_trans (grown_trans (grown_trans h (grown_set _ R rfl a)) (grown_set _ R rfl b)) (grown_set _ R rfl c)) (grown_set _ R rfl d)) (grown_set _ R rfl e)
def andR (W : Nat) (ws xs : List Nat) : List Nat := Bs.ofP W (fun i => Bs.bit ws i && Bs.bit xs i) W
theorem fit_andR (W : Nat) (ws xs : List Nat) : Bs.Fit W (andR W ws xs) := Bs.fit_ofP _ _ _ (Nat.le_refl _)
theorem mixR_and {W : Nat} {ws xs : List Nat} (hW : W ≤ 256) (h1 : Bs.Fit W ws) (h2 : Bs.Fit W xs) : mixR (flag false false true) W ws W xs = ((W : Int), andR W ws xs, 0) := by
  rw [mixR_ok _ hW h1 h2]
  congr 2
  refine Bs.ofP_congr fun i _ => ?_
  cases Bs.bit ws i <;> cases Bs.bit xs i <;> rfl
def cnR (W : Nat) (gs ks : List Nat) (cs : List (Int × Int)) : Int × List Nat × List Nat × List (Int × Int) × Int :=
  if (ord (cs.filter (restB W gs))).length ≤ 64 then (W, gs, killC W gs ks cs, ord (cs.filter (restB W gs)), 0) else (0, [], [], [], 7)
theorem RetCanon.val {w w' : World} {W : Nat} {gs ks : List Nat} {cs : List (Int × Int)} {e : Ending} (hh : RetCanon w W gs ks cs e w') : RetR w (cnR W gs ks cs) e w' := by
  unfold RetCanon at hh
  unfold cnR
  by_cases h : (ord (cs.filter (restB W gs))).length ≤ 64
  · rw [if_pos h] at hh ⊢; exact hh
  · rw [if_neg h] at hh ⊢; exact hh
def joinR (W : Int) (gs : List Nat) (V : Int) (ks : List Nat) (cs : List (Int × Int)) (W' : Int) (gs' : List Nat) (V' : Int) (ks' : List Nat) (cs' : List (Int × Int)) : Int × List Nat × List Nat × List (Int × Int) × Int :=
  if validT W gs V ks cs = false ∨ validT W' gs' V' ks' cs' = false then (0, [], [], [], 1)
  else if W ≠ W' then (0, [], [], [], 2)
  else cnR W.toNat (orR W.toNat gs gs') (andR W.toNat ks ks') (cs ++ cs')
def Three (w : World) (W V : Int) (A B C : Option Addr) (n c m d k q : Nat) (W' V' : Int) (A' B' C' : Option Addr) (n' c' m' d' k' q' : Nat) (wr : World) : Prop :=
  Fb wr w.heap.size #[.int .i64 W, .slice A n c, .int .i64 V, .slice B m d, .slice C k q] 30 ∧ Fb wr (w.heap.size + 1) #[.int .i64 W', .slice A' n' c', .int .i64 V', .slice B' m' d', .slice C' k' q'] 30 ∧
    Fb wr (w.heap.size + 2) #[.int .i64 0, .slice none 0 0, .int .i64 0, .slice none 0 0, .slice none 0 0] 30 ∧ Below w.heap.size w wr
section
variable {w : World} {W V : Int} {A B C : Option Addr} {n c m d k q : Nat} {W' V' : Int} {A' B' C' : Option Addr} {n' c' m' d' k' q' : Nat} {wr w' : World}
theorem Three.start (w : World) (W V : Int) (A B C : Option Addr) (n c m d k q : Nat) (W' V' : Int) (A' B' C' : Option Addr) (n' c' m' d' k' q' : Nat) :
    Three w W V A B C n c m d k q W' V' A' B' C' n' c' m' d' k' q' (((w.alloc (.cells #[.int .i64 W, .slice A n c, .int .i64 V, .slice B m d, .slice C k q] 30)).alloc (.cells #[.int .i64 W', .slice A' n' c', .int .i64 V', .slice B' m' d', .slice C' k' q'] 30)).alloc (.cells #[.int .i64 0, .slice none 0 0, .int .i64 0, .slice none 0 0, .slice none 0 0] 30)) := by
  have h := TwoT.start w W V A B C n c m d k q W' V' A' B' C' n' c' m' d' k' q'
  have hS := Fb.new ((w.alloc (.cells #[.int .i64 W, .slice A n c, .int .i64 V, .slice B m d, .slice C k q] 30)).alloc (.cells #[.int .i64 W', .slice A' n' c', .int .i64 V', .slice B' m' d', .slice C' k' q'] 30)) #[.int .i64 0, .slice none 0 0, .int .i64 0, .slice none 0 0, .slice none 0 0] 30
  simp only [World.size_alloc] at hS
  exact ⟨h.1.alloc _, h.2.1.alloc _, hS, h.2.2.alloc (by simp; omega) _⟩
theorem Three.below (h : Three w W V A B C n c m d k q W' V' A' B' C' n' c' m' d' k' q' wr) (hb : Below wr.heap.size wr w') : Three w W V A B C n c m d k q W' V' A' B' C' n' c' m' d' k' q' w' :=
  ⟨h.1.below hb h.1.lt, h.2.1.below hb h.2.1.lt, h.2.2.1.below hb h.2.2.1.lt, h.2.2.2.trans (hb.mono h.2.2.2.size)⟩
end
end Go.Proofs.YtbjaebbmajhjjaaGreat
namespace Go.Proofs.YtbjaebbmajhjjaaGreat
set_option maxRecDepth 20000
open Go.ChangeShapes Go.WideShapes Go.ChangeAt Go.RowKit
theorem grown_set5 {w0 w : World} {R : Nat} (h : w0.grownBy w (some R)) (a b c d e : Value) : w0.grownBy (((((w.setCell ⟨R, 0, none⟩ a).setCell ⟨R, 1, none⟩ b).setCell ⟨R, 2, none⟩ c).setCell ⟨R, 3, none⟩ d).setCell ⟨R, 4, none⟩ e) (some R) :=
  grown_stored5 h a b c d e
theorem fit_of_valid' {W : Nat} {w : World} {A : Option Addr} {n : Nat} {ws : List Nat} (h : Bs.validB W ws = true) (ha : Arg w A n ws) : Bs.Fit W ws := by
  have := Bs.fit_of_valid h ha.ok; rwa [Int.toNat_natCast] at this
end Go.Proofs.YtbjaebbmajhjjaaGreat
namespace Go.Proofs.YtbjaebbmajhjjaaGreat
set_option maxRecDepth 20000
open Go.ChangeShapes Go.WideShapes Go.ChangeAt Go.RowKit
end Go.Proofs.YtbjaebbmajhjjaaGreat
namespace Go.Proofs.YtbjaebbmajhjjaaGreat
set_option maxRecDepth 20000
open Go.ChangeShapes Go.WideShapes Go.ChangeAt Go.RowKit
def chnP (V : Int) (kg : List Nat) (csg : List (Int × Int)) (p : Int × Int) (i : Nat) : List (Int × Int) :=
  (if Bs.hasB V kg p.2 then [] else [p]) ++ ((csg.take i).filter fun d => decide (p.2 = d.1)).map fun d => (p.1, d.2)
def chnF (V : Int) (kg : List Nat) (csf csg : List (Int × Int)) (j : Nat) : List (Int × Int) := (csf.take j).flatMap fun p => chnP V kg csg p csg.length
def chnL (V : Int) (kf : List Nat) (V' : Int) (kg : List Nat) (csf csg : List (Int × Int)) : List (Int × Int) :=
  chnF V' kg csf csg csf.length ++ csg.filter fun d => !Bs.hasB V kf d.1
theorem chnP_zero (V : Int) (kg : List Nat) (csg : List (Int × Int)) (p : Int × Int) : chnP V kg csg p 0 = if Bs.hasB V kg p.2 then [] else [p] := by unfold chnP; simp
theorem chnP_yes {V : Int} {kg : List Nat} {csg : List (Int × Int)} {p d : Int × Int} {i : Nat} (h : csg.take (i + 1) = csg.take i ++ [d]) (hd : p.2 = d.1) : chnP V kg csg p (i + 1) = chnP V kg csg p i ++ [(p.1, d.2)] := by
  unfold chnP; rw [h, List.filter_append, List.map_append, List.append_assoc]; simp [hd]
theorem chnP_no {V : Int} {kg : List Nat} {csg : List (Int × Int)} {p d : Int × Int} {i : Nat} (h : csg.take (i + 1) = csg.take i ++ [d]) (hd : p.2 ≠ d.1) : chnP V kg csg p (i + 1) = chnP V kg csg p i := by
  unfold chnP; rw [h, List.filter_append, List.map_append]; simp [hd]
theorem chnP_len (V : Int) (kg : List Nat) (csg : List (Int × Int)) (p : Int × Int) (i : Nat) : (chnP V kg csg p i).length ≤ csg.length + 1 := by
  unfold chnP
  rw [List.length_append, List.length_map]
  have h1 := List.length_filter_le (fun d => decide (p.2 = d.1)) (csg.take i)
  rw [List.length_take] at h1
  split <;> simp <;> omega
theorem chnF_snoc {V : Int} {kg : List Nat} {csf csg : List (Int × Int)} {p : Int × Int} {j : Nat} (h : csf.take (j + 1) = csf.take j ++ [p]) : chnF V kg csf csg (j + 1) = chnF V kg csf csg j ++ chnP V kg csg p csg.length := by
  unfold chnF; rw [h, List.flatMap_append]; simp
theorem chnF_len (V : Int) (kg : List Nat) (csf csg : List (Int × Int)) (j : Nat) : (chnF V kg csf csg j).length ≤ j * (csg.length + 1) := by
  induction j with
  | zero => simp [chnF]
  | succ j ih =>
    by_cases h : j < csf.length
    · rw [chnF_snoc (take_snoc csf j h), List.length_append, Nat.succ_mul]
      have := chnP_len V kg csg csf[j] csg.length
      omega
    · have e : chnF V kg csf csg (j + 1) = chnF V kg csf csg j := by
        unfold chnF
        rw [List.take_of_length_le (by omega), List.take_of_length_le (by omega)]
      rw [e, Nat.succ_mul]; omega
def Chaining (w : World) (W V : Int) (A B C : Option Addr) (n c m d k q : Nat) (W' V' : Int) (A' B' C' : Option Addr) (n' c' m' d' k' q' : Nat) (v : Value) (rs : List (Int × Int)) (wr : World) : Prop :=
  TwoT w W V A B C n c m d k q W' V' A' B' C' n' c' m' d' k' q' wr ∧ Cops wr (w.heap.size + 2) v rs ∧ w.heap.size + 2 ≤ wr.heap.size
section
variable {w : World} {W V : Int} {A B C : Option Addr} {n c m d k q : Nat} {W' V' : Int} {A' B' C' : Option Addr} {n' c' m' d' k' q' : Nat} {v : Value} {rs : List (Int × Int)} {wr w' : World}
theorem Chaining.below (h : Chaining w W V A B C n c m d k q W' V' A' B' C' n' c' m' d' k' q' v rs wr) (hb : Below wr.heap.size wr w') : Chaining w W V A B C n c m d k q W' V' A' B' C' n' c' m' d' k' q' v rs w' :=
  ⟨h.1.below hb, own_below h.2.1 hb, by have := hb.size; have := h.2.2; omega⟩
theorem Chaining.row {v' : Value} {rs' : List (Int × Int)} (h : Chaining w W V A B C n c m d k q W' V' A' B' C' n' c' m' d' k' q' v rs wr) (hg : wr.grownBy w' v.ownBlock) (hc : Cops w' (w.heap.size + 2) v' rs') :
    Chaining w W V A B C n c m d k q W' V' A' B' C' n' c' m' d' k' q' v' rs' w' := by
  have ne : ∀ b, b < w.heap.size + 2 → some b ≠ v.ownBlock := fun b hb e => by have := own_base h.2.1 b e.symm; omega
  exact ⟨⟨h.1.1.grown hg (ne _ (by omega)), h.1.2.1.grown hg (ne _ (by omega)), h.1.2.2.grown hg h.1.2.2.size (fun b e => by have := own_base h.2.1 b e; omega)⟩, hc, by have := hg.size; have := h.2.2; omega⟩
end
theorem Chaining.push {w : World} {W V : Int} {A B C : Option Addr} {n c m d k q : Nat} {W' V' : Int} {A' B' C' : Option Addr} {n' c' m' d' k' q' : Nat} {v : Value} {rs : List (Int × Int)} {wr w' : World} {o : Obj} {g cap : Nat} {x y : Int}
    (h : Chaining w W V A B C n c m d k q W' V' A' B' C' n' c' m' d' k' q' v rs wr) (hown : w'.ownsRow (w.heap.size + 2) 27 2 (.slice (some ⟨g, 0, none⟩) (rs.length + 1) cap) (rs.length + 1) (pairs rs ++ [.int .i64 x, .int .i64 y])) (hg : (wr.alloc o).grownBy w' v.ownBlock) :
    Chaining w W V A B C n c m d k q W' V' A' B' C' n' c' m' d' k' q' (.slice (some ⟨g, 0, none⟩) (rs.length + 1) cap) (rs ++ [(x, y)]) w' :=
  (h.below ((Below.refl _ _).alloc (Nat.le_refl _) o)).row hg (by unfold Cops; rw [pairs_snoc, List.length_append]; exact hown)
theorem one_pair (a b : Int) : ∀ u ∈ [Value.int .i64 a, Value.int .i64 b], u.oneCell' = true := by
  intro u hu; simp at hu; rcases hu with rfl | rfl <;> rfl
set_option maxHeartbeats 3200000 in
theorem chain_any (W V : Int) (A B C : Option Addr) (n c m d k q : Nat) (gs ks : List Nat) (cs : List (Int × Int)) (W' V' : Int) (A' B' C' : Option Addr) (n' c' m' d' k' q' : Nat) (gs' ks' : List Nat) (cs' : List (Int × Int)) (w : World)
    (hF : FArg w A n B m C k gs ks cs) (hG : FArg w A' n' B' m' C' k' gs' ks' cs') (hk : k ≤ 64) (hk' : k' ≤ 64) :
    Calls Tryz.prog 121 #[.agg #[.int .i64 W, .slice A n c, .int .i64 V, .slice B m d, .slice C k q], .agg #[.int .i64 W', .slice A' n' c', .int .i64 V', .slice B' m' d', .slice C' k' q']] w
      fun e w' => ∃ Co qo, e = .returned (.slice Co (chnL V ks V' ks' cs cs').length qo) ∧ ArgC w' Co (chnL V ks V' ks' cs cs').length (chnL V ks V' ks' cs cs') ∧ Below w.heap.size w w' := by
  obtain ⟨i0, hi, hz0, hz1, hz2⟩ := info_parts info35
  have Hi := hid hi; have Hz0 := hid hz0; have Hz1 := hid hz1; have Hz2 := hid hz2
  have HF := hid hF; have HG := hid hG
  have hst := TwoT.start w W V A B C n c m d k q W' V' A' B' C' n' c' m' d' k' q'
  have Hst := hid (show Chaining w W V A B C n c m d k q W' V' A' B' C' n' c' m' d' k' q' (.slice none 0 0) (chnF V' ks' cs cs' 0) _ from ⟨hst, World.ownsRow_nil _ _ _ _, by simp⟩)
  clear hi hz0 hz1 hz2 hF hG hst
  go_enter Tryz.func121, Tryz.ntmps121
  go_wp2_with fail
  generalize (w.alloc (.cells #[.int .i64 W, .slice A n c, .int .i64 V, .slice B m d, .slice C k q] 30)).alloc (.cells #[.int .i64 W', .slice A' n' c', .int .i64 V', .slice B' m' d', .slice C' k' q'] 30) = w1 at *
  go_loopw [5, 7, 9, 15, 32] (fun v _ _ i _ wr => ∃ j : Nat, j ≤ k ∧ i = .int .i64 j ∧ Hid (Chaining w W V A B C n c m d k q W' V' A' B' C' n' c' m' d' k' q' v (chnF V' ks' cs cs' j) wr)) (fun _ _ _ i _ _ => k - (intOf i).toNat)
  case atStart => exact ⟨0, by omega, rfl, Hst.out⟩
  case round =>
    obtain ⟨j, hj, rfl, hG1⟩ := hrel
    clear Hst
    by_cases hlt : j < k
    · have hjl : j < cs.length := by rw [HF.out.cops.len]; exact hlt
      have hget : cs[j]? = some cs[j] := List.getElem?_eq_getElem _
      have hsn := take_snoc cs j hjl
      generalize cs[j] = p at hget hsn
      obtain ⟨p1, p2⟩ := p
      obtain ⟨ad, rfl, had, g1, g2⟩ := (HF.out.cops.below hG1.out.1.2.2).cell hget
      have Hsn := hid hsn
      clear hget hsn
      have hlF : (chnF V' ks' cs cs' j).length ≤ 4160 := by
        have h1 := chnF_len V' ks' cs cs' j
        have h2 : j * (cs'.length + 1) ≤ 64 * 65 := Nat.mul_le_mul (by omega) (by have := HG.out.cops.len; omega)
        omega
      have hlP : ∀ i, (chnP V' ks' cs' (p1, p2) i).length ≤ 65 := fun i => by have h1 := chnP_len V' ks' cs' (p1, p2) i; have := HG.out.cops.len; omega
      have HlF := hid hlF; have HlP := hid hlP
      have hob : ∀ b, u5.ownBlock = some b → b < wr.heap.size := fun b hb => (World.ownsRow.lt hG1.out.2.1 b hb).2
      have Hob := hid hob
      have H5 := hid (hG1.out.below ((Below.refl _ _).alloc (Nat.le_refl _) (.cells #[.int .i64 p1, .int .i64 p2] 27)))
      have Hbx := hid (Fb.new wr #[.int .i64 p1, .int .i64 p2] 27)
      obtain ⟨b0, b1⟩ := Hbx.out.two
      obtain ⟨s0, s1, s2, s3, s4⟩ := H5.out.1.2.1.five
      clear hlF hlP hob
      go_wp2_with fail
      clear g1 g2
      generalize hgv : wr.heap.size = gv at *
      generalize wr.alloc (.cells #[.int .i64 p1, .int .i64 p2] 27) = wv at *
      have Hgv := hid hgv
      clear hgv
      refine (devHas_any V' B' m' d' ks' p2 _ (HG.out.kill.below H5.out.1.2.2)).mono ?_
      rintro e w6 ⟨rfl, hb6⟩
      have H6 := hid (H5.out.below hb6)
      have HB := hid (Hbx.out.below hb6 Hbx.out.lt)
      clear s0 s1 s2 s3 s4 b0 b1 hb6 Hbx H5
      obtain ⟨b0, b1⟩ := HB.out.two
      have hBl := HB.out.lt
      obtain ⟨r, hr⟩ : ∃ r, Bs.hasB V' ks' p2 = r := ⟨_, rfl⟩
      rw [hr]
      cases r with
      | true =>
        have hz0 : chnP V' ks' cs' (p1, p2) 0 = [] := by rw [chnP_zero]; simp [hr]
        have HJ := hid (show Chaining w W V A B (some ad) n c m d k q W' V' A' B' C' n' c' m' d' k' q' u5 (chnF V' ks' cs cs' j ++ chnP V' ks' cs' (p1, p2) 0) w6 from by rw [hz0, List.append_nil]; exact H6.out)
        have HN := hid (show u5.ownBlock ≠ some gv from fun e => by have := Hob.out gv e; omega)
        clear hz0 hr
        obtain ⟨s0, s1, s2, s3, s4⟩ := H6.out.1.2.1.five
        go_wp2_with fail
        clear s0 s1 s2 s3 s4 b0 b1 H6
        go_loopw [5, 9, 32] (fun v _ i wr => ∃ l : Nat, l ≤ k' ∧ i = .int .i64 l ∧ Hid (Chaining w W V A B (some ad) n c m d k q W' V' A' B' C' n' c' m' d' k' q' v (chnF V' ks' cs cs' j ++ chnP V' ks' cs' (p1, p2) l) wr ∧ Fb wr gv #[.int .i64 p1, .int .i64 p2] 27 ∧ v.ownBlock ≠ some gv)) (fun _ _ i _ => k' - (intOf i).toNat)
        case atStart => exact ⟨0, by omega, rfl, HJ.out, HB.out, HN.out⟩
        case round =>
          clear HJ HB HN
          obtain ⟨l, hl, rfl, hK⟩ := hrel
          by_cases hll : l < k'
          · have hll2 : l < cs'.length := by rw [HG.out.cops.len]; exact hll
            have hget2 : cs'[l]? = some cs'[l] := List.getElem?_eq_getElem _
            have hsn2 := take_snoc cs' l hll2
            generalize cs'[l] = dd at hget2 hsn2
            obtain ⟨d1, d2⟩ := dd
            obtain ⟨ad2, rfl, had2, g1, g2⟩ := (HG.out.cops.below hK.out.1.1.2.2).cell hget2
            have Hsn2 := hid hsn2
            have hlen : (chnF V' ks' cs cs' j ++ chnP V' ks' cs' (p1, p2) l).length ≤ 4300 := by
              rw [List.length_append]; have := HlF.out; have := HlP.out l; omega
            clear hget2 hsn2
            have HK := hid (hK.out.1.below ((Below.refl _ _).alloc (Nat.le_refl _) (.cells #[.int .i64 d1, .int .i64 d2] 27)))
            have HB2 := hid (hK.out.2.1.alloc (.cells #[.int .i64 d1, .int .i64 d2] 27))
            have HN2 := hid hK.out.2.2
            have HD := hid (Fb.new wr #[.int .i64 d1, .int .i64 d2] 27)
            obtain ⟨b0, b1⟩ := HB2.out.two
            obtain ⟨e0, e1⟩ := HD.out.two
            have hBl2 := HB2.out.lt
            by_cases he : p2 = d1
            · have tt : (p2 == d1) = true := by simp [he]
              have Hst2 := hid (show chnF V' ks' cs cs' j ++ chnP V' ks' cs' (p1, p2) (l + 1) = (chnF V' ks' cs cs' j ++ chnP V' ks' cs' (p1, p2) l) ++ [(p1, d2)] by rw [chnP_yes Hsn2.out he, List.append_assoc])
              clear he
              generalize chnF V' ks' cs cs' j ++ chnP V' ks' cs' (p1, p2) l = rs at *
              go_upto_region 10 with fail
              clear g1 g2
              generalize hgw : wr.heap.size = gw at *
              generalize wr.alloc (.cells #[.int .i64 d1, .int .i64 d2] 27) = wv2 at *
              clear hgw
              go_wp2_with ((
                at_builtin
                refine wpList_append_lies _ rfl _ _ 28 rfl (w.heap.size + 2) 27 i0 _ 2 16 Tryz.underlying28 Hi.out Hz0.out Hz1.out Hz2.out rfl (by decide) u5 rs.length (pairs rs) rfl (World.ownsRow.alloc HK.out.2.1 _) ⟨wv2.heap.size, 0, none⟩ 1 1 [.int .i64 p1, .int .i64 d2] rfl rfl (two_new _ _ _ _) (one_pair _ _) (by omega) (by unfold maxLen; omega) (by omega) (by have := HK.out.2.2; rw [World.size_alloc]; omega) _ rfl ?_
                intro g7 cap7 w7 hown7 hgr7 hat7 hlt7
                have H7 := hid (HK.out.push hown7 hgr7)
                have HB7 := hid ((HB2.out.alloc (.cells #[.int .i64 p1, .int .i64 d2] 27)).grown hgr7 (Ne.symm HN2.out))
                have HN7 := hid (show (Value.slice (some ⟨g7, 0, none⟩) (rs.length + 1) cap7).ownBlock ≠ some gv from fun e => by
                  have e' : g7 = gv := by simpa [Value.ownBlock] using e
                  rcases hat7 with h | h
                  · exact HN2.out (by rw [h, e'])
                  · rw [World.size_alloc] at h; omega)
                clear hown7 hgr7 hat7 hlt7))
              go_roundw
              case rel => exact ⟨l + 1, by omega, by go_num, by rw [Hst2.out]; exact hid ⟨H7.out, HB7.out, HN7.out⟩⟩
              case measure => simp [intOf]; omega
            · have tt : (p2 == d1) = false := by simp [he]
              have Hst2 := hid (show chnF V' ks' cs cs' j ++ chnP V' ks' cs' (p1, p2) (l + 1) = chnF V' ks' cs cs' j ++ chnP V' ks' cs' (p1, p2) l by rw [chnP_no Hsn2.out he])
              clear he
              go_wp2_with fail
              go_roundw
              case rel => exact ⟨l + 1, by omega, by go_num, by rw [Hst2.out]; exact hid ⟨HK.out, HB2.out, HN2.out⟩⟩
              case measure => simp [intOf]; omega
          · have hlk : k' = l := by omega
            subst hlk
            have Hst3 := hid (show chnF V' ks' cs cs' (j + 1) = chnF V' ks' cs cs' j ++ chnP V' ks' cs' (p1, p2) k' by rw [chnF_snoc Hsn.out, HG.out.cops.len])
            have HK := hid hK.out.1
            clear hK
            go_wp2_with fail
            go_roundw
            case rel => exact ⟨j + 1, by omega, by go_num, by rw [Hst3.out]; exact HK⟩
            case measure => simp [intOf]; omega
      | false =>
        have hz0 : chnP V' ks' cs' (p1, p2) 0 = [(p1, p2)] := by rw [chnP_zero]; simp [hr]
        have hlF := HlF.out
        have Hz := hid hz0
        clear hz0 hr
        obtain ⟨s0, s1, s2, s3, s4⟩ := H6.out.1.2.1.five
        generalize hFj : chnF V' ks' cs cs' j = rs at H6 hlF
        have HFj := hid hFj
        clear hFj
        go_upto_region 7 with (
          at_builtin
          refine wpList_append_lies _ rfl _ _ 28 rfl (w.heap.size + 2) 27 i0 _ 2 16 Tryz.underlying28 Hi.out Hz0.out Hz1.out Hz2.out rfl (by decide) u5 rs.length (pairs rs) rfl (World.ownsRow.alloc H6.out.2.1 _) ⟨w6.heap.size, 0, none⟩ 1 1 [.int .i64 p1, .int .i64 p2] rfl rfl (two_new _ _ _ _) (one_pair _ _) (by omega) (by unfold maxLen; omega) (by omega) (by have := H6.out.2.2; rw [World.size_alloc]; omega) _ rfl ?_
          intro g7 cap7 w7 hown7 hgr7 hat7 hlt7
          have HJ := hid (show Chaining w W V A B (some ad) n c m d k q W' V' A' B' C' n' c' m' d' k' q' (.slice (some ⟨g7, 0, none⟩) (rs.length + 1) cap7) (chnF V' ks' cs cs' j ++ chnP V' ks' cs' (p1, p2) 0) w7 from by rw [Hz.out, HFj.out]; exact H6.out.push hown7 hgr7)
          have HB := hid ((HB.out.alloc (.cells #[.int .i64 p1, .int .i64 p2] 27)).grown hgr7 (fun e => by have := Hob.out gv e.symm; omega))
          have HN := hid (show (Value.slice (some ⟨g7, 0, none⟩) (rs.length + 1) cap7).ownBlock ≠ some gv from fun e => by
            have e' : g7 = gv := by simpa [Value.ownBlock] using e
            rcases hat7 with h | h
            · have := Hob.out gv (by rw [h, e']); omega
            · rw [World.size_alloc] at h; omega)
          clear hown7 hgr7 hat7 hlt7)
        obtain ⟨x0, x1, x2, x3, x4⟩ := HJ.out.1.2.1.five
        go_wp2_with fail
        clear s0 s1 s2 s3 s4 b0 b1 H6 x0 x1 x2 x3 x4
        go_loopw [5, 9, 32] (fun v _ i wr => ∃ l : Nat, l ≤ k' ∧ i = .int .i64 l ∧ Hid (Chaining w W V A B (some ad) n c m d k q W' V' A' B' C' n' c' m' d' k' q' v (chnF V' ks' cs cs' j ++ chnP V' ks' cs' (p1, p2) l) wr ∧ Fb wr gv #[.int .i64 p1, .int .i64 p2] 27 ∧ v.ownBlock ≠ some gv)) (fun _ _ i _ => k' - (intOf i).toNat)
        case atStart => exact ⟨0, by omega, rfl, HJ.out, HB.out, HN.out⟩
        case round =>
          clear HJ HB HN
          obtain ⟨l, hl, rfl, hK⟩ := hrel
          by_cases hll : l < k'
          · have hll2 : l < cs'.length := by rw [HG.out.cops.len]; exact hll
            have hget2 : cs'[l]? = some cs'[l] := List.getElem?_eq_getElem _
            have hsn2 := take_snoc cs' l hll2
            generalize cs'[l] = dd at hget2 hsn2
            obtain ⟨d1, d2⟩ := dd
            obtain ⟨ad2, rfl, had2, g1, g2⟩ := (HG.out.cops.below hK.out.1.1.2.2).cell hget2
            have Hsn2 := hid hsn2
            have hlen : (chnF V' ks' cs cs' j ++ chnP V' ks' cs' (p1, p2) l).length ≤ 4300 := by
              rw [List.length_append]; have := HlF.out; have := HlP.out l; omega
            clear hget2 hsn2
            have HK := hid (hK.out.1.below ((Below.refl _ _).alloc (Nat.le_refl _) (.cells #[.int .i64 d1, .int .i64 d2] 27)))
            have HB2 := hid (hK.out.2.1.alloc (.cells #[.int .i64 d1, .int .i64 d2] 27))
            have HN2 := hid hK.out.2.2
            have HD := hid (Fb.new wr #[.int .i64 d1, .int .i64 d2] 27)
            obtain ⟨b0, b1⟩ := HB2.out.two
            obtain ⟨e0, e1⟩ := HD.out.two
            have hBl2 := HB2.out.lt
            by_cases he : p2 = d1
            · have tt : (p2 == d1) = true := by simp [he]
              have Hst2 := hid (show chnF V' ks' cs cs' j ++ chnP V' ks' cs' (p1, p2) (l + 1) = (chnF V' ks' cs cs' j ++ chnP V' ks' cs' (p1, p2) l) ++ [(p1, d2)] by rw [chnP_yes Hsn2.out he, List.append_assoc])
              clear he
              generalize chnF V' ks' cs cs' j ++ chnP V' ks' cs' (p1, p2) l = rs at *
              go_upto_region 10 with fail
              clear g1 g2
              generalize hgw : wr.heap.size = gw at *
              generalize wr.alloc (.cells #[.int .i64 d1, .int .i64 d2] 27) = wv2 at *
              clear hgw
              go_wp2_with ((
                at_builtin
                refine wpList_append_lies _ rfl _ _ 28 rfl (w.heap.size + 2) 27 i0 _ 2 16 Tryz.underlying28 Hi.out Hz0.out Hz1.out Hz2.out rfl (by decide) u5 rs.length (pairs rs) rfl (World.ownsRow.alloc HK.out.2.1 _) ⟨wv2.heap.size, 0, none⟩ 1 1 [.int .i64 p1, .int .i64 d2] rfl rfl (two_new _ _ _ _) (one_pair _ _) (by omega) (by unfold maxLen; omega) (by omega) (by have := HK.out.2.2; rw [World.size_alloc]; omega) _ rfl ?_
                intro g7 cap7 w7 hown7 hgr7 hat7 hlt7
                have H7 := hid (HK.out.push hown7 hgr7)
                have HB7 := hid ((HB2.out.alloc (.cells #[.int .i64 p1, .int .i64 d2] 27)).grown hgr7 (Ne.symm HN2.out))
                have HN7 := hid (show (Value.slice (some ⟨g7, 0, none⟩) (rs.length + 1) cap7).ownBlock ≠ some gv from fun e => by
                  have e' : g7 = gv := by simpa [Value.ownBlock] using e
                  rcases hat7 with h | h
                  · exact HN2.out (by rw [h, e'])
                  · rw [World.size_alloc] at h; omega)
                clear hown7 hgr7 hat7 hlt7))
              go_roundw
              case rel => exact ⟨l + 1, by omega, by go_num, by rw [Hst2.out]; exact hid ⟨H7.out, HB7.out, HN7.out⟩⟩
              case measure => simp [intOf]; omega
            · have tt : (p2 == d1) = false := by simp [he]
              have Hst2 := hid (show chnF V' ks' cs cs' j ++ chnP V' ks' cs' (p1, p2) (l + 1) = chnF V' ks' cs cs' j ++ chnP V' ks' cs' (p1, p2) l by rw [chnP_no Hsn2.out he])
              clear he
              go_wp2_with fail
              go_roundw
              case rel => exact ⟨l + 1, by omega, by go_num, by rw [Hst2.out]; exact hid ⟨HK.out, HB2.out, HN2.out⟩⟩
              case measure => simp [intOf]; omega
          · have hlk : k' = l := by omega
            subst hlk
            have Hst3 := hid (show chnF V' ks' cs cs' (j + 1) = chnF V' ks' cs cs' j ++ chnP V' ks' cs' (p1, p2) k' by rw [chnF_snoc Hsn.out, HG.out.cops.len])
            have HK := hid hK.out.1
            clear hK
            go_wp2_with fail
            go_roundw
            case rel => exact ⟨j + 1, by omega, by go_num, by rw [Hst3.out]; exact HK⟩
            case measure => simp [intOf]; omega
    · have hjk : k = j := by omega
      subst hjk
      have hall : chnF V' ks' cs cs' k = chnF V' ks' cs cs' cs.length := by rw [HF.out.cops.len]
      rw [hall] at hG1
      clear hall
      have hlF : (chnF V' ks' cs cs' cs.length).length ≤ 4160 := by
        have h1 := chnF_len V' ks' cs cs' cs.length
        have h2 : cs.length * (cs'.length + 1) ≤ 64 * 65 := Nat.mul_le_mul (by have := HF.out.cops.len; omega) (by have := HG.out.cops.len; omega)
        omega
      have hLL : chnL V ks V' ks' cs cs' = chnF V' ks' cs cs' cs.length ++ cs'.filter fun d => !Bs.hasB V ks d.1 := rfl
      have HLL := hid hLL
      clear hLL
      generalize chnF V' ks' cs cs' cs.length = rs0 at *
      obtain ⟨s0, s1, s2, s3, s4⟩ := hG1.out.1.2.1.five
      have HL := hid (show Chaining w W V A B C n c m d k q W' V' A' B' C' n' c' m' d' k' q' u5 (rs0 ++ (cs'.take 0).filter fun d => !Bs.hasB V ks d.1) wr from by simpa using hG1.out)
      clear hG1
      go_wp2_with fail
      clear s0 s1 s2 s3 s4
      go_loopw [5, 11, 54] (fun v _ i wr => ∃ l : Nat, l ≤ k' ∧ i = .int .i64 l ∧ Hid (Chaining w W V A B C n c m d k q W' V' A' B' C' n' c' m' d' k' q' v (rs0 ++ (cs'.take l).filter fun d => !Bs.hasB V ks d.1) wr)) (fun _ _ i _ => k' - (intOf i).toNat)
      case atStart => exact ⟨0, by omega, rfl, HL.out⟩
      case round =>
        clear HL
        obtain ⟨l, hl, rfl, hK⟩ := hrel
        by_cases hll : l < k'
        · have hll2 : l < cs'.length := by rw [HG.out.cops.len]; exact hll
          have hget2 : cs'[l]? = some cs'[l] := List.getElem?_eq_getElem _
          have hsn2 := take_snoc cs' l hll2
          generalize cs'[l] = dd at hget2 hsn2
          obtain ⟨d1, d2⟩ := dd
          obtain ⟨ad2, rfl, had2, g1, g2⟩ := (HG.out.cops.below hK.out.1.2.2).cell hget2
          have Hsn2 := hid hsn2
          have hlen : (rs0 ++ (cs'.take l).filter fun d => !Bs.hasB V ks d.1).length ≤ 4300 := by
            rw [List.length_append]
            have h1 := List.length_filter_le (fun d => !Bs.hasB V ks d.1) (cs'.take l)
            rw [List.length_take] at h1; omega
          clear hget2 hsn2
          have HK := hid (hK.out.below ((Below.refl _ _).alloc (Nat.le_refl _) (.cells #[.int .i64 d1, .int .i64 d2] 27)))
          have HD := hid (Fb.new wr #[.int .i64 d1, .int .i64 d2] 27)
          obtain ⟨e0, e1⟩ := HD.out.two
          obtain ⟨t0, t1, t2, t3, t4⟩ := HK.out.1.1.five
          go_wp2_with fail
          clear g1 g2
          generalize wr.heap.size = gw at *
          generalize wr.alloc (.cells #[.int .i64 d1, .int .i64 d2] 27) = wv2 at *
          refine (devHas_any V B m d ks d1 _ (HF.out.kill.below HK.out.1.2.2)).mono ?_
          rintro e w6 ⟨rfl, hb6⟩
          have H6 := hid (HK.out.below hb6)
          have HD6 := hid (HD.out.below hb6 HD.out.lt)
          clear e0 e1 t0 t1 t2 t3 t4 hb6
          obtain ⟨e0, e1⟩ := HD6.out.two
          obtain ⟨r, hr⟩ : ∃ r, Bs.hasB V ks d1 = r := ⟨_, rfl⟩
          rw [hr]
          cases r with
          | true =>
            have Hst2 := hid (show (rs0 ++ (cs'.take (l + 1)).filter fun d => !Bs.hasB V ks d.1) = rs0 ++ (cs'.take l).filter fun d => !Bs.hasB V ks d.1 by rw [Hsn2.out, List.filter_append]; simp [hr])
            clear hr
            go_wp2_with fail
            go_roundw
            case rel => exact ⟨l + 1, by omega, by go_num, by rw [Hst2.out]; exact H6⟩
            case measure => simp [intOf]; omega
          | false =>
            have Hst2 := hid (show (rs0 ++ (cs'.take (l + 1)).filter fun d => !Bs.hasB V ks d.1) = (rs0 ++ (cs'.take l).filter fun d => !Bs.hasB V ks d.1) ++ [(d1, d2)] by rw [Hsn2.out, List.filter_append, List.append_assoc]; simp [hr])
            clear hr
            generalize (rs0 ++ (cs'.take l).filter fun d => !Bs.hasB V ks d.1) = rs at *
            go_wp2_with ((
              at_builtin
              refine wpList_append_lies _ rfl _ _ 28 rfl (w.heap.size + 2) 27 i0 _ 2 16 Tryz.underlying28 Hi.out Hz0.out Hz1.out Hz2.out rfl (by decide) u5 rs.length (pairs rs) rfl (World.ownsRow.alloc H6.out.2.1 _) ⟨w6.heap.size, 0, none⟩ 1 1 [.int .i64 d1, .int .i64 d2] rfl rfl (two_new _ _ _ _) (one_pair _ _) (by omega) (by unfold maxLen; omega) (by omega) (by have := H6.out.2.2; rw [World.size_alloc]; omega) _ rfl ?_
              intro g7 cap7 w7 hown7 hgr7 hat7 hlt7
              have H7 := hid (H6.out.push hown7 hgr7)
              clear hown7 hgr7 hat7 hlt7))
            go_roundw
            case rel => exact ⟨l + 1, by omega, by go_num, by rw [Hst2.out]; exact H7⟩
            case measure => simp [intOf]; omega
        · have hlk : k' = l := by omega
          subst hlk
          have hall : cs'.take k' = cs' := List.take_of_length_le (by rw [HG.out.cops.len]; omega)
          rw [hall, ← HLL.out] at hK
          obtain ⟨Co, qo, rfl⟩ : ∃ Co qo, u5 = .slice Co (chnL V ks V' ks' cs cs').length qo := by
            rcases hK.out.2.1.2 with ⟨e1, e2⟩ | ⟨g, cap, cur, e1, _⟩
            · exact ⟨none, 0, by rw [e1, e2]⟩
            · exact ⟨_, cap, e1⟩
          have HK := hid hK.out
          clear hK hall
          go_wp2_with fail
          go_ret
          exact ⟨Co, qo, rfl, ⟨own_at HK.out.2.1, rfl⟩, HK.out.1.2.2⟩
end Go.Proofs.YtbjaebbmajhjjaaGreat
namespace Go.Proofs.YtbjaebbmajhjjaaGreat
set_option maxRecDepth 20000
open Go.ChangeShapes Go.WideShapes Go.ChangeAt Go.RowKit
theorem FArg.skip {w w' : World} {A B C : Option Addr} {n m k R : Nat} {gs ks : List Nat} {cs : List (Int × Int)} (h : FArg w A n B m C k gs ks cs) (h1 : gs = [] ∨ ∃ ad, A = some ad ∧ ad.block ≠ R) (h2 : ks = [] ∨ ∃ ad, B = some ad ∧ ad.block ≠ R) (h3 : cs = [] ∨ ∃ ad, C = some ad ∧ ad.block ≠ R) (hg : w.grownBy w' (some R)) : FArg w' A n B m C k gs ks cs :=
  ⟨h.gen.skip h1 hg, h.kill.skip h2 hg, h.cops.skip h3 hg⟩
theorem inW_pair {W : Int} {p : Int × Int} : inW W p = true ↔ (0 ≤ p.1 ∧ p.1 < W) ∧ 0 ≤ p.2 ∧ p.2 < W := by
  unfold inW; simp only [Bool.and_eq_true, decide_eq_true_eq]; omega
theorem chnL_inW {W V V' : Int} {ks ks' : List Nat} {cs cs' : List (Int × Int)} (h : ∀ p ∈ cs, inW W p = true) (h' : ∀ p ∈ cs', inW W p = true) : ∀ p ∈ chnL V ks V' ks' cs cs', inW W p = true := by
  intro p hp
  unfold chnL at hp
  rcases List.mem_append.1 hp with hp | hp
  · unfold chnF at hp
    obtain ⟨q, hq, hp⟩ := List.mem_flatMap.1 hp
    have hq' := inW_pair.1 (h q (List.mem_of_mem_take hq))
    unfold chnP at hp
    rcases List.mem_append.1 hp with hp | hp
    · split at hp
      · cases hp
      · rw [List.mem_singleton.1 hp]; exact inW_pair.2 hq'
    · obtain ⟨d, hd, rfl⟩ := List.mem_map.1 hp
      have hd' := inW_pair.1 (h' d (List.mem_of_mem_take (List.mem_filter.1 hd).1))
      exact inW_pair.2 ⟨hq'.1, hd'.2⟩
  · exact h' p (List.mem_filter.1 hp).1
theorem chnL_len {V V' : Int} {ks ks' : List Nat} {cs cs' : List (Int × Int)} (h : cs.length ≤ 64) (h' : cs'.length ≤ 64) : (chnL V ks V' ks' cs cs').length ≤ 5000 := by
  unfold chnL
  rw [List.length_append]
  have h1 := chnF_len V' ks' cs cs' cs.length
  have h2 : cs.length * (cs'.length + 1) ≤ 64 * 65 := Nat.mul_le_mul h (by omega)
  have h3 := List.length_filter_le (fun d : Int × Int => !Bs.hasB V ks d.1) cs'
  omega
def composeR (W : Int) (gs : List Nat) (V : Int) (ks : List Nat) (cs : List (Int × Int)) (W' : Int) (gs' : List Nat) (V' : Int) (ks' : List Nat) (cs' : List (Int × Int)) : Int × List Nat × List Nat × List (Int × Int) × Int :=
  if validT W gs V ks cs = false ∨ validT W' gs' V' ks' cs' = false then (0, [], [], [], 1)
  else if W ≠ W' then (0, [], [], [], 2)
  else cnR W.toNat (valR gs' gs (folB W ks' cs') W.toNat) (orR W.toNat ks ks') (chnL V ks V' ks' cs cs')
end Go.Proofs.YtbjaebbmajhjjaaGreat
namespace Go.Proofs.YtbjaebbmajhjjaaGreat
set_option maxRecDepth 20000
open Go.ChangeShapes Go.WideShapes Go.ChangeAt Go.RowKit
end Go.Proofs.YtbjaebbmajhjjaaGreat
namespace Go.Proofs.YtbjaebbmajhjjaaGreat
set_option maxRecDepth 20000
open Go.ChangeShapes Go.WideShapes Go.ChangeAt Go.RowKit
def lstI (W : Nat) (gs : List Nat) (f : Int → Int → Bool) : Nat → List Nat
  | 0 => gs
  | j + 1 => valR gs (lstI W gs f j) f W
def lst (W : Nat) (gs : List Nat) (f : Int → Int → Bool) : List Nat := lstI W gs f W
def cnt (W : Nat) (ws : List Nat) : Nat := ((List.range W).filter (Bs.bit ws)).length
theorem cnt_le (W : Nat) (ws : List Nat) : cnt W ws ≤ W := by
  unfold cnt
  have := List.length_filter_le (Bs.bit ws) (List.range W)
  rwa [List.length_range] at this
theorem filter_le {α : Type} {p q : α → Bool} (h : ∀ x, p x = true → q x = true) (l : List α) : (l.filter p).length ≤ (l.filter q).length := by
  induction l with
  | nil => simp
  | cons a l ih =>
    cases hp : p a with
    | true => simp [hp, h a hp, ih]
    | false => cases hq : q a <;> simp [hp, hq] <;> omega
theorem filter_lt {α : Type} {p q : α → Bool} (h : ∀ x, p x = true → q x = true) {x : α} (hq : q x = true) (hp : p x = false) {l : List α} (hx : x ∈ l) : (l.filter p).length < (l.filter q).length := by
  induction l with
  | nil => cases hx
  | cons a l ih =>
    rcases List.mem_cons.1 hx with rfl | hx
    · have := filter_le h l
      simp [hp, hq]; omega
    · have := ih hx
      cases hpa : p a with
      | true => simp [hpa, h a hpa, this]
      | false => cases hqa : q a <;> simp [hpa, hqa] <;> omega
theorem cnt_lt {W : Nat} {a b : List Nat} (ha : Bs.Fit W a) (hb : Bs.Fit W b) (h : ∀ i, Bs.bit a i = true → Bs.bit b i = true) (hne : b ≠ a) : cnt W a < cnt W b := by
  have : ∃ i, i < W ∧ Bs.bit a i ≠ Bs.bit b i := by
    refine Classical.byContradiction fun hn => hne (Bs.ext hb ha fun i hi => ?_)
    exact Classical.byContradiction fun h2 => hn ⟨i, hi, fun e => h2 e.symm⟩
  obtain ⟨i, hi, hd⟩ := this
  have h1 : Bs.bit a i = false := by
    cases e : Bs.bit a i with
    | false => rfl
    | true => exact absurd (e.trans (h i e).symm) hd
  have h2 : Bs.bit b i = true := by
    cases e : Bs.bit b i with
    | true => rfl
    | false => exact absurd (h1.trans e.symm) hd
  exact filter_lt h h2 h1 (List.mem_range.2 hi)
theorem valR_mono {gs ss ts : List Nat} {f : Int → Int → Bool} {W : Nat} (h : ∀ i, Bs.bit ss i = true → Bs.bit ts i = true) (i : Nat) (hi : Bs.bit (valR gs ss f W) i = true) : Bs.bit (valR gs ts f W) i = true := by
  rw [bit_valR] at hi ⊢
  simp only [Bool.and_eq_true, Bool.or_eq_true, List.any_eq_true, decide_eq_true_eq] at hi ⊢
  obtain ⟨h1, h2⟩ := hi
  refine ⟨h1, h2.imp id ?_⟩
  rintro ⟨x, hx, h3, h4⟩
  exact ⟨x, hx, h x h3, h4⟩
theorem fit_lstI {W : Nat} {gs : List Nat} (hg : Bs.Fit W gs) (f : Int → Int → Bool) : ∀ j, Bs.Fit W (lstI W gs f j)
  | 0 => hg
  | _ + 1 => fit_valR _ _ _ _
theorem lstI_mono {W : Nat} {gs : List Nat} (hg : Bs.Fit W gs) (f : Int → Int → Bool) (j : Nat) : ∀ i, Bs.bit (lstI W gs f j) i = true → Bs.bit (lstI W gs f (j + 1)) i = true := by
  induction j with
  | zero =>
    intro i hi
    show Bs.bit (valR gs gs f W) i = true
    rw [bit_valR]
    have hlt : i < W := by
      refine Classical.byContradiction fun hn => ?_
      have := hg.hi i (by omega)
      rw [show Bs.bit gs i = true from hi] at this
      cases this
    simp [hlt, show Bs.bit gs i = true from hi]
  | succ j ih => intro i hi; exact valR_mono ih i hi
theorem lstI_grow {W : Nat} {gs : List Nat} (hg : Bs.Fit W gs) (f : Int → Int → Bool) {j : Nat} (h : ∀ i, i < j → lstI W gs f (i + 1) ≠ lstI W gs f i) : j ≤ cnt W (lstI W gs f j) := by
  induction j with
  | zero => omega
  | succ j ih =>
    have h1 := ih fun i hi => h i (by omega)
    have h2 := cnt_lt (fit_lstI hg f j) (fit_lstI hg f (j + 1)) (lstI_mono hg f j) (h j (by omega))
    omega
theorem lstI_stay {W : Nat} {gs : List Nat} {f : Int → Int → Bool} {j : Nat} (h : lstI W gs f (j + 1) = lstI W gs f j) (n : Nat) : lstI W gs f (j + n) = lstI W gs f j := by
  induction n with
  | zero => rfl
  | succ n ih =>
    show valR gs (lstI W gs f (j + n)) f W = _
    rw [ih]; exact h
theorem lst_of {W : Nat} {gs : List Nat} (hg : Bs.Fit W gs) {f : Int → Int → Bool} {j : Nat} (h : ∀ i, i < j → lstI W gs f (i + 1) ≠ lstI W gs f i) (he : lstI W gs f (j + 1) = lstI W gs f j) : lstI W gs f j = lst W gs f := by
  have h1 := lstI_grow hg f h
  have h2 := cnt_le W (lstI W gs f j)
  have h3 := lstI_stay he (W - j)
  rw [show j + (W - j) = W by omega] at h3
  exact h3.symm
theorem lst_fix {W : Nat} {gs : List Nat} (hg : Bs.Fit W gs) (f : Int → Int → Bool) : valR gs (lst W gs f) f W = lst W gs f := by
  have : ∃ j, j ≤ W ∧ lstI W gs f (j + 1) = lstI W gs f j := by
    refine Classical.byContradiction fun hn => ?_
    have h1 := lstI_grow hg f (j := W + 1) fun i hi e => hn ⟨i, by omega, e⟩
    have h2 := cnt_le W (lstI W gs f (W + 1))
    omega
  obtain ⟨j, hj, he⟩ := this
  have h3 := lstI_stay he (W - j)
  rw [show j + (W - j) = W by omega] at h3
  show valR gs (lstI W gs f W) f W = lstI W gs f W
  rw [h3]; exact he
theorem lst_least {W : Nat} {gs : List Nat} {f : Int → Int → Bool} {ss : List Nat} (h0 : ∀ i, Bs.bit gs i = true → Bs.bit ss i = true) (h : ∀ i, Bs.bit (valR gs ss f W) i = true → Bs.bit ss i = true) : ∀ i, Bs.bit (lst W gs f) i = true → Bs.bit ss i = true := by
  have key : ∀ j i, Bs.bit (lstI W gs f j) i = true → Bs.bit ss i = true := by
    intro j
    induction j with
    | zero => exact h0
    | succ j ih => intro i hi; exact h i (valR_mono ih i hi)
  exact key W
theorem fit_lst {W : Nat} {gs : List Nat} (hg : Bs.Fit W gs) (f : Int → Int → Bool) : Bs.Fit W (lst W gs f) := fit_lstI hg f W
noncomputable def leastN (P : Nat → Prop) : Nat := Classical.epsilon fun m => P m ∧ ∀ k, P k → m ≤ k
theorem leastN_spec {P : Nat → Prop} (h : ∃ m, P m) : P (leastN P) ∧ ∀ k, P k → leastN P ≤ k := by
  have : ∃ m, P m ∧ ∀ k, P k → m ≤ k := by
    obtain ⟨m, hm⟩ := h
    induction m using Nat.strongRecOn with
    | ind m ih =>
      by_cases hk : ∃ k, P k ∧ k < m
      · obtain ⟨k, h1, h2⟩ := hk; exact ih k h2 h1
      · exact ⟨m, hm, fun k h1 => Nat.le_of_not_lt fun h2 => hk ⟨k, h1, h2⟩⟩
  exact Classical.epsilon_spec this
def Least (w : World) (v : Nat) (A B C : Option Addr) (n c m d k q : Nat) (ls : List Nat) (wr : World) : Prop :=
  Fb wr w.heap.size #[.int .i64 v, .slice A n c, .int .i64 v, .slice B m d, .slice C k q] 30 ∧ Box wr (w.heap.size + 1) 0 none 0 0 ∧ (∃ D x y, Box wr (w.heap.size + 2) v D x y ∧ Arg wr D x ls) ∧ Below w.heap.size w wr
theorem Least.start (w : World) (v : Nat) (A B C : Option Addr) (n c m d k q : Nat) {gs : List Nat} (h : Arg w A n gs) :
    Least w v A B C n c m d k q gs (((w.alloc (.cells #[.int .i64 v, .slice A n c, .int .i64 v, .slice B m d, .slice C k q] 30)).alloc (.cells #[.int .i64 0, .slice none 0 0] 24)).alloc (.cells #[.int .i64 v, .slice A n c] 24)) := by
  have h1 := Fb.new w #[.int .i64 v, .slice A n c, .int .i64 v, .slice B m d, .slice C k q] 30
  have h2 := Box.new (w.alloc (.cells #[.int .i64 v, .slice A n c, .int .i64 v, .slice B m d, .slice C k q] 30)) 0 none 0 0
  have h3 := Box.new ((w.alloc (.cells #[.int .i64 v, .slice A n c, .int .i64 v, .slice B m d, .slice C k q] 30)).alloc (.cells #[.int .i64 0, .slice none 0 0] 24)) v A n c
  simp only [World.size_alloc] at h2 h3
  refine ⟨(h1.alloc _).alloc _, h2.alloc _, ⟨A, n, c, h3, ((h.alloc _).alloc _).alloc _⟩, ?_⟩
  exact (((Below.refl _ _).alloc (Nat.le_refl _) _).alloc (by simp) _).alloc (by simp; omega) _
theorem Least.below {w : World} {v : Nat} {A B C : Option Addr} {n c m d k q : Nat} {ls : List Nat} {wr w' : World} (h : Least w v A B C n c m d k q ls wr) (hb : Below wr.heap.size wr w') : Least w v A B C n c m d k q ls w' := by
  obtain ⟨h1, h2, ⟨D, x, y, h3, h4⟩, h5⟩ := h
  exact ⟨h1.below hb h1.lt, h2.below hb h2.lt, ⟨D, x, y, h3.below hb h3.lt, h4.below hb⟩, h5.trans (hb.mono h5.size)⟩
theorem Least.store {w : World} {v : Nat} {A B C : Option Addr} {n c m d k q : Nat} {ls ns : List Nat} {wr : World} {E : Option Addr} {x y : Nat} (h : Least w v A B C n c m d k q ls wr) (ha : Arg wr E x ns) :
    Least w v A B C n c m d k q ns ((wr.setCell ⟨w.heap.size + 2, 0, none⟩ (.int .i64 v)).setCell ⟨w.heap.size + 2, 1, none⟩ (.slice E x y)) := by
  obtain ⟨h1, h2, ⟨D, x', y', h3, h4⟩, h5⟩ := h
  refine ⟨(h1.far (p := ⟨w.heap.size + 2, 0, none⟩) (by simp) _).far (p := ⟨w.heap.size + 2, 1, none⟩) (by simp) _, (h2.far (p := ⟨w.heap.size + 2, 0, none⟩) (by simp) _).far (p := ⟨w.heap.size + 2, 1, none⟩) (by simp) _, ⟨E, x, y, h3.set _ _ _ _, h3.store ha _ _⟩, ?_⟩
  exact (h5.setCell (by simp) _).setCell (by simp) _
def LInv (w : World) (v : Nat) (A B C : Option Addr) (n c m d k q : Nat) (gs : List Nat) (f : Int → Int → Bool) (wr : World) (j : Nat) : Prop :=
  (∀ i, i < j → lstI v gs f (i + 1) ≠ lstI v gs f i) ∧ Least w v A B C n c m d k q (lstI v gs f j) wr
noncomputable def lm (w : World) (v : Nat) (A B C : Option Addr) (n c m d k q : Nat) (gs : List Nat) (f : Int → Int → Bool) (wr : World) : Nat :=
  leastN fun l => ∃ j, l + j = v ∧ LInv w v A B C n c m d k q gs f wr j
section
variable {w : World} {v : Nat} {A B C : Option Addr} {n c m d k q : Nat} {gs : List Nat} {f : Int → Int → Bool} {wr : World} {j : Nat}
theorem LInv.le (hg : Bs.Fit v gs) (h : LInv w v A B C n c m d k q gs f wr j) : j ≤ v := Nat.le_trans (lstI_grow hg f h.1) (cnt_le _ _)
theorem LInv.pick (hg : Bs.Fit v gs) (h : LInv w v A B C n c m d k q gs f wr j) : ∃ j, LInv w v A B C n c m d k q gs f wr j ∧ lm w v A B C n c m d k q gs f wr + j = v := by
  obtain ⟨j', h1, h2⟩ := (leastN_spec (P := fun l => ∃ j, l + j = v ∧ LInv w v A B C n c m d k q gs f wr j) ⟨v - j, j, by have := h.le hg; omega, h⟩).1
  exact ⟨j', h2, h1⟩
theorem LInv.lm_le (hg : Bs.Fit v gs) (h : LInv w v A B C n c m d k q gs f wr j) : lm w v A B C n c m d k q gs f wr + j ≤ v := by
  have hj := h.le hg
  have := (leastN_spec (P := fun l => ∃ j, l + j = v ∧ LInv w v A B C n c m d k q gs f wr j) ⟨v - j, j, by omega, h⟩).2 (v - j) ⟨j, by omega, h⟩
  have e : lm w v A B C n c m d k q gs f wr ≤ v - j := this
  omega
end
set_option maxHeartbeats 1600000 in
theorem devLeast_any (v : Nat) (A B C : Option Addr) (n c m d k q : Nat) (gs ks : List Nat) (cs : List (Int × Int)) (w : World) (hF : FArg w A n B m C k gs ks cs) (hv : validT v gs v ks cs = true) :
    Calls Tryz.prog 115 #[.agg #[.int .i64 v, .slice A n c, .int .i64 v, .slice B m d, .slice C k q]] w
      fun e w' => ∃ Ao no co, e = .returned (.agg #[.int .i64 v, .slice Ao no co]) ∧ Arg w' Ao no (lst v gs (folB v ks cs)) ∧ Below w.heap.size w w' := by
  obtain ⟨h1, h2, h3, h4, h5⟩ := validT_iff hv
  have hfg := fit_of_valid' h1 hF.gen
  have hv256 : v ≤ 256 := by have := (Bs.validB_iff.1 h1).2.1; omega
  have HF := hid hF; have Hfg := hid hfg
  have Hval := hid (fun ss (hs : Bs.Fit v ss) => show applyR v gs v ks cs v ss = ((v : Int), valR gs ss (folB v ks cs) v, 0) by unfold applyR; rw [if_neg (by simp [hv, Bs.valid_of_fit hs hv256]), if_neg (by simp), Int.toNat_natCast])
  have Heq := hid (fun xs ss (hx : Bs.Fit v xs) (hs : Bs.Fit v ss) => show equalB v xs v ss = decide (xs = ss) by unfold equalB sameB; rw [Bs.valid_of_fit hx hv256, Bs.valid_of_fit hs hv256]; simp)
  have Hst := hid (Least.start w v A B C n c m d k q hF.gen)
  clear h1 h2 h3 h4 h5 hfg hF
  generalize folB v ks cs = f at *
  go_enter Tryz.func115, Tryz.ntmps115
  go_wp2_with fail
  generalize ((w.alloc (.cells #[.int .i64 v, .slice A n c, .int .i64 v, .slice B m d, .slice C k q] 30)).alloc (.cells #[.int .i64 0, .slice none 0 0] 24)).alloc (.cells #[.int .i64 v, .slice A n c] 24) = w1 at *
  go_loopw [4, 5] (fun _ _ wr => ∃ j : Nat, Hid (LInv w v A B C n c m d k q gs f wr j)) (fun _ _ wr => lm w v A B C n c m d k q gs f wr)
  case atStart => exact ⟨0, hid ⟨fun i hi => by omega, Hst.out⟩⟩
  case round =>
    obtain ⟨j0, hG0⟩ := hrel
    obtain ⟨j, hG, hm⟩ := hG0.out.pick Hfg.out
    have Hm := hid hm; have Hne := hid hG.1
    have hL := hG.2
    clear hG0 hG hm Hst
    obtain ⟨D, x, y, hBx, hD⟩ := hL.2.2.1
    have HL := hid hL; have HBx := hid hBx; have HD := hid hD
    obtain ⟨t0, t1, t2, t3, t4⟩ := HL.out.1.five
    obtain ⟨s0, s1⟩ := And.intro HBx.out.c0 HBx.out.c1
    clear hL hBx hD
    go_wp2_with fail
    refine (devApply_any v v v A B C D n c m d k q x y gs ks (lstI v gs f j) cs _ (HF.out.gen.below HL.out.2.2.2) (HF.out.kill.below HL.out.2.2.2) (HF.out.cops.below HL.out.2.2.2) HD.out).mono ?_
    rw [Hval.out _ (fit_lstI Hfg.out f j)]
    rintro e w2 ⟨A2, n2, c2, rfl, ha2, hb2⟩
    have ha2' : Arg w2 A2 n2 (lstI v gs f (j + 1)) := ha2
    have hb2' := (Below.mono hb2 (Nat.le_refl _)).alloc hb2.size (.cells #[.int .i64 v, .slice A2 n2 c2] 24)
    have H2 := hid (HL.out.below hb2')
    have HBx2 := hid (HBx.out.below hb2' HBx.out.lt)
    have HD2 := hid (HD.out.below hb2')
    have HA2 := hid (ha2'.alloc (.cells #[.int .i64 v, .slice A2 n2 c2] 24))
    have HN := hid (Box.new w2 v A2 n2 c2)
    clear ha2 ha2' hb2 hb2' t0 t1 t2 t3 t4 s0 s1
    obtain ⟨s0, s1⟩ := And.intro HBx2.out.c0 HBx2.out.c1
    obtain ⟨p0, p1⟩ := And.intro HN.out.c0 HN.out.c1
    have hz1 := HN.out.lt
    have hn2 : n2 ≤ maxLen := by
      have e1 := HA2.out.len
      have e2 := (fit_lstI Hfg.out f (j + 1)).len
      have e3 : Bs.nw v ≤ v + 63 := by unfold Bs.nw; omega
      unfold maxLen; omega
    go_wp2_with fail
    generalize w2.alloc (.cells #[.int .i64 v, .slice A2 n2 c2] 24) = w3 at *
    generalize w2.heap.size = b3 at *
    refine (devEqual_any v v A2 D n2 c2 x y (lstI v gs f (j + 1)) (lstI v gs f j) _ HA2.out HD2.out hn2).mono ?_
    rw [Heq.out _ _ (fit_lstI Hfg.out f (j + 1)) (fit_lstI Hfg.out f j)]
    rintro e w4 ⟨rfl, hb4⟩
    have H4 := hid (H2.out.below hb4)
    have HBx4 := hid (HBx2.out.below hb4 HBx2.out.lt)
    have HD4 := hid (HD2.out.below hb4)
    have HA4 := hid (HA2.out.below hb4)
    have HN4 := hid (HN.out.below hb4 HN.out.lt)
    clear s0 s1 p0 p1 hz1 hb4 hn2 H2 HBx2 HD2 HA2 HN HL HBx HD
    obtain ⟨s0, s1⟩ := And.intro HBx4.out.c0 HBx4.out.c1
    obtain ⟨p0, p1⟩ := And.intro HN4.out.c0 HN4.out.c1
    by_cases he : lstI v gs f (j + 1) = lstI v gs f j
    · have hres := lst_of Hfg.out Hne.out he
      rw [decide_eq_true he]
      rw [hres] at HD4
      clear he hres
      obtain ⟨r0, r1⟩ := And.intro H4.out.2.1.c0 H4.out.2.1.c1
      have f0 := H4.out.2.1.f 0
      have f1 := H4.out.2.1.f 1
      have hlR := H4.out.2.1.lt
      have Fin := hid (And.intro (H4.out.2.1.store HD4.out (.int .i64 v) (.slice D x y)) ((H4.out.2.2.2.setCell (p := ⟨w.heap.size + 1, 0, none⟩) (by simp) (.int .i64 v)).setCell (p := ⟨w.heap.size + 1, 1, none⟩) (by simp) (.slice D x y)))
      go_wp2_with fail
      refine bodyPost_ret (v := .agg #[.int .i64 v, .slice D x y]) (by simp [results, Tryz.results115, go_sem, r0, r1]) rfl ?_
      exact ⟨D, x, y, rfl, Fin.out.1, Fin.out.2⟩
    · rw [decide_eq_false he]
      have f0 := HBx4.out.f 0
      have f1 := HBx4.out.f 1
      have hlR := HBx4.out.lt
      have Hnew := hid (show LInv w v A B C n c m d k q gs f ((w4.setCell ⟨w.heap.size + 2, 0, none⟩ (.int .i64 v)).setCell ⟨w.heap.size + 2, 1, none⟩ (.slice A2 n2 c2)) (j + 1) from
        ⟨fun i hi => (Nat.lt_succ_iff_lt_or_eq.1 hi).elim (Hne.out i) (fun e => by subst e; exact he), H4.out.store HA4.out⟩)
      clear he
      go_wp2_with fail
      go_roundw
      case rel => exact ⟨j + 1, Hnew⟩
      case measure =>
        have e1 := Hnew.out.lm_le Hfg.out
        have e2 := Hm.out
        have key : lm w v A B C n c m d k q gs f ((w4.setCell ⟨w.heap.size + 2, 0, none⟩ (.int .i64 v)).setCell ⟨w.heap.size + 2, 1, none⟩ (.slice A2 n2 c2)) < lm w v A B C n c m d k q gs f wr := by omega
        exact key
end Go.Proofs.YtbjaebbmajhjjaaGreat
namespace Go.Proofs.YtbjaebbmajhjjaaGreat
set_option maxRecDepth 20000
open Go.ChangeShapes Go.WideShapes Go.ChangeAt Go.RowKit
structure SqI (v : Nat) (G : List Nat) (cs : List (Int × Int)) : Prop where
  fit : Bs.Fit v G
  wid : v ≤ 256
  asc : Asc cs
  inw : ∀ p ∈ cs, inW v p = true
  out : ∀ p ∈ cs, Bs.hasB v G p.1 = false ∧ Bs.hasB v G p.2 = false ∧ p.1 ≠ p.2
def sqC (v : Nat) (G : List Nat) (cs : List (Int × Int)) : List (Int × Int) := ord ((chnL v G v G cs cs).filter (restB v G))
theorem mem_sqC {v : Nat} {G : List Nat} {cs : List (Int × Int)} {x : Int × Int} : x ∈ sqC v G cs ↔ x ∈ chnL v G v G cs cs ∧ restB v G x = true := by
  unfold sqC; rw [(ord_spec _).1, List.mem_filter]
theorem chnL_ends {V V' : Int} {ks ks' : List Nat} {cs : List (Int × Int)} {x : Int × Int} (h : x ∈ chnL V ks V' ks' cs cs) : ∃ p ∈ cs, ∃ d ∈ cs, x.1 = p.1 ∧ x.2 = d.2 := by
  unfold chnL at h
  rcases List.mem_append.1 h with h | h
  · unfold chnF at h
    obtain ⟨p, hp, h⟩ := List.mem_flatMap.1 h
    have hp' := List.mem_of_mem_take hp
    unfold chnP at h
    rcases List.mem_append.1 h with h | h
    · split at h
      · cases h
      · rw [List.mem_singleton.1 h]; exact ⟨p, hp', p, hp', rfl, rfl⟩
    · obtain ⟨d, hd, rfl⟩ := List.mem_map.1 h
      exact ⟨p, hp', d, List.mem_of_mem_take (List.mem_filter.1 hd).1, rfl, rfl⟩
  · have := (List.mem_filter.1 h).1
    exact ⟨x, this, x, this, rfl, rfl⟩
section
variable {v : Nat} {G : List Nat} {cs : List (Int × Int)}
theorem SqI.sub (h : SqI v G cs) : ∀ p ∈ cs, p ∈ sqC v G cs := by
  intro p hp
  obtain ⟨h1, h2, h3⟩ := h.out p hp
  refine mem_sqC.2 ⟨?_, by unfold restB; simp [h2, h3]⟩
  unfold chnL
  exact List.mem_append.2 (.inr (List.mem_filter.2 ⟨hp, by simp [h1]⟩))
theorem SqI.next (h : SqI v G cs) : SqI v G (sqC v G cs) := by
  refine ⟨h.fit, h.wid, (ord_spec _).2, fun p hp => chnL_inW h.inw h.inw p (mem_sqC.1 hp).1, fun p hp => ?_⟩
  obtain ⟨h1, h2⟩ := mem_sqC.1 hp
  obtain ⟨a, ha, d, hd, e1, e2⟩ := chnL_ends h1
  unfold restB at h2
  simp only [Bool.and_eq_true, decide_eq_true_eq] at h2
  exact ⟨by rw [e1]; exact (h.out a ha).1, by rw [e2]; exact (h.out d hd).2.1, h2.1⟩
theorem SqI.more (h : SqI v G cs) (hne : sqC v G cs ≠ cs) : cs.length < (sqC v G cs).length := by
  have hasc := h.next.asc
  have e1 : cs = (sqC v G cs).filter fun x => decide (x ∈ cs) := by
    refine asc_unique h.asc (hasc.filter _) fun x => ?_
    rw [List.mem_filter]
    exact ⟨fun hx => ⟨h.sub x hx, by simpa using hx⟩, fun hx => by simpa using hx.2⟩
  have : ∃ x, x ∈ sqC v G cs ∧ x ∉ cs := by
    refine Classical.byContradiction fun hn => hne (asc_unique hasc h.asc fun x => ⟨fun hx => Classical.byContradiction fun h2 => hn ⟨x, hx, h2⟩, h.sub x⟩)
  obtain ⟨x, hx, hnx⟩ := this
  have h2 := filter_lt (p := fun x => decide (x ∈ cs)) (q := fun _ => true) (fun _ _ => rfl) (x := x) rfl (by simpa using hnx) hx
  rw [← e1, List.filter_eq_self.2 (fun _ _ => rfl)] at h2
  exact h2
theorem SqI.valid (h : SqI v G cs) (hl : cs.length ≤ 64) : validT v G v G cs = true := by
  unfold validT
  simp only [Bool.and_eq_true, decide_eq_true_eq, List.all_eq_true, List.mem_range]
  refine ⟨⟨⟨⟨Bs.valid_of_fit h.fit h.wid, Bs.valid_of_fit h.fit h.wid⟩, trivial⟩, hl⟩, fun i hi => ?_⟩
  unfold okAt
  have g : ∀ j, (hj : j < cs.length) → cs.getD j (0, 0) = cs[j] := fun j hj => by rw [List.getD_eq_getElem?_getD, List.getElem?_eq_getElem hj]; rfl
  rw [g i hi, h.inw _ (List.getElem_mem hi)]
  by_cases h0 : i = 0
  · simp [h0]
  · have hj : i - 1 < cs.length := by omega
    rw [g (i - 1) hj]
    have := List.pairwise_iff_getElem.1 h.asc (i - 1) i hj hi (by omega)
    simp [this]
theorem SqI.gen (h : SqI v G cs) : valR G G (folB v G cs) v = G := by
  refine Bs.ext (fit_valR _ _ _ _) h.fit fun i hi => ?_
  rw [bit_valR]
  have : (List.range v).any (fun x => Bs.bit G x && folB v G cs x i) = false := by
    rw [List.any_eq_false]
    intro x _ hx
    simp only [Bool.and_eq_true] at hx
    have hb := Bs.hasB_nat h.fit h.wid (b := x)
    rw [hx.1] at hb
    have hf := hx.2
    unfold folB at hf
    rw [hb] at hf
    simp at hf
    have := (h.out _ hf).1
    rw [hb] at this; cases this
  rw [this]; simp [hi]
theorem SqI.kill (h : SqI v G cs) : orR v G G = G := by
  refine Bs.ext (fit_orR _ _ _) h.fit fun i hi => ?_
  unfold orR
  rw [Bs.bit_ofP _ _ _ (Nat.le_refl _)]; simp [hi]
theorem killC_self {v : Nat} {G : List Nat} (h : Bs.Fit v G) (ks : List Nat) (hk : ∀ i, Bs.bit ks i = true → Bs.bit G i = true) (L : List (Int × Int)) : killC v G ks L = G := by
  unfold killC
  refine Bs.ext (Bs.fit_ofP _ _ _ (Nat.le_refl _)) h fun i hi => ?_
  rw [Bs.bit_ofP _ _ _ (Nat.le_refl _)]
  simp only [hi, decide_true, Bool.true_and]
  cases hb : Bs.bit ks i with
  | false => simp
  | true => simp [hk i hb]
theorem SqI.compose (h : SqI v G cs) (hl : cs.length ≤ 64) : composeR v G v G cs v G v G cs = if (sqC v G cs).length ≤ 64 then ((v : Int), G, G, sqC v G cs, 0) else (0, [], [], [], 7) := by
  unfold composeR
  rw [if_neg (by simp [h.valid hl]), if_neg (by simp), Int.toNat_natCast, h.gen, h.kill]
  unfold cnR
  rw [killC_self h.fit G (fun _ x => x)]
  rfl
end
def sqN (v : Nat) (G : List Nat) : Nat → List (Int × Int) → Int × List Nat × List Nat × List (Int × Int) × Int
  | 0, cs => (v, G, G, cs, 0)
  | N + 1, cs => if 64 < (sqC v G cs).length then (0, [], [], [], 7) else if sqC v G cs = cs then (v, G, G, cs, 0) else sqN v G N (sqC v G cs)
end Go.Proofs.YtbjaebbmajhjjaaGreat
namespace Go.Proofs.YtbjaebbmajhjjaaGreat
set_option maxRecDepth 20000
theorem fit_killC (v : Nat) (gs ks : List Nat) (cs : List (Int × Int)) : Bs.Fit v (killC v gs ks cs) := Bs.fit_ofP _ _ _ (Nat.le_refl _)
theorem mem_rest {v : Nat} {gs : List Nat} {cs : List (Int × Int)} {x : Int × Int} : x ∈ ord (cs.filter (restB v gs)) ↔ x ∈ cs ∧ restB v gs x = true := by
  rw [(ord_spec _).1, List.mem_filter]
theorem can_follows {v : Nat} (hv : v ≤ 256) {gs ks : List Nat} (hg : Bs.Fit v gs) (hk : Bs.Fit v ks) (cs : List (Int × Int)) {x i : Nat} (hi : i < v) (hn : Bs.bit gs i = false) :
    folB v (killC v gs ks cs) (ord (cs.filter (restB v gs))) x i = folB v ks cs x i := by
  have e1 := Bs.hasB_nat hg hv (b := i)
  unfold folB
  by_cases hx : x = i
  · subst hx
    have e2 := Bs.hasB_nat (fit_killC v gs ks cs) hv (b := x)
    have e3 := Bs.hasB_nat hk hv (b := x)
    have e4 : decide (((x : Int), (x : Int)) ∈ ord (cs.filter (restB v gs))) = false := by
      simp only [decide_eq_false_iff_not]
      intro h
      have := (mem_rest.1 h).2
      unfold restB at this
      simp at this
    rw [e2, e3, e4]
    unfold killC
    rw [Bs.bit_ofP _ _ _ (Nat.le_refl _), hn]
    simp only [hi, decide_true, Bool.true_and, Bool.or_false]
    cases Bs.bit ks x <;> cases decide (((x : Int), (x : Int)) ∈ cs) <;> rfl
  · have hx' : (x : Int) ≠ (i : Int) := by omega
    have e4 : decide (((x : Int), (i : Int)) ∈ ord (cs.filter (restB v gs))) = decide (((x : Int), (i : Int)) ∈ cs) := by
      apply Bool.eq_iff_iff.2
      simp only [decide_eq_true_eq]
      rw [mem_rest]
      refine ⟨fun h => h.1, fun h => ⟨h, ?_⟩⟩
      unfold restB
      simp [e1, hn]; omega
    rw [e4]
    simp [hx']
theorem can_value {v : Nat} (hv : v ≤ 256) {gs ks : List Nat} (hg : Bs.Fit v gs) (hk : Bs.Fit v ks) (cs : List (Int × Int)) (ss : List Nat) :
    valR gs ss (folB v (killC v gs ks cs) (ord (cs.filter (restB v gs)))) v = valR gs ss (folB v ks cs) v := by
  refine Bs.ext (fit_valR _ _ _ _) (fit_valR _ _ _ _) fun i hi => ?_
  rw [bit_valR, bit_valR]
  cases hb : Bs.bit gs i with
  | true => simp
  | false =>
    congr 2
    apply congrArg
    funext x
    rw [can_follows hv hg hk cs hi hb]
theorem can_valid {v : Nat} (hv : v ≤ 256) {gs : List Nat} (hg : Bs.Fit v gs) (ks : List Nat) {cs : List (Int × Int)} (hin : ∀ p ∈ cs, inW v p = true) (hl : (ord (cs.filter (restB v gs))).length ≤ 64) :
    validT v gs v (killC v gs ks cs) (ord (cs.filter (restB v gs))) = true := by
  unfold validT
  simp only [Bool.and_eq_true, decide_eq_true_eq, List.all_eq_true, List.mem_range]
  refine ⟨⟨⟨⟨Bs.valid_of_fit hg hv, Bs.valid_of_fit (fit_killC _ _ _ _) hv⟩, trivial⟩, hl⟩, fun i hi => ?_⟩
  have hasc := (ord_spec (cs.filter (restB v gs))).2
  have hin2 : ∀ p ∈ ord (cs.filter (restB v gs)), inW v p = true := fun p hp => hin p (mem_rest.1 hp).1
  generalize ord (cs.filter (restB v gs)) = ds at *
  unfold okAt
  have g : ∀ j, (hj : j < ds.length) → ds.getD j (0, 0) = ds[j] := fun j hj => by rw [List.getD_eq_getElem?_getD, List.getElem?_eq_getElem hj]; rfl
  rw [g i hi, hin2 _ (List.getElem_mem hi)]
  by_cases h0 : i = 0
  · simp [h0]
  · have hj : i - 1 < ds.length := by omega
    rw [g (i - 1) hj]
    have := List.pairwise_iff_getElem.1 hasc (i - 1) i hj hi (by omega)
    simp [this]
theorem can_twice {v : Nat} {gs ks : List Nat} (cs : List (Int × Int)) :
    ord ((ord (cs.filter (restB v gs))).filter (restB v gs)) = ord (cs.filter (restB v gs)) ∧ killC v gs (killC v gs ks cs) (ord (cs.filter (restB v gs))) = killC v gs ks cs := by
  constructor
  · refine asc_unique (ord_spec _).2 (ord_spec _).2 fun x => ?_
    rw [mem_rest, mem_rest]
    exact ⟨fun h => h.1, fun h => ⟨h, h.2⟩⟩
  · refine Bs.ext (fit_killC _ _ _ _) (fit_killC _ _ _ _) fun i hi => ?_
    have e : ((i : Int), (i : Int)) ∉ ord (cs.filter (restB v gs)) := fun h => by
      have := (mem_rest.1 h).2
      unfold restB at this
      simp at this
    have e' : decide (((i : Int), (i : Int)) ∈ ord (cs.filter (restB v gs))) = false := by simpa using e
    unfold killC at e' ⊢
    rw [Bs.bit_ofP _ _ _ (Nat.le_refl _), Bs.bit_ofP _ _ _ (Nat.le_refl _)]
    simp only [hi, decide_true, Bool.true_and, e', Bool.not_false, Bool.and_true]
    cases Bs.bit gs i <;> simp
end Go.Proofs.YtbjaebbmajhjjaaGreat
namespace Go.Proofs.YtbjaebbmajhjjaaGreat
set_option maxRecDepth 20000
theorem folB_iff {V : Int} {ks : List Nat} {cs : List (Int × Int)} {a b : Int} : folB V ks cs a b = true ↔ ((a = b ∧ Bs.hasB V ks a = false) ∨ (a, b) ∈ cs) := by
  unfold folB
  simp only [Bool.or_eq_true, Bool.and_eq_true, decide_eq_true_eq, Bool.not_eq_true']
theorem join_follows {v : Nat} (hv : v ≤ 256) {ks ks' : List Nat} (hk : Bs.Fit v ks) (hk' : Bs.Fit v ks') {cs cs' : List (Int × Int)} {x : Nat} {i : Int} (hx : x < v) :
    folB v (andR v ks ks') (cs ++ cs') x i = true ↔ (folB v ks cs x i = true ∨ folB v ks' cs' x i = true) := by
  rw [folB_iff, folB_iff, folB_iff, List.mem_append, Bs.hasB_nat hk hv, Bs.hasB_nat hk' hv, Bs.hasB_nat (fit_andR _ _ _) hv]
  have e : Bs.bit (andR v ks ks') x = (Bs.bit ks x && Bs.bit ks' x) := by
    unfold andR; rw [Bs.bit_ofP _ _ _ (Nat.le_refl _)]; simp [hx]
  rw [e]
  cases Bs.bit ks x <;> cases Bs.bit ks' x <;> simp <;> grind
theorem join_value {v : Nat} (hv : v ≤ 256) {gs gs' ks ks' : List Nat} (hk : Bs.Fit v ks) (hk' : Bs.Fit v ks') (cs cs' : List (Int × Int)) (ss : List Nat) :
    valR (orR v gs gs') ss (folB v (andR v ks ks') (cs ++ cs')) v = orR v (valR gs ss (folB v ks cs) v) (valR gs' ss (folB v ks' cs') v) := by
  refine Bs.ext (fit_valR _ _ _ _) (fit_orR _ _ _) fun i hi => ?_
  apply Bool.eq_iff_iff.2
  rw [bit_valR_iff hi, bit_orR_iff hi, bit_orR_iff hi, bit_valR_iff hi, bit_valR_iff hi]
  constructor
  · rintro ((h | h) | ⟨x, hx, h1, h2⟩)
    · exact .inl (.inl h)
    · exact .inr (.inl h)
    · rcases (join_follows hv hk hk' hx).1 h2 with h3 | h3
      · exact .inl (.inr ⟨x, hx, h1, h3⟩)
      · exact .inr (.inr ⟨x, hx, h1, h3⟩)
  · rintro ((h | ⟨x, hx, h1, h2⟩) | (h | ⟨x, hx, h1, h2⟩))
    · exact .inl (.inl h)
    · exact .inr ⟨x, hx, h1, (join_follows hv hk hk' hx).2 (.inl h2)⟩
    · exact .inl (.inr h)
    · exact .inr ⟨x, hx, h1, (join_follows hv hk hk' hx).2 (.inr h2)⟩
theorem mem_chnL {V V' : Int} {ks ks' : List Nat} {cs cs' : List (Int × Int)} {a b : Int} : (a, b) ∈ chnL V ks V' ks' cs cs' ↔
    (((a, b) ∈ cs ∧ Bs.hasB V' ks' b = false) ∨ (∃ y, (a, y) ∈ cs ∧ (y, b) ∈ cs') ∨ ((a, b) ∈ cs' ∧ Bs.hasB V ks a = false)) := by
  unfold chnL chnF
  rw [List.mem_append, List.mem_flatMap, List.mem_filter, List.take_length]
  constructor
  · rintro (⟨p, hp, h⟩ | ⟨h1, h2⟩)
    · unfold chnP at h
      rw [List.take_length] at h
      rcases List.mem_append.1 h with h | h
      · by_cases hb : Bs.hasB V' ks' p.2 = true
        · rw [if_pos hb] at h; cases h
        · rw [if_neg hb] at h
          have e := List.mem_singleton.1 h
          subst e
          exact .inl ⟨hp, by simpa using hb⟩
      · obtain ⟨d, hd, e⟩ := List.mem_map.1 h
        obtain ⟨hd1, hd2⟩ := List.mem_filter.1 hd
        have hd3 : p.2 = d.1 := by simpa using hd2
        have e1 : p.1 = a := congrArg Prod.fst e
        have e2 : d.2 = b := congrArg Prod.snd e
        subst e1; subst e2
        exact .inr (.inl ⟨p.2, hp, by rw [hd3]; exact hd1⟩)
    · exact .inr (.inr ⟨h1, by simpa using h2⟩)
  · rintro (⟨h1, h2⟩ | ⟨y, h1, h2⟩ | ⟨h1, h2⟩)
    · refine .inl ⟨(a, b), h1, ?_⟩
      unfold chnP
      exact List.mem_append.2 (.inl (by simp [h2]))
    · refine .inl ⟨(a, y), h1, ?_⟩
      unfold chnP
      rw [List.take_length]
      exact List.mem_append.2 (.inr (List.mem_map.2 ⟨(y, b), List.mem_filter.2 ⟨h2, by simp⟩, rfl⟩))
    · exact .inr ⟨h1, by simp [h2]⟩
theorem chain_follows {v : Nat} (hv : v ≤ 256) {ks ks' : List Nat} (hk : Bs.Fit v ks) (hk' : Bs.Fit v ks') {cs cs' : List (Int × Int)} (hin : ∀ p ∈ cs, inW v p = true) {x i : Nat} (hx : x < v) (hi : i < v) :
    folB v (orR v ks ks') (chnL v ks v ks' cs cs') x i = true ↔ ∃ y, y < v ∧ folB v ks cs x y = true ∧ folB v ks' cs' y i = true := by
  rw [folB_iff, mem_chnL]
  have e : Bs.hasB v (orR v ks ks') x = (Bs.bit ks x || Bs.bit ks' x) := by
    rw [Bs.hasB_nat (fit_orR _ _ _) hv]
    unfold orR; rw [Bs.bit_ofP _ _ _ (Nat.le_refl _)]; simp [hx]
  rw [e]
  constructor
  · rintro (⟨h1, h2⟩ | ⟨h1, h2⟩ | ⟨y, h1, h2⟩ | ⟨h1, h2⟩)
    · have hxi : x = i := by omega
      subst hxi
      simp only [Bool.or_eq_false_iff] at h2
      exact ⟨x, hx, folB_iff.2 (.inl ⟨rfl, by rw [Bs.hasB_nat hk hv]; exact h2.1⟩), folB_iff.2 (.inl ⟨rfl, by rw [Bs.hasB_nat hk' hv]; exact h2.2⟩)⟩
    · exact ⟨i, hi, folB_iff.2 (.inr h1), folB_iff.2 (.inl ⟨rfl, h2⟩)⟩
    · have hw := inW_pair.1 (hin _ h1)
      simp only at hw
      obtain ⟨z, rfl⟩ := Int.eq_ofNat_of_zero_le hw.2.1
      exact ⟨z, by omega, folB_iff.2 (.inr h1), folB_iff.2 (.inr h2)⟩
    · exact ⟨x, hx, folB_iff.2 (.inl ⟨rfl, h2⟩), folB_iff.2 (.inr h1)⟩
  · rintro ⟨y, hy, h1, h2⟩
    rcases folB_iff.1 h1 with ⟨h3, h4⟩ | h3 <;> rcases folB_iff.1 h2 with ⟨h5, h6⟩ | h5
    · have e1 : x = y := by omega
      have e2 : y = i := by omega
      subst e1; subst e2
      rw [Bs.hasB_nat hk hv] at h4
      rw [Bs.hasB_nat hk' hv] at h6
      exact .inl ⟨rfl, by rw [h4, h6]; rfl⟩
    · have e1 : x = y := by omega
      subst e1
      exact .inr (.inr (.inr ⟨h5, h4⟩))
    · have e2 : y = i := by omega
      subst e2
      exact .inr (.inl ⟨h3, h6⟩)
    · exact .inr (.inr (.inl ⟨y, h3, h5⟩))
theorem compose_value {v : Nat} (hv : v ≤ 256) {gs gs' ks ks' : List Nat} (hk : Bs.Fit v ks) (hk' : Bs.Fit v ks') {cs cs' : List (Int × Int)} (hin : ∀ p ∈ cs, inW v p = true) (ss : List Nat) :
    valR (valR gs' gs (folB v ks' cs') v) ss (folB v (orR v ks ks') (chnL v ks v ks' cs cs')) v = valR gs' (valR gs ss (folB v ks cs) v) (folB v ks' cs') v := by
  refine Bs.ext (fit_valR _ _ _ _) (fit_valR _ _ _ _) fun i hi => ?_
  apply Bool.eq_iff_iff.2
  rw [bit_valR_iff hi, bit_valR_iff hi, bit_valR_iff hi]
  constructor
  · rintro ((h | ⟨y, hy, h1, h2⟩) | ⟨x, hx, h1, h2⟩)
    · exact .inl h
    · exact .inr ⟨y, hy, (bit_valR_iff hy).2 (.inl h1), h2⟩
    · obtain ⟨y, hy, h3, h4⟩ := (chain_follows hv hk hk' hin hx hi).1 h2
      exact .inr ⟨y, hy, (bit_valR_iff hy).2 (.inr ⟨x, hx, h1, h3⟩), h4⟩
  · rintro (h | ⟨y, hy, h1, h2⟩)
    · exact .inl (.inl h)
    · rcases (bit_valR_iff hy).1 h1 with h3 | ⟨x, hx, h3, h4⟩
      · exact .inl (.inr ⟨y, hy, h3, h2⟩)
      · exact .inr ⟨x, hx, h3, (chain_follows hv hk hk' hin hx hi).2 ⟨y, hy, h4, h2⟩⟩
end Go.Proofs.YtbjaebbmajhjjaaGreat
namespace Go.Proofs.YtbjaebbmajhjjaaGreat
set_option maxRecDepth 20000
open Go.ChangeShapes Go.WideShapes Go.ChangeAt Go.RowKit
theorem fit_max {v : Nat} {ws : List Nat} {n : Nat} (h : Bs.Fit v ws) (hv : v ≤ 256) (hl : ws.length = n) : n ≤ maxLen := by
  have e2 := h.len
  have e3 : Bs.nw v ≤ v + 63 := by unfold Bs.nw; omega
  unfold maxLen; omega
theorem sqN_succ (v : Nat) (G : List Nat) (N : Nat) (cs : List (Int × Int)) : sqN v G (N + 1) cs = if 64 < (sqC v G cs).length then (0, [], [], [], 7) else if sqC v G cs = cs then ((v : Int), G, G, cs, 0) else sqN v G N (sqC v G cs) := rfl
end Go.Proofs.YtbjaebbmajhjjaaGreat
namespace Go.Proofs.YtbjaebbmajhjjaaGreat
set_option maxRecDepth 20000
open Go.ChangeShapes Go.WideShapes Go.ChangeAt Go.RowKit
def strG (v : Nat) (gs ks : List Nat) (cs : List (Int × Int)) : List Nat := lst v gs (folB v ks cs)
def strC (v : Nat) (gs ks : List Nat) (cs : List (Int × Int)) : List (Int × Int) := ord (cs.filter (restB v (strG v gs ks cs)))
def starR (W : Int) (gs : List Nat) (V : Int) (ks : List Nat) (cs : List (Int × Int)) : Int × List Nat × List Nat × List (Int × Int) × Int :=
  if validT W gs V ks cs = false then (0, [], [], [], 1) else sqN W.toNat (strG W.toNat gs ks cs) 65 (strC W.toNat gs ks cs)
theorem ord_len (cs : List (Int × Int)) : (ord cs).length ≤ cs.length := by
  have h1 := cpt_len (srt cs)
  rw [srt_len] at h1; exact h1
section
variable {v : Nat} {gs ks : List Nat} {cs : List (Int × Int)}
theorem str_start (hg : Bs.Fit v gs) (hv : v ≤ 256) (hin : ∀ p ∈ cs, inW v p = true) : SqI v (strG v gs ks cs) (strC v gs ks cs) := by
  have hf : Bs.Fit v (strG v gs ks cs) := fit_lst hg _
  refine ⟨hf, hv, (ord_spec _).2, fun p hp => hin p (List.mem_filter.1 ((ord_spec _).1 p |>.1 hp)).1, fun p hp => ?_⟩
  obtain ⟨h1, h2⟩ := List.mem_filter.1 ((ord_spec _).1 p |>.1 hp)
  unfold restB at h2
  simp only [Bool.and_eq_true, decide_eq_true_eq, Bool.not_eq_true'] at h2
  refine ⟨?_, h2.2, h2.1⟩
  obtain ⟨a, b⟩ := p
  have hw := inW_pair.1 (hin _ h1)
  simp only at hw h2 ⊢
  obtain ⟨x, rfl⟩ := Int.eq_ofNat_of_zero_le hw.1.1
  obtain ⟨y, rfl⟩ := Int.eq_ofNat_of_zero_le hw.2.1
  have e1 := Bs.hasB_nat hf hv (b := x)
  have e2 := Bs.hasB_nat hf hv (b := y)
  rw [e1]
  cases hb : Bs.bit (strG v gs ks cs) x with
  | false => rfl
  | true =>
    have h3 := h2.2
    rw [e2] at h3
    have h4 : Bs.bit (valR gs (strG v gs ks cs) (folB v ks cs) v) y = true := by
      rw [bit_valR]
      have hy : y < v := by omega
      have hx : x < v := by omega
      simp only [hy, decide_true, Bool.true_and, Bool.or_eq_true, List.any_eq_true, List.mem_range, Bool.and_eq_true]
      exact .inr ⟨x, hx, hb, by unfold folB; simp [h1]⟩
    have h5 : valR gs (strG v gs ks cs) (folB v ks cs) v = strG v gs ks cs := lst_fix hg _
    rw [h5, h3] at h4
    cases h4
theorem str_canon (hg : Bs.Fit v gs) (hl : cs.length ≤ 64) : cnR v (strG v gs ks cs) (Bs.emp v) cs = ((v : Int), strG v gs ks cs, strG v gs ks cs, strC v gs ks cs, 0) := by
  have h1 : (strC v gs ks cs).length ≤ 64 := by
    have h2 := ord_len (cs.filter (restB v (strG v gs ks cs)))
    have h3 := List.length_filter_le (restB v (strG v gs ks cs)) cs
    unfold strC; omega
  unfold cnR
  rw [if_pos (show (ord (cs.filter (restB v (strG v gs ks cs)))).length ≤ 64 from h1), killC_self (show Bs.Fit v (strG v gs ks cs) from fit_lst hg _) (Bs.emp v) (fun i hi => by rw [Bs.bit_emp] at hi; cases hi)]
  rfl
theorem str_len (hl : cs.length ≤ 64) : (strC v gs ks cs).length ≤ 64 := by
  have h2 := ord_len (cs.filter (restB v (strG v gs ks cs)))
  have h3 := List.length_filter_le (restB v (strG v gs ks cs)) cs
  unfold strC; omega
end
def Fresh5 (W w : World) (b : Nat) : Prop := Fb w b #[.int .i64 0, .slice none 0 0, .int .i64 0, .slice none 0 0, .slice none 0 0] 30 ∧ W.heap.size ≤ b
theorem Fresh5.mk {W w0 w1 : World} (h0 : Below W.heap.size W w0) (hb : Below (w0.alloc (.cells #[.int .i64 0, .slice none 0 0, .int .i64 0, .slice none 0 0, .slice none 0 0] 30)).heap.size (w0.alloc (.cells #[.int .i64 0, .slice none 0 0, .int .i64 0, .slice none 0 0, .slice none 0 0] 30)) w1) : Fresh5 W w1 w0.heap.size :=
  ⟨(Fb.new w0 _ 30).below hb (by simp), h0.size⟩
theorem Fresh5.mkD {w0 w1 : World} (hb : Below (w0.alloc (.cells #[.int .i64 0, .slice none 0 0, .int .i64 0, .slice none 0 0, .slice none 0 0] 30)).drew.heap.size (w0.alloc (.cells #[.int .i64 0, .slice none 0 0, .int .i64 0, .slice none 0 0, .slice none 0 0] 30)).drew w1) : Fresh5 w0 w1 w0.heap.size :=
  ⟨(show Fb (w0.alloc (.cells #[.int .i64 0, .slice none 0 0, .int .i64 0, .slice none 0 0, .slice none 0 0] 30)).drew w0.heap.size _ 30 from Fb.new w0 _ 30).below hb (by show w0.heap.size < (w0.alloc _).heap.size; simp), Nat.le_refl _⟩
theorem Fresh5.below {W w w1 : World} {b : Nat} (h : Fresh5 W w b) (hb : Below w.heap.size w w1) : Fresh5 W w1 b := ⟨h.1.below hb h.1.lt, h.2⟩
theorem Fresh5.stored {W w : World} {b : Nat} (h : Fresh5 W w b) (hb : Below W.heap.size W w) (a c d e f : Value) : Below W.heap.size W (((((w.setCell ⟨b, 0, none⟩ a).setCell ⟨b, 1, none⟩ c).setCell ⟨b, 2, none⟩ d).setCell ⟨b, 3, none⟩ e).setCell ⟨b, 4, none⟩ f) :=
  below_stored5 hb h.2 _ _ _ _ _
theorem Fb.set5 {w : World} {g t : Nat} {a b c d e : Value} (h : Fb w g #[a, b, c, d, e] t) (a' b' c' d' e' : Value) : Fb (((((w.setCell ⟨g, 0, none⟩ a').setCell ⟨g, 1, none⟩ b').setCell ⟨g, 2, none⟩ c').setCell ⟨g, 3, none⟩ d').setCell ⟨g, 4, none⟩ e') g #[a', b', c', d', e'] t := by
  unfold Fb at h ⊢
  simp [World.setCell, h, Array.getElem?_modify]
def StarAt (w5 : World) (v : Nat) (gs ks : List Nat) (cs : List (Int × Int)) (wc : World) (b : Nat) (A : Option Addr) (n c : Nat) (B : Option Addr) (m d : Nat) (C : Option Addr) (q : Nat) : Prop :=
  Fb wc b #[.int .i64 v, .slice A n c, .int .i64 v, .slice B m d, .slice C cs.length q] 30 ∧ FArg wc A n B m C cs.length gs ks cs ∧ Below w5.heap.size w5 wc
section
variable {w5 : World} {v : Nat} {gs ks : List Nat} {cs : List (Int × Int)} {wn : World} {A : Option Addr} {n c : Nat} {B : Option Addr} {m d : Nat} {C : Option Addr} {q : Nat}
theorem StarAt.fresh {b : Nat} (hx : Fresh5 w5 wn b) (hA : Arg wn A n gs) (hB : Arg wn B m ks) (hC : ArgC wn C cs.length cs) (hb : Below w5.heap.size w5 wn) :
    StarAt w5 v gs ks cs (((((wn.setCell ⟨b, 0, none⟩ (.int .i64 v)).setCell ⟨b, 1, none⟩ (.slice A n c)).setCell ⟨b, 2, none⟩ (.int .i64 v)).setCell ⟨b, 3, none⟩ (.slice B m d)).setCell ⟨b, 4, none⟩ (.slice C cs.length q)) b A n c B m d C q :=
  ⟨hx.1.set5 _ _ _ _ _, ⟨hA.stored5 (hA.apart hx.1 zero5) _ _ _ _ _, hB.stored5 (hB.apart hx.1 zero5) _ _ _ _ _, hC.stored5 (hC.apart hx.1 zero5c) _ _ _ _ _⟩, hx.stored hb _ _ _ _ _⟩
theorem StarAt.new (hA : Arg wn A n gs) (hB : Arg wn B m ks) (hC : ArgC wn C cs.length cs) (hb : Below w5.heap.size w5 wn) :
    StarAt w5 v gs ks cs (wn.alloc (.cells #[.int .i64 v, .slice A n c, .int .i64 v, .slice B m d, .slice C cs.length q] 30)) wn.heap.size A n c B m d C q :=
  ⟨Fb.new _ _ _, FArg.alloc ⟨hA, hB, hC⟩ _, hb.alloc hb.size _⟩
end
end Go.Proofs.YtbjaebbmajhjjaaGreat
namespace Go.Proofs.YtbjaebbmajhjjaaGreat
set_option maxRecDepth 20000
theorem sqC_keeps {v : Nat} {G : List Nat} {cs : List (Int × Int)} (T : Int → Prop) (h : ∀ p ∈ cs, T p.1 → T p.2) : ∀ p ∈ sqC v G cs, T p.1 → T p.2 := by
  rintro ⟨a, b⟩ hp ha
  rcases mem_chnL.1 (mem_sqC.1 hp).1 with ⟨h1, _⟩ | ⟨y, h1, h2⟩ | ⟨h1, _⟩
  · exact h _ h1 ha
  · exact h (y, b) h2 (h (a, y) h1 ha)
  · exact h _ h1 ha
theorem sqN_spec {v : Nat} {G : List Nat} : ∀ (N : Nat) (cs : List (Int × Int)), SqI v G cs → cs.length ≤ 64 → 65 ≤ cs.length + N →
    sqN v G N cs = (0, [], [], [], 7) ∨ ∃ ds, sqN v G N cs = ((v : Int), G, G, ds, 0) ∧ SqI v G ds ∧ ds.length ≤ 64 ∧ sqC v G ds = ds ∧ (∀ p ∈ cs, p ∈ ds) ∧ ∀ T : Int → Prop, (∀ p ∈ cs, T p.1 → T p.2) → ∀ p ∈ ds, T p.1 → T p.2 := by
  intro N
  induction N with
  | zero => intro cs _ h1 h2; omega
  | succ N ih =>
    intro cs hI hl hN
    rw [sqN_succ]
    by_cases h64 : 64 < (sqC v G cs).length
    · rw [if_pos h64]; exact .inl rfl
    · rw [if_neg h64]
      by_cases he : sqC v G cs = cs
      · rw [if_pos he]
        exact .inr ⟨cs, rfl, hI, hl, he, fun _ h => h, fun _ h => h⟩
      · rw [if_neg he]
        have hm := hI.more he
        rcases ih (sqC v G cs) hI.next (by omega) (by omega) with h | ⟨ds, h1, h2, h3, h4, h5, h6⟩
        · exact .inl h
        · exact .inr ⟨ds, h1, h2, h3, h4, fun p hp => h5 p (hI.sub p hp), fun T hT => h6 T (sqC_keeps T hT)⟩
theorem sqC_trans {v : Nat} {G : List Nat} {ds : List (Int × Int)} (hI : SqI v G ds) (hf : sqC v G ds = ds) {a b c : Int} (h1 : (a, b) ∈ ds) (h2 : (b, c) ∈ ds) : a = c ∨ (a, c) ∈ ds := by
  by_cases e : a = c
  · exact .inl e
  · refine .inr ?_
    rw [← hf]
    refine mem_sqC.2 ⟨mem_chnL.2 (.inr (.inl ⟨b, h1, h2⟩)), ?_⟩
    unfold restB
    have := (hI.out _ h2).2.1
    simp only at this
    simp [e, this]
section
variable {v : Nat} {gs ks : List Nat} {cs ds : List (Int × Int)}
theorem star_follows (hI : SqI v (strG v gs ks cs) ds) {x i : Nat} : folB v (strG v gs ks cs) ds x i = true ↔ ((x = i ∧ Bs.bit (strG v gs ks cs) x = false) ∨ ((x : Int), (i : Int)) ∈ ds) := by
  rw [folB_iff, Bs.hasB_nat hI.fit hI.wid]
  have : ((x : Int) = (i : Int)) ↔ x = i := by omega
  rw [this]
theorem star_above (hI : SqI v (strG v gs ks cs) ds) (ss : List Nat) {i : Nat} (hi : i < v) (hs : Bs.bit ss i = true) : Bs.bit (valR (strG v gs ks cs) ss (folB v (strG v gs ks cs) ds) v) i = true := by
  rw [bit_valR_iff hi]
  cases hb : Bs.bit (strG v gs ks cs) i with
  | true => exact .inl rfl
  | false => exact .inr ⟨i, hi, hs, (star_follows hI).2 (.inl ⟨rfl, hb⟩)⟩
theorem star_closed (hg : Bs.Fit v gs) (hI : SqI v (strG v gs ks cs) ds) (hf : sqC v (strG v gs ks cs) ds = ds) (hsub : ∀ p ∈ strC v gs ks cs, p ∈ ds) (ss : List Nat) {i : Nat} (hi : i < v)
    (h : Bs.bit (valR gs (valR (strG v gs ks cs) ss (folB v (strG v gs ks cs) ds) v) (folB v ks cs) v) i = true) : Bs.bit (valR (strG v gs ks cs) ss (folB v (strG v gs ks cs) ds) v) i = true := by
  have hfix : valR gs (strG v gs ks cs) (folB v ks cs) v = strG v gs ks cs := lst_fix hg _
  have hclosed : ∀ x, x < v → Bs.bit (strG v gs ks cs) x = true → folB v ks cs x i = true → Bs.bit (strG v gs ks cs) i = true := fun x hx h1 h2 => by
    have := (bit_valR_iff (gs := gs) (ss := strG v gs ks cs) (f := folB v ks cs) hi).2 (.inr ⟨x, hx, h1, h2⟩)
    rwa [hfix] at this
  have hgen : Bs.bit gs i = true → Bs.bit (strG v gs ks cs) i = true := fun h1 => by
    have := (bit_valR_iff (gs := gs) (ss := strG v gs ks cs) (f := folB v ks cs) hi).2 (.inl h1)
    rwa [hfix] at this
  cases hb : Bs.bit (strG v gs ks cs) i with
  | true => exact (bit_valR_iff hi).2 (.inl hb)
  | false =>
    rcases (bit_valR_iff hi).1 h with h1 | ⟨y, hy, h1, h2⟩
    · rw [hgen h1] at hb; cases hb
    · rcases (bit_valR_iff hy).1 h1 with h3 | ⟨x, hx, h3, h4⟩
      · rw [hclosed y hy h3 h2] at hb; cases hb
      · rcases folB_iff.1 h2 with ⟨h5, _⟩ | h5
        · have e : y = i := by omega
          subst e; exact h1
        · by_cases hyi : y = i
          · subst hyi; exact h1
          · have hd : ((y : Int), (i : Int)) ∈ ds := by
              refine hsub _ (mem_rest.2 ⟨h5, ?_⟩)
              unfold restB
              rw [Bs.hasB_nat hI.fit hI.wid]
              simp [hb]; omega
            refine (bit_valR_iff hi).2 (.inr ⟨x, hx, h3, (star_follows hI).2 ?_⟩)
            rcases (star_follows hI).1 h4 with ⟨e, _⟩ | h6
            · subst e; exact .inr hd
            · rcases sqC_trans hI hf h6 hd with e | h7
              · have e' : x = i := by omega
                subst e'; exact .inl ⟨rfl, hb⟩
              · exact .inr h7
theorem star_least (hI : SqI v (strG v gs ks cs) ds) (hin : ∀ p ∈ cs, inW v p = true) (hway : ∀ T : Int → Prop, (∀ p ∈ strC v gs ks cs, T p.1 → T p.2) → ∀ p ∈ ds, T p.1 → T p.2) (ss ts : List Nat)
    (hs : ∀ i, i < v → Bs.bit ss i = true → Bs.bit ts i = true) (hfit : Bs.Fit v gs) (ht : ∀ i, i < v → Bs.bit (valR gs ts (folB v ks cs) v) i = true → Bs.bit ts i = true) {i : Nat} (hi : i < v)
    (h : Bs.bit (valR (strG v gs ks cs) ss (folB v (strG v gs ks cs) ds) v) i = true) : Bs.bit ts i = true := by
  have hG : ∀ j, Bs.bit (strG v gs ks cs) j = true → Bs.bit ts j = true := by
    have hlt : ∀ (xs : List Nat), Bs.Fit v xs → ∀ j, Bs.bit xs j = true → j < v := fun xs hx j hj => by
      refine Classical.byContradiction fun hn => ?_
      rw [hx.hi j (by omega)] at hj; cases hj
    refine lst_least (W := v) (f := folB v ks cs) (fun j hj => ?_) (fun j hj => ?_)
    · have := hlt gs hfit j hj
      exact ht j this ((bit_valR_iff this).2 (.inl hj))
    · exact ht j (hlt _ (fit_valR _ _ _ _) j hj) hj
  rcases (bit_valR_iff hi).1 h with h1 | ⟨x, hx, h1, h2⟩
  · exact hG i h1
  · rcases (star_follows hI).1 h2 with ⟨e, _⟩ | h3
    · subst e; exact hs x hx h1
    · have key := hway (fun a => ∃ j : Nat, a = (j : Int) ∧ j < v ∧ Bs.bit ts j = true) (fun p hp => ?_) _ h3 ⟨x, rfl, hx, hs x hx h1⟩
      · obtain ⟨j, hj, _, h4⟩ := key
        have e : i = j := by simp only at hj; omega
        rw [e]; exact h4
      · rintro ⟨j, hj, hjv, h4⟩
        have hpc := (mem_rest.1 hp).1
        have hw := inW_pair.1 (hin p hpc)
        obtain ⟨a, b⟩ := p
        simp only at hj hw ⊢
        obtain ⟨z, rfl⟩ := Int.eq_ofNat_of_zero_le hw.2.1
        have hz : z < v := by omega
        subst hj
        exact ⟨z, rfl, hz, ht z hz ((bit_valR_iff hz).2 (.inr ⟨j, hjv, h4, folB_iff.2 (.inr hpc)⟩))⟩
end
end Go.Proofs.YtbjaebbmajhjjaaGreat
namespace Go.Proofs.YtbjaebbmajhjjaaGreat
set_option maxRecDepth 20000
def allP (v : Nat) : List (Int × Int) := ((List.range v).flatMap fun a : Nat => (List.range v).map fun b : Nat => ((a : Int), (b : Int))).filter fun p => decide (p.1 ≠ p.2)
theorem mem_allP {v : Nat} {p : Int × Int} (h : inW v p = true) (hne : p.1 ≠ p.2) : p ∈ allP v := by
  obtain ⟨a, b⟩ := p
  have hw := inW_pair.1 h
  simp only at hw hne
  obtain ⟨x, rfl⟩ := Int.eq_ofNat_of_zero_le hw.1.1
  obtain ⟨y, rfl⟩ := Int.eq_ofNat_of_zero_le hw.2.1
  unfold allP
  refine List.mem_filter.2 ⟨List.mem_flatMap.2 ⟨x, List.mem_range.2 (by omega), List.mem_map.2 ⟨y, List.mem_range.2 (by omega), rfl⟩⟩, by simpa using hne⟩
theorem asc_row (a v : Nat) : Asc ((List.range v).map fun b : Nat => ((a : Int), (b : Int))) := by
  unfold Asc
  rw [List.pairwise_map]
  refine List.Pairwise.imp ?_ (List.pairwise_lt_range (n := v))
  intro x y h
  unfold beforeB; simp; omega
theorem asc_rows (v : Nat) : ∀ n, Asc ((List.range n).flatMap fun a : Nat => (List.range v).map fun b : Nat => ((a : Int), (b : Int)))
  | 0 => by simp [Asc]
  | n + 1 => by
    rw [List.range_succ, List.flatMap_append]
    refine List.pairwise_append.2 ⟨asc_rows v n, by have h := asc_row n v; unfold Asc at h; simpa using h, fun x hx y hy => ?_⟩
    obtain ⟨a, ha, hx⟩ := List.mem_flatMap.1 hx
    obtain ⟨b, _, rfl⟩ := List.mem_map.1 hx
    obtain ⟨c, hc, hy⟩ := List.mem_flatMap.1 hy
    obtain ⟨d, _, rfl⟩ := List.mem_map.1 hy
    have h1 := List.mem_range.1 ha
    have h2 := List.mem_singleton.1 hc
    unfold beforeB; simp; omega
theorem few_copies {v : Nat} (hv : v ≤ 8) {ds : List (Int × Int)} (ha : Asc ds) (hin : ∀ p ∈ ds, inW v p = true) (hne : ∀ p ∈ ds, p.1 ≠ p.2) : ds.length ≤ 56 := by
  have e : ds = (allP v).filter fun x => decide (x ∈ ds) := by
    refine asc_unique ha (((asc_rows v v).filter _).filter _) fun x => ?_
    rw [List.mem_filter]
    exact ⟨fun hx => ⟨mem_allP (hin x hx) (hne x hx), by simpa using hx⟩, fun hx => by simpa using hx.2⟩
  have h1 := List.length_filter_le (fun x => decide (x ∈ ds)) (allP v)
  rw [← e] at h1
  have h2 : (allP v).length ≤ 56 := by
    have : v = 0 ∨ v = 1 ∨ v = 2 ∨ v = 3 ∨ v = 4 ∨ v = 5 ∨ v = 6 ∨ v = 7 ∨ v = 8 := by omega
    rcases this with rfl | rfl | rfl | rfl | rfl | rfl | rfl | rfl | rfl <;> decide
  omega
theorem star_again {v : Nat} {G : List Nat} {ds : List (Int × Int)} (hI : SqI v G ds) (hf : sqC v G ds = ds) (hl : ds.length ≤ 64) : starR v G v G ds = ((v : Int), G, G, ds, 0) := by
  have hG : strG v G G ds = G := by
    have h := lstI_stay (W := v) (gs := G) (f := folB v G ds) (j := 0) hI.gen v
    rw [Nat.zero_add] at h
    exact h
  have hC : strC v G G ds = ds := by
    unfold strC
    rw [hG]
    refine asc_unique (ord_spec _).2 hI.asc fun x => ?_
    rw [mem_rest]
    refine ⟨fun h => h.1, fun h => ⟨h, ?_⟩⟩
    obtain ⟨_, h2, h3⟩ := hI.out x h
    unfold restB
    simp [h2, h3]
  unfold starR
  rw [if_neg (by simp [hI.valid hl]), Int.toNat_natCast, hG, hC, sqN_succ, if_neg (by rw [hf]; omega), if_pos hf]
end Go.Proofs.YtbjaebbmajhjjaaGreat
namespace Go.Proofs.YtbjaebbmajhjjaaGreat
set_option maxRecDepth 20000
set_option linter.unusedVariables false
structure Okf (v : Nat) (gs ks : List Nat) (cs : List (Int × Int)) : Prop where
  valid : validT v gs v ks cs = true
  gen : Bs.Fit v gs
  kill : Bs.Fit v ks
  inw : ∀ p ∈ cs, inW v p = true
structure Cnf (v : Nat) (gs ks : List Nat) (cs : List (Int × Int)) : Prop where
  ok : Okf v gs ks cs
  few : cs.length ≤ 56
  cops : ord (cs.filter (restB v gs)) = cs
  kills : killC v gs ks cs = ks
theorem cn_ok {v : Nat} (hv : v ≤ 8) {gs ks : List Nat} {cs : List (Int × Int)} (hg : Bs.Fit v gs) (hk : Bs.Fit v ks) (hin : ∀ p ∈ cs, inW v p = true) :
    cnR v gs ks cs = ((v : Int), gs, killC v gs ks cs, ord (cs.filter (restB v gs)), 0) ∧ Cnf v gs (killC v gs ks cs) (ord (cs.filter (restB v gs))) ∧ ∀ ss, vl v gs (killC v gs ks cs) (ord (cs.filter (restB v gs))) ss = vl v gs ks cs ss := by
  have hin2 : ∀ p ∈ ord (cs.filter (restB v gs)), inW v p = true := fun p hp => hin p (mem_rest.1 hp).1
  have hfew := few_copies hv (ord_spec (cs.filter (restB v gs))).2 hin2 (fun p hp => by
    have := (mem_rest.1 hp).2
    unfold restB at this
    simp only [Bool.and_eq_true, decide_eq_true_eq] at this
    exact this.1)
  refine ⟨by unfold cnR; rw [if_pos (by omega)], ⟨⟨can_valid (by omega) hg ks hin (by omega), hg, fit_killC _ _ _ _, hin2⟩, hfew, (can_twice cs (ks := ks)).1, (can_twice cs).2⟩, fun ss => can_value (by omega) hg hk cs ss⟩
theorem comp_ok {v : Nat} (hv : v ≤ 8) {gs ks : List Nat} {cs : List (Int × Int)} {gs' ks' : List Nat} {cs' : List (Int × Int)} (h : Okf v gs ks cs) (h' : Okf v gs' ks' cs') :
    ∃ G K C, composeR v gs v ks cs v gs' v ks' cs' = ((v : Int), G, K, C, 0) ∧ Cnf v G K C ∧ ∀ ss, vl v G K C ss = vl v gs' ks' cs' (vl v gs ks cs ss) := by
  have hin : ∀ p ∈ chnL v ks v ks' cs cs', inW v p = true := by
    rintro ⟨a, b⟩ hp
    rcases mem_chnL.1 hp with ⟨h1, _⟩ | ⟨y, h1, h2⟩ | ⟨h1, _⟩
    · exact h.inw _ h1
    · have w1 := inW_pair.1 (h.inw _ h1)
      have w2 := inW_pair.1 (h'.inw _ h2)
      exact inW_pair.2 ⟨w1.1, w2.2⟩
    · exact h'.inw _ h1
  obtain ⟨e1, e2, e3⟩ := cn_ok hv (fit_valR gs' gs (folB v ks' cs') v) (fit_orR v ks ks') hin
  refine ⟨_, _, _, ?_, e2, fun ss => ?_⟩
  · unfold composeR
    rw [if_neg (by simp [h.valid, h'.valid]), if_neg (by simp), Int.toNat_natCast]
    exact e1
  · rw [e3]
    exact compose_value (by omega) h.kill h'.kill h.inw ss
theorem join_ok {v : Nat} (hv : v ≤ 8) {gs ks : List Nat} {cs : List (Int × Int)} {gs' ks' : List Nat} {cs' : List (Int × Int)} (h : Okf v gs ks cs) (h' : Okf v gs' ks' cs') :
    ∃ G K C, joinR v gs v ks cs v gs' v ks' cs' = ((v : Int), G, K, C, 0) ∧ Cnf v G K C ∧ ∀ ss, vl v G K C ss = orR v (vl v gs ks cs ss) (vl v gs' ks' cs' ss) := by
  have hin : ∀ p ∈ cs ++ cs', inW v p = true := by
    intro p hp
    rcases List.mem_append.1 hp with h1 | h1
    · exact h.inw _ h1
    · exact h'.inw _ h1
  obtain ⟨e1, e2, e3⟩ := cn_ok hv (fit_orR v gs gs') (fit_andR v ks ks') hin
  refine ⟨_, _, _, ?_, e2, fun ss => ?_⟩
  · unfold joinR
    rw [if_neg (by simp [h.valid, h'.valid]), if_neg (by simp), Int.toNat_natCast]
    exact e1
  · rw [e3]
    exact join_value (by omega) h.kill h'.kill cs cs' ss
end Go.Proofs.YtbjaebbmajhjjaaGreat
namespace Go.Proofs.YtbjaebbmajhjjaaGreat
set_option maxRecDepth 20000
set_option linter.unusedVariables false
theorem sqN_ok {v : Nat} (hv : v ≤ 8) {G : List Nat} : ∀ (N : Nat) (cs : List (Int × Int)), SqI v G cs → sqN v G N cs ≠ (0, [], [], [], 7) := by
  intro N
  induction N with
  | zero => intro cs _ h; unfold sqN at h; simp at h
  | succ N ih =>
    intro cs hI
    have hn := hI.next
    have hl : (sqC v G cs).length ≤ 56 := few_copies hv hn.asc hn.inw (fun p hp => (hn.out p hp).2.2)
    rw [sqN_succ, if_neg (by omega)]
    split
    · simp
    · exact ih _ hn
theorem star_ok {v : Nat} (hv : v ≤ 8) {gs ks : List Nat} {cs : List (Int × Int)} (h : Okf v gs ks cs) :
    ∃ G C, starR v gs v ks cs = ((v : Int), G, G, C, 0) ∧ Okf v G G C ∧ C.length ≤ 64 ∧ starR v G v G C = ((v : Int), G, G, C, 0) ∧
      (∀ ss i, i < v → Bs.bit ss i = true → Bs.bit (vl v G G C ss) i = true) ∧
      (∀ ss i, i < v → Bs.bit (vl v gs ks cs (vl v G G C ss)) i = true → Bs.bit (vl v G G C ss) i = true) ∧
      (∀ ss ts, (∀ i, i < v → Bs.bit ss i = true → Bs.bit ts i = true) → (∀ i, i < v → Bs.bit (vl v gs ks cs ts) i = true → Bs.bit ts i = true) → ∀ i, i < v → Bs.bit (vl v G G C ss) i = true → Bs.bit ts i = true) := by
  have hI := str_start (ks := ks) h.gen (by omega) h.inw
  have hfew : (strC v gs ks cs).length ≤ 56 := few_copies hv hI.asc hI.inw (fun p hp => (hI.out p hp).2.2)
  have hR : starR v gs v ks cs = sqN v (strG v gs ks cs) 65 (strC v gs ks cs) := by
    unfold starR
    rw [if_neg (by simp [h.valid]), Int.toNat_natCast]
  rcases sqN_spec 65 _ hI (by omega) (by omega) with he | ⟨ds, h1, h2, h3, h4, h5, h6⟩
  · exact absurd he (sqN_ok hv _ _ hI)
  · refine ⟨strG v gs ks cs, ds, by rw [hR, h1], ⟨h2.valid h3, h2.fit, h2.fit, h2.inw⟩, h3, star_again h2 h4 h3, fun ss i hi hs => star_above h2 ss hi hs, fun ss i hi hs => star_closed h.gen h2 h4 h5 ss hi hs,
      fun ss ts hs ht i hi hb => star_least h2 h.inw h6 ss ts hs h.gen ht hi hb⟩
end Go.Proofs.YtbjaebbmajhjjaaGreat
namespace Go.Proofs.YtbjaebbmajhjjaaGreat
set_option maxRecDepth 20000
set_option linter.unusedVariables false
set_option linter.unusedSimpArgs false
open Go.ChangeShapes Go.WideShapes Go.ChangeAt Go.RowKit
theorem fit_killC2 (v : Nat) (gs ks : List Nat) (cs : List (Int × Int)) : Bs.Fit v (killC v gs ks cs) := Bs.fit_ofP _ _ _ (Nat.le_refl _)
set_option maxHeartbeats 3200000 in
theorem devCanonicalT (W : Nat) (A B C : Option Addr) (n c m d k q : Nat) (gs ks : List Nat) (cs : List (Int × Int)) (w : World)
    (hA : Arg w A n gs) (hB : Arg w B m ks) (hC : ArgC w C k cs) (hW : W ≤ 256) (hg : Bs.Fit W gs) (hk : Bs.Fit W ks) (hc : ∀ p ∈ cs, inW W p = true) (hk5 : k ≤ 5000) :
    Calls Tryz.prog 114 #[.agg #[.int .i64 W, .slice A n c], .agg #[.int .i64 W, .slice B m d], .slice C k q] w (RetCanonU w W gs ks cs) := by
  obtain ⟨i0, hi, hz0, hz1, hz2⟩ := info_parts info35
  have Hi := hid hi; have Hz0 := hid hz0; have Hz1 := hid hz1; have Hz2 := hid hz2
  have HA := hid hA; have HB := hid hB; have HC := hid hC; have Hg := hid hg; have Hk := hid hk; have Hc := hid hc
  have hst := Caning.start w W A B n c m d hB
  rw [← killJ_nil hk] at hst
  have Hst := hid hst
  clear hA hB hC hi hz0 hz1 hz2 hg hk hc hst
  go_enter Tryz.func114, Tryz.ntmps114
  go_wp2_with fail
  generalize ((w.alloc (.cells #[.int .i64 W, .slice A n c] 24)).alloc (.cells #[.int .i64 W, .slice B m d] 24)).alloc (.cells #[.int .i64 0, .slice none 0 0, .int .i64 0, .slice none 0 0, .slice none 0 0] 30) = w1 at *
  go_loopw [8, 10, 14] (fun v _ i wr => ∃ j : Nat, j ≤ k ∧ i = .int .i64 j ∧ Hid (Caning w W A n c v ((cs.take j).filter (restB W gs)) (killJ W ks (cs.take j)) wr)) (fun _ _ i _ => k - (intOf i).toNat)
  case atStart => exact ⟨0, by omega, rfl, Hst.out⟩
  case round =>
    obtain ⟨j, hj, rfl, hG⟩ := hrel
    clear Hst
    by_cases hlt : j < k
    · have hjl : j < cs.length := by rw [HC.out.len]; exact hlt
      have hget : cs[j]? = some cs[j] := List.getElem?_eq_getElem _
      have hsn := take_snoc cs j hjl
      have hin := Hc.out cs[j] (List.getElem_mem hjl)
      generalize cs[j] = p at hget hsn hin
      obtain ⟨p1, p2⟩ := p
      obtain ⟨ad, rfl, had, g1, g2⟩ := (HC.out.below hG.out.2.2.2.2.1).cell hget
      have hin2 := hin
      unfold inW at hin2
      simp at hin2
      obtain ⟨b, rfl⟩ := Int.eq_ofNat_of_zero_le hin2.1.2
      have hb : b < W := by omega
      have Hsn := hid hsn
      clear hget hsn hin hin2
      have H5 := hid (hG.out.below ((Below.refl _ _).alloc (Nat.le_refl _) (.cells #[.int .i64 p1, .int .i64 b] 27)))
      have Hbx := hid (Fb.new wr #[.int .i64 p1, .int .i64 b] 27)
      obtain ⟨b0, b1⟩ := Hbx.out.two
      by_cases hpb : p1 = b
      · subst hpb
        obtain ⟨-, ⟨Bk, mk, dk, hbk, hkw⟩, -⟩ := H5.out
        obtain ⟨t0, t1⟩ := And.intro hbk.c0 hbk.c1
        have Ha := hid (hkw.arg H5.out.2.2.2.2.1.size (fit_killJ W ks (cs.take j)).ok)
        have tt : ((b : Int) == (b : Int)) = true := by simp
        clear hbk hkw
        go_wp2_with fail
        clear g1 g2 b0 b1 tt
        generalize wr.alloc (.cells #[.int .i64 (b : Int), .int .i64 (b : Int)] 27) = wv at *
        generalize wr.heap.size = gv at *
        refine (devWithout_own W Bk mk dk (killJ W ks (cs.take j)) b _ Ha.out (Bs.valid_of_fit (fit_killJ W ks (cs.take j)) hW) hb).mono ?_
        rintro e w6 ⟨g6, c6, rfl, ho6, hb6⟩
        have H6 := hid (H5.out.below hb6)
        obtain ⟨-, ⟨B7, m7, d7, hbk7, -⟩, -⟩ := H6.out
        obtain ⟨t7, t8, f7, f8⟩ := hbk7.four
        have hl7 := hbk7.lt
        have Hkw := hid (show KW w6 w.heap.size (w.heap.size + 3) (some ⟨g6, 0, none⟩) mk (cutB (killJ W ks (cs.take j)) b) from
          ⟨ho6.len, .inr ⟨g6, c6, rfl, OwnW.less ho6 H5.out.2.2.2.2.2⟩⟩)
        have Hfin := hid (H6.out.kill c6 Hkw.out)
        clear ho6 hb6 t0 t1 hbk7
        have Hr := hid (show (cs.take (j + 1)).filter (restB W gs) = (cs.take j).filter (restB W gs) by rw [Hsn.out, restB_snoc]; simp [restB])
        have Hkj := hid (show killJ W ks (cs.take (j + 1)) = cutB (killJ W ks (cs.take j)) b by rw [Hsn.out, killJ_self hb])
        go_wp2_with fail
        go_roundw
        case rel => exact ⟨j + 1, by omega, by go_num, by rw [Hr.out, Hkj.out]; exact Hfin⟩
        case measure => simp [intOf]; omega
      · have tt : (p1 == (b : Int)) = false := by simp [hpb]
        have Hkj := hid (show killJ W ks (cs.take (j + 1)) = killJ W ks (cs.take j) by rw [Hsn.out, killJ_other hpb])
        obtain ⟨s0, s1⟩ := And.intro H5.out.1.c0 H5.out.1.c1
        go_wp2_with fail
        clear g1 g2 tt
        generalize wr.alloc (.cells #[.int .i64 p1, .int .i64 (b : Int)] 27) = wv at *
        generalize wr.heap.size = gv at *
        refine (devHas_any W A n c gs b _ (HA.out.below H5.out.2.2.2.2.1)).mono ?_
        rintro e w6 ⟨rfl, hb6⟩
        have H6 := hid (H5.out.below hb6)
        have hbx6 := hid (Hbx.out.below hb6 Hbx.out.lt)
        clear s0 s1 b0 b1 hb6
        obtain ⟨b0, b1⟩ := hbx6.out.two
        cases hh : Bs.hasB W gs b with
        | true =>
          have Hr := hid (show (cs.take (j + 1)).filter (restB W gs) = (cs.take j).filter (restB W gs) by rw [Hsn.out, restB_snoc]; simp [restB, hh])
          clear hh
          go_wp2_with fail
          go_roundw
          case rel => exact ⟨j + 1, by omega, by go_num, by rw [Hr.out, Hkj.out]; exact H6⟩
          case measure => simp [intOf]; omega
        | false =>
          have Hr := hid (show (cs.take (j + 1)).filter (restB W gs) = (cs.take j).filter (restB W gs) ++ [(p1, (b : Int))] by rw [Hsn.out, restB_snoc]; simp [restB, hh, hpb])
          have hle : ((cs.take j).filter (restB W gs)).length ≤ 5000 := by
            have h1 := List.length_filter_le (restB W gs) (cs.take j)
            rw [List.length_take] at h1; omega
          clear hh
          have hz3 := H6.out.2.2.2.2.2
          generalize (cs.take j).filter (restB W gs) = rs at *
          go_wp2_with (first
            | (at_builtin
               refine wpList_append_own _ rfl _ _ 28 rfl (w.heap.size + 3) 27 i0 _ 2 16 Tryz.underlying28 Hi.out Hz0.out Hz1.out Hz2.out rfl (by decide) u8 rs.length (pairs rs) rfl (World.ownsRow.alloc H6.out.2.2.2.1 _) ⟨w6.heap.size, 0, none⟩ 1 1 [.int .i64 p1, .int .i64 (b : Int)] rfl rfl (two_new _ _ _ _) (by intro u hu; simp at hu; rcases hu with rfl | rfl <;> rfl) (by unfold maxLen; omega) (by omega) (by rw [World.size_alloc]; omega) ?_
               intro v' w7 hown7 hgr7 hnil7
               have H7 := hid (show Caning w W A n c v' (rs ++ [(p1, (b : Int))]) (killJ W ks (cs.take j)) w7 from (H6.out.below ((Below.refl _ _).alloc (Nat.le_refl _) (.cells #[.int .i64 p1, .int .i64 (b : Int)] 27))).row hgr7 (by unfold Cops; rw [pairs_snoc, List.length_append]; exact hown7))
               clear hown7 hgr7 hnil7))
          go_roundw
          case rel => exact ⟨j + 1, by omega, by go_num, by rw [Hr.out, Hkj.out]; exact H7⟩
          case measure => simp [intOf]; omega
    · have hjk : k = j := by omega
      subst hjk
      have hall : cs.take k = cs := List.take_of_length_le (by rw [HC.out.len]; omega)
      rw [hall] at hG
      have hle : (cs.filter (restB W gs)).length ≤ 5000 := by
        have h1 := List.length_filter_le (restB W gs) cs
        have := HC.out.len; omega
      clear hall
      have HG := hid hG.out
      clear hG
      generalize hrs : cs.filter (restB W gs) = rs at HG hle
      have Hrs := hid hrs
      clear hrs
      obtain ⟨Cv, qv, rfl, hs⟩ := sort_any (w.heap.size + 3) rs.length u8 rs wr rfl HG.out.2.2.2.1 (by omega)
      have Hs := hid hs
      clear hs
      go_wp2_with fail
      refine Hs.out.mono ?_
      rintro e w2 ⟨rfl, hc2, hg2⟩
      have H2 := hid (HG.out.row hg2 hc2)
      obtain ⟨C3, q3, e3, hs3⟩ := compact_any (w.heap.size + 3) rs.length (.slice Cv rs.length qv) (srt rs) w2 (srt_len rs) hc2 (by omega)
      injection e3 with e31 _ e33
      subst e31
      subst e33
      have Hs3 := hid hs3
      clear hc2 hg2 hs3 Hs HG
      go_wp2_with fail
      refine Hs3.out.mono ?_
      rintro e w4 ⟨C4, q4, rfl, hc4, hg4⟩
      have H4 := hid (show Caning w W A n c (.slice C4 (ord rs).length q4) (ord rs) (killJ W ks cs) w4 from H2.out.row hg4 hc4)
      have hlen : (ord rs).length ≤ 5000 := by
        have h1 := cpt_len (srt rs); rw [srt_len] at h1; unfold ord; omega
      clear hc4 hg4 Hs3 H2
      have hcc : cpt (srt rs) = ord rs := rfl
      rw [hcc]
      clear hcc
      generalize hord : ord rs = os at H4 hlen ⊢
      have Hord := hid hord
      clear hord
      by_cases h64 : os.length ≤ 64
      · obtain ⟨hb1, ⟨B5, m5, d5, hb2, hkw⟩, hb3, hb4, hb5, hb6⟩ := H4.out
        obtain ⟨s0, s1⟩ := And.intro hb1.c0 hb1.c1
        obtain ⟨t0, t1⟩ := And.intro hb2.c0 hb2.c1
        have Ha := hid (hkw.arg hb5.size (fit_killJ W ks cs).ok)
        have Hb5 := hid hb5
        clear hb1 hb2 hkw hb3 hb4 hb5
        go_wp2_with fail
        refine (devUnion_own W B5 A m5 d5 n c (killJ W ks cs) gs _ Ha.out (HA.out.below Hb5.out) hW (fit_killJ W ks cs) Hg.out).mono ?_
        rw [killC_eq]
        rintro e w5 ⟨g6, rfl, hr6, -, hb7⟩
        have ha6 : ArgT w5 (some ⟨g6, 0, none⟩) (Bs.nw W) (killC W gs ks cs) := by
          have hf6 := fit_killC2 W gs ks cs
          have := ArgT.row hr6 hf6.ok
          rwa [hf6.len] at this
        clear hr6
        generalize Bs.nw W = m6 at ha6 ⊢
        generalize (some (⟨g6, 0, none⟩ : Addr)) = B6 at ha6 ⊢
        have H5 := hid (H4.out.below hb7)
        have Ha6 := hid ha6
        clear s0 s1 t0 t1 ha6 hb7 Ha Hb5 H4
        obtain ⟨hb1, ⟨B5', m5', d5', hb2, -⟩, hb3, hb4, hb5, hb8⟩ := H5.out
        obtain ⟨t0, t1, f0, f1⟩ := hb2.four
        have hl2 := hb2.lt
        have Hg6 := hid ((hb1.far (p := ⟨w.heap.size + 1, 0, none⟩) (by simp) (.int .i64 W)).far (p := ⟨w.heap.size + 1, 1, none⟩) (by simp) (.slice B6 m6 m6))
        have Hk6 := hid (hb2.set W B6 m6 m6)
        have Hak := hid (Ha6.out.store hb2 W B6 m6 m6)
        have Hz6 := hid ((hb3.far (p := ⟨w.heap.size + 1, 0, none⟩) (by simp) (.int .i64 W)).far (p := ⟨w.heap.size + 1, 1, none⟩) (by simp) (.slice B6 m6 m6))
        have Hc6 := hid ((hb4.setLow (p := ⟨w.heap.size + 1, 0, none⟩) (by simp) (.int .i64 W)).setLow (p := ⟨w.heap.size + 1, 1, none⟩) (by simp) (.slice B6 m6 m6))
        have Hb6 := hid ((hb5.setCell (p := ⟨w.heap.size + 1, 0, none⟩) (by simp) (.int .i64 W)).setCell (p := ⟨w.heap.size + 1, 1, none⟩) (by simp) (.slice B6 m6 m6))
        clear hb1 hb2 hb3 hb4 hb5 H5 Ha6
        go_upto_region 15 with fail
        generalize (w5.setCell ⟨w.heap.size + 1, 0, none⟩ (.int .i64 W)).setCell ⟨w.heap.size + 1, 1, none⟩ (.slice B6 m6 m6) = w6 at *
        clear t0 t1 f0 f1 hl2 hb8
        have hK : ∀ w', Below w6.heap.size w6 w' → ((fun w' => Below w6.heap.size w6 w' ∧ (w'.cell? ⟨w.heap.size, 0, none⟩ = some (.int .i64 W) ∧ w'.cell? ⟨w.heap.size, 1, none⟩ = some (.slice A n c))) w') := fun w' hb' => ⟨hb', (Hg6.out.below hb' Hg6.out.lt).c0, (Hg6.out.below hb' Hg6.out.lt).c1⟩
        have HK := hid hK
        have hz0 : w.heap.size < w6.heap.size := Hg6.out.lt
        obtain ⟨c0, c1⟩ := And.intro Hg6.out.c0 Hg6.out.c1
        have hn5 : n ≤ 100 := by have := Hg.out.len; have := HA.out.len; unfold Bs.nw at *; omega
        clear hK
        go_upto_region 16 with fail
        go_cut [11] (fun sa wc => ∃ (b : Nat) (A' : Option Addr) (c' : Nat), sa = .pointer (some ⟨b, 0, none⟩) ∧ Hid (Box wc b W A' n c' ∧ ArgT wc A' n gs ∧ Below w6.heap.size w6 wc))
        case first =>
          go_region_held3 (fun w' => Below w6.heap.size w6 w' ∧ (w'.cell? ⟨w.heap.size, 0, none⟩ = some (.int .i64 W) ∧ w'.cell? ⟨w.heap.size, 1, none⟩ = some (.slice A n c)))
            (first | exact HK.out _ (Below.refl _ _).drew | exact HK.out _ (((Below.refl _ _).alloc (Nat.le_refl _) _).drew) | exact HK.out _ ((‹Below w6.heap.size w6 _›).alloc (‹Below w6.heap.size w6 _›).size _) | exact HK.out _ (Hcur.out.alloc Hcur.out.size _) | exact HK.out _ (HX.out.stored Hcur.out _ _ _ _) | assumption)
            (first
              | (go_at_call 88
                 go_must (
                 go_split_ands
                 refine (cloneT_any A n c gs _ (HA.out.below (Hb6.out.trans ((‹Below w6.heap.size w6 _›).mono Hb6.out.size))) hn5).mono ?_
                 rintro e wn ⟨A9, c9, rfl, ha9, hbk⟩
                 have Ha9 := hid ha9
                 have hcur := below_step (W := w6) (by assumption) hbk
                 have hS := HK.out _ hcur
                 have Hcur := hid hcur
                 try (first
                   | (have HX := (by with_reducible exact hid (Fresh.mkD hbk))
                      obtain ⟨x0, x1, y0, y1⟩ := HX.out.1.four)
                   | (have HX := (by with_reducible exact hid (Fresh.mk (by assumption) hbk))
                      obtain ⟨x0, x1, y0, y1⟩ := HX.out.1.four))
                 clear hbk ha9)))
          all_goals go_wp2_with fail
          all_goals go_meet
          all_goals first
            | (have Q := And.intro (HX.out.1.set W A9 n c9) (And.intro (Ha9.out.store HX.out.1 W A9 n c9) (HX.out.stored Hcur.out W A9 n c9))
               refine ⟨_, A9, c9, rfl, ?_⟩
               with_reducible exact hid Q)
            | (have Q := And.intro (Box.new wn W A9 n c9) (And.intro (Ha9.out.alloc (.cells #[.int .i64 W, .slice A9 n c9] 24)) (Hcur.out.alloc Hcur.out.size (.cells #[.int .i64 W, .slice A9 n c9] 24)))
               refine ⟨_, A9, c9, rfl, ?_⟩
               with_reducible exact hid Q)
        case rest =>
          obtain ⟨bx, A9, c9, rfl, H9⟩ := hcut
          have Hk7 := hid (Hk6.out.below H9.out.2.2 Hk6.out.lt)
          have Hz7 := hid (Hz6.out.below H9.out.2.2 Hz6.out.lt)
          have Hc7 := hid (show Cops wc (w.heap.size + 3) (.slice C4 os.length q4) os from own_below Hc6.out H9.out.2.2)
          have Hak7 := hid (Hak.out.below H9.out.2.2)
          have Hb7 := hid (Hb6.out.trans (H9.out.2.2.mono Hb6.out.size))
          obtain ⟨t0, t1⟩ := And.intro Hk7.out.c0 Hk7.out.c1
          obtain ⟨s0, s1⟩ := And.intro H9.out.1.c0 H9.out.1.c1
          obtain ⟨r0, r1, r2, r3, r4⟩ := Hz7.out.five
          have f0 := Hz7.out.frozen 0
          have f1 := Hz7.out.frozen 1
          have f2 := Hz7.out.frozen 2
          have f3 := Hz7.out.frozen 3
          have f4 := Hz7.out.frozen 4
          have hlR := Hz7.out.lt
          have Fin := hid (show RetU w W gs (killC W gs ks cs) os 0 (.returned (.tuple #[.agg #[.int .i64 W, .slice A9 n c9, .int .i64 W, .slice B6 m6 m6, .slice C4 os.length q4], .int .i64 0])) (stored5 wc (w.heap.size + 2) (.int .i64 W) (.slice A9 n c9) (.int .i64 W) (.slice B6 m6 m6) (.slice C4 os.length q4)) from
            ⟨A9, n, c9, B6, m6, m6, C4, q4, rfl, H9.out.2.1.stored5 Hz7.out (by decide) _ _ _ _ _, Hak7.out.stored5 Hz7.out (by decide) _ _ _ _ _, CopT.own (Hc7.out.stored5 (by omega) _ _ _ _ _), below_stored5 Hb7.out (by omega) _ _ _ _ _⟩)
          unfold stored5 at Fin
          clear HK hz0 c0 c1
          go_wp2_with fail
          refine bodyPost_ret (v := .tuple #[.agg #[.int .i64 W, .slice A9 n c9, .int .i64 W, .slice B6 m6 m6, .slice C4 os.length q4], .int .i64 0]) (by simp [results, Tryz.results114, go_sem, r0, r1, r2, r3, r4]) rfl ?_
          unfold RetCanonU
          rw [Hrs.out, Hord.out, if_pos h64]
          exact Fin.out
      · obtain ⟨hb1, -, hb3, -, hb5, hb6⟩ := H4.out
        obtain ⟨r0, r1, r2, r3, r4⟩ := hb3.five
        have f0 := hb3.frozen 0
        have f1 := hb3.frozen 1
        have f2 := hb3.frozen 2
        have f3 := hb3.frozen 3
        have f4 := hb3.frozen 4
        have hlR := hb3.lt
        have Fin := hid (show RetU w 0 [] [] [] 7 (.returned (.tuple #[.agg #[.int .i64 0, .slice none 0 0, .int .i64 0, .slice none 0 0, .slice none 0 0], .int .i64 7])) (stored5 w4 (w.heap.size + 2) (.int .i64 0) (.slice none 0 0) (.int .i64 0) (.slice none 0 0) (.slice none 0 0)) from
          ⟨none, 0, 0, none, 0, 0, none, 0, rfl, ArgT.nil _ _, ArgT.nil _ _, CopT.nil _ _, below_stored5 hb5 (by omega) _ _ _ _ _⟩)
        unfold stored5 at Fin
        clear hb1 hb3 hb5
        go_wp2_with fail
        refine bodyPost_ret (v := .tuple #[.agg #[.int .i64 0, .slice none 0 0, .int .i64 0, .slice none 0 0, .slice none 0 0], .int .i64 7]) (by simp [results, Tryz.results114, go_sem, r0, r1, r2, r3, r4]) rfl ?_
        unfold RetCanonU
        rw [Hrs.out, Hord.out, if_neg h64]
        exact Fin.out
end Go.Proofs.YtbjaebbmajhjjaaGreat
namespace Go.Proofs.YtbjaebbmajhjjaaGreat
set_option maxRecDepth 20000
set_option linter.unusedVariables false
set_option linter.unusedSimpArgs false
open Go.ChangeShapes Go.WideShapes Go.ChangeAt Go.RowKit
theorem RetCanonU.val {w w' : World} {W : Nat} {gs ks : List Nat} {cs : List (Int × Int)} {e : Ending} (hh : RetCanonU w W gs ks cs e w') : RetRU w (cnR W gs ks cs) e w' := by
  unfold RetCanonU at hh
  unfold cnR
  by_cases h : (ord (cs.filter (restB W gs))).length ≤ 64
  · rw [if_pos h] at hh ⊢; exact hh
  · rw [if_neg h] at hh ⊢; exact hh
set_option maxHeartbeats 1600000 in
theorem devJoinT (W V : Int) (A B C : Option Addr) (n c m d k q : Nat) (gs ks : List Nat) (cs : List (Int × Int)) (W' V' : Int) (A' B' C' : Option Addr) (n' c' m' d' k' q' : Nat) (gs' ks' : List Nat) (cs' : List (Int × Int)) (w : World)
    (hF : FArg w A n B m C k gs ks cs) (hG : FArg w A' n' B' m' C' k' gs' ks' cs') :
    Calls Tryz.prog 125 #[.agg #[.int .i64 W, .slice A n c, .int .i64 V, .slice B m d, .slice C k q], .agg #[.int .i64 W', .slice A' n' c', .int .i64 V', .slice B' m' d', .slice C' k' q']] w
      (RetRU w (joinR W gs V ks cs W' gs' V' ks' cs')) := by
  have HF := hid hF; have HG := hid hG
  have H0 := hid (Three.start w W V A B C n c m d k q W' V' A' B' C' n' c' m' d' k' q')
  clear hF hG
  go_enter Tryz.func125, Tryz.ntmps125
  go_wp2_with fail
  refine (devCheck_any W V A B C n c m d k q gs ks cs W' V' A' B' C' n' c' m' d' k' q' gs' ks' cs' _ (HF.out.below H0.out.2.2.2) (HG.out.below H0.out.2.2.2)).mono ?_
  by_cases hbad : checkR (validT W gs V ks cs) (validT W' gs' V' ks' cs') W W' ≠ 0
  · have Hr := hid (show joinR W gs V ks cs W' gs' V' ks' cs' = (0, [], [], [], checkR (validT W gs V ks cs) (validT W' gs' V' ks' cs') W W') by
      unfold joinR checkR
      unfold checkR at hbad
      by_cases h1 : validT W gs V ks cs = false ∨ validT W' gs' V' ks' cs' = false
      · rw [if_pos h1, if_pos h1]
      · rw [if_neg h1, if_neg h1]
        rw [if_neg h1] at hbad
        by_cases h2 : W ≠ W'
        · rw [if_pos h2, if_pos h2]
        · rw [if_neg h2] at hbad; exact absurd rfl hbad)
    generalize checkR (validT W gs V ks cs) (validT W' gs' V' ks' cs') W W' = er at *
    have tt : (er != 0) = true := by simpa using hbad
    clear hbad
    rintro e w1 ⟨rfl, hb1⟩
    have H1 := hid (H0.out.below hb1)
    clear hb1
    obtain ⟨r0, r1, r2, r3, r4⟩ := H1.out.2.2.1.five
    have f0 := H1.out.2.2.1.frozen 0
    have f1 := H1.out.2.2.1.frozen 1
    have f2 := H1.out.2.2.1.frozen 2
    have f3 := H1.out.2.2.1.frozen 3
    have f4 := H1.out.2.2.1.frozen 4
    have hlR := H1.out.2.2.1.lt
    have Fin := hid (RetU.stored (err := er) (c := 0) (d := 0) (q := 0) (cs := []) (C := none) (ArgT.nil w1 none) (ArgT.nil w1 none) (CopT.nil w1 none) H1.out.2.2.2 (by omega) H1.out.2.2.1 (W := 0))
    unfold stored5 at Fin
    go_wp2_with fail
    refine bodyPost_ret (v := .tuple #[.agg #[.int .i64 0, .slice none 0 0, .int .i64 0, .slice none 0 0, .slice none 0 0], .int .i64 er]) (by simp [results, Tryz.results125, go_sem, r0, r1, r2, r3, r4]) rfl ?_
    rw [Hr.out]
    exact Fin.out
  · have hok : checkR (validT W gs V ks cs) (validT W' gs' V' ks' cs') W W' = 0 := by simpa using hbad
    rw [hok]
    have hv1 : validT W gs V ks cs = true := by
      unfold checkR at hok
      cases h : validT W gs V ks cs with
      | true => rfl
      | false => rw [h] at hok; simp at hok
    have hv2 : validT W' gs' V' ks' cs' = true := by
      unfold checkR at hok
      cases h : validT W' gs' V' ks' cs' with
      | true => rfl
      | false => rw [h] at hok; simp at hok
    have hWW : W = W' := by
      unfold checkR at hok
      rw [hv1, hv2] at hok
      by_cases h : W = W'
      · exact h
      · simp [h] at hok
    clear hok hbad
    subst hWW
    obtain ⟨h1, h2, h3, h4, h5⟩ := validT_iff hv1
    obtain ⟨g1, g2, g3, g4, g5⟩ := validT_iff hv2
    subst h3
    subst g3
    have hin1 := inW_of_ok h5
    have hin2 := inW_of_ok g5
    have Hr := hid (show joinR W gs W ks cs W gs' W ks' cs' = cnR W.toNat (orR W.toNat gs gs') (andR W.toNat ks ks') (cs ++ cs') by unfold joinR; rw [if_neg (by simp [hv1, hv2]), if_neg (by simp)])
    obtain ⟨v, rfl⟩ := Int.eq_ofNat_of_zero_le (Bs.validB_iff.1 h1).1
    have hv256 : v ≤ 256 := by have := (Bs.validB_iff.1 h1).2.1; omega
    have hfg := fit_of_valid' h1 HF.out.gen
    have hfk := fit_of_valid' h2 HF.out.kill
    have hfg' := fit_of_valid' g1 HG.out.gen
    have hfk' := fit_of_valid' g2 HG.out.kill
    have hk4 : k ≤ 64 := by rw [HF.out.cops.len] at h4; exact h4
    have hk4' : k' ≤ 64 := by rw [HG.out.cops.len] at g4; exact g4
    rw [Int.toNat_natCast] at Hr
    have Hin := hid (show ∀ p ∈ cs ++ cs', inW v p = true from fun p hp => (List.mem_append.1 hp).elim (hin1 p) (hin2 p))
    have Hfg := hid hfg; have Hfk := hid hfk; have Hfg' := hid hfg'; have Hfk' := hid hfk'
    clear h1 h2 h4 h5 g1 g2 g4 g5 hin1 hin2 hfg hfk hfg' hfk' hv1 hv2
    rintro e w1 ⟨rfl, hb1⟩
    have H1 := hid (H0.out.below hb1)
    clear hb1
    obtain ⟨t0, t1, t2, t3, t4⟩ := H1.out.1.five
    obtain ⟨s0, s1, s2, s3, s4⟩ := H1.out.2.1.five
    go_wp2_with fail
    refine (devUnion_any v v A A' n c n' c' gs gs' _ (HF.out.gen.below H1.out.2.2.2) (HG.out.gen.below H1.out.2.2.2)).mono ?_
    rw [mixR_or hv256 Hfg.out Hfg'.out]
    rintro e w2 ⟨A2, n2, c2, rfl, ha2, hb2⟩
    have hb2' := hb2.alloc hb2.size (.cells #[.int .i64 v, .slice A2 n2 c2] 24)
    have H2 := hid (H1.out.below hb2')
    have HA2 := hid (ha2.alloc (.cells #[.int .i64 v, .slice A2 n2 c2] 24))
    have HB2 := hid (Box.new w2 v A2 n2 c2)
    clear ha2 hb2 hb2' t0 t1 t2 t3 t4 s0 s1 s2 s3 s4
    obtain ⟨t0, t1, t2, t3, t4⟩ := H2.out.1.five
    obtain ⟨s0, s1, s2, s3, s4⟩ := H2.out.2.1.five
    go_wp2_with fail
    generalize w2.alloc (.cells #[.int .i64 v, .slice A2 n2 c2] 24) = w3 at *
    generalize w2.heap.size = b3 at *
    refine (devInter_any v v B B' m d m' d' ks ks' _ (HF.out.kill.below H2.out.2.2.2) (HG.out.kill.below H2.out.2.2.2)).mono ?_
    rw [mixR_and hv256 Hfk.out Hfk'.out]
    rintro e w4 ⟨A4, n4, c4, rfl, ha4, hb4⟩
    have hb4' := hb4.alloc hb4.size (.cells #[.int .i64 v, .slice A4 n4 c4] 24)
    have H5 := hid (H2.out.below hb4')
    have HA5 := hid (HA2.out.below hb4')
    have HB5 := hid (HB2.out.below hb4' HB2.out.lt)
    have HK5 := hid (ha4.alloc (.cells #[.int .i64 v, .slice A4 n4 c4] 24))
    have HC5 := hid (Box.new w4 v A4 n4 c4)
    have hne3 : b3 ≠ w.heap.size + 2 := by
      intro e
      have x1 := HB2.out
      have x2 := H2.out.2.2.1
      rw [e] at x1
      unfold Box at x1
      unfold Fb at x2
      rw [x1] at x2
      cases x2
    have hne4 : w4.heap.size ≠ w.heap.size + 2 := by
      intro e
      have x1 := HC5.out
      have x2 := H5.out.2.2.1
      rw [e] at x1
      unfold Box at x1
      unfold Fb at x2
      rw [x1] at x2
      cases x2
    clear ha4 hb4 hb4' t0 t1 t2 t3 t4 s0 s1 s2 s3 s4 H1 H2 HA2 HB2
    go_upto_region 6 with fail
    generalize w4.alloc (.cells #[.int .i64 v, .slice A4 n4 c4] 24) = w5 at *
    generalize w4.heap.size = b4 at *
    generalize hR : w.heap.size + 1 + 1 = R
    have hR2 : w.heap.size + 2 = R := hR
    have HZ := hid (show Fb w5 R _ 30 from by rw [← hR2]; exact H5.out.2.2.1)
    rw [hR2] at hne3 hne4
    have hRle : w.heap.size ≤ R := by omega
    have hn0 : w.heap.size ≠ R := by omega
    have hn1 : w.heap.size + 1 ≠ R := by omega
    have HnR := hid (And.intro hn0 hn1)
    have hA0 := HA5.out.apart HZ.out zero5
    have hK0 := HK5.out.apart HZ.out zero5
    have hF5 := HF.out.cops.below H5.out.2.2.2
    have hG5 := HG.out.cops.below H5.out.2.2.2
    have hF0 := hF5.apart HZ.out zero5c
    have hG0 := hG5.apart HZ.out zero5c
    have hK : ∀ w', w5.grownBy w' (some R) → ((fun w' => w5.grownBy w' (some R) ∧ (w'.cell? ⟨b3, 0, none⟩ = some (.int .i64 v) ∧ w'.cell? ⟨b3, 1, none⟩ = some (.slice A2 n2 c2)) ∧ (w'.cell? ⟨b4, 0, none⟩ = some (.int .i64 v) ∧ w'.cell? ⟨b4, 1, none⟩ = some (.slice A4 n4 c4)) ∧ w'.cell? ⟨w.heap.size, 4, none⟩ = some (.slice C k q) ∧ w'.cell? ⟨w.heap.size + 1, 4, none⟩ = some (.slice C' k' q')) w') := fun w' hg =>
      ⟨hg, ⟨(HB5.out.grown hg (some_ne hne3)).c0, (HB5.out.grown hg (some_ne hne3)).c1⟩, ⟨(HC5.out.grown hg (some_ne hne4)).c0, (HC5.out.grown hg (some_ne hne4)).c1⟩, (H5.out.1.grown hg (some_ne hn0)).cell 4, (H5.out.2.1.grown hg (some_ne hn1)).cell 4⟩
    have HK := hid hK
    have HA0 := hid hA0; have HK0 := hid hK0; have HF0 := hid hF0; have HG0 := hid hG0; have HF5 := hid hF5; have HG5 := hid hG5
    obtain ⟨r, hr⟩ : ∃ r, cnR v (orR v gs gs') (andR v ks ks') (cs ++ cs') = r := ⟨_, rfl⟩
    obtain ⟨W9, gs9, ks9, cs9, er9⟩ := r
    have Hcn := hid hr
    have hz1 : b3 < w5.heap.size := HB5.out.lt
    have hz2 : b4 < w5.heap.size := HC5.out.lt
    have hz3 := HZ.out.lt
    have hz4 : w.heap.size < w5.heap.size := H5.out.1.lt
    have hz5 : w.heap.size + 1 < w5.heap.size := H5.out.2.1.lt
    obtain ⟨p0, p1⟩ := And.intro HB5.out.c0 HB5.out.c1
    obtain ⟨q0, q1⟩ := And.intro HC5.out.c0 HC5.out.c1
    have t4 := H5.out.1.cell 4
    have s4 := H5.out.2.1.cell 4
    have t4' : w5.cell? ⟨w.heap.size, 4, none⟩ = some (.slice C k q) := t4
    have s4' : w5.cell? ⟨w.heap.size + 1, 4, none⟩ = some (.slice C' k' q') := s4
    clear hR hR2 hn0 hn1 t4 s4 hK hA0 hK0 hF5 hG5 hF0 hG0 hr
    go_region_held3 (fun w' => w5.grownBy w' (some R) ∧ (w'.cell? ⟨b3, 0, none⟩ = some (.int .i64 v) ∧ w'.cell? ⟨b3, 1, none⟩ = some (.slice A2 n2 c2)) ∧ (w'.cell? ⟨b4, 0, none⟩ = some (.int .i64 v) ∧ w'.cell? ⟨b4, 1, none⟩ = some (.slice A4 n4 c4)) ∧ w'.cell? ⟨w.heap.size, 4, none⟩ = some (.slice C k q) ∧ w'.cell? ⟨w.heap.size + 1, 4, none⟩ = some (.slice C' k' q'))
      (first
        | (with_reducible exact HK.out _ (grown_drew _ _))
        | (with_reducible exact HK.out _ (grown_trans (grown_of_below ((Below.refl _ _).alloc (Nat.le_refl _) _) _) (grown_drew _ _)))
        | (with_reducible exact HK.out _ (grown_set5 Hcur.out _ _ _ _ _))
        | assumption)
      (first
        | (go_at_call 140
           go_must (
           go_split_ands
           refine (concat_any w5.heap.size 2 C C' k q k' q' cs cs' (w5.alloc (.cells #[.slice C k q, .slice C' k' q'] 28)).drew (show w5.heap.size < (w5.alloc _).heap.size by simp) (show (w5.alloc (.cells #[.slice C k q, .slice C' k' q'] 28)).cell? ⟨w5.heap.size, 0, none⟩ = _ from ((Fb.new w5 _ 28).cell 0).trans rfl) (show (w5.alloc (.cells #[.slice C k q, .slice C' k' q'] 28)).cell? ⟨w5.heap.size, 1, none⟩ = _ from ((Fb.new w5 _ 28).cell 1).trans rfl) (HF5.out.skip HF0.out (by assumption)) (HG5.out.skip HG0.out (by assumption)) hk4 hk4').mono ?_
           rintro e wn ⟨Cc, qc, rfl, hcc, hbk⟩
           have hbl := below_step (W := w5) (by first | exact ((Below.refl _ _).alloc (Nat.le_refl _) _).drew | exact (Below.refl _ _).drew.alloc (Nat.le_refl _) _) hbk
           have Hbl := hid hbl
           have hcur := grown_of_below hbl (some R)
           have hS := HK.out _ hcur
           have Hcur := hid hcur
           have Hcc := hid (show ArgC wn Cc (cs.length + cs'.length) (cs ++ cs') from (by rw [← List.length_append]; exact hcc))
           clear hbk hcc hbl))
        | (go_at_call 114
           go_must (
           go_split_ands
           refine (devCanonicalT v A2 A4 Cc n2 c2 n4 c4 (cs.length + cs'.length) qc (orR v gs gs') (andR v ks ks') (cs ++ cs') _ (HA5.out.skip HA0.out (by assumption)) (HK5.out.skip HK0.out (by assumption)) Hcc.out hv256 (fit_orR _ _ _) (fit_andR _ _ _) Hin.out (by have := HF.out.cops.len; have := HG.out.cops.len; omega)).mono ?_
           rintro e wn2 hcan
           have hval := hcan.val
           rw [Hcn.out] at hval
           obtain ⟨A9, n9, c9, B9, m9, d9, C9, q9, rfl, hA9, hB9, hC9, hbk⟩ := hval
           have hbl := below_step (W := w5) Hbl.out hbk
           have hcur := grown_of_below hbl (some R)
           have hS := HK.out _ hcur
           have Hcur := hid hcur
           have Hz9 := hid (HZ.out.below hbl HZ.out.lt)
           obtain ⟨r0, r1, r2, r3, r4⟩ := Hz9.out.five
           have f0 := Hz9.out.frozen 0
           have f1 := Hz9.out.frozen 1
           have f2 := Hz9.out.frozen 2
           have f3 := Hz9.out.frozen 3
           have f4 := Hz9.out.frozen 4
           have hlR := Hz9.out.lt
           have Fin := hid (RetU.stored (w := w) (err := er9) (c := c9) (d := d9) (q := q9) (W := W9) hA9 hB9 hC9 (H5.out.2.2.2.trans (hbl.mono H5.out.2.2.2.size)) hRle Hz9.out)
           unfold stored5 at Fin
           clear hbk hA9 hB9 hC9 hcan)))
    all_goals go_wp2_with fail
    all_goals refine bodyPost_ret (v := .tuple #[.agg #[.int .i64 W9, .slice A9 n9 c9, .int .i64 W9, .slice B9 m9 d9, .slice C9 cs9.length q9], .int .i64 er9]) (by simp [results, Tryz.results125, go_sem, r0, r1, r2, r3, r4]) rfl ?_
    all_goals rw [Hr.out, Hcn.out]
    all_goals exact Fin.out
end Go.Proofs.YtbjaebbmajhjjaaGreat
namespace Go.Proofs.YtbjaebbmajhjjaaGreat
set_option maxRecDepth 20000
set_option linter.unusedVariables false
set_option linter.unusedSimpArgs false
open Go.ChangeShapes Go.WideShapes Go.ChangeAt Go.RowKit
set_option maxHeartbeats 1600000 in
theorem devComposeT (W V : Int) (A B C : Option Addr) (n c m d k q : Nat) (gs ks : List Nat) (cs : List (Int × Int)) (W' V' : Int) (A' B' C' : Option Addr) (n' c' m' d' k' q' : Nat) (gs' ks' : List Nat) (cs' : List (Int × Int)) (w : World)
    (hF : FArg w A n B m C k gs ks cs) (hG : FArg w A' n' B' m' C' k' gs' ks' cs') :
    Calls Tryz.prog 94 #[.agg #[.int .i64 W, .slice A n c, .int .i64 V, .slice B m d, .slice C k q], .agg #[.int .i64 W', .slice A' n' c', .int .i64 V', .slice B' m' d', .slice C' k' q']] w
      (RetRU w (composeR W gs V ks cs W' gs' V' ks' cs')) := by
  have HF := hid hF; have HG := hid hG
  have H0 := hid (Three.start w W V A B C n c m d k q W' V' A' B' C' n' c' m' d' k' q')
  clear hF hG
  go_enter Tryz.func94, Tryz.ntmps94
  go_wp2_with fail
  refine (devCheck_any W V A B C n c m d k q gs ks cs W' V' A' B' C' n' c' m' d' k' q' gs' ks' cs' _ (HF.out.below H0.out.2.2.2) (HG.out.below H0.out.2.2.2)).mono ?_
  by_cases hbad : checkR (validT W gs V ks cs) (validT W' gs' V' ks' cs') W W' ≠ 0
  · have Hr := hid (show composeR W gs V ks cs W' gs' V' ks' cs' = (0, [], [], [], checkR (validT W gs V ks cs) (validT W' gs' V' ks' cs') W W') by
      unfold composeR checkR
      unfold checkR at hbad
      by_cases h1 : validT W gs V ks cs = false ∨ validT W' gs' V' ks' cs' = false
      · rw [if_pos h1, if_pos h1]
      · rw [if_neg h1, if_neg h1]
        rw [if_neg h1] at hbad
        by_cases h2 : W ≠ W'
        · rw [if_pos h2, if_pos h2]
        · rw [if_neg h2] at hbad; exact absurd rfl hbad)
    generalize checkR (validT W gs V ks cs) (validT W' gs' V' ks' cs') W W' = er at *
    have tt : (er != 0) = true := by simpa using hbad
    clear hbad
    rintro e w1 ⟨rfl, hb1⟩
    have H1 := hid (H0.out.below hb1)
    clear hb1
    obtain ⟨r0, r1, r2, r3, r4⟩ := H1.out.2.2.1.five
    have f0 := H1.out.2.2.1.frozen 0
    have f1 := H1.out.2.2.1.frozen 1
    have f2 := H1.out.2.2.1.frozen 2
    have f3 := H1.out.2.2.1.frozen 3
    have f4 := H1.out.2.2.1.frozen 4
    have hlR := H1.out.2.2.1.lt
    have Fin := hid (RetU.stored (err := er) (c := 0) (d := 0) (q := 0) (cs := []) (C := none) (ArgT.nil w1 none) (ArgT.nil w1 none) (CopT.nil w1 none) H1.out.2.2.2 (by omega) H1.out.2.2.1 (W := 0))
    unfold stored5 at Fin
    go_wp2_with fail
    refine bodyPost_ret (v := .tuple #[.agg #[.int .i64 0, .slice none 0 0, .int .i64 0, .slice none 0 0, .slice none 0 0], .int .i64 er]) (by simp [results, Tryz.results94, go_sem, r0, r1, r2, r3, r4]) rfl ?_
    rw [Hr.out]
    exact Fin.out
  · have hok : checkR (validT W gs V ks cs) (validT W' gs' V' ks' cs') W W' = 0 := by simpa using hbad
    rw [hok]
    have hv1 : validT W gs V ks cs = true := by
      unfold checkR at hok
      cases h : validT W gs V ks cs with
      | true => rfl
      | false => rw [h] at hok; simp at hok
    have hv2 : validT W' gs' V' ks' cs' = true := by
      unfold checkR at hok
      cases h : validT W' gs' V' ks' cs' with
      | true => rfl
      | false => rw [h] at hok; simp at hok
    have hWW : W = W' := by
      unfold checkR at hok
      rw [hv1, hv2] at hok
      by_cases h : W = W'
      · exact h
      · simp [h] at hok
    clear hok hbad
    subst hWW
    obtain ⟨h1, h2, h3, h4, h5⟩ := validT_iff hv1
    obtain ⟨g1, g2, g3, g4, g5⟩ := validT_iff hv2
    subst h3
    subst g3
    have hin1 := inW_of_ok h5
    have hin2 := inW_of_ok g5
    have Hr := hid (show composeR W gs W ks cs W gs' W ks' cs' = cnR W.toNat (valR gs' gs (folB W ks' cs') W.toNat) (orR W.toNat ks ks') (chnL W ks W ks' cs cs') by unfold composeR; rw [if_neg (by simp [hv1, hv2]), if_neg (by simp)])
    obtain ⟨v, rfl⟩ := Int.eq_ofNat_of_zero_le (Bs.validB_iff.1 h1).1
    have hv256 : v ≤ 256 := by have := (Bs.validB_iff.1 h1).2.1; omega
    have hfg := fit_of_valid' h1 HF.out.gen
    have hfk := fit_of_valid' h2 HF.out.kill
    have hfg' := fit_of_valid' g1 HG.out.gen
    have hfk' := fit_of_valid' g2 HG.out.kill
    have hk4 : k ≤ 64 := by rw [HF.out.cops.len] at h4; exact h4
    have hk4' : k' ≤ 64 := by rw [HG.out.cops.len] at g4; exact g4
    rw [Int.toNat_natCast] at Hr
    have Hin := hid (show ∀ p ∈ chnL v ks v ks' cs cs', inW v p = true from chnL_inW hin1 hin2)
    have Hlen := hid (show (chnL v ks v ks' cs cs').length ≤ 5000 from chnL_len (by rw [HF.out.cops.len]; exact hk4) (by rw [HG.out.cops.len]; exact hk4'))
    have Happ := hid (show applyR v gs' v ks' cs' v gs = ((v : Int), valR gs' gs (folB v ks' cs') v, 0) by unfold applyR; rw [if_neg (by simp [hv2, h1]), if_neg (by simp), Int.toNat_natCast])
    have Hfg := hid hfg; have Hfk := hid hfk; have Hfg' := hid hfg'; have Hfk' := hid hfk'
    clear h1 h2 h4 h5 g1 g2 g4 g5 hin1 hin2 hfg hfk hfg' hfk' hv1 hv2
    rintro e w1 ⟨rfl, hb1⟩
    have H1 := hid (H0.out.below hb1)
    clear hb1
    obtain ⟨t0, t1, t2, t3, t4⟩ := H1.out.1.five
    obtain ⟨s0, s1, s2, s3, s4⟩ := H1.out.2.1.five
    go_wp2_with fail
    refine (devApply_any v v v A' B' C' A n' c' m' d' k' q' n c gs' ks' gs cs' _ (HG.out.gen.below H1.out.2.2.2) (HG.out.kill.below H1.out.2.2.2) (HG.out.cops.below H1.out.2.2.2) (HF.out.gen.below H1.out.2.2.2)).mono ?_
    rw [Happ.out]
    rintro e w2 ⟨A2, n2, c2, rfl, ha2, hb2⟩
    have hb2' := hb2.alloc hb2.size (.cells #[.int .i64 v, .slice A2 n2 c2] 24)
    have H2 := hid (H1.out.below hb2')
    have HA2 := hid (ha2.alloc (.cells #[.int .i64 v, .slice A2 n2 c2] 24))
    have HB2 := hid (Box.new w2 v A2 n2 c2)
    clear ha2 hb2 hb2' t0 t1 t2 t3 t4 s0 s1 s2 s3 s4
    obtain ⟨t0, t1, t2, t3, t4⟩ := H2.out.1.five
    obtain ⟨s0, s1, s2, s3, s4⟩ := H2.out.2.1.five
    go_wp2_with fail
    generalize w2.alloc (.cells #[.int .i64 v, .slice A2 n2 c2] 24) = w3 at *
    generalize w2.heap.size = b3 at *
    refine (devUnion_any v v B B' m d m' d' ks ks' _ (HF.out.kill.below H2.out.2.2.2) (HG.out.kill.below H2.out.2.2.2)).mono ?_
    rw [mixR_or hv256 Hfk.out Hfk'.out]
    rintro e w4 ⟨A4, n4, c4, rfl, ha4, hb4⟩
    have hb4' := hb4.alloc hb4.size (.cells #[.int .i64 v, .slice A4 n4 c4] 24)
    have H5 := hid (H2.out.below hb4')
    have HA5 := hid (HA2.out.below hb4')
    have HB5 := hid (HB2.out.below hb4' HB2.out.lt)
    have HK5 := hid (ha4.alloc (.cells #[.int .i64 v, .slice A4 n4 c4] 24))
    have HC5 := hid (Box.new w4 v A4 n4 c4)
    have hne3 : b3 ≠ w.heap.size + 2 := by
      intro e
      have x1 := HB2.out
      have x2 := H2.out.2.2.1
      rw [e] at x1
      unfold Box at x1
      unfold Fb at x2
      rw [x1] at x2
      cases x2
    have hne4 : w4.heap.size ≠ w.heap.size + 2 := by
      intro e
      have x1 := HC5.out
      have x2 := H5.out.2.2.1
      rw [e] at x1
      unfold Box at x1
      unfold Fb at x2
      rw [x1] at x2
      cases x2
    clear ha4 hb4 hb4' t0 t1 t2 t3 t4 s0 s1 s2 s3 s4 H1 H2 HA2 HB2
    go_upto_region 6 with fail
    generalize w4.alloc (.cells #[.int .i64 v, .slice A4 n4 c4] 24) = w5 at *
    generalize w4.heap.size = b4 at *
    generalize hR : w.heap.size + 1 + 1 = R
    have hR2 : w.heap.size + 2 = R := hR
    have HZ := hid (show Fb w5 R _ 30 from by rw [← hR2]; exact H5.out.2.2.1)
    rw [hR2] at hne3 hne4
    have hRle : w.heap.size ≤ R := by omega
    have hn0 : w.heap.size ≠ R := by omega
    have hn1 : w.heap.size + 1 ≠ R := by omega
    have HnR := hid (And.intro hn0 hn1)
    have hA0 := HA5.out.apart HZ.out zero5
    have hK0 := HK5.out.apart HZ.out zero5
    have hF5 := HF.out.below H5.out.2.2.2
    have hG5 := HG.out.below H5.out.2.2.2
    have hFS := fun (w' : World) (hg : w5.grownBy w' (some R)) => hF5.skip (hF5.gen.apart HZ.out zero5) (hF5.kill.apart HZ.out zero5) (hF5.cops.apart HZ.out zero5c) hg
    have hGS := fun (w' : World) (hg : w5.grownBy w' (some R)) => hG5.skip (hG5.gen.apart HZ.out zero5) (hG5.kill.apart HZ.out zero5) (hG5.cops.apart HZ.out zero5c) hg
    have hK : ∀ w', w5.grownBy w' (some R) → ((fun w' => w5.grownBy w' (some R) ∧ (w'.cell? ⟨b3, 0, none⟩ = some (.int .i64 v) ∧ w'.cell? ⟨b3, 1, none⟩ = some (.slice A2 n2 c2)) ∧ (w'.cell? ⟨b4, 0, none⟩ = some (.int .i64 v) ∧ w'.cell? ⟨b4, 1, none⟩ = some (.slice A4 n4 c4)) ∧ (w'.cell? ⟨w.heap.size, 0, none⟩ = some (.int .i64 v) ∧ w'.cell? ⟨w.heap.size, 1, none⟩ = some (.slice A n c) ∧ w'.cell? ⟨w.heap.size, 2, none⟩ = some (.int .i64 v) ∧ w'.cell? ⟨w.heap.size, 3, none⟩ = some (.slice B m d) ∧ w'.cell? ⟨w.heap.size, 4, none⟩ = some (.slice C k q)) ∧ (w'.cell? ⟨w.heap.size + 1, 0, none⟩ = some (.int .i64 v) ∧ w'.cell? ⟨w.heap.size + 1, 1, none⟩ = some (.slice A' n' c') ∧ w'.cell? ⟨w.heap.size + 1, 2, none⟩ = some (.int .i64 v) ∧ w'.cell? ⟨w.heap.size + 1, 3, none⟩ = some (.slice B' m' d') ∧ w'.cell? ⟨w.heap.size + 1, 4, none⟩ = some (.slice C' k' q'))) w') := fun w' hg =>
      ⟨hg, ⟨(HB5.out.grown hg (some_ne hne3)).c0, (HB5.out.grown hg (some_ne hne3)).c1⟩, ⟨(HC5.out.grown hg (some_ne hne4)).c0, (HC5.out.grown hg (some_ne hne4)).c1⟩, (H5.out.1.grown hg (some_ne hn0)).five, (H5.out.2.1.grown hg (some_ne hn1)).five⟩
    have HK := hid hK
    have HA0 := hid hA0; have HK0 := hid hK0; have HFS := hid hFS; have HGS := hid hGS
    obtain ⟨r, hr⟩ : ∃ r, cnR v (valR gs' gs (folB v ks' cs') v) (orR v ks ks') (chnL v ks v ks' cs cs') = r := ⟨_, rfl⟩
    obtain ⟨W9, gs9, ks9, cs9, er9⟩ := r
    have Hcn := hid hr
    have hz1 : b3 < w5.heap.size := HB5.out.lt
    have hz2 : b4 < w5.heap.size := HC5.out.lt
    have hz3 := HZ.out.lt
    have hz4 : w.heap.size < w5.heap.size := H5.out.1.lt
    have hz5 : w.heap.size + 1 < w5.heap.size := H5.out.2.1.lt
    obtain ⟨p0, p1⟩ := And.intro HB5.out.c0 HB5.out.c1
    obtain ⟨q0, q1⟩ := And.intro HC5.out.c0 HC5.out.c1
    obtain ⟨t0, t1, t2, t3, t4⟩ := H5.out.1.five
    obtain ⟨s0, s1, s2, s3, s4⟩ := H5.out.2.1.five
    clear hR hR2 hn0 hn1 hK hA0 hK0 hF5 hG5 hFS hGS hr
    go_region_held3 (fun w' => w5.grownBy w' (some R) ∧ (w'.cell? ⟨b3, 0, none⟩ = some (.int .i64 v) ∧ w'.cell? ⟨b3, 1, none⟩ = some (.slice A2 n2 c2)) ∧ (w'.cell? ⟨b4, 0, none⟩ = some (.int .i64 v) ∧ w'.cell? ⟨b4, 1, none⟩ = some (.slice A4 n4 c4)) ∧ (w'.cell? ⟨w.heap.size, 0, none⟩ = some (.int .i64 v) ∧ w'.cell? ⟨w.heap.size, 1, none⟩ = some (.slice A n c) ∧ w'.cell? ⟨w.heap.size, 2, none⟩ = some (.int .i64 v) ∧ w'.cell? ⟨w.heap.size, 3, none⟩ = some (.slice B m d) ∧ w'.cell? ⟨w.heap.size, 4, none⟩ = some (.slice C k q)) ∧ (w'.cell? ⟨w.heap.size + 1, 0, none⟩ = some (.int .i64 v) ∧ w'.cell? ⟨w.heap.size + 1, 1, none⟩ = some (.slice A' n' c') ∧ w'.cell? ⟨w.heap.size + 1, 2, none⟩ = some (.int .i64 v) ∧ w'.cell? ⟨w.heap.size + 1, 3, none⟩ = some (.slice B' m' d') ∧ w'.cell? ⟨w.heap.size + 1, 4, none⟩ = some (.slice C' k' q')))
      (first
        | (with_reducible exact HK.out _ (grown_drew _ _))
        | (with_reducible exact HK.out _ (grown_set5 Hcur.out _ _ _ _ _))
        | assumption)
      (first
        | (go_at_call 121
           go_must (
           go_split_ands
           refine (chain_any v v A B C n c m d k q gs ks cs v v A' B' C' n' c' m' d' k' q' gs' ks' cs' _ (HFS.out _ (by assumption)) (HGS.out _ (by assumption)) hk4 hk4').mono ?_
           rintro e wn ⟨Cc, qc, rfl, hcc, hbk⟩
           have hbl := below_step (W := w5) (by first | exact (Below.refl _ _).drew | exact Below.refl _ _) hbk
           have Hbl := hid hbl
           have hcur := grown_of_below hbl (some R)
           have hS := HK.out _ hcur
           have Hcur := hid hcur
           have Hcc := hid hcc
           clear hbk hcc hbl))
        | (go_at_call 114
           go_must (
           go_split_ands
           refine (devCanonicalT v A2 A4 Cc n2 c2 n4 c4 (chnL v ks v ks' cs cs').length qc (valR gs' gs (folB v ks' cs') v) (orR v ks ks') (chnL v ks v ks' cs cs') _ (HA5.out.skip HA0.out (by assumption)) (HK5.out.skip HK0.out (by assumption)) Hcc.out hv256 (fit_valR _ _ _ _) (fit_orR _ _ _) Hin.out Hlen.out).mono ?_
           rintro e wn2 hcan
           have hval := hcan.val
           rw [Hcn.out] at hval
           obtain ⟨A9, n9, c9, B9, m9, d9, C9, q9, rfl, hA9, hB9, hC9, hbk⟩ := hval
           have hbl := below_step (W := w5) Hbl.out hbk
           have hcur := grown_of_below hbl (some R)
           have hS := HK.out _ hcur
           have Hcur := hid hcur
           have Hz9 := hid (HZ.out.below hbl HZ.out.lt)
           obtain ⟨r0, r1, r2, r3, r4⟩ := Hz9.out.five
           have f0 := Hz9.out.frozen 0
           have f1 := Hz9.out.frozen 1
           have f2 := Hz9.out.frozen 2
           have f3 := Hz9.out.frozen 3
           have f4 := Hz9.out.frozen 4
           have hlR := Hz9.out.lt
           have Fin := hid (RetU.stored (w := w) (err := er9) (c := c9) (d := d9) (q := q9) (W := W9) hA9 hB9 hC9 (H5.out.2.2.2.trans (hbl.mono H5.out.2.2.2.size)) hRle Hz9.out)
           unfold stored5 at Fin
           clear hbk hA9 hB9 hC9 hcan)))
    all_goals go_wp2_with fail
    all_goals refine bodyPost_ret (v := .tuple #[.agg #[.int .i64 W9, .slice A9 n9 c9, .int .i64 W9, .slice B9 m9 d9, .slice C9 cs9.length q9], .int .i64 er9]) (by simp [results, Tryz.results94, go_sem, r0, r1, r2, r3, r4]) rfl ?_
    all_goals rw [Hr.out, Hcn.out]
    all_goals exact Fin.out
end Go.Proofs.YtbjaebbmajhjjaaGreat
namespace Go.Proofs.YtbjaebbmajhjjaaGreat
set_option maxRecDepth 20000
set_option linter.unusedVariables false
set_option linter.unusedSimpArgs false
open Go.ChangeShapes Go.WideShapes Go.ChangeAt Go.RowKit
set_option maxHeartbeats 1600000 in
theorem devSquareT (v : Nat) (G : List Nat) : ∀ (N : Nat) (cs : List (Int × Int)) (_ : SqI v G cs) (_ : cs.length ≤ 64) (_ : 65 ≤ cs.length + N) (A B C : Option Addr) (n c m d k q : Nat) (w : World) (_ : FArg w A n B m C k G G cs),
    Calls Tryz.prog 116 #[.agg #[.int .i64 v, .slice A n c, .int .i64 v, .slice B m d, .slice C k q]] w (RetRU w (sqN v G N cs)) := by
  intro N
  induction N with
  | zero => intro cs hI hl hN; omega
  | succ N ih =>
    intro cs hI hl hN A B C n c m d k q w hF
    have HI := hid hI; have HF := hid hF; have IH := hid ih; have HN := hid hN
    have Hc := hid (hI.compose hl)
    have H0 := hid (TwoT.start w v v A B C n c m d k q 0 0 none none none 0 0 0 0 0 0)
    clear hI hl hN hF ih
    go_enter Tryz.func116, Tryz.ntmps116
    go_wp2_with fail
    generalize (w.alloc (.cells #[.int .i64 v, .slice A n c, .int .i64 v, .slice B m d, .slice C k q] 30)).alloc (.cells #[.int .i64 0, .slice none 0 0, .int .i64 0, .slice none 0 0, .slice none 0 0] 30) = w1 at *
    refine (devComposeT v v A B C n c m d k q G G cs v v A B C n c m d k q G G cs _ (HF.out.below H0.out.2.2) (HF.out.below H0.out.2.2)).mono ?_
    rw [Hc.out]
    by_cases h64 : (sqC v G cs).length ≤ 64
    · rw [if_pos h64]
      have Hs := hid (show sqN v G (N + 1) cs = if sqC v G cs = cs then ((v : Int), G, G, cs, 0) else sqN v G N (sqC v G cs) by rw [sqN_succ, if_neg (by omega)])
      rintro e w2 ⟨A2, n2, c2, B2, m2, d2, C2, q2, rfl, hA2, hB2, hC2, hb2⟩
      have ha2 : ArgT w2 A2 n2 G := hA2
      have ha3 : ArgT w2 B2 m2 G := hB2
      have ha4 : CopT w2 C2 (sqC v G cs).length (sqC v G cs) := hC2
      have hb2' := hb2.alloc hb2.size (.cells #[.int .i64 v, .slice A2 n2 c2, .int .i64 v, .slice B2 m2 d2, .slice C2 (sqC v G cs).length q2] 30)
      have H2 := hid (H0.out.below hb2')
      have HF2 := hid (FArgT.alloc ⟨ha2, ha3, ha4⟩ (.cells #[.int .i64 v, .slice A2 n2 c2, .int .i64 v, .slice B2 m2 d2, .slice C2 (sqC v G cs).length q2] 30))
      have HF1 := hid (HF.out.below H2.out.2.2)
      have HB := hid (Fb.new w2 #[.int .i64 v, .slice A2 n2 c2, .int .i64 v, .slice B2 m2 d2, .slice C2 (sqC v G cs).length q2] 30)
      have HI2 := hid HI.out.next
      have Hm := hid HI.out.more
      have H64 := hid h64
      generalize sqC v G cs = ds at *
      generalize hk2 : ds.length = k2 at *
      have Hk2 := hid hk2
      clear hA2 hB2 hC2 ha2 ha3 ha4 hb2 hb2' H0 Hc h64 hk2
      obtain ⟨t0, t1, t2, t3, t4⟩ := HB.out.five
      obtain ⟨s0, s1, s2, s3, s4⟩ := H2.out.1.five
      have hlb := HB.out.lt
      have Heq := hid (show equal2 v G v G ds v G v G cs = decide (ds = cs) by unfold equal2 equalB sameB; rw [Bs.valid_of_fit HI.out.fit HI.out.wid]; simp)
      have HM := hid (And.intro (fit_max HI.out.fit HI.out.wid HF2.out.gen.arg.len) (fit_max HI.out.fit HI.out.wid HF2.out.kill.arg.len))
      go_upto_region 2 with fail
      generalize w2.alloc (.cells #[.int .i64 v, .slice A2 n2 c2, .int .i64 v, .slice B2 m2 d2, .slice C2 k2 q2] 30) = w3 at *
      generalize w2.heap.size = b3 at *
      go_wp2_with fail
      refine (devEqual2_any v v A2 B2 C2 n2 c2 m2 d2 k2 q2 G G ds v v A B C n c m d k q G G cs _ HF2.out.farg HF1.out HM.out.1 HM.out.2 (by have := H64.out; omega)).mono ?_
      rw [Heq.out]
      rintro e w4 ⟨rfl, hb4⟩
      have H4 := hid (H2.out.below hb4)
      have HF4 := hid (HF2.out.below hb4)
      have HB4 := hid (HB.out.below hb4 HB.out.lt)
      clear t0 t1 t2 t3 t4 s0 s1 s2 s3 s4 hlb hb4 H2 HF2 HF1 HB
      obtain ⟨t0, t1, t2, t3, t4⟩ := HB4.out.five
      have hlb := HB4.out.lt
      obtain ⟨r0, r1, r2, r3, r4⟩ := H4.out.2.1.five
      have f0 := H4.out.2.1.frozen 0
      have f1 := H4.out.2.1.frozen 1
      have f2 := H4.out.2.1.frozen 2
      have f3 := H4.out.2.1.frozen 3
      have f4 := H4.out.2.1.frozen 4
      have hlR := H4.out.2.1.lt
      by_cases he : ds = cs
      · rw [decide_eq_true he]
        have Hr := hid (show sqN v G (N + 1) cs = ((v : Int), G, G, ds, 0) by rw [Hs.out, if_pos he, he])
        have hk2 := Hk2.out
        subst hk2
        have Fin := hid (RetU.stored (w := w) (err := 0) (c := c2) (d := d2) (q := q2) (W := v) HF4.out.gen HF4.out.kill HF4.out.cops H4.out.2.2 (by omega) H4.out.2.1)
        unfold stored5 at Fin
        clear he
        go_wp2_with fail
        refine bodyPost_ret (v := .tuple #[.agg #[.int .i64 v, .slice A2 n2 c2, .int .i64 v, .slice B2 m2 d2, .slice C2 ds.length q2], .int .i64 0]) (by simp [results, Tryz.results116, go_sem, r0, r1, r2, r3, r4]) rfl ?_
        rw [Hr.out]
        exact Fin.out
      · rw [decide_eq_false he]
        have Hr := hid (show sqN v G (N + 1) cs = sqN v G N ds by rw [Hs.out, if_neg he])
        have hlen := Hm.out he
        clear f0 f1 f2 f3 f4 r0 r1 r2 r3 r4
        go_wp2_with fail
        refine (IH.out ds HI2.out (by have := H64.out; have := Hk2.out; omega) (by have := HN.out; have := Hk2.out; omega) A2 B2 C2 n2 c2 m2 d2 k2 q2 _ HF4.out.farg).mono ?_
        obtain ⟨r, hrr⟩ : ∃ r, sqN v G N ds = r := ⟨_, rfl⟩
        obtain ⟨W9, gs9, ks9, cs9, er9⟩ := r
        rw [hrr]
        have Hrr := hid hrr
        rintro e w5 ⟨A9, n9, c9, B9, m9, d9, C9, q9, rfl, hA9, hB9, hC9, hbk⟩
        have H5 := hid (H4.out.below hbk)
        obtain ⟨r0, r1, r2, r3, r4⟩ := H5.out.2.1.five
        have f0 := H5.out.2.1.frozen 0
        have f1 := H5.out.2.1.frozen 1
        have f2 := H5.out.2.1.frozen 2
        have f3 := H5.out.2.1.frozen 3
        have f4 := H5.out.2.1.frozen 4
        have hlR := H5.out.2.1.lt
        have Fin := hid (RetU.stored (w := w) (err := er9) (c := c9) (d := d9) (q := q9) (W := W9) hA9 hB9 hC9 H5.out.2.2 (by omega) H5.out.2.1)
        unfold stored5 at Fin
        clear hbk hA9 hB9 hC9 hrr t0 t1 t2 t3 t4 he hlen
        go_wp2_with fail
        refine bodyPost_ret (v := .tuple #[.agg #[.int .i64 W9, .slice A9 n9 c9, .int .i64 W9, .slice B9 m9 d9, .slice C9 cs9.length q9], .int .i64 er9]) (by simp [results, Tryz.results116, go_sem, r0, r1, r2, r3, r4]) rfl ?_
        rw [Hr.out, Hrr.out]
        exact Fin.out
    · rw [if_neg h64]
      have Hr := hid (show sqN v G (N + 1) cs = (0, [], [], [], 7) by rw [sqN_succ, if_pos (by omega)])
      rintro e w2 ⟨A2, n2, c2, B2, m2, d2, C2, q2, rfl, hA2, hB2, hC2, hb2⟩
      have hb2' := hb2.alloc hb2.size (.cells #[.int .i64 0, .slice A2 n2 c2, .int .i64 0, .slice B2 m2 d2, .slice C2 0 q2] 30)
      have H2 := hid (H0.out.below hb2')
      have HF2 := hid (FArgT.alloc ⟨hA2, hB2, hC2⟩ (.cells #[.int .i64 0, .slice A2 n2 c2, .int .i64 0, .slice B2 m2 d2, .slice C2 0 q2] 30))
      have HB := hid (Fb.new w2 #[.int .i64 0, .slice A2 n2 c2, .int .i64 0, .slice B2 m2 d2, .slice C2 0 q2] 30)
      clear hA2 hB2 hC2 hb2 hb2' H0 Hc h64
      obtain ⟨t0, t1, t2, t3, t4⟩ := HB.out.five
      have hlb := HB.out.lt
      obtain ⟨r0, r1, r2, r3, r4⟩ := H2.out.2.1.five
      have f0 := H2.out.2.1.frozen 0
      have f1 := H2.out.2.1.frozen 1
      have f2 := H2.out.2.1.frozen 2
      have f3 := H2.out.2.1.frozen 3
      have f4 := H2.out.2.1.frozen 4
      have hlR := H2.out.2.1.lt
      have Fin := hid (RetU.stored (w := w) (err := 7) (c := c2) (d := d2) (q := q2) (W := 0) HF2.out.gen HF2.out.kill HF2.out.cops H2.out.2.2 (by omega) H2.out.2.1)
      unfold stored5 at Fin
      go_wp2_with fail
      refine bodyPost_ret (v := .tuple #[.agg #[.int .i64 0, .slice A2 n2 c2, .int .i64 0, .slice B2 m2 d2, .slice C2 0 q2], .int .i64 7]) (by simp [results, Tryz.results116, go_sem, r0, r1, r2, r3, r4]) rfl ?_
      rw [Hr.out]
      exact Fin.out
end Go.Proofs.YtbjaebbmajhjjaaGreat
namespace Go.Proofs.YtbjaebbmajhjjaaGreat
set_option maxRecDepth 20000
open Go.ChangeShapes Go.WideShapes Go.ChangeAt Go.RowKit
end Go.Proofs.YtbjaebbmajhjjaaGreat
namespace Go.Proofs.YtbjaebbmajhjjaaGreat
set_option maxRecDepth 20000
set_option linter.unusedVariables false
set_option linter.unusedSimpArgs false
open Go.ChangeShapes Go.WideShapes Go.ChangeAt Go.RowKit
set_option maxHeartbeats 3200000 in
theorem devStarT (W V : Int) (A B C : Option Addr) (n c m d k q : Nat) (gs ks : List Nat) (cs : List (Int × Int)) (w : World) (hF : FArg w A n B m C k gs ks cs) :
    Calls Tryz.prog 91 #[.agg #[.int .i64 W, .slice A n c, .int .i64 V, .slice B m d, .slice C k q]] w (RetRU w (starR W gs V ks cs)) := by
  have HF := hid hF
  have H0 := hid (TwoT.start w W V A B C n c m d k q 0 0 none none none 0 0 0 0 0 0)
  clear hF
  go_enter Tryz.func91, Tryz.ntmps91
  go_wp2_with fail
  generalize (w.alloc (.cells #[.int .i64 W, .slice A n c, .int .i64 V, .slice B m d, .slice C k q] 30)).alloc (.cells #[.int .i64 0, .slice none 0 0, .int .i64 0, .slice none 0 0, .slice none 0 0] 30) = w1 at *
  refine (devValidT_any W V A B C n c m d k q gs ks cs _ (HF.out.gen.below H0.out.2.2) (HF.out.kill.below H0.out.2.2) (HF.out.cops.below H0.out.2.2)).mono ?_
  cases hv : validT W gs V ks cs with
  | false =>
    have Hr := hid (show starR W gs V ks cs = (0, [], [], [], 1) by unfold starR; rw [if_pos hv])
    clear hv
    rintro e w2 ⟨rfl, hb2⟩
    have H2 := hid (H0.out.below hb2)
    clear hb2 H0
    obtain ⟨r0, r1, r2, r3, r4⟩ := H2.out.2.1.five
    have f0 := H2.out.2.1.frozen 0
    have f1 := H2.out.2.1.frozen 1
    have f2 := H2.out.2.1.frozen 2
    have f3 := H2.out.2.1.frozen 3
    have f4 := H2.out.2.1.frozen 4
    have hlR := H2.out.2.1.lt
    have Fin := hid (RetU.stored (w := w) (err := 1) (c := 0) (d := 0) (q := 0) (cs := []) (C := none) (ArgT.nil w2 none) (ArgT.nil w2 none) (CopT.nil w2 none) H2.out.2.2 (by omega) H2.out.2.1 (W := 0))
    unfold stored5 at Fin
    go_wp2_with fail
    refine bodyPost_ret (v := .tuple #[.agg #[.int .i64 0, .slice none 0 0, .int .i64 0, .slice none 0 0, .slice none 0 0], .int .i64 1]) (by simp [results, Tryz.results91, go_sem, r0, r1, r2, r3, r4]) rfl ?_
    rw [Hr.out]
    exact Fin.out
  | true =>
    obtain ⟨h1, h2, h3, h4, h5⟩ := validT_iff hv
    subst h3
    have hin := inW_of_ok h5
    have Hr := hid (show starR W gs W ks cs = sqN W.toNat (strG W.toNat gs ks cs) 65 (strC W.toNat gs ks cs) by unfold starR; rw [if_neg (by simp [hv])])
    obtain ⟨v, rfl⟩ := Int.eq_ofNat_of_zero_le (Bs.validB_iff.1 h1).1
    have hv256 : v ≤ 256 := by have := (Bs.validB_iff.1 h1).2.1; omega
    have hfg := fit_of_valid' h1 HF.out.gen
    rw [Int.toNat_natCast] at Hr
    have Hstart := hid (str_start (ks := ks) hfg hv256 hin)
    have Hcan := hid (str_canon (ks := ks) hfg h4)
    have HG := hid (show lst v gs (folB v ks cs) = strG v gs ks cs from rfl)
    have Hlen := hid (str_len (v := v) (gs := gs) (ks := ks) h4)
    have Hin := hid hin
    have Hv := hid hv
    have Hk := hid (show k ≤ 5000 by have := HF.out.cops.len; omega)
    have Hfe := hid (show emptyR v = ((v : Int), Bs.emp v, 0) by unfold emptyR; rw [if_neg (by omega), Int.toNat_natCast])
    clear h1 h2 h4 h5 hin hfg hv
    rintro e w2 ⟨rfl, hb2⟩
    have H2 := hid (H0.out.below hb2)
    clear hb2 H0
    obtain ⟨t0, t1, t2, t3, t4⟩ := H2.out.1.five
    go_wp2_with fail
    refine (devEmpty_any v _).mono ?_
    rw [Hfe.out]
    rintro e w3 ⟨A2, n2, c2, rfl, ha2, hb2⟩
    have hb2' := hb2.alloc hb2.size (.cells #[.int .i64 v, .slice A2 n2 c2] 24)
    have H5 := hid (H2.out.below hb2')
    have HA5 := hid (show Arg _ A2 n2 (Bs.emp v) from ha2.alloc (.cells #[.int .i64 v, .slice A2 n2 c2] 24))
    have HB5 := hid (Box.new w3 v A2 n2 c2)
    clear ha2 hb2 hb2' t0 t1 t2 t3 t4 H2
    go_upto_region 4 with fail
    generalize w3.alloc (.cells #[.int .i64 v, .slice A2 n2 c2] 24) = w5 at *
    generalize w3.heap.size = b3 at *
    generalize hG : strG v gs ks cs = G at *
    generalize hD : strC v gs ks cs = ds at *
    have HF5 := hid (HF.out.below H5.out.2.2)
    have hK : ∀ w', Below w5.heap.size w5 w' → ((fun w' => Below w5.heap.size w5 w' ∧ (w'.cell? ⟨b3, 0, none⟩ = some (.int .i64 v) ∧ w'.cell? ⟨b3, 1, none⟩ = some (.slice A2 n2 c2)) ∧ (w'.cell? ⟨w.heap.size, 0, none⟩ = some (.int .i64 v) ∧ w'.cell? ⟨w.heap.size, 1, none⟩ = some (.slice A n c) ∧ w'.cell? ⟨w.heap.size, 2, none⟩ = some (.int .i64 v) ∧ w'.cell? ⟨w.heap.size, 3, none⟩ = some (.slice B m d) ∧ w'.cell? ⟨w.heap.size, 4, none⟩ = some (.slice C k q))) w') := fun w' hb' =>
      ⟨hb', ⟨(HB5.out.below hb' HB5.out.lt).c0, (HB5.out.below hb' HB5.out.lt).c1⟩, (H5.out.1.below hb' H5.out.1.lt).five⟩
    have HK := hid hK
    have hz1 : b3 < w5.heap.size := HB5.out.lt
    have hz4 : w.heap.size < w5.heap.size := H5.out.1.lt
    obtain ⟨p0, p1⟩ := And.intro HB5.out.c0 HB5.out.c1
    obtain ⟨t0, t1, t2, t3, t4⟩ := H5.out.1.five
    clear hK hG hD
    go_cut [6, 7] (fun sa sb wc => ∃ (b : Nat) (A9 : Option Addr) (n9 c9 : Nat) (B9 : Option Addr) (m9 d9 : Nat) (C9 : Option Addr) (q9 : Nat), sa = .pointer (some ⟨b, 0, none⟩) ∧ sb = .int .i64 0 ∧ Hid (StarAt w5 v G G ds wc b A9 n9 c9 B9 m9 d9 C9 q9))
    case first =>
      go_region_held3 (fun w' => Below w5.heap.size w5 w' ∧ (w'.cell? ⟨b3, 0, none⟩ = some (.int .i64 v) ∧ w'.cell? ⟨b3, 1, none⟩ = some (.slice A2 n2 c2)) ∧ (w'.cell? ⟨w.heap.size, 0, none⟩ = some (.int .i64 v) ∧ w'.cell? ⟨w.heap.size, 1, none⟩ = some (.slice A n c) ∧ w'.cell? ⟨w.heap.size, 2, none⟩ = some (.int .i64 v) ∧ w'.cell? ⟨w.heap.size, 3, none⟩ = some (.slice B m d) ∧ w'.cell? ⟨w.heap.size, 4, none⟩ = some (.slice C k q)))
        (first | (with_reducible exact HK.out _ (Below.refl _ _).drew) | (with_reducible exact HK.out _ (((Below.refl _ _).alloc (Nat.le_refl _) _).drew)) | (with_reducible exact HK.out _ ((‹Below w5.heap.size w5 _›).alloc (‹Below w5.heap.size w5 _›).size _)) | (with_reducible exact HK.out _ (Hcur.out.alloc Hcur.out.size _)) | (with_reducible exact HK.out _ (HX.out.stored Hcur.out _ _ _ _ _)) | assumption)
        (first
          | (go_at_call 115
             go_must (
             go_split_ands
             refine (devLeast_any v A B C n c m d k q gs ks cs _ (HF5.out.below (by assumption)) Hv.out).mono ?_
             rw [HG.out]
             rintro e wn ⟨Al, nl, cl, rfl, hAl, hbk⟩
             have hcur := below_step (W := w5) (by assumption) hbk
             have hS := HK.out _ hcur
             try (first | (have HX := (by with_reducible exact hid (Fresh5.mkD hbk))) | (have HX := (by with_reducible exact hid (Fresh5.mk (by assumption) hbk))))
             clear hbk))
          | (go_at_call 114
             go_must (
             go_split_ands
             refine (devCanonical_any v Al A2 C nl cl n2 c2 k q G (Bs.emp v) cs _ (by first | exact hAl | exact hAl.alloc _) (HA5.out.below (by assumption)) (HF5.out.cops.below (by assumption)) hv256 Hstart.out.fit (Bs.fit_emp v) Hin.out Hk.out).mono ?_
             rintro e wn2 hcan
             have hval := hcan.val
             rw [Hcan.out] at hval
             obtain ⟨A9, n9, c9, B9, m9, d9, C9, q9, rfl, hA9, hB9, hC9, hbk⟩ := hval
             have hcur := below_step (W := w5) (by assumption) hbk
             have hS := HK.out _ hcur
             have Hcur := hid hcur
             have HA9 := hid (show Arg wn2 A9 n9 G from hA9)
             have HB9 := hid (show Arg wn2 B9 m9 G from hB9)
             have HC9 := hid (show ArgC wn2 C9 ds.length ds from hC9)
             try (first
               | (have HX := hid (HX.out.below hbk)
                  obtain ⟨x0, x1, x2, x3, x4⟩ := HX.out.1.five
                  have y0 := HX.out.1.frozen 0
                  have y1 := HX.out.1.frozen 1
                  have y2 := HX.out.1.frozen 2
                  have y3 := HX.out.1.frozen 3
                  have y4 := HX.out.1.frozen 4)
               | (have HX := (by with_reducible exact hid (Fresh5.mk (by assumption) hbk))
                  obtain ⟨x0, x1, x2, x3, x4⟩ := HX.out.1.five
                  have y0 := HX.out.1.frozen 0
                  have y1 := HX.out.1.frozen 1
                  have y2 := HX.out.1.frozen 2
                  have y3 := HX.out.1.frozen 3
                  have y4 := HX.out.1.frozen 4))
             clear hbk hA9 hB9 hC9 hcan)))
      all_goals go_wp2_with fail
      all_goals go_meet
      all_goals first
        | (have Q := StarAt.fresh (v := v) (c := c9) (d := d9) (q := q9) HX.out HA9.out HB9.out HC9.out Hcur.out
           refine ⟨_, A9, n9, c9, B9, m9, d9, C9, q9, rfl, rfl, ?_⟩
           with_reducible exact hid Q)
        | (have Q := StarAt.new (v := v) (c := c9) (d := d9) (q := q9) HA9.out HB9.out HC9.out Hcur.out
           refine ⟨_, A9, n9, c9, B9, m9, d9, C9, q9, rfl, rfl, ?_⟩
           with_reducible exact hid Q)
    case rest =>
      obtain ⟨b, A9, n9, c9, B9, m9, d9, C9, q9, rfl, rfl, hSt⟩ := hcut
      have H7 := hid (H5.out.below hSt.out.2.2)
      have HS1 := hid hSt.out.1
      have HS2 := hid hSt.out.2.1
      clear t0 t1 t2 t3 t4 p0 p1 HK hSt H5 HF5 HA5 HB5 hz1 hz4
      obtain ⟨x0, x1, x2, x3, x4⟩ := HS1.out.five
      have hlb := HS1.out.lt
      go_wp2_with fail
      refine (devSquareT v G 65 ds Hstart.out Hlen.out (by omega) A9 B9 C9 n9 c9 m9 d9 ds.length q9 _ HS2.out).mono ?_
      obtain ⟨r, hrr⟩ : ∃ r, sqN v G 65 ds = r := ⟨_, rfl⟩
      obtain ⟨W8, gs8, ks8, cs8, er8⟩ := r
      rw [hrr]
      have Hrr := hid hrr
      rintro e w8 ⟨A8, n8, c8, B8, m8, d8, C8, q8, rfl, hA8, hB8, hC8, hbk⟩
      have H8 := hid (H7.out.below hbk)
      obtain ⟨r0, r1, r2, r3, r4⟩ := H8.out.2.1.five
      have f0 := H8.out.2.1.frozen 0
      have f1 := H8.out.2.1.frozen 1
      have f2 := H8.out.2.1.frozen 2
      have f3 := H8.out.2.1.frozen 3
      have f4 := H8.out.2.1.frozen 4
      have hlR := H8.out.2.1.lt
      have Fin := hid (RetU.stored (w := w) (err := er8) (c := c8) (d := d8) (q := q8) (W := W8) hA8 hB8 hC8 H8.out.2.2 (by omega) H8.out.2.1)
      unfold stored5 at Fin
      clear hbk hA8 hB8 hC8 hrr x0 x1 x2 x3 x4
      go_wp2_with fail
      refine bodyPost_ret (v := .tuple #[.agg #[.int .i64 W8, .slice A8 n8 c8, .int .i64 W8, .slice B8 m8 d8, .slice C8 cs8.length q8], .int .i64 er8]) (by simp [results, Tryz.results91, go_sem, r0, r1, r2, r3, r4]) rfl ?_
      rw [Hr.out, Hrr.out]
      exact Fin.out
end Go.Proofs.YtbjaebbmajhjjaaGreat
namespace Go.Proofs.YtbjaebbmajhjjaaGreat
set_option maxRecDepth 20000
set_option linter.unusedVariables false
set_option linter.unusedSimpArgs false
open Go.ChangeShapes Go.WideShapes Go.ChangeAt Go.RowKit
set_option maxHeartbeats 1600000 in
theorem devApply_own (v : Nat) (A B C D : Option Addr) (n c m d k q x y : Nat) (gs ks ss : List Nat) (cs : List (Int × Int)) (w : World)
    (hA : Arg w A n gs) (hB : Arg w B m ks) (hC : ArgC w C k cs) (hD : Arg w D x ss) (hval : validT (v : Int) gs (v : Int) ks cs = true) (hsv : Bs.validB (v : Int) ss = true) :
    Calls Tryz.prog 93 #[.agg #[.int .i64 v, .slice A n c, .int .i64 v, .slice B m d, .slice C k q], .agg #[.int .i64 v, .slice D x y]] w
      (RetOwn w (Bs.nw v) (v, valR gs ss (folB v ks cs) v, 0)) := by
  obtain ⟨i0, hi, hz0, hz1, hz2⟩ := info_parts info3
  have Hi := hid hi; have Hz0 := hid hz0; have Hz1 := hid hz1; have Hz2 := hid hz2
  have HA := hid hA; have HB := hid hB; have HC := hid hC; have HD := hid hD
  have H0 := hid (Applying.start w v v v A B C D n c m d k q x y)
  clear hA hB hC hD hi hz0 hz1 hz2
  go_enter Tryz.func93, Tryz.ntmps93
  go_wp2_with fail
  refine (devValidT_any v v A B C n c m d k q gs ks cs _ (HA.out.below H0.out.2.2.2) (HB.out.below H0.out.2.2.2) (HC.out.below H0.out.2.2.2)).mono ?_
  cases hv : validT (v : Int) gs (v : Int) ks cs with
  | false => exact absurd (hval.symm.trans hv) (by simp)
  | true =>
    have Hv := hid hv
    obtain ⟨h1, h2, h3, h4, h5⟩ := validT_iff hv
    have hk64 : k ≤ 64 := by rw [HC.out.len] at h4; exact h4
    have HK := hid hk64
    have Hin := hid (inW_of_ok h5)
    rintro e w1 ⟨rfl, hb1⟩
    have H1 := hid (H0.out.below hb1)
    clear hb1 hv h4 h5
    obtain ⟨s0, s1⟩ := And.intro H1.out.2.1.c0 H1.out.2.1.c1
    go_wp2_with fail
    refine (devValid_any v D x y ss _ (HD.out.below H1.out.2.2.2)).mono ?_
    clear s0 s1
    cases hs : Bs.validB (v : Int) ss with
    | false => exact absurd (hsv.symm.trans hs) (by simp)
    | true =>
      rintro e w2 ⟨rfl, hb2⟩
      have H2 := hid (H1.out.below hb2)
      have hz2 : w.heap.size + 3 ≤ w2.heap.size := by
        have e1 := H1.out.2.2.1.lt; have e2 := hb2.size; omega
      clear hb2
      obtain ⟨⟨r0, r1⟩, f0, f1⟩ := H2.out.res
      obtain ⟨s0, s1⟩ := And.intro H2.out.2.1.c0 H2.out.2.1.c1
      obtain ⟨t0, t1, t2, t3, t4⟩ := H2.out.1.five
      rcases (Or.inl trivial : True ∨ False) with _ | hff
      · have hfg := Bs.fit_of_valid h1 HA.out.ok
        have hfk := Bs.fit_of_valid h2 HB.out.ok
        have hfs := Bs.fit_of_valid hs HD.out.ok
        have hv256 : v ≤ 256 := by have := (Bs.validB_iff.1 h1).2.1; omega
        rw [Int.toNat_natCast] at hfg hfs hfk
        have Hfg := hid hfg; have Hfs := hid hfs; have Hfk := hid hfk; have Hv2 := hid hv256
        have Hst := hid (show Aiming w v v v A B C D n c m d k q x y (.slice none 0 0) (tgt v ss (cs.take 0)) w2 from ⟨H2.out, World.ownsRow_nil _ _ _ _, hz2⟩)
        clear h1 h2 hs hfg hfs hfk hv256 r0 r1 f0 f1 hz2
        go_wp2_with fail
        clear s0 s1 t0 t1 t2 t3 t4
        go_loopw [6, 8, 34] (fun u _ i wr => ∃ j : Nat, j ≤ k ∧ i = .int .i64 j ∧ Hid (Aiming w v v v A B C D n c m d k q x y u (tgt v ss (cs.take j)) wr)) (fun _ _ i _ => k - (intOf i).toNat)
        case atStart => exact ⟨0, by omega, rfl, Hst⟩
        case round =>
          obtain ⟨j, hj, rfl, hG⟩ := hrel
          clear Hst
          by_cases hlt : j < k
          · have hjl : j < cs.length := by rw [HC.out.len]; exact hlt
            have hget : cs[j]? = some cs[j] := List.getElem?_eq_getElem _
            have hsn := take_snoc cs j hjl
            generalize cs[j] = p at hget hsn
            obtain ⟨p1, p2⟩ := p
            obtain ⟨ad, rfl, had, g1, g2⟩ := (HC.out.below hG.out.1.2.2.2).cell hget
            have Hsn := hid hsn
            have hle := tgt_len v ss (cs.take j)
            rw [List.length_take] at hle
            have hle2 : (tgt (v : Int) ss (cs.take j)).length ≤ 64 := by have := HK.out; omega
            clear hget hsn hle
            have H5 := hid (hG.out.below ((Below.refl _ _).alloc (Nat.le_refl _) (.cells #[.int .i64 p1, .int .i64 p2] 27)))
            have Hbx := hid (Fb.new wr #[.int .i64 p1, .int .i64 p2] 27)
            obtain ⟨s0, s1⟩ := And.intro H5.out.1.2.1.c0 H5.out.1.2.1.c1
            obtain ⟨b0, b1⟩ := Hbx.out.two
            go_wp2_with fail
            clear g1 g2
            generalize wr.alloc (.cells #[.int .i64 p1, .int .i64 p2] 27) = wv at *
            generalize wr.heap.size = gv at *
            refine (devHas_any v D x y ss p1 _ (HD.out.below H5.out.1.2.2.2)).mono ?_
            rintro e w6 ⟨rfl, hb6⟩
            have H6 := hid (H5.out.below hb6)
            have hbx6 := hid (Hbx.out.below hb6 Hbx.out.lt)
            clear s0 s1 b0 b1 hb6
            obtain ⟨b0, b1⟩ := hbx6.out.two
            cases hh : Bs.hasB v ss p1 with
            | false =>
              have Hl := hid (show tgt v ss (cs.take (j + 1)) = tgt v ss (cs.take j) by rw [Hsn.out, tgt_snoc]; simp [hh])
              clear hh
              go_wp2_with fail
              go_roundw
              case rel => exact ⟨j + 1, by omega, by go_num, by rw [Hl.out]; exact H6⟩
              case measure => simp [intOf]; omega
            | true =>
              have Hl := hid (show tgt v ss (cs.take (j + 1)) = tgt v ss (cs.take j) ++ [p2] by rw [Hsn.out, tgt_snoc]; simp [hh])
              clear hh
              have Hle := hid hle2
              go_wp2_with (first
                | (at_builtin
                   refine wpList_append_own _ rfl _ _ 45 rfl (w.heap.size + 3) 3 i0 (.int .i64 0) 1 8 Tryz.underlying45 Hi.out Hz0.out Hz1.out Hz2.out rfl (by decide) _ _ _ rfl (H6.out.2.1.alloc _) ⟨w6.heap.size, 0, none⟩ 1 1 [.int .i64 p2] rfl rfl (new_one _ _ _) (one_int _ _) (by unfold maxLen; omega) (by omega) (by have := H6.out.2.2; rw [World.size_alloc]; omega) ?_
                   intro v' w7 hown7 hgr7 hnil7
                   have H7 := hid (H6.out.push hown7 hgr7)
                   clear hown7 hgr7 hnil7))
              go_roundw
              case rel => exact ⟨j + 1, by omega, by go_num, by rw [Hl.out]; exact H7⟩
              case measure => simp [intOf]; omega
          · have hjk : j = k := by omega
            subst hjk
            have hall : cs.take j = cs := List.take_of_length_le (by rw [HC.out.len]; omega)
            rw [hall] at hG
            have hle := tgt_len v ss cs
            have Hle := hid (show (tgt (v : Int) ss cs).length ≤ maxLen by have := HK.out; have := HC.out.len; unfold maxLen; omega)
            clear hall hle
            obtain ⟨A', c', e', hat, _⟩ := own_slice hG.out.2.1
            subst e'
            have Hat := hid (show IArg wr A' (tgt (v : Int) ss cs).length (tgt v ss cs) from ⟨hat, rfl⟩)
            clear hat
            obtain ⟨s0, s1⟩ := And.intro hG.out.1.2.1.c0 hG.out.1.2.1.c1
            obtain ⟨t0, t1, t2, t3, t4⟩ := hG.out.1.1.five
            go_wp2_with fail
            refine (devDiff_any v v D B x y m d ss ks _ (HD.out.below hG.out.1.2.2.2) (HB.out.below hG.out.1.2.2.2)).mono ?_
            rw [mixR_ok _ Hv2.out Hfs.out Hfk.out]
            generalize hS1 : Bs.ofP v (fun i => flag true false false (Bs.bit ss i) (Bs.bit ks i)) v = z1
            have Hz1f := hid (show Bs.Fit v z1 by rw [← hS1]; exact Bs.fit_ofP _ _ _ (Nat.le_refl _))
            have HS1 := hid hS1
            rintro e wd1 ⟨A1, n1, c1, rfl, ha1, hb1⟩
            have HG1 := hid (hG.out.below hb1)
            have Hat1 := hid (Hat.out.below hb1)
            have Ha1 := hid ha1
            clear ha1 hb1 s0 s1 t0 t1 t2 t3 t4 Hat hS1 hG
            have HG2 := hid (HG1.out.below ((Below.refl _ _).alloc (Nat.le_refl _) (.cells #[.int .i64 (v : Int), .slice A1 n1 c1] 24)))
            have Hat2 := hid (Hat1.out.alloc (.cells #[.int .i64 (v : Int), .slice A1 n1 c1] 24))
            have Ha2 := hid (Ha1.out.alloc (.cells #[.int .i64 (v : Int), .slice A1 n1 c1] 24))
            have HB1 := hid (Box.new wd1 (v : Int) A1 n1 c1)
            obtain ⟨s0, s1⟩ := And.intro HG2.out.1.2.1.c0 HG2.out.1.2.1.c1
            go_wp2_with fail
            clear HG1 Hat1 Ha1
            generalize wd1.alloc (.cells #[.int .i64 (v : Int), .slice A1 n1 c1] 24) = wd2 at *
            generalize wd1.heap.size = b1 at *
            refine (devOf_any v A' _ c' (tgt (v : Int) ss cs) _ Hat2.out Hle.out).mono ?_
            rw [tgt_of Hv2.out Hin.out]
            generalize hS2 : Bs.ofP v (fun i => decide ((i : Int) ∈ tgt v ss cs)) v = z2
            have Hz2f := hid (show Bs.Fit v z2 by rw [← hS2]; exact Bs.fit_ofP _ _ _ (Nat.le_refl _))
            have HS2 := hid hS2
            rintro e wd3 ⟨A2, n2, c2, rfl, ha2, hb2⟩
            have HG3 := hid (HG2.out.below hb2)
            have Ha3 := hid (Ha2.out.below hb2)
            have HB3 := hid (HB1.out.below hb2 HB1.out.lt)
            have Hb2 := hid ha2
            clear ha2 hb2 s0 s1 hS2 Hat2 Ha2 HB1 HG2
            have HG4 := hid (HG3.out.below ((Below.refl _ _).alloc (Nat.le_refl _) (.cells #[.int .i64 (v : Int), .slice A2 n2 c2] 24)))
            have Ha4 := hid (Ha3.out.alloc (.cells #[.int .i64 (v : Int), .slice A2 n2 c2] 24))
            have Hb4 := hid (Hb2.out.alloc (.cells #[.int .i64 (v : Int), .slice A2 n2 c2] 24))
            have HB4 := hid (HB3.out.alloc (.cells #[.int .i64 (v : Int), .slice A2 n2 c2] 24))
            have HC4 := hid (Box.new wd3 (v : Int) A2 n2 c2)
            obtain ⟨p0, p1⟩ := And.intro HB4.out.c0 HB4.out.c1
            obtain ⟨q0, q1⟩ := And.intro HC4.out.c0 HC4.out.c1
            go_wp2_with fail
            clear HG3 Ha3 HB3 Hb2
            generalize wd3.alloc (.cells #[.int .i64 (v : Int), .slice A2 n2 c2] 24) = wd4 at *
            generalize wd3.heap.size = b2 at *
            refine (devUnion_any v v A1 A2 n1 c1 n2 c2 z1 z2 _ Ha4.out Hb4.out).mono ?_
            rw [mixR_or Hv2.out Hz1f.out Hz2f.out]
            generalize hS3 : orR v z1 z2 = z3
            have Hz3f := hid (show Bs.Fit v z3 by rw [← hS3]; exact fit_orR _ _ _)
            have HS3 := hid hS3
            rintro e wd5 ⟨A3, n3, c3, rfl, ha3, hb3⟩
            have HG5 := hid (HG4.out.below hb3)
            have Ha5 := hid ha3
            clear ha3 hb3 hS3 p0 p1 q0 q1 Ha4 Hb4 HB4 HC4 HG4
            have HG6 := hid (HG5.out.below ((Below.refl _ _).alloc (Nat.le_refl _) (.cells #[.int .i64 (v : Int), .slice A3 n3 c3] 24)))
            have Ha6 := hid (Ha5.out.alloc (.cells #[.int .i64 (v : Int), .slice A3 n3 c3] 24))
            have HB6 := hid (Box.new wd5 (v : Int) A3 n3 c3)
            obtain ⟨t0, t1, t2, t3, t4⟩ := HG6.out.1.1.five
            obtain ⟨p0, p1⟩ := And.intro HB6.out.c0 HB6.out.c1
            go_wp2_with fail
            clear HG5 Ha5
            generalize wd5.alloc (.cells #[.int .i64 (v : Int), .slice A3 n3 c3] 24) = wd6 at *
            generalize wd5.heap.size = b3 at *
            refine (devUnion_own v A A3 n c n3 c3 gs z3 _ (HA.out.below HG6.out.1.2.2.2) Ha6.out Hv2.out Hfg.out Hz3f.out).mono ?_
            have hfin := dev_value Hv2.out Hfk.out Hfs.out Hin.out (gs := gs)
            rw [HS1.out, HS2.out, HS3.out] at hfin
            rw [hfin]
            clear hfin
            generalize valR gs ss (folB (v : Int) ks cs) v = z4 at *
            rintro e wd7 ⟨g4, rfl, hr4, hg4, hb4⟩
            have HG7 := hid (HG6.out.1.below hb4)
            have Hr4 := hid hr4
            have hg4' : w.heap.size ≤ g4 := by have := HG6.out.1.2.2.2.size; omega
            have hne := Box.row_ne HG7.out.2.2.1 hr4
            clear hr4 hb4 t0 t1 t2 t3 t4 p0 p1 HG6 Ha6 HB6
            obtain ⟨⟨r0, r1⟩, f0, f1⟩ := HG7.out.res
            go_wp2_with fail
            refine bodyPost_ret (v := .tuple #[.agg #[.int .i64 v, .slice (some ⟨g4, 0, none⟩) (Bs.nw v) (Bs.nw v)], .int .i64 0]) (by simp [results, Tryz.results93, go_sem, r0, r1]) rfl ?_
            exact ⟨g4, rfl, (Hr4.out.far (by exact hne) _).far (by exact hne) _, hg4', HG7.out.stored _ _ _ _⟩
      · exact hff.elim
end Go.Proofs.YtbjaebbmajhjjaaGreat
