/- The walk of TransferFollows: it returns true for every list of choices, and writes new memory only. -/
import Derived.Test.YtkckkodoeepdpaaGo3
import Derived.Test.YtkckkodoeepdpaaDfT
namespace Go.Proofs.Ytkckkodoeepdpaa
set_option maxRecDepth 20000
open Go.ChangeShapes Go.WideShapes Go.ChangeAt Go.RowKit

/-- A bit is in the value of a function exactly if it is generated or follows from a member. -/
theorem value_has {W : Nat} (hW : W ≤ 256) {gs ks ss : List Nat} {cs : List (Int × Int)} (hv : validT W gs W ks cs = true) (hg : Bs.Fit W gs) (hs : Bs.Fit W ss) {b : Nat} (hb : b < W) :
    Bs.hasB W (valR gs ss (folB W ks cs) W) b = (Bs.hasB W gs b || (List.range W).any (fun x => Bs.hasB W ss x && followsB W gs W ks cs x b)) := by
  rw [Bs.hasB_nat (fit_valR _ _ _ _) hW, Bs.hasB_nat hg hW]
  unfold valR
  rw [Bs.bit_ofP _ _ _ (Nat.le_refl _)]
  simp only [hb, decide_true, Bool.true_and]
  congr 1
  apply Bool.eq_iff_iff.2
  simp only [List.any_eq_true, List.mem_range]
  constructor
  · rintro ⟨x, hx, h⟩
    refine ⟨x, hx, ?_⟩
    rw [Bs.hasB_nat hs hW]
    unfold followsB
    rw [hv]
    simp only [Bool.and_eq_true] at h ⊢
    refine ⟨h.1, ⟨trivial, ?_⟩, h.2⟩
    simp; omega
  · rintro ⟨x, hx, h⟩
    refine ⟨x, hx, ?_⟩
    rw [Bs.hasB_nat hs hW] at h
    unfold followsB at h
    simp only [Bool.and_eq_true] at h ⊢
    exact ⟨h.1, h.2.2⟩
theorem apply_ok {W : Nat} {gs ks ss : List Nat} {cs : List (Int × Int)} (hW : W ≤ 256) (hv : validT W gs W ks cs = true) (hs : Bs.Fit W ss) : applyR W gs W ks cs W ss = ((W : Int), valR gs ss (folB W ks cs) W, 0) := by
  unfold applyR
  rw [if_neg (by simp [hv, Bs.valid_of_fit hs hW]), if_neg (by simp), Int.toNat_natCast]
theorem fit_of_arg {W : Nat} {w : World} {A : Option Addr} {n : Nat} {ws : List Nat} (h : Bs.validB W ws = true) (ha : Arg w A n ws) : Bs.Fit W ws := by
  have := Bs.fit_of_valid h ha.ok; rwa [Int.toNat_natCast] at this

set_option maxHeartbeats 3200000 in
theorem lawFollows (At : Option Addr) (nt ct : Nat) (zs : List Int) (w : World) (ht : IArg w At nt zs) (hnt : nt ≤ maxLen) :
    Calls Try.prog 12 #[.slice At nt ct] w fun e w' => e = .returned (.bool true) ∧ Below w.heap.size w w' := by
  have Hinv := hid (show Going w w.heap.size (w.alloc (.cells #[.slice At nt ct, .int .i64 0] 70)) from ⟨tape_new ht hnt, (Below.refl _ _).alloc (Nat.le_refl _) _, Nat.le_refl _⟩)
  clear ht
  go_enter Try.func12, Try.ntmps12
  go_wp2_with (go_at_call 19; refine (new_any At nt ct _).mono ?_; rintro e w1 ⟨rfl, rfl⟩)
  generalize hT : w.heap.size = T at *
  have HT := hid hT
  clear hT
  refine (width_any T _ Hinv.out.1).mono ?_
  rintro e w2 ⟨W, rfl, hW, ht2, hg2⟩
  have H2 := hid (Hinv.out.step ht2 hg2)
  clear ht2 hg2 Hinv
  go_wp2_with fail
  refine (transfer_any T W _ H2.out.1 (by omega)).mono ?_
  rintro e w3 ⟨A, n, c, B, m, d, C, k, q, gs, ks, cs, rfl, hA, hB, hC, hv, h12, ht3, hg3⟩
  have H3 := hid (H2.out.step ht3 hg3)
  have HA := hid hA; have HB := hid hB; have HC := hid hC; have Hv := hid hv
  clear hA hB hC hv h12 ht3 hg3 H2
  go_wp2_with fail
  refine (set_any T W _ H3.out.1 (by omega)).mono ?_
  rintro e w4 ⟨ad, ns, cc, ss, rfl, hfs, hS, ht4, hg4⟩
  have H4 := hid (H3.out.step ht4 hg4)
  have HA4 := hid (HA.out.tape H3.out.1 hg4)
  have HB4 := hid (HB.out.tape H3.out.1 hg4)
  have HC4 := hid (HC.out.tape H3.out.1 hg4)
  have HS := hid hS; have Hfs := hid hfs
  clear hS hfs ht4 hg4 H3 HA HB HC
  have Hb5 := hid ((H4.out.2.1.alloc H4.out.2.1.size (.cells #[.int .i64 W, .slice A n c, .int .i64 W, .slice B m d, .slice C k q] 29)).alloc (by have := H4.out.2.1.size; simp; omega) (.cells #[.int .i64 W, .slice (some ad) ns cc] 24))
  have Hf5 := hid (show VarT _ w4.heap.size W gs ks cs A n c B m d C k q from ⟨(Fb.new w4 #[.int .i64 W, .slice A n c, .int .i64 W, .slice B m d, .slice C k q] 29).alloc (.cells #[.int .i64 W, .slice (some ad) ns cc] 24), (HA4.out.alloc _).alloc _, (HB4.out.alloc _).alloc _, (HC4.out.alloc _).alloc _⟩)
  have Hs5 := hid (show Box _ (w4.heap.size + 1) W (some ad) ns cc from by
    have := Box.new (w4.alloc (.cells #[.int .i64 W, .slice A n c, .int .i64 W, .slice B m d, .slice C k q] 29)) W (some ad) ns cc
    rw [World.size_alloc] at this; exact this)
  have Ha5 := hid ((HS.out.alloc (.cells #[.int .i64 W, .slice A n c, .int .i64 W, .slice B m d, .slice C k q] 29)).alloc (.cells #[.int .i64 W, .slice (some ad) ns cc] 24))
  obtain ⟨t0, t1, t2, t3, t4⟩ := Hf5.out.box.five
  obtain ⟨s0, s1⟩ := And.intro Hs5.out.c0 Hs5.out.c1
  go_wp2_with fail
  generalize (w4.alloc (.cells #[.int .i64 W, .slice A n c, .int .i64 W, .slice B m d, .slice C k q] 29)).alloc (.cells #[.int .i64 W, .slice (some ad) ns cc] 24) = w5 at *
  generalize w4.heap.size = b1 at *
  have Hfg := hid (fit_of_arg (validT_iff Hv.out).1 HA4.out)
  clear HA4 HB4 HC4 HS H4
  refine (devApply_any W W W A B C (some ad) n c m d k q ns cc gs ks ss cs _ Hf5.out.gen Hf5.out.kill Hf5.out.cops Ha5.out).mono ?_
  rw [apply_ok (by omega) Hv.out Hfs.out]
  rintro e w6 ⟨A6, n6, c6, rfl, ha6, hb6⟩
  have hb7 := hb6.alloc hb6.size (.cells #[.int .i64 W, .slice A6 n6 c6] 24)
  have Hf7 := hid (Hf5.out.below hb7)
  have Hs7 := hid (Hs5.out.below hb7 Hs5.out.lt)
  have Ha7 := hid (Ha5.out.below hb7)
  have Hx7 := hid (Box.new w6 W A6 n6 c6)
  have Hax7 := hid (ha6.alloc (.cells #[.int .i64 W, .slice A6 n6 c6] 24))
  have Hb7 := hid (Hb5.out.trans (hb7.mono Hb5.out.size))
  clear ha6 hb6 hb7 Hf5 Hs5 Ha5 Hb5 t0 t1 t2 t3 t4 s0 s1
  go_wp2_with fail
  generalize w6.alloc (.cells #[.int .i64 W, .slice A6 n6 c6] 24) = w7 at *
  generalize w6.heap.size = b2 at *
  go_loopw [9, 10, 11] (fun i _ _ wr => ∃ b : Nat, b ≤ W ∧ i = .int .i64 b ∧ Hid (Below w7.heap.size w7 wr)) (fun i _ _ _ => W - (intOf i).toNat)
  case atStart => exact ⟨0, by omega, rfl, Below.refl _ _⟩
  case round =>
    obtain ⟨b, hb, rfl, hI⟩ := hrel
    by_cases hlt : b < W
    · obtain ⟨t0, t1, t2, t3, t4⟩ := (Hf7.out.box.below hI.out Hf7.out.box.lt).five
      go_wp2_with fail
      refine (devHas_any W A n c gs b _ (Hf7.out.gen.below hI.out)).mono ?_
      rintro e w8 ⟨rfl, hb8⟩
      have H8 := hid (below_step hI.out hb8)
      clear hb8 t0 t1 t2 t3 t4 hI
      have Hfin := hid (value_has (by omega) Hv.out Hfg.out Hfs.out hlt)
      generalize hin0 : Bs.hasB W gs b = in0 at Hfin
      have Hin0 := hid hin0
      clear hin0
      go_wp2_with fail
      go_loopw [10, 11] (fun u i wr => ∃ a : Nat, a ≤ W ∧ i = .int .i64 a ∧ u = .bool (in0 || (List.range a).any (fun x => Bs.hasB W ss x && followsB W gs W ks cs x b)) ∧ Hid (Below w7.heap.size w7 wr)) (fun _ i _ => W - (intOf i).toNat)
      case atStart => exact ⟨0, by omega, rfl, by simp, H8.out⟩
      case round =>
        obtain ⟨a, ha, rfl, rfl, hI⟩ := hrel
        clear H8
        by_cases hla : a < W
        · have hnext : (in0 || (List.range (a + 1)).any (fun x => Bs.hasB W ss x && followsB W gs W ks cs x b)) = ((in0 || (List.range a).any (fun x => Bs.hasB W ss x && followsB W gs W ks cs x b)) || (Bs.hasB W ss a && followsB W gs W ks cs a b)) := by
            rw [any_succ, Bool.or_assoc]
          generalize (in0 || (List.range a).any (fun x => Bs.hasB W ss x && followsB W gs W ks cs x b)) = cur at hnext
          have Hn := hid hnext
          clear hnext
          cases cur with
          | true =>
            go_wp2_with fail
            go_roundw
            case rel => exact ⟨a + 1, by omega, by go_num, by rw [Hn.out]; rfl, hI⟩
            case measure => simp [intOf]; omega
          | false =>
            obtain ⟨s0, s1⟩ := And.intro (Hs7.out.below hI.out Hs7.out.lt).c0 (Hs7.out.below hI.out Hs7.out.lt).c1
            go_wp2_with fail
            refine (devHas_any W (some ad) ns cc ss a _ (Ha7.out.below hI.out)).mono ?_
            cases hh : Bs.hasB W ss a with
            | false =>
              rintro e w9 ⟨rfl, hb9⟩
              have H9 := hid (below_step hI.out hb9)
              have Hn2 := hid (show (in0 || (List.range (a + 1)).any (fun x => Bs.hasB W ss x && followsB W gs W ks cs x b)) = false from Hn.out.trans (by rw [hh]; rfl))
              clear hb9 hh s0 s1
              go_wp2_with fail
              go_roundw
              case rel => exact ⟨a + 1, by omega, by go_num, by rw [Hn2.out], H9.out⟩
              case measure => simp [intOf]; omega
            | true =>
              rintro e w9 ⟨rfl, hb9⟩
              have H9 := hid (below_step hI.out hb9)
              have Hn2 := hid (show (in0 || (List.range (a + 1)).any (fun x => Bs.hasB W ss x && followsB W gs W ks cs x b)) = followsB W gs W ks cs a b from Hn.out.trans (by rw [hh]; rfl))
              clear hb9 hh s0 s1
              obtain ⟨t0, t1, t2, t3, t4⟩ := (Hf7.out.box.below H9.out Hf7.out.box.lt).five
              have hf := Hf7.out.below H9.out
              have Hf := hid hf
              clear hf
              go_wp2_with fail
              refine (devFollowsT_any W W A B C n c m d k q gs ks cs a b _ Hf.out.gen Hf.out.kill Hf.out.cops).mono ?_
              rintro e w10 ⟨rfl, hb10⟩
              have H10 := hid (below_step H9.out hb10)
              clear hb10 t0 t1 t2 t3 t4
              generalize followsB W gs W ks cs a b = r at *
              go_wp2_with fail
              go_roundw
              case rel => exact ⟨a + 1, by omega, by go_num, by rw [Hn2.out], H10.out⟩
              case measure => simp [intOf]; omega
        · have haW : W = a := by omega
          subst haW
          rw [← Hfin.out]
          generalize hr : Bs.hasB W (valR gs ss (folB W ks cs) W) b = r
          have Hr := hid hr
          clear hr ha
          obtain ⟨x0, x1⟩ := And.intro (Hx7.out.below hI.out Hx7.out.lt).c0 (Hx7.out.below hI.out Hx7.out.lt).c1
          go_wp2_with fail
          refine (devHas_any W A6 n6 c6 (valR gs ss (folB W ks cs) W) b _ (Hax7.out.below hI.out)).mono ?_
          rw [Hr.out]
          rintro e w8 ⟨rfl, hb8⟩
          have H8 := hid (below_step hI.out hb8)
          have t : (r != r) = false := by simp
          clear hb8 x0 x1
          go_wp2_with fail
          go_roundw
          case rel => exact ⟨b + 1, by omega, by go_num, H8⟩
          case measure => simp [intOf]; omega
    · have hbW : W = b := by omega
      subst hbW
      go_wp2_with fail
      refine (sane_any _).mono ?_
      rintro e w8 ⟨rfl, hb8⟩
      have H8 := hid (Hb7.out.trans ((below_step hI.out hb8).mono Hb7.out.size))
      clear hb8
      go_wp2
      go_ret
      exact ⟨rfl, H8.out⟩
end Go.Proofs.Ytkckkodoeepdpaa
