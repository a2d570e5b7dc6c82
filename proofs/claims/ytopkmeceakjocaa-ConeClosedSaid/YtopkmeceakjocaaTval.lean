/- The reference's value: the value of a function for a set. -/
import Derived.Test.YtopkmeceakjocaaVar
namespace Go.Proofs.Ytopkmeceakjocaa
set_option maxRecDepth 20000
open Go.ChangeShapes Go.WideShapes Go.ChangeAt Go.RowKit

theorem below4 (w : World) (a b c d : Obj) : Below w.heap.size w ((((w.alloc a).alloc b).alloc c).alloc d) :=
  (below3' w a b c).alloc (by simp only [World.size_alloc]; omega) _
where below3' (w : World) (a b c : Obj) : Below w.heap.size w (((w.alloc a).alloc b).alloc c) := (((Below.refl _ _).alloc (Nat.le_refl _) _).alloc (by simp) _).alloc (by simp only [World.size_alloc]; omega) _

/-- While a value is made. -/
def Valuing (w : World) (B0 W : Nat) (A B C D : Option Addr) (n c m d k q x y : Nat) (zs : List Nat) (wr : World) : Prop :=
  VarR w (w.heap.size + 1 + 1 + 1) (w.heap.size + 1 + 1) W B0 zs wr ∧ Fb wr w.heap.size #[.int .i64 W, .slice A n c, .int .i64 W, .slice B m d, .slice C k q] 61 ∧ Box wr (w.heap.size + 1) W D x y
section
variable {w : World} {B0 W : Nat} {A B C D : Option Addr} {n c m d k q x y : Nat} {zs zs' : List Nat} {wr w' : World}
theorem Valuing.box (h : Valuing w B0 W A B C D n c m d k q x y zs wr) : wr.cell? ⟨w.heap.size + 1, 0, none⟩ = some (.int .i64 W) ∧ wr.cell? ⟨w.heap.size + 1, 1, none⟩ = some (.slice D x y) :=
  ⟨h.2.2.c0, h.2.2.c1⟩
theorem Valuing.frame (h : Valuing w B0 W A B C D n c m d k q x y zs wr) : Below w.heap.size w wr := h.1.frame
theorem Valuing.below (h : Valuing w B0 W A B C D n c m d k q x y zs wr) (hb : Below wr.heap.size wr w') : Valuing w B0 W A B C D n c m d k q x y zs w' :=
  ⟨h.1.below hb, h.2.1.below hb h.2.1.lt, h.2.2.below hb h.2.2.lt⟩
theorem Valuing.put {g e f : Nat} (h : Valuing w B0 W A B C D n c m d k q x y zs wr) (hb : Below wr.heap.size wr w') (hr : Row w' g zs') (ha : Arg w' (some ⟨g, 0, none⟩) e zs') :
    Valuing w B0 W A B C D n c m d k q x y zs' ((w'.setCell ⟨w.heap.size + 1 + 1 + 1, 0, none⟩ (.int .i64 W)).setCell ⟨w.heap.size + 1 + 1 + 1, 1, none⟩ (.slice (some ⟨g, 0, none⟩) e f)) :=
  ⟨h.1.put hb hr ha W, ((h.2.1.below hb h.2.1.lt).far (by simp; omega) _).far (by simp; omega) _, ((h.2.2.below hb h.2.2.lt).far (by simp) _).far (by simp) _⟩
end

set_option maxHeartbeats 1600000 in
theorem refValue_any (B0 W : Nat) (A B C D : Option Addr) (n c m d k q x y : Nat) (gs ks ss : List Nat) (cs : List (Int × Int)) (w : World)
    (hA : Arg w A n gs) (hB : Arg w B m ks) (hC : ArgC w C k cs) (hD : Arg w D x ss) (hk : k ≤ maxLen) (hW : W ≤ 256) (hg : Bs.Fit W gs) (hs : Bs.Fit W ss) (hB0 : B0 ≤ w.heap.size) (hA0 : At w B0 A (words gs)) :
    Calls Try.prog 93 #[.agg #[.int .i64 W, .slice A n c, .int .i64 W, .slice B m d, .slice C k q], .agg #[.int .i64 W, .slice D x y]] w
      (RetFrom w B0 W (valR gs ss (folB W ks cs) W)) := by
  have HA := hid hA; have HB := hid hB; have HC := hid hC; have HD := hid hD; have HK := hid hk; have HG := hid hg; have HS := hid hs
  have h4 := below4 w (.cells #[.int .i64 W, .slice A n c, .int .i64 W, .slice B m d, .slice C k q] 61) (.cells #[.int .i64 W, .slice D x y] 50) (.cells #[.int .i64 0, .slice none 0 0] 50) (.cells #[.int .i64 W, .slice A n c] 50)
  have H4 := hid h4
  clear hA hB hC hD hk hg hs h4
  have hT := (((Fb.new w #[.int .i64 W, .slice A n c, .int .i64 W, .slice B m d, .slice C k q] 61).alloc (.cells #[.int .i64 W, .slice D x y] 50)).alloc (.cells #[.int .i64 0, .slice none 0 0] 50)).alloc (.cells #[.int .i64 W, .slice A n c] 50)
  have hS := ((Box.new (w.alloc (.cells #[.int .i64 W, .slice A n c, .int .i64 W, .slice B m d, .slice C k q] 61)) W D x y).alloc (.cells #[.int .i64 0, .slice none 0 0] 50)).alloc (.cells #[.int .i64 W, .slice A n c] 50)
  have hR := (Box.new ((w.alloc (.cells #[.int .i64 W, .slice A n c, .int .i64 W, .slice B m d, .slice C k q] 61)).alloc (.cells #[.int .i64 W, .slice D x y] 50)) 0 none 0 0).alloc (.cells #[.int .i64 W, .slice A n c] 50)
  have hO := Box.new (((w.alloc (.cells #[.int .i64 W, .slice A n c, .int .i64 W, .slice B m d, .slice C k q] 61)).alloc (.cells #[.int .i64 W, .slice D x y] 50)).alloc (.cells #[.int .i64 0, .slice none 0 0] 50)) W A n c
  simp only [World.size_alloc] at hT hS hR hO
  have hV : VarR w (w.heap.size + 1 + 1 + 1) (w.heap.size + 1 + 1) W B0 (vw gs ss (folB W ks cs) W 0 0) ((((w.alloc (.cells #[.int .i64 W, .slice A n c, .int .i64 W, .slice B m d, .slice C k q] 61)).alloc (.cells #[.int .i64 W, .slice D x y] 50)).alloc (.cells #[.int .i64 0, .slice none 0 0] 50)).alloc (.cells #[.int .i64 W, .slice A n c] 50)) :=
    ⟨A, n, c, hO, by rw [vw_start ss _ HG.out]; exact HA.out.below H4.out, ⟨hB0, by rw [vw_start ss _ HG.out]; exact .inl (hA0.below (H4.out.mono hB0) (Nat.le_refl _))⟩, by omega, by omega, by omega, hR, H4.out⟩
  have Hinv := hid (And.intro hV (And.intro hT hS))
  clear hT hS hR hO hV hA0 hB0
  go_enter Try.func93, Try.ntmps93
  go_wp2_with fail
  go_loopw [6, 7] (fun i _ wr => ∃ a : Nat, a ≤ W ∧ i = .int .i64 a ∧ Hid (Valuing w B0 W A B C D n c m d k q x y (vw gs ss (folB W ks cs) W a 0) wr)) (fun i _ _ => W - (intOf i).toNat)
  case atStart => exact ⟨0, by omega, rfl, Hinv⟩
  case round =>
    obtain ⟨a, ha, rfl, hI⟩ := hrel
    obtain ⟨s0, s1⟩ := hI.out.box
    by_cases hlt : a < W
    · go_wp2_with fail
      clear s0 s1
      go_loopw [7] (fun i wr => ∃ b : Nat, b ≤ W ∧ i = .int .i64 b ∧ Hid (Valuing w B0 W A B C D n c m d k q x y (vw gs ss (folB W ks cs) W a b) wr)) (fun i _ => W - (intOf i).toNat)
      case atStart => exact ⟨0, by omega, rfl, hI⟩
      case round =>
        obtain ⟨b, hb, rfl, hJ⟩ := hrel
        obtain ⟨s0, s1⟩ := hJ.out.box
        go_wp2_with fail
        refine (refHas_any W D x y ss a _ (HD.out.below hJ.out.frame)).mono ?_
        rw [Bs.hasB_nat HS.out hW a]
        rintro e w1 ⟨rfl, hb1⟩
        have hJ1 := hid (hJ.out.below hb1)
        clear hb1 s0 s1 hJ
        obtain ⟨s0, s1⟩ := hJ1.out.box
        cases hv : Bs.bit ss a with
        | false =>
          have hE := vw_not (gs := gs) (f := folB W ks cs) (W := W) hv b
          have HE := hid hE
          clear hE hv
          go_wp2_with fail
          go_roundw
          case rel => exact ⟨a + 1, by omega, by go_num, by rw [← HE.out]; exact hJ1⟩
          case measure => simp [intOf]; omega
        | true =>
          by_cases hlb : b < W
          · have Hv := hid hv
            clear hv
            obtain ⟨t0, t1, t2, t3, t4⟩ := hJ1.out.2.1.five
            go_wp2_with fail
            refine (refFollows_any W W A B C n c m d k q ks cs a b _ (HB.out.below hJ1.out.frame) (HC.out.below hJ1.out.frame) HK.out).mono ?_
            cases hf : folB W ks cs a b with
            | false =>
              have HE := hid (vw_skip (gs := gs) (ss := ss) (W := W) (a := a) (b := b) (f := folB W ks cs) hf)
              rintro e w2 ⟨rfl, hb2⟩
              have hJ2 := hid (hJ1.out.below hb2)
              clear hb2 s0 s1 t0 t1 t2 t3 t4 hJ1 hf
              go_wp2_with fail
              go_roundw
              case rel => exact ⟨b + 1, by omega, by go_num, by rw [HE.out]; exact hJ2⟩
              case measure => simp [intOf]; omega
            | true =>
              have HE := hid (vw_put (gs := gs) (f := folB W ks cs) (W := W) hf Hv.out hlb)
              rintro e w2 ⟨rfl, hb2⟩
              have hJ2 := hid (hJ1.out.below hb2)
              clear hb2 s0 s1 t0 t1 t2 t3 t4 hJ1 hf
              obtain ⟨Ao, no, co, _, o0, o1, hao, _⟩ := hJ2.out.1.load
              have Hao := hid hao
              clear hao
              go_wp2_with fail
              have hfit := fit_vw gs ss (folB W ks cs) W a b
              refine (refPut_any W Ao no co _ b _ Hao.out (by omega) hfit.len hlb).mono ?_
              rw [HE.out]
              rintro e w5 ⟨g5, rfl, hg5, hrow5, hb5⟩
              rw [(fit_vw gs ss (folB W ks cs) W a (b + 1)).len]
              obtain ⟨A5, n5, c5, p0, p1, q0, q1⟩ := hJ2.out.1.stores hb5
              have hfin := hJ2.out.put (f := Bs.nw W) hb5 hrow5 ⟨(hrow5.arg (fit_vw gs ss (folB W ks cs) W a (b + 1)).ok).lies, (fit_vw gs ss (folB W ks cs) W a (b + 1)).len, (fit_vw gs ss (folB W ks cs) W a (b + 1)).ok⟩
              have Hfin := hid hfin
              clear hfin hrow5 hb5 hfit o0 o1
              go_wp2_with fail
              go_roundw
              case rel => exact ⟨b + 1, by omega, by go_num, Hfin⟩
              case measure => simp [intOf]; omega
          · have hbW : b = W := by omega
            subst hbW
            have HE := hid (vw_next gs ss (folB b ks cs) b a)
            clear hv
            go_wp2_with fail
            go_roundw
            case rel => exact ⟨a + 1, by omega, by go_num, by rw [← HE.out]; exact hJ1⟩
            case measure => simp [intOf]; omega
    · have haW : a = W := by omega
      subst haW
      have HE := hid (vw_end gs ss (folB a ks cs) a)
      obtain ⟨Ao, no, co, o0, o1, harg, hfrm, hbel⟩ := hI.out.1.done
      obtain ⟨⟨⟨r0, r1⟩, f0, f1⟩, hne⟩ := hI.out.1.cells
      rw [HE.out] at harg hfrm
      have Harg := hid harg; have Hbel := hid hbel; have Hfrm := hid hfrm
      clear harg hbel hfrm
      go_wp2_with fail
      exact bodyPost_ret (v := .agg #[.int .i64 a, .slice Ao no co]) (by simp [results, Try.results93, go_sem, r0, r1]) rfl ⟨_, _, _, rfl, Harg.out, Hfrm.out, Hbel.out⟩
end Go.Proofs.Ytopkmeceakjocaa
