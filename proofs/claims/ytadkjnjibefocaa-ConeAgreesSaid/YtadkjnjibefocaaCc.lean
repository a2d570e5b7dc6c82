/- Texts that the proof leans on, merged. -/
import Derived.Test.YtadkjnjibefocaaCa
import Derived.Test.YtadkjnjibefocaaCe
import Derived.Test.YtadkjnjibefocaaTv
import Derived.Test.YtadkjnjibefocaaQb
namespace Go.Proofs.Ytadkjnjibefocaa
set_option maxRecDepth 20000
set_option linter.unusedVariables false
set_option linter.unusedSimpArgs false
open Go.ChangeShapes Go.WideShapes Go.ChangeAt Go.RowKit

def prevI (l : List Int) (k : Nat) : Int := if k = 0 then -1 else l.getD (k - 1) 0
theorem prevI_zero (l : List Int) : prevI l 0 = -1 := rfl
theorem prevI_succ {l : List Int} {k : Nat} {a : Int} (h : l[k]? = some a) : prevI l (k + 1) = a := by
  unfold prevI
  rw [if_neg (by omega), Nat.add_sub_cancel, List.getD_eq_getElem?_getD, h]; rfl
theorem gdrop_at {α : Type} {l : List α} {k : Nat} {a : α} (h : l[k]? = some a) : l.drop k = a :: l.drop (k + 1) := by
  obtain ⟨h1, rfl⟩ := List.getElem?_eq_some_iff.1 h
  exact List.drop_eq_getElem_cons h1
theorem risB_low {N : Nat} {l : List Int} {k : Nat} {a p : Int} (hE : risB N l = ascG N p (l.drop k)) (ha : l[k]? = some a) (h : a ≤ p) : risB N l = false := by
  rw [hE, gdrop_at ha]; unfold ascG; rw [if_pos h]
theorem risB_high {N : Nat} {l : List Int} {k : Nat} {a p : Int} (hE : risB N l = ascG N p (l.drop k)) (ha : l[k]? = some a) (h : (N : Int) ≤ a) : risB N l = false := by
  rw [hE, gdrop_at ha, ascG]
  by_cases h1 : a ≤ p
  · rw [if_pos h1]
  · rw [if_neg h1, if_pos h]
theorem risB_next {N : Nat} {l : List Int} {k : Nat} {a p : Int} (hE : risB N l = ascG N p (l.drop k)) (ha : l[k]? = some a) (h : ¬a ≤ p) (h2 : ¬(N : Int) ≤ a) : risB N l = ascG N a (l.drop (k + 1)) := by
  rw [hE, gdrop_at ha, ascG, if_neg h, if_neg h2]
theorem risB_done {N : Nat} {l : List Int} {k : Nat} {p : Int} (hE : risB N l = ascG N p (l.drop k)) (h : l.length ≤ k) : risB N l = true := by
  rw [hE, List.drop_of_length_le h]; rfl
set_option maxHeartbeats 3200000 in
theorem rising_any (x : RH) (N : Nat) (ex : List (Option Nat)) (w : World) (h : RHok w ex x) (hN : N ≤ 9223372036854775807) :
    Calls Try.prog 30 #[.slice x.A x.n x.c, .int .i64 N] w (RetQ w (.bool (risB N x.l))) := by
  have hn := h.few
  have HX := hid h
  have HL := hid h.len
  clear h
  obtain ⟨A, n, c, l⟩ := x
  simp only at *
  go_enter Try.func30, Try.ntmps30
  go_wp2_with fail
  go_loopw [5] (fun iv wr => ∃ (k q : Nat), k ≤ n ∧ iv = .int .i64 k ∧ wr = w.drewN q ∧ Hid (risB N l = ascG N (prevI l k) (l.drop k)) ∧ Hid (-1 ≤ prevI l k)) (fun iv _ => n - (intOf iv).toNat)
  case atStart => exact ⟨0, 0, by omega, rfl, rfl, hid rfl, hid (by rw [prevI_zero]; omega)⟩
  case round =>
    obtain ⟨k, q, hk, rfl, rfl, hE, hP⟩ := hrel
    by_cases hlt : k < n
    · obtain ⟨a, ha, -⟩ := get_at HL.out hlt
      obtain ⟨ad, hA, had, hc⟩ := HX.out.cell ha
      simp only at hA
      subst hA
      have Ha := hid ha
      have Hs := hid (prevI_succ ha)
      clear ha
      by_cases h1 : a < 0
      · have t1 : decide (a < 0) = true := by simpa using h1
        as_aux_lemma =>
          have Hr := hid (risB_low hE.out Ha.out (by have := hP.out; omega))
          go_wp2_with fail
          go_quiet (fail)
          go_wp2_with fail
          go_ret
          first | exact RetQ.mk Hr.out | exact RetQ.mk2 Hr.out
      · have t1 : decide (a < 0) = false := by simpa using h1
        by_cases h2 : (N : Int) ≤ a
        · have t2 : decide ((N : Int) ≤ a) = true := by simpa using h2
          as_aux_lemma =>
            have Hr := hid (risB_high hE.out Ha.out h2)
            go_wp2_with fail
            go_quiet (fail)
            go_wp2_with fail
            go_ret
            first | exact RetQ.mk Hr.out | exact RetQ.mk2 Hr.out
        · have t2 : decide ((N : Int) ≤ a) = false := by simpa using h2
          by_cases hk0 : k = 0
          · have t5 : decide (0 < (k : Int)) = false := by simp; omega
            have t5n : decide (0 < k) = false := by simp; omega
            have Hr := hid (risB_next hE.out Ha.out (by rw [hk0, prevI_zero]; omega) h2)
            clear hk0
            as_aux_lemma =>
              go_wp2_with fail
              go_quiet (fail)
              go_wp2_with fail
              go_roundw
              case rel => exact ⟨k + 1, _, by omega, by go_num, rfl, hid (by rw [Hs.out]; exact Hr.out), hid (by rw [Hs.out]; omega)⟩
              case measure => simp [intOf]; omega
          · obtain ⟨p, hp, -⟩ := get_at HL.out (show k - 1 < n by omega)
            obtain ⟨ad2, hA2, -, hc2⟩ := HX.out.cell hp
            obtain rfl := Option.some.inj hA2
            have Hp := hid (show prevI l k = p by have := prevI_succ hp; rwa [Nat.sub_add_cancel (by omega)] at this)
            clear hp
            have e1 : ((k : Int) - 1).toNat = k - 1 := by omega
            have e2 : 1 ≤ (k : Int) := by omega
            have e3 : (k : Int) - 1 < n := by omega
            have e4 : IntKind.i64.wrap ((k : Int) - 1) = (k : Int) - 1 := IntWalk.i64_in _ (by omega)
            have e5 : 0 < (k : Int) := by omega
            have t5 : decide (0 < (k : Int)) = true := by simp; omega
            have t5n : decide (0 < k) = true := by simp; omega
            have e2n : 1 ≤ k := by omega
            by_cases h3 : a ≤ p
            · have t6 : decide (a ≤ p) = true := by simpa using h3
              as_aux_lemma =>
                have Hr := hid (risB_low hE.out Ha.out (by rw [Hp.out]; exact h3))
                go_wp2_with fail
                go_quiet (fail)
                go_wp2_with fail
                go_ret
                first | exact RetQ.mk Hr.out | exact RetQ.mk2 Hr.out
            · have t6 : decide (a ≤ p) = false := by simpa using h3
              as_aux_lemma =>
                have Hr := hid (risB_next hE.out Ha.out (by rw [Hp.out]; exact h3) h2)
                go_wp2_with fail
                go_quiet (fail)
                go_wp2_with fail
                go_roundw
                case rel => exact ⟨k + 1, _, by omega, by go_num, rfl, hid (by rw [Hs.out]; exact Hr.out), hid (by rw [Hs.out]; omega)⟩
                case measure => simp [intOf]; omega
    · obtain rfl : k = n := by omega
      have Hr := hid (risB_done hE.out (Nat.le_of_eq HL.out))
      go_wp2_with fail
      go_ret
      exact RetQ.mk Hr.out
/-- A number that tells whether the elements are more than a limit, and if not, how many they are. -/
def RetTot (w : World) (M t : Nat) (e : Ending) (w' : World) : Prop := ∃ r : Nat, e = .returned (.int .i64 r) ∧ w = w' ∧ (r ≤ M ∧ r = t ∨ M < r ∧ M < t)
end Go.Proofs.Ytadkjnjibefocaa

namespace Go.Proofs.Ytadkjnjibefocaa
set_option maxRecDepth 20000
set_option linter.unusedVariables false
set_option linter.unusedSimpArgs false
open Go.ChangeShapes Go.WideShapes Go.ChangeAt Go.RowKit

theorem tot_take_le (S : List (List Int)) (k : Nat) : tot (S.take k) ≤ tot S := by
  unfold tot
  have e : ((S.take k).map List.length).sum + ((S.drop k).map List.length).sum = (S.map List.length).sum := by
    rw [← List.sum_append, ← List.map_append, List.take_append_drop]
  omega
/-- The system's box, kept. -/
structure Rfv (w : World) (s : SY) (v N : Nat) (u : World) : Prop where
  bx : Fb u w.heap.size #[.int .i64 v, .slice s.D.A N s.D.c, .slice s.T.A N s.T.c, .slice s.B.A N s.B.c] 27
  bel : Below w.heap.size w u
theorem Rfv.below {w u u' : World} {s : SY} {v N : Nat} (h : Rfv w s v N u) (hb : Below u.heap.size u u') : Rfv w s v N u' := ⟨h.bx.below hb h.bx.lt, below_step h.bel hb⟩
set_option maxHeartbeats 6400000 in
theorem refValidS_yes (s : SY) (v N : Nat) (ex : List (Option Nat)) (w : World) (h : SYok w ex s) (ho : SOk s v N) :
    Calls Try.prog 18 #[s.a] w fun e w' => e = .returned (.bool true) ∧ Below w.heap.size w w' := by
  have HS := hid (fun (u : World) (hu : Rfv w s v N u) => h.below hu.bel)
  have HI0 := hid (show Rfv w s v N (w.alloc (.cells #[.int .i64 v, .slice s.D.A N s.D.c, .slice s.T.A N s.T.c, .slice s.B.A N s.B.c] 27)) from ⟨Fb.new w _ _, (Below.refl _ _).alloc (Nat.le_refl _) _⟩)
  have Ho := hid ho
  have hW := ho.w
  have hv := ho.v256
  have hN1 := ho.n1
  have hN := ho.n256
  have hdn := ho.dn
  have htn := ho.tn
  have hbn := ho.bn
  have Hl := hid (And.intro h.d.len (And.intro h.t.len h.b.len))
  have htt := ho.tt
  unfold SY.a
  rw [hW, hdn, htn, hbn]
  clear h ho hW hdn htn hbn
  go_enter Try.func18, Try.ntmps18
  go_upto_region 1 with fail
  generalize w.alloc (.cells #[.int .i64 v, .slice s.D.A N s.D.c, .slice s.T.A N s.T.c, .slice s.B.A N s.B.c] 27) = w1 at *
  obtain ⟨c0, c1, c2, c3⟩ := HI0.out.bx.four
  have t0 : decide ((v : Int) < 0) = false := by simp
  have t1 : decide (256 < (v : Int)) = false := by simp; omega
  have t2 : decide ((N : Int) < 1) = false := by simp; omega
  have t3 : decide (256 < (N : Int)) = false := by simp; omega
  go_wp2_with fail
  clear c0 c1 c2 c3 t0 t1 t2 t3
  have HJ := HI0
  clear HI0
  go_loopw [4, 5] (fun ev iv wr => ∃ i : Nat, i ≤ N ∧ ev = .int .i64 (tot (s.D.v.take i) : Nat) ∧ iv = .int .i64 i ∧ Hid (Rfv w s v N wr)) (fun _ iv _ => N - (intOf iv).toNat)
  case atStart => exact ⟨0, by omega, rfl, rfl, HJ⟩
  case round =>
    clear HJ
    obtain ⟨i, hi, rfl, rfl, HI⟩ := hrel
    have Hle := hid (tot_take_le s.D.v)
    by_cases hlt : i < N
    · have n0 : (0 : Int) ≤ i := by omega
      have n1 : (i : Int) < N := by omega
      have n2 : (i : Int).toNat = i := by omega
      obtain ⟨r, hr, hrm⟩ := get_at (show s.D.l.length = N by rw [Hl.out.1, Ho.out.dn]) hlt
      obtain ⟨f, hf, hfm⟩ := get_at (show s.T.l.length = N by rw [Hl.out.2.1, Ho.out.tn]) hlt
      obtain ⟨z, hz, hzm⟩ := get_at (show s.B.l.length = N by rw [Hl.out.2.2, Ho.out.bn]) hlt
      obtain ⟨ad, hA, hal, r0⟩ := (HS.out wr HI.out).d.cell hr
      obtain ⟨at', hT, htl, f0, f1, f2, f3, f4⟩ := (HS.out wr HI.out).t.cell hf
      obtain ⟨ab, hB, hbl, b0, b1⟩ := (HS.out wr HI.out).b.cell hz
      have ht1 := tot_take (LH.at hr)
      have hrl := ((HS.out wr HI.out).d.all r hrm).len
      have hto := Hle.out (i + 1)
      have HC1 := hid (fun (p : Later wr) => rising_yes r N ex p.wd ((HS.out _ (HI.out.below p.keeps)).d.all r hrm) (Ho.out.d r hrm) (by omega))
      have HC2 := hid (fun (p : Later wr) => by
        have ha := ((HS.out _ (HI.out.below p.keeps)).t.all f hfm).arg
        have := refValidT_any f.G.W f.K.W f.G.A f.K.A f.C f.G.n f.G.c f.K.n f.K.c f.k f.q f.G.ws f.K.ws f.cs p.wd ha.gen ha.kill ha.cops
        rw [(Ho.out.t f hfm).w1, (Ho.out.t f hfm).w2, (Ho.out.t f hfm).ok] at this
        exact this)
      have HC3 := hid (fun (p : Later wr) => by
        have ha := ((HS.out _ (HI.out.below p.keeps)).b.all z hzm).arg
        have := refValid_any z.W z.A z.n z.c z.ws p.wd ha.lies ha.ok ha.len
        rw [(Ho.out.b z hzm).1, Bs.valid_of_fit (Ho.out.b z hzm).2 hv] at this
        exact this)
      have hgw := (Ho.out.t f hfm).w1
      have hkw := (Ho.out.t f hfm).w2
      have hzw := (Ho.out.b z hzm).1
      rw [hgw] at f0
      rw [hkw] at f2
      rw [hzw] at b0
      obtain ⟨c0, c1, c2, c3⟩ := HI.out.bx.four
      have hbx := HI.out.bx.lt
      rw [hA] at c1
      rw [hT] at c2
      rw [hB] at c3
      have l0 := Later.cell (show (⟨w.heap.size, 0, none⟩ : Addr).block < wr.heap.size from hbx) c0
      have l1 := Later.cell (show (⟨w.heap.size, 1, none⟩ : Addr).block < wr.heap.size from hbx) c1
      have l2 := Later.cell (show (⟨w.heap.size, 2, none⟩ : Addr).block < wr.heap.size from hbx) c2
      have l3 := Later.cell (show (⟨w.heap.size, 3, none⟩ : Addr).block < wr.heap.size from hbx) c3
      have l4 := Later.cell (show (ad.add i).block < wr.heap.size by rw [add_block]; exact hal) r0
      have m0 := Later.cell (show (at'.add (i * 5)).block < wr.heap.size by rw [add_block]; exact htl) f0
      have m1 := Later.cell (show (⟨(at'.add (i * 5)).block, (at'.add (i * 5)).off + 1, none⟩ : Addr).block < wr.heap.size by show (at'.add (i * 5)).block < _; rw [add_block]; exact htl) f1
      have m2 := Later.cell (show (⟨(at'.add (i * 5)).block, (at'.add (i * 5)).off + 2, none⟩ : Addr).block < wr.heap.size by show (at'.add (i * 5)).block < _; rw [add_block]; exact htl) f2
      have m3 := Later.cell (show (⟨(at'.add (i * 5)).block, (at'.add (i * 5)).off + 3, none⟩ : Addr).block < wr.heap.size by show (at'.add (i * 5)).block < _; rw [add_block]; exact htl) f3
      have m4 := Later.cell (show (⟨(at'.add (i * 5)).block, (at'.add (i * 5)).off + 4, none⟩ : Addr).block < wr.heap.size by show (at'.add (i * 5)).block < _; rw [add_block]; exact htl) f4
      have q0 := Later.cell (show (ab.add (i * 2)).block < wr.heap.size by rw [add_block]; exact hbl) b0
      have q1 := Later.cell (show (⟨(ab.add (i * 2)).block, (ab.add (i * 2)).off + 1, none⟩ : Addr).block < wr.heap.size by show (ab.add (i * 2)).block < _; rw [add_block]; exact hbl) b1
      have Hrc := hid r0
      have Hhal := hid hal
      clear r0 f0 f1 f2 f3 f4 b0 b1 c0 c1 c2 c3 hr hf hz hrm hfm hzm hgw hkw hzw hbx
      go_wp2_with fail
      refine wp_region_below (by kernel_rfl) (by kernel_rfl) ?_
      repeat (go_big_quiet_step (first | (go_at_call 30; exact Later.call (HC1.out _)) | (go_at_call 31; exact Later.call (HC2.out _)) | (go_at_call 32; exact Later.call (HC3.out _))))
      refine wpQuiet_nil ?_
      rintro _ ⟨pq, rfl⟩
      have HIn := hid (HI.out.below pq.keeps)
      have c1 := l1 pq
      have r0 := l4 pq
      have hal2 := Nat.lt_of_lt_of_le hal pq.keeps.size
      have hbd : tot (s.D.v.take i) + r.n ≤ 1024 := by omega
      have Hsum := hid (show ((tot (s.D.v.take i) : Nat) : Int) + (r.n : Int) = ((tot (s.D.v.take (i + 1)) : Nat) : Int) by rw [ht1, hrl]; omega)
      clear ht1 hrl hto
      generalize pq.wd = wq at *
      clear pq l0 l1 l2 l3 l4 m0 m1 m2 m3 m4 q0 q1 HC1 HC2 HC3 HI
      go_wp2_with fail
      go_roundw
      case rel => exact ⟨i + 1, by omega, by rw [Hsum.out], by go_num, HIn⟩
      case measure => simp [intOf]; omega
    · have e : i = N := by omega
      have HFin := hid (And.intro HI.out.bel (show ((tot (s.D.v.take N) : Nat) : Int) ≤ 1024 by have := Hle.out N; omega))
      go_wp2_with fail
      go_ret
      refine ⟨?_, HFin.out.1⟩
      first | simpa using HFin.out.2 | (rw [e]; simpa using HFin.out.2)
end Go.Proofs.Ytadkjnjibefocaa

namespace Go.Proofs.Ytadkjnjibefocaa
set_option maxRecDepth 20000
set_option linter.unusedVariables false
set_option linter.unusedSimpArgs false
open Go.ChangeShapes Go.WideShapes Go.ChangeAt Go.RowKit

theorem validB_rg {W : Int} {ws : List Nat} (h : Bs.validB W ws = true) : 0 ≤ W ∧ W ≤ 256 := by
  rw [Bs.validB_iff] at h
  exact ⟨h.1, h.2.1⟩
/-- A system that passes is one of a width and a number of unknowns. -/
theorem sysB_ok {s : SY} {w : World} {ex : List (Option Nat)} (hs : SYok w ex s) (h : sysB s = true) : SOk s s.W.toNat s.B.n ∧ 0 ≤ s.W := by
  unfold sysB at h
  simp only [Bool.and_eq_true, decide_eq_true_eq, List.all_eq_true] at h
  obtain ⟨⟨⟨h1, h2⟩, h3, h4⟩, h5⟩ := h
  unfold linkB at h2
  simp only [Bool.and_eq_true, decide_eq_true_eq, List.all_eq_true] at h2
  obtain ⟨⟨⟨a1, a2⟩, a3⟩, a4⟩ := h2
  have hl : s.D.v.length = s.B.n := by rw [LH.vlen, hs.d.len, h3]
  rw [hl] at a1 a2 a3
  obtain ⟨z, hz, hzm⟩ := get_at hs.b.len (show 0 < s.B.n by omega)
  have hzf := h4 z hzm
  unfold zfitB at hzf
  simp only [Bool.and_eq_true, decide_eq_true_eq] at hzf
  have hrg := validB_rg hzf.1
  rw [hzf.2] at hrg
  have hW : ((s.W.toNat : Nat) : Int) = s.W := by omega
  refine ⟨⟨hW.symm, by omega, a1, a2, h3.symm, by rw [h1, h3], rfl, fun y hy => risB_iff.1 (a3 _ (List.mem_map.2 ⟨y, hy, rfl⟩)), a4, fun f hf => ?_, fun z hz => ?_⟩, hrg.1⟩
  · have := h5 f hf
    unfold ffitB FH.vB at this
    simp only [Bool.and_eq_true, decide_eq_true_eq] at this
    have hk : f.G.W = f.K.W := by
      have h7 := this.1
      unfold validT at h7
      simp only [Bool.and_eq_true, decide_eq_true_eq] at h7
      exact h7.1.1.2
    refine ⟨by rw [hW]; exact this.2, by rw [hW, ← hk]; exact this.2, ?_⟩
    rw [hW]
    have h6 := this.1
    rw [← hk, this.2] at h6
    exact h6
  · have := h4 z hz
    unfold zfitB at this
    simp only [Bool.and_eq_true, decide_eq_true_eq] at this
    refine ⟨by rw [hW]; exact this.2, ?_⟩
    have h6 := Bs.fit_of_valid this.1 (hs.b.all z hz).ok
    rwa [this.2] at h6
/-- All that stands before a place is good. -/
def GdS (s : SY) (N k : Nat) : Prop := (∀ y ∈ s.D.l.take k, RisP N y.l) ∧ (∀ f ∈ s.T.l.take k, ffitB s.W f = true) ∧ (∀ z ∈ s.B.l.take k, zfitB s.W z = true)
theorem GdS.next {s : SY} {N k : Nat} {r : RH} {f : FH} {z : ZH} (h : GdS s N k) (hr : s.D.l[k]? = some r) (hf : s.T.l[k]? = some f) (hz : s.B.l[k]? = some z) (h1 : RisP N r.l) (h2 : ffitB s.W f = true) (h3 : zfitB s.W z = true) : GdS s N (k + 1) := by
  have key : ∀ {α : Type} {l : List α} {x : α} {p : α → Prop}, (∀ y ∈ l.take k, p y) → l[k]? = some x → p x → ∀ y ∈ l.take (k + 1), p y := fun {α l x p} ha hx hp y hy => by
    rw [List.take_add_one, hx] at hy
    rcases List.mem_append.1 hy with hy | hy
    · exact ha y hy
    · rw [List.mem_singleton.1 hy]; exact hp
  exact ⟨key h.1 hr h1, key h.2.1 hf h2, key h.2.2 hz h3⟩
/-- If all is good but the system is not valid, there are too many edges. -/
theorem GdS.many {s : SY} {N : Nat} {w : World} {ex : List (Option Nat)} (h : GdS s N N) (hs : SYok w ex s) (hd : s.D.n = N) (ht : s.T.n = N) (hb : s.B.n = N) (h1 : 1 ≤ N) (h2 : N ≤ 256) (hno : sysB s = false) : ¬ tot s.D.v ≤ 1024 := fun htt => by
  have e1 : s.D.l.take N = s.D.l := List.take_of_length_le (by rw [hs.d.len, hd]; exact Nat.le_refl _)
  have e2 : s.T.l.take N = s.T.l := List.take_of_length_le (by rw [hs.t.len, ht]; exact Nat.le_refl _)
  have e3 : s.B.l.take N = s.B.l := List.take_of_length_le (by rw [hs.b.len, hb]; exact Nat.le_refl _)
  obtain ⟨g1, g2, g3⟩ := h
  rw [e1] at g1
  rw [e2] at g2
  rw [e3] at g3
  have hl : s.D.v.length = N := by rw [LH.vlen, hs.d.len, hd]
  have hy : sysB s = true := by
    unfold sysB linkB
    simp only [Bool.and_eq_true, decide_eq_true_eq, List.all_eq_true, hl]
    refine ⟨⟨⟨by rw [ht, hd], ⟨⟨⟨h1, h2⟩, fun l hm => ?_⟩, htt⟩⟩, by rw [hb, hd], fun z hz => g3 z hz⟩, fun f hf => g2 f hf⟩
    obtain ⟨y, hy, rfl⟩ := List.mem_map.1 hm
    exact risB_iff.2 (g1 y hy)
  rw [hy] at hno
  cases hno
/-- The sum so far, of rows that rise. -/
theorem GdS.few {s : SY} {N k : Nat} (h : GdS s N k) (hk : k ≤ N) : tot (s.D.v.take k) ≤ k * N := by
  have h1 : ∀ l ∈ s.D.v.take k, l.length ≤ N := fun l hl => by
    unfold LH.v at hl
    rw [← List.map_take] at hl
    obtain ⟨y, hy, rfl⟩ := List.mem_map.1 hl
    exact ris_len (h.1 y hy)
  have key : ∀ (S : List (List Int)), (∀ l ∈ S, l.length ≤ N) → tot S ≤ S.length * N := by
    intro S
    induction S with
    | nil => intro _; simp [tot]
    | cons l S ih =>
      intro h
      have h1 := h l List.mem_cons_self
      have h2 := ih fun x hx => h x (List.mem_cons_of_mem _ hx)
      have e : tot (l :: S) = l.length + tot S := by simp [tot]
      rw [e, List.length_cons, Nat.succ_mul]
      omega
  have h2 := key _ h1
  rw [List.length_take] at h2
  exact Nat.le_trans h2 (Nat.mul_le_mul_right N (Nat.min_le_left _ _))
/-- The box, kept. -/
structure Rvb (w : World) (s : SY) (u : World) : Prop where
  bx : Fb u w.heap.size #[.int .i64 s.W, .slice s.D.A s.D.n s.D.c, .slice s.T.A s.T.n s.T.c, .slice s.B.A s.B.n s.B.c] 27
  bel : Below w.heap.size w u
theorem Rvb.below {w u u' : World} {s : SY} (h : Rvb w s u) (hb : Below u.heap.size u u') : Rvb w s u' := ⟨h.bx.below hb h.bx.lt, below_step h.bel hb⟩
set_option maxHeartbeats 12800000 in
theorem refValidS_no (s : SY) (ex : List (Option Nat)) (w : World) (h : SYok w ex s) (hno : sysB s = false) :
    Calls Try.prog 18 #[s.a] w fun e w' => e = .returned (.bool false) ∧ Below w.heap.size w w' := by
  have HS := hid (fun (u : World) (hu : Rvb w s u) => h.below hu.bel)
  have HI0 := hid (show Rvb w s (w.alloc (.cells #[.int .i64 s.W, .slice s.D.A s.D.n s.D.c, .slice s.T.A s.T.n s.T.c, .slice s.B.A s.B.n s.B.c] 27)) from ⟨Fb.new w _ _, (Below.refl _ _).alloc (Nat.le_refl _) _⟩)
  have Hl := hid (And.intro h.d.len (And.intro h.t.len h.b.len))
  have HM := hid (fun (N : Nat) (hg : GdS s N N) (hd : s.D.n = N) (ht : s.T.n = N) (hb : s.B.n = N) (h1 : 1 ≤ N) (h2 : N ≤ 256) => hg.many h hd ht hb h1 h2 hno)
  have hdf := h.d.few
  have htf := h.t.few
  have hbf := h.b.few
  clear h hno
  unfold SY.a
  go_enter Try.func18, Try.ntmps18
  go_upto_region 1 with fail
  generalize w.alloc (.cells #[.int .i64 s.W, .slice s.D.A s.D.n s.D.c, .slice s.T.A s.T.n s.T.c, .slice s.B.A s.B.n s.B.c] 27) = w1 at *
  obtain ⟨c0, c1, c2, c3⟩ := HI0.out.bx.four
  by_cases q0 : s.W < 0
  · have tq0 : decide (s.W < 0) = true := by first | (simp; omega) | simp [q0]
    as_aux_lemma =>
      go_wp2_with fail
      go_ret
      exact ⟨rfl, HI0.out.bel⟩
  · have tq0 : decide (s.W < 0) = false := by first | (simp; omega) | simp [q0]
    by_cases q1 : 256 < s.W
    · have tq1 : decide (256 < s.W) = true := by first | (simp; omega) | simp [q1]
      as_aux_lemma =>
        go_wp2_with fail
        go_ret
        exact ⟨rfl, HI0.out.bel⟩
    · have tq1 : decide (256 < s.W) = false := by first | (simp; omega) | simp [q1]
      by_cases q2 : s.B.n < 1
      · have tq2 : decide ((s.B.n : Int) < 1) = true := by first | (simp; omega) | simp [q2]
        as_aux_lemma =>
          go_wp2_with fail
          go_ret
          exact ⟨rfl, HI0.out.bel⟩
      · have tq2 : decide ((s.B.n : Int) < 1) = false := by first | (simp; omega) | simp [q2]
        by_cases q3 : 256 < s.B.n
        · have tq3 : decide (256 < (s.B.n : Int)) = true := by first | (simp; omega) | simp [q3]
          as_aux_lemma =>
            go_wp2_with fail
            go_ret
            exact ⟨rfl, HI0.out.bel⟩
        · have tq3 : decide (256 < (s.B.n : Int)) = false := by first | (simp; omega) | simp [q3]
          by_cases q4 : ¬ s.D.n = s.B.n
          · have tq4 : ((s.D.n : Int) != (s.B.n : Int)) = true := by first | (simp; omega) | simp [q4]
            as_aux_lemma =>
              go_wp2_with fail
              go_ret
              exact ⟨rfl, HI0.out.bel⟩
          · have tq4 : ((s.D.n : Int) != (s.B.n : Int)) = false := by first | (simp; omega) | simp [q4]
            by_cases q5 : ¬ s.T.n = s.B.n
            · have tq5 : ((s.T.n : Int) != (s.B.n : Int)) = true := by first | (simp; omega) | simp [q5]
              as_aux_lemma =>
                go_wp2_with fail
                go_ret
                exact ⟨rfl, HI0.out.bel⟩
            · have tq5 : ((s.T.n : Int) != (s.B.n : Int)) = false := by first | (simp; omega) | simp [q5]
              have hdn : s.D.n = s.B.n := by omega
              have htn : s.T.n = s.B.n := by omega
              go_wp2_with fail
              clear c0 c1 c2 c3 tq0 tq1 tq2 tq3 tq4 tq5 q4 q5
              have Hdn := hid hdn
              have Htn := hid htn
              clear hdn htn hdf htf
              have HN := hid (rfl : s.B.n = s.B.n)
              have HJ := HI0
              clear HI0
              go_loopw [4, 5] (fun ev iv wr => ∃ i : Nat, i ≤ s.B.n ∧ ev = .int .i64 (tot (s.D.v.take i) : Nat) ∧ iv = .int .i64 i ∧ Hid (GdS s s.B.n i) ∧ Hid (Rvb w s wr)) (fun _ iv _ => s.B.n - (intOf iv).toNat)
              case atStart => exact ⟨0, by omega, rfl, rfl, hid ⟨by simp, by simp, by simp⟩, HJ⟩
              case round =>
                clear HJ
                obtain ⟨i, hi, rfl, rfl, HG, HI⟩ := hrel
                have Hfew := hid (show tot (s.D.v.take i) ≤ 65536 from Nat.le_trans (HG.out.few hi) (Nat.mul_le_mul (show i ≤ 256 by omega) (show s.B.n ≤ 256 by omega)))
                by_cases hlt : i < s.B.n
                · have n0 : (0 : Int) ≤ i := by omega
                  have n1 : (i : Int) < s.B.n := by omega
                  have n1d : (i : Int) < s.D.n := by rw [Hdn.out]; exact n1
                  have n1t : (i : Int) < s.T.n := by rw [Htn.out]; exact n1
                  have n2 : (i : Int).toNat = i := by omega
                  obtain ⟨r, hr, hrm⟩ := get_at (show s.D.l.length = s.B.n by rw [Hl.out.1, Hdn.out]) hlt
                  obtain ⟨f, hf, hfm⟩ := get_at (show s.T.l.length = s.B.n by rw [Hl.out.2.1, Htn.out]) hlt
                  obtain ⟨z, hz, hzm⟩ := get_at Hl.out.2.2 hlt
                  obtain ⟨ad, hA, hal, r0⟩ := (HS.out wr HI.out).d.cell hr
                  obtain ⟨at', hT, htl, f0, f1, f2, f3, f4⟩ := (HS.out wr HI.out).t.cell hf
                  obtain ⟨ab, hB, hbl, b0, b1⟩ := (HS.out wr HI.out).b.cell hz
                  have ht1 := tot_take (LH.at hr)
                  have hrl := ((HS.out wr HI.out).d.all r hrm).len
                  have HC1 := hid (show ∀ p : Later wr, Calls Try.prog 30 #[.slice r.A r.n r.c, .int .i64 s.B.n] p.wd fun e w' => e = .returned (.bool (risB s.B.n r.l)) ∧ Below p.wd.heap.size p.wd w' from fun p => by
                    refine (rising_any r s.B.n ex p.wd ((HS.out _ (HI.out.below p.keeps)).d.all r hrm) (by omega)).mono ?_
                    rintro e w' ⟨h1, q, h2⟩
                    exact ⟨h1, by rw [h2]; exact below_drewN _ _⟩)
                  have HC2 := hid (fun (p : Later wr) => by
                    have ha := ((HS.out _ (HI.out.below p.keeps)).t.all f hfm).arg
                    have := refValidT_any f.G.W f.K.W f.G.A f.K.A f.C f.G.n f.G.c f.K.n f.K.c f.k f.q f.G.ws f.K.ws f.cs p.wd ha.gen ha.kill ha.cops
                    exact this)
                  have HC3 := hid (fun (p : Later wr) => by
                    have ha := ((HS.out _ (HI.out.below p.keeps)).b.all z hzm).arg
                    have := refValid_any z.W z.A z.n z.c z.ws p.wd ha.lies ha.ok ha.len
                    exact this)
                  have HGn := hid (fun (h1 : RisP s.B.n r.l) (h2 : ffitB s.W f = true) (h3 : zfitB s.W z = true) => HG.out.next hr hf hz h1 h2 h3)
                  obtain ⟨c0, c1, c2, c3⟩ := HI.out.bx.four
                  have hbx := HI.out.bx.lt
                  rw [hA] at c1
                  rw [hT] at c2
                  rw [hB] at c3
                  have l0 := Later.cell (show (⟨w.heap.size, 0, none⟩ : Addr).block < wr.heap.size from hbx) c0
                  have l1 := Later.cell (show (⟨w.heap.size, 1, none⟩ : Addr).block < wr.heap.size from hbx) c1
                  have l2 := Later.cell (show (⟨w.heap.size, 2, none⟩ : Addr).block < wr.heap.size from hbx) c2
                  have l3 := Later.cell (show (⟨w.heap.size, 3, none⟩ : Addr).block < wr.heap.size from hbx) c3
                  have l4 := Later.cell (show (ad.add i).block < wr.heap.size by rw [add_block]; exact hal) r0
                  have m0 := Later.cell (show (at'.add (i * 5)).block < wr.heap.size by rw [add_block]; exact htl) f0
                  have m1 := Later.cell (show (⟨(at'.add (i * 5)).block, (at'.add (i * 5)).off + 1, none⟩ : Addr).block < wr.heap.size by show (at'.add (i * 5)).block < _; rw [add_block]; exact htl) f1
                  have m2 := Later.cell (show (⟨(at'.add (i * 5)).block, (at'.add (i * 5)).off + 2, none⟩ : Addr).block < wr.heap.size by show (at'.add (i * 5)).block < _; rw [add_block]; exact htl) f2
                  have m3 := Later.cell (show (⟨(at'.add (i * 5)).block, (at'.add (i * 5)).off + 3, none⟩ : Addr).block < wr.heap.size by show (at'.add (i * 5)).block < _; rw [add_block]; exact htl) f3
                  have m4 := Later.cell (show (⟨(at'.add (i * 5)).block, (at'.add (i * 5)).off + 4, none⟩ : Addr).block < wr.heap.size by show (at'.add (i * 5)).block < _; rw [add_block]; exact htl) f4
                  have q0 := Later.cell (show (ab.add (i * 2)).block < wr.heap.size by rw [add_block]; exact hbl) b0
                  have q1 := Later.cell (show (⟨(ab.add (i * 2)).block, (ab.add (i * 2)).off + 1, none⟩ : Addr).block < wr.heap.size by show (ab.add (i * 2)).block < _; rw [add_block]; exact hbl) b1
                  have Hrc := hid r0
                  have Hhal := hid hal
                  clear r0 f0 f1 f2 f3 f4 b0 b1 c0 c1 c2 c3 hr hf hz hrm hfm hzm hbx
                  generalize hb1 : risB s.B.n r.l = v1 at *
                  generalize hb2 : validT f.G.W f.G.ws f.K.W f.K.ws f.cs = v2 at *
                  generalize hb3 : Bs.validB z.W z.ws = v3 at *
                  have Hb1 := hid hb1
                  have Hb2 := hid hb2
                  have Hb3 := hid hb3
                  clear hb1 hb2 hb3
                  go_upto_region 8 with fail
                  cases v1 with
                  | false =>
                    as_aux_lemma =>
                      refine wp_region_below (by kernel_rfl) (by kernel_rfl) ?_
                      repeat (go_big_quiet_step (first | (go_at_call 30; exact Later.call (HC1.out _)) | (go_at_call 31; exact Later.call (HC2.out _)) | (go_at_call 32; exact Later.call (HC3.out _))))
                      refine wpQuiet_nil ?_
                      rintro _ ⟨pq, rfl⟩
                      have HIn := hid (HI.out.below pq.keeps)
                      clear l0 l1 l2 l3 l4 m0 m1 m2 m3 m4 q0 q1
                      go_wp2_with fail
                      go_ret
                      exact ⟨rfl, HIn.out.bel⟩
                  | true =>
                    cases v2 with
                    | false =>
                      as_aux_lemma =>
                        refine wp_region_below (by kernel_rfl) (by kernel_rfl) ?_
                        repeat (go_big_quiet_step (first | (go_at_call 30; exact Later.call (HC1.out _)) | (go_at_call 31; exact Later.call (HC2.out _)) | (go_at_call 32; exact Later.call (HC3.out _))))
                        refine wpQuiet_nil ?_
                        rintro _ ⟨pq, rfl⟩
                        have HIn := hid (HI.out.below pq.keeps)
                        clear l0 l1 l2 l3 l4 m0 m1 m2 m3 m4 q0 q1
                        go_wp2_with fail
                        go_ret
                        exact ⟨rfl, HIn.out.bel⟩
                    | true =>
                      by_cases e3 : f.G.W = s.W
                      · have E3 := hid e3
                        simp only [e3] at m0 HC2
                        clear e3
                        cases v3 with
                        | false =>
                          as_aux_lemma =>
                            refine wp_region_below (by kernel_rfl) (by kernel_rfl) ?_
                            repeat (go_big_quiet_step (first | (go_at_call 30; exact Later.call (HC1.out _)) | (go_at_call 31; exact Later.call (HC2.out _)) | (go_at_call 32; exact Later.call (HC3.out _))))
                            refine wpQuiet_nil ?_
                            rintro _ ⟨pq, rfl⟩
                            have HIn := hid (HI.out.below pq.keeps)
                            clear l0 l1 l2 l3 l4 m0 m1 m2 m3 m4 q0 q1
                            go_wp2_with fail
                            go_ret
                            exact ⟨rfl, HIn.out.bel⟩
                        | true =>
                          by_cases e5 : z.W = s.W
                          · have E5 := hid e5
                            simp only [e5] at q0 HC3
                            clear e5
                            refine wp_region_below (by kernel_rfl) (by kernel_rfl) ?_
                            repeat (go_big_quiet_step (first | (go_at_call 30; exact Later.call (HC1.out _)) | (go_at_call 31; exact Later.call (HC2.out _)) | (go_at_call 32; exact Later.call (HC3.out _))))
                            refine wpQuiet_nil ?_
                            rintro _ ⟨pq, rfl⟩
                            have HIn := hid (HI.out.below pq.keeps)
                            have HG2 := hid (HGn.out (risB_iff.1 Hb1.out) (by unfold ffitB FH.vB; rw [Hb2.out]; simpa using E3.out) (by unfold zfitB; rw [Hb3.out]; simpa using E5.out))
                            have hrn : r.n ≤ s.B.n := by rw [← hrl]; exact ris_len (risB_iff.1 Hb1.out)
                            have c1 := l1 pq
                            have r0 := l4 pq
                            have hal2 := Nat.lt_of_lt_of_le hal pq.keeps.size
                            have Hsum := hid (show ((tot (s.D.v.take i) : Nat) : Int) + (r.n : Int) = ((tot (s.D.v.take (i + 1)) : Nat) : Int) by rw [ht1, hrl]; omega)
                            have hbd : tot (s.D.v.take i) + r.n ≤ 70000 := by have := Hfew.out; omega
                            clear ht1 hrl Hfew
                            generalize pq.wd = wq at *
                            clear pq l0 l1 l2 l3 l4 m0 m1 m2 m3 m4 q0 q1 HC1 HC2 HC3 HI HGn E3 E5
                            go_wp2_with fail
                            go_roundw
                            case rel => exact ⟨i + 1, by omega, by rw [Hsum.out], by go_num, HG2, HIn⟩
                            case measure => simp [intOf]; omega
                          · have te5 : (z.W != s.W) = true := by simp [e5]
                            clear e5
                            as_aux_lemma =>
                              refine wp_region_below (by kernel_rfl) (by kernel_rfl) ?_
                              repeat (go_big_quiet_step (first | (go_at_call 30; exact Later.call (HC1.out _)) | (go_at_call 31; exact Later.call (HC2.out _)) | (go_at_call 32; exact Later.call (HC3.out _))))
                              refine wpQuiet_nil ?_
                              rintro _ ⟨pq, rfl⟩
                              have HIn := hid (HI.out.below pq.keeps)
                              clear l0 l1 l2 l3 l4 m0 m1 m2 m3 m4 q0 q1
                              go_wp2_with fail
                              go_ret
                              exact ⟨rfl, HIn.out.bel⟩
                      · have te3 : (f.G.W != s.W) = true := by simp [e3]
                        clear e3
                        as_aux_lemma =>
                          refine wp_region_below (by kernel_rfl) (by kernel_rfl) ?_
                          repeat (go_big_quiet_step (first | (go_at_call 30; exact Later.call (HC1.out _)) | (go_at_call 31; exact Later.call (HC2.out _)) | (go_at_call 32; exact Later.call (HC3.out _))))
                          refine wpQuiet_nil ?_
                          rintro _ ⟨pq, rfl⟩
                          have HIn := hid (HI.out.below pq.keeps)
                          clear l0 l1 l2 l3 l4 m0 m1 m2 m3 m4 q0 q1
                          go_wp2_with fail
                          go_ret
                          exact ⟨rfl, HIn.out.bel⟩
                · have e : i = s.B.n := by omega
                  subst e
                  have HFin := hid (And.intro HI.out.bel (show ¬ ((tot (s.D.v.take s.B.n) : Nat) : Int) ≤ 1024 from by
                    have := HM.out s.B.n HG.out Hdn.out Htn.out rfl (by omega) (by omega)
                    rw [List.take_of_length_le (by rw [LH.vlen, Hl.out.1, Hdn.out]; exact Nat.le_refl _)]
                    omega))
                  go_wp2_with fail
                  go_ret
                  refine ⟨?_, HFin.out.1⟩
                  simpa using HFin.out.2
/-- The reference's Valid of any system. -/
theorem refValidS_any (s : SY) (ex : List (Option Nat)) (w : World) (h : SYok w ex s) :
    Calls Try.prog 18 #[s.a] w fun e w' => e = .returned (.bool (sysB s)) ∧ Below w.heap.size w w' := by
  cases hb : sysB s with
  | true => exact refValidS_yes s _ _ ex w h (sysB_ok h hb).1
  | false => exact refValidS_no s ex w h hb
end Go.Proofs.Ytadkjnjibefocaa

namespace Go.Proofs.Ytadkjnjibefocaa
set_option maxRecDepth 20000
set_option linter.unusedVariables false
set_option linter.unusedSimpArgs false
open Go.ChangeShapes Go.WideShapes Go.ChangeAt Go.RowKit

/-- A system that is not huge. -/
structure SmS (s : SY) : Prop where
  d : s.D.n ≤ 6
  t : s.T.n ≤ 6
  b : s.B.n ≤ 6
  w : s.W ≤ 8
  rows : ∀ r ∈ s.D.l, r.n ≤ 8
  cops : ∀ f ∈ s.T.l, f.k ≤ 12
def RetHu (w : World) (s : SY) (e : Ending) (w' : World) : Prop := ∃ b, e = .returned (.bool b) ∧ Below w.heap.size w w' ∧ (b = false → SmS s) ∧ (b = true → ¬ SmS s)
theorem RetHu.yes {w w' : World} {s : SY} (h : Below w.heap.size w w') (h2 : ¬ SmS s) : RetHu w s (.returned (.bool true)) w' := ⟨true, rfl, h, by simp, fun _ => h2⟩
theorem RetHu.no {w w' : World} {s : SY} (h : Below w.heap.size w w') (h2 : SmS s) : RetHu w s (.returned (.bool false)) w' := ⟨false, rfl, h, fun _ => h2, by simp⟩
theorem upto_all {α : Type} {l : List α} {P : α → Prop} {n : Nat} (hl : l.length = n) (h : ∀ (k : Nat) (a : α), k < n → l[k]? = some a → P a) : ∀ a ∈ l, P a := fun a ha => by
  obtain ⟨k, hk⟩ := List.getElem?_of_mem ha
  have := (List.getElem?_eq_some_iff.1 hk).1
  exact h k a (by omega) hk
theorem upto_next {α : Type} {l : List α} {P : α → Prop} {i : Nat} {a : α} (h : ∀ (k : Nat) (a : α), k < i → l[k]? = some a → P a) (ha : l[i]? = some a) (hp : P a) : ∀ (k : Nat) (a : α), k < i + 1 → l[k]? = some a → P a := fun k b hk hb => by
  by_cases e : k = i
  · subst e; rw [ha] at hb; cases hb; exact hp
  · exact h k b (by omega) hb
set_option maxHeartbeats 6400000 in
theorem huge_any (s : SY) (ex : List (Option Nat)) (w : World) (h : SYok w ex s) :
    Calls Try.prog 11 #[s.a] w (RetHu w s) := by
  have HS := hid (fun (u : World) (hu : Rvb w s u) => h.below hu.bel)
  have HI0 := hid (show Rvb w s (w.alloc (.cells #[.int .i64 s.W, .slice s.D.A s.D.n s.D.c, .slice s.T.A s.T.n s.T.c, .slice s.B.A s.B.n s.B.c] 27)) from ⟨Fb.new w _ _, (Below.refl _ _).alloc (Nat.le_refl _) _⟩)
  have Hl := hid (And.intro h.d.len h.t.len)
  have hdf := h.d.few
  have htf := h.t.few
  have hbf := h.b.few
  clear h
  unfold SY.a
  go_enter Try.func11, Try.ntmps11
  go_upto_region 1 with fail
  generalize w.alloc (.cells #[.int .i64 s.W, .slice s.D.A s.D.n s.D.c, .slice s.T.A s.T.n s.T.c, .slice s.B.A s.B.n s.B.c] 27) = w1 at *
  obtain ⟨c0, c1, c2, c3⟩ := HI0.out.bx.four
  by_cases q0 : 6 < s.D.n
  · have tq0 : decide (6 < (s.D.n : Int)) = true := by first | (simp; omega) | simp [q0]
    as_aux_lemma =>
      go_wp2_with fail
      go_ret
      exact RetHu.yes HI0.out.bel (fun h => by have := h.d; omega)
  · have tq0 : decide (6 < (s.D.n : Int)) = false := by first | (simp; omega) | simp [q0]
    by_cases q1 : 6 < s.T.n
    · have tq1 : decide (6 < (s.T.n : Int)) = true := by first | (simp; omega) | simp [q1]
      as_aux_lemma =>
        go_wp2_with fail
        go_ret
        exact RetHu.yes HI0.out.bel (fun h => by have := h.t; omega)
    · have tq1 : decide (6 < (s.T.n : Int)) = false := by first | (simp; omega) | simp [q1]
      by_cases q2 : 6 < s.B.n
      · have tq2 : decide (6 < (s.B.n : Int)) = true := by first | (simp; omega) | simp [q2]
        as_aux_lemma =>
          go_wp2_with fail
          go_ret
          exact RetHu.yes HI0.out.bel (fun h => by have := h.b; omega)
      · have tq2 : decide (6 < (s.B.n : Int)) = false := by first | (simp; omega) | simp [q2]
        by_cases q3 : 8 < s.W
        · have tq3 : decide (8 < s.W) = true := by first | (simp; omega) | simp [q3]
          as_aux_lemma =>
            go_wp2_with fail
            go_ret
            exact RetHu.yes HI0.out.bel (fun h => by have := h.w; omega)
        · have tq3 : decide (8 < s.W) = false := by first | (simp; omega) | simp [q3]
          have Hq := hid (And.intro q0 (And.intro q1 (And.intro q2 q3)))
          go_wp2_with fail
          clear c0 c1 c2 c3 tq0 tq1 tq2 tq3 q3
          have HJ := HI0
          clear HI0
          go_loopw [3] (fun iv wr => ∃ i : Nat, i ≤ s.D.n ∧ iv = .int .i64 i ∧ Hid (∀ (k : Nat) (r : RH), k < i → s.D.l[k]? = some r → r.n ≤ 8) ∧ Hid (Rvb w s wr)) (fun iv _ => s.D.n - (intOf iv).toNat)
          case atStart => exact ⟨0, by omega, rfl, hid (fun k r hk _ => absurd hk (by omega)), HJ⟩
          case round =>
            clear HJ
            obtain ⟨i, hi, rfl, HG, HI⟩ := hrel
            obtain ⟨c0, c1, c2, c3⟩ := HI.out.bx.four
            by_cases hlt : i < s.D.n
            · have n0 : (0 : Int) ≤ i := by omega
              have n1 : (i : Int) < s.D.n := by omega
              have n2 : (i : Int).toNat = i := by omega
              obtain ⟨r, hr, hrm⟩ := get_at Hl.out.1 hlt
              obtain ⟨ad, hA, hal, r0⟩ := (HS.out wr HI.out).d.cell hr
              have hrf := ((HS.out wr HI.out).d.all r hrm).few
              have HN := hid (fun hp : r.n ≤ 8 => upto_next (P := fun r : RH => r.n ≤ 8) HG.out hr hp)
              have HNo := hid (show 8 < r.n → ¬ SmS s from fun hb h => by have := h.rows r hrm; omega)
              rw [hA] at c1
              clear hr hrm
              by_cases hb : 8 < r.n
              · have tb : decide (8 < (r.n : Int)) = true := by first | (simp; omega) | simp [hb]
                as_aux_lemma =>
                  go_wp2_with fail
                  go_ret
                  exact RetHu.yes HI.out.bel (HNo.out hb)
              · have tb : decide (8 < (r.n : Int)) = false := by first | (simp; omega) | simp [hb]
                as_aux_lemma =>
                  go_wp2_with fail
                  go_roundw
                  case rel => exact ⟨i + 1, by omega, by go_num, hid (HN.out (by omega)), HI⟩
                  case measure => simp [intOf]; omega
            · have e : i = s.D.n := by omega
              have HD := hid (upto_all (P := fun r : RH => r.n ≤ 8) Hl.out.1 (by rw [← e]; exact HG.out))
              clear HG
              go_wp2_with fail
              clear c0 c1 c2 c3
              have HJ := HI
              clear HI
              go_loopw [4] (fun iv wr => ∃ i : Nat, i ≤ s.T.n ∧ iv = .int .i64 i ∧ Hid (∀ (k : Nat) (r : FH), k < i → s.T.l[k]? = some r → r.k ≤ 12) ∧ Hid (Rvb w s wr)) (fun iv _ => s.T.n - (intOf iv).toNat)
              case atStart => exact ⟨0, by omega, rfl, hid (fun k r hk _ => absurd hk (by omega)), HJ⟩
              case round =>
                clear HJ
                obtain ⟨j, hj, rfl, HG, HI⟩ := hrel
                obtain ⟨c0, c1, c2, c3⟩ := HI.out.bx.four
                by_cases hlt : j < s.T.n
                · have n0 : (0 : Int) ≤ j := by omega
                  have n1 : (j : Int) < s.T.n := by omega
                  have n2 : (j : Int).toNat = j := by omega
                  obtain ⟨f, hf, hfm⟩ := get_at Hl.out.2 hlt
                  obtain ⟨at', hT, htl, f0, f1, f2, f3, f4⟩ := (HS.out wr HI.out).t.cell hf
                  have HN := hid (fun hp : f.k ≤ 12 => upto_next (P := fun f : FH => f.k ≤ 12) HG.out hf hp)
                  have HNo := hid (show 12 < f.k → ¬ SmS s from fun hb h => by have := h.cops f hfm; omega)
                  rw [hT] at c2
                  clear hf hfm f0 f1 f2 f3
                  by_cases hb : 12 < f.k
                  · have tb : decide (12 < (f.k : Int)) = true := by first | (simp; omega) | simp [hb]
                    as_aux_lemma =>
                      go_wp2_with fail
                      go_ret
                      exact RetHu.yes HI.out.bel (HNo.out hb)
                  · have tb : decide (12 < (f.k : Int)) = false := by first | (simp; omega) | simp [hb]
                    as_aux_lemma =>
                      go_wp2_with fail
                      go_roundw
                      case rel => exact ⟨j + 1, by omega, by go_num, hid (HN.out (by omega)), HI⟩
                      case measure => simp [intOf]; omega
                · have e2 : j = s.T.n := by omega
                  have HT := hid (upto_all (P := fun r : FH => r.k ≤ 12) Hl.out.2 (by rw [← e2]; exact HG.out))
                  as_aux_lemma =>
                    go_wp2_with fail
                    go_ret
                    exact RetHu.no HI.out.bel ⟨by have := Hq.out.1; omega, by have := Hq.out.2.1; omega, by have := Hq.out.2.2.1; omega, by have := Hq.out.2.2.2; omega, HD.out, HT.out⟩
end Go.Proofs.Ytadkjnjibefocaa
