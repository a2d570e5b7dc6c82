/- The package equations: allFit, Valid of a system. -/
import Derived.Test.YtopkmeceakjocaaEq1
namespace Go.Proofs.Ytopkmeceakjocaa
set_option maxRecDepth 20000
set_option linter.unusedVariables false
set_option linter.unusedSimpArgs false
open Go.ChangeShapes Go.WideShapes Go.ChangeAt Go.RowKit

theorem Fb.four {w : World} {g t : Nat} {a b c d : Value} (h : Fb w g #[a, b, c, d] t) :
    w.cell? ⟨g, 0, none⟩ = some a ∧ w.cell? ⟨g, 1, none⟩ = some b ∧ w.cell? ⟨g, 2, none⟩ = some c ∧ w.cell? ⟨g, 3, none⟩ = some d := ⟨h.cell 0, h.cell 1, h.cell 2, h.cell 3⟩
/-- A valid set of this width. -/
def zfitB (W : Int) (y : ZH) : Bool := Bs.validB y.W y.ws && decide (y.W = W)
theorem all_take {α : Type} {p : α → Bool} {l : List α} {k : Nat} {y : α} (h : ∀ x ∈ l.take k, p x = true) (hy : l[k]? = some y) (hp : p y = true) : ∀ x ∈ l.take (k + 1), p x = true := by
  intro x hx
  rw [List.take_add_one, hy] at hx
  rcases List.mem_append.1 hx with hx | hx
  · exact h x hx
  · simp at hx; subst hx; exact hp
theorem all_no {α : Type} {p : α → Bool} {l : List α} {k : Nat} {y : α} (hy : l[k]? = some y) (hp : p y = false) : l.all p = false := List.all_eq_false.2 ⟨y, List.mem_of_getElem? hy, by rw [hp]; decide⟩
theorem all_yes {α : Type} {p : α → Bool} {l : List α} {n : Nat} (hl : l.length = n) (h : ∀ x ∈ l.take n, p x = true) : l.all p = true := List.all_eq_true.2 fun x hx => h x (by rw [List.take_of_length_le (by omega)]; exact hx)
set_option maxHeartbeats 3200000 in
theorem allFit_any (x : ZL) (n0 : Nat) (W : Int) (ex : List (Option Nat)) (w : World) (h : ZLok w ex x) (hn0 : n0 ≤ 9223372036854775807) :
    Calls Try.prog 66 #[.slice x.A x.n x.c, .int .i64 n0, .int .i64 W] w fun e w' => e = .returned (.bool (decide (x.n = n0) && x.l.all (zfitB W))) ∧ Below w.heap.size w w' := by
  have HX := hid h
  have HL := hid h.len
  have hfew := h.few
  clear h
  obtain ⟨A, n, c, l⟩ := x
  simp only at *
  go_enter Try.func66, Try.ntmps66
  by_cases h1 : n = n0
  · subst h1
    have t1 : ((n : Int) != (n : Int)) = false := by simp
    have Hd := hid (show (decide (n = n) && l.all (zfitB W)) = l.all (zfitB W) by simp)
    generalize hR : (decide (n = n) && l.all (zfitB W)) = R at *
    clear hR
    go_wp2_with fail
    clear t1
    go_loopw [8, 15] (fun _ iv wr => ∃ k : Nat, k ≤ n ∧ iv = .int .i64 k ∧ Hid (Below w.heap.size w wr) ∧ Hid (∀ y ∈ l.take k, zfitB W y = true)) (fun _ iv _ => n - (intOf iv).toNat)
    case atStart => exact ⟨0, by omega, rfl, hid (Below.refl _ _), hid (by simp)⟩
    case round =>
      obtain ⟨k, hk, rfl, HB, hE⟩ := hrel
      by_cases hlt : k < n
      · obtain ⟨y, hy, hym⟩ := get_at HL.out hlt
        have HXr := hid (HX.out.below HB.out)
        obtain ⟨ad, hA, had, c0, c1⟩ := HXr.out.cell hy
        simp only at hA
        subst hA
        have HY := hid ((HXr.out.all y hym).arg)
        have Hno := hid (fun hp : zfitB W y = false => Hd.out.trans (all_no hy hp))
        have Hyes := hid (fun hp : zfitB W y = true => all_take hE.out hy hp)
        clear hy hym
        obtain ⟨V, yA, yn, yc, ys⟩ := y
        unfold zfitB at Hno Hyes
        simp only at *
        have HB1 := hid (HB.out.alloc HB.out.size (.cells #[.int .i64 V, .slice yA yn yc] 50))
        have Hbx := hid (Fb.new wr #[.int .i64 V, .slice yA yn yc] 50)
        have HYa := hid (HY.out.alloc (.cells #[.int .i64 V, .slice yA yn yc] 50))
        clear HY
        go_wp2_with fail
        clear c0 c1
        refine (devValid_any V yA yn yc ys _ HYa.out).mono ?_
        generalize wr.alloc (.cells #[.int .i64 V, .slice yA yn yc] 50) = wv at *
        generalize wr.heap.size = gv at *
        cases hv : Bs.validB V ys with
        | false =>
          rintro e w1 ⟨rfl, hb1⟩
          have Hr := hid (Hno.out (by rw [hv]; rfl))
          have Hb := hid (HB1.out.trans (hb1.mono HB1.out.size))
          clear hv hb1 Hno Hyes
          go_wp2_with fail
          go_ret
          exact ⟨ret_b Hr.out, Hb.out⟩
        | true =>
          rintro e w1 ⟨rfl, hb1⟩
          have Hb := hid (HB1.out.trans (hb1.mono HB1.out.size))
          obtain ⟨d0, d1⟩ := (Hbx.out.below hb1 Hbx.out.lt).two
          clear hb1 d1
          by_cases h2 : V = W
          · have t2 : (V != W) = false := by simp [h2]
            have Hr := hid (Hyes.out (by rw [hv, h2]; simp))
            clear hv Hno Hyes h2
            go_wp2_with fail
            go_round
            case rel => exact ⟨k + 1, by omega, by go_num, Hb, Hr⟩
            case measure => simp [intOf]; omega
          · have t2 : (V != W) = true := by simp [h2]
            have Hr := hid (Hno.out (by rw [hv]; simp [h2]))
            clear hv Hno Hyes h2
            go_wp2_with fail
            go_ret
            exact ⟨ret_b Hr.out, Hb.out⟩
      · obtain rfl : k = n := by omega
        have Hr := hid (Hd.out.trans (all_yes HL.out hE.out))
        go_wp2_with fail
        go_ret
        exact ⟨ret_b Hr.out, HB.out⟩
  · have t1 : ((n : Int) != (n0 : Int)) = true := by simp; omega
    have Hr := hid (show (decide (n = n0) && l.all (zfitB W)) = false by simp [h1])
    clear h1
    go_wp2_with fail
    go_ret
    exact ⟨ret_b Hr.out, Below.refl _ _⟩
/-- A valid function of this width. -/
def ffitB (W : Int) (x : FH) : Bool := x.vB && decide (x.G.W = W)
/-- P10.2: which systems are valid. -/
def sysB (s : SY) : Bool := decide (s.T.n = s.D.n) && linkB s.D.v && (decide (s.B.n = s.D.n) && s.B.l.all (zfitB s.W)) && s.T.l.all (ffitB s.W)
def SY.box (s : SY) : Array Value := #[.int .i64 s.W, .slice s.D.A s.D.n s.D.c, .slice s.T.A s.T.n s.T.c, .slice s.B.A s.B.n s.B.c]
set_option maxHeartbeats 6400000 in
theorem validS_any (s : SY) (ex : List (Option Nat)) (w : World) (h : SYok w ex s) :
    Calls Try.prog 38 #[s.a] w fun e w' => e = .returned (.bool (sysB s)) ∧ Below w.heap.size w w' := by
  have hdn := h.d.few
  have htn := h.t.few
  have hbn := h.b.few
  have HS := hid h
  have HTl := hid h.t.len
  clear h
  have Hlk := hid (fun (v : World) (hv : Below w.heap.size w v) => linked_any s.D ex v (HS.out.d.below hv))
  have Haf := hid (fun (v : World) (hv : Below w.heap.size w v) => allFit_any s.B s.D.n s.W ex v (HS.out.b.below hv) hdn)
  obtain ⟨W, D, T, B⟩ := s
  have HR : Hid (sysB ⟨W, D, T, B⟩ = (decide (T.n = D.n) && linkB D.v && (decide (B.n = D.n) && B.l.all (zfitB W)) && T.l.all (ffitB W))) := hid rfl
  generalize sysB ⟨W, D, T, B⟩ = R at *
  unfold SY.a at *
  simp only at *
  generalize hk : linkB D.v = kb at *
  generalize hf : (decide (B.n = D.n) && B.l.all (zfitB W)) = fb at *
  clear hk hf
  obtain ⟨DA, dn, dc, dl⟩ := D
  obtain ⟨TA, tn, tc, tl⟩ := T
  obtain ⟨BA, bn, bc, bl⟩ := B
  simp only at *
  have HB0 := hid ((Below.refl w.heap.size w).alloc (Nat.le_refl _) (.cells #[.int .i64 W, .slice DA dn dc, .slice TA tn tc, .slice BA bn bc] 27))
  have HG := hid (Fb.new w #[.int .i64 W, .slice DA dn dc, .slice TA tn tc, .slice BA bn bc] 27)
  go_enter Try.func38, Try.ntmps38
  by_cases h1 : tn = dn
  · subst h1
    have t1 : ((tn : Int) != (tn : Int)) = false := by simp
    go_wp2_with fail
    refine (Hlk.out _ HB0.out).mono ?_
    generalize w.alloc (.cells #[.int .i64 W, .slice DA tn dc, .slice TA tn tc, .slice BA bn bc] 27) = w0 at *
    rintro e w1 ⟨rfl, rfl⟩
    obtain ⟨c0, c1, c2, c3⟩ := HG.out.four
    cases kb with
    | false =>
      as_aux_lemma =>
        have Hr := hid (show R = false by rw [HR.out]; simp)
        go_wp2_with fail
        go_ret
        exact ⟨ret_b Hr.out, HB0.out⟩
    | true =>
      go_wp2_with fail
      refine (Haf.out _ HB0.out).mono ?_
      rintro e w1 ⟨rfl, hb1⟩
      have HB1 := hid (HB0.out.trans (hb1.mono HB0.out.size))
      have HG1 := hid (HG.out.below hb1 HG.out.lt)
      clear hb1 c0 c1 c2 c3
      obtain ⟨c0, c1, c2, c3⟩ := HG1.out.four
      cases fb with
      | false =>
        as_aux_lemma =>
          have Hr := hid (show R = false by rw [HR.out]; simp)
          go_wp2_with fail
          go_ret
          exact ⟨ret_b Hr.out, HB1.out⟩
      | true =>
        have HR2 := hid (show R = tl.all (ffitB W) by rw [HR.out]; simp)
        go_wp2_with fail
        clear t1 c0 c1 c2 c3
        go_loopw [5, 32] (fun _ iv wr => ∃ k : Nat, k ≤ tn ∧ iv = .int .i64 k ∧ Hid (Below w.heap.size w wr ∧ Fb wr w.heap.size #[.int .i64 W, .slice DA tn dc, .slice TA tn tc, .slice BA bn bc] 27) ∧ Hid (∀ y ∈ tl.take k, ffitB W y = true)) (fun _ iv _ => tn - (intOf iv).toNat)
        case atStart => exact ⟨0, by omega, rfl, hid ⟨HB1.out, HG1.out⟩, hid (by simp)⟩
        case round =>
          obtain ⟨k, hk, rfl, HB, hE⟩ := hrel
          by_cases hlt : k < tn
          · obtain ⟨y, hy, hym⟩ := get_at HTl.out hlt
            have HXr := hid (HS.out.t.below HB.out.1)
            obtain ⟨ad, hA, had, e0, e1, e2, e3, e4⟩ := HXr.out.cell hy
            simp only at hA
            subst hA
            have HY := hid (HXr.out.all y hym)
            have Hno := hid (fun hp : ffitB W y = false => HR2.out.trans (all_no hy hp))
            have Hyes := hid (fun hp : ffitB W y = true => all_take hE.out hy hp)
            have Hft := hid (fun (v : World) (hv : Below wr.heap.size wr v) => fits_any y W ex v (HY.out.below hv))
            clear hy hym HY
            obtain ⟨⟨V0, yA, yn, yc, gs⟩, ⟨V, zA, zn, zc, ks⟩, C, q, r, cs⟩ := y
            unfold ffitB at Hno Hyes
            generalize hb : (FH.vB ⟨⟨V0, yA, yn, yc, gs⟩, ⟨V, zA, zn, zc, ks⟩, C, q, r, cs⟩ && decide ((⟨⟨V0, yA, yn, yc, gs⟩, ⟨V, zA, zn, zc, ks⟩, C, q, r, cs⟩ : FH).G.W = W)) = bb at *
            clear hb
            unfold FH.a at *
            simp only at *
            have HB2 := hid (HB.out.1.alloc HB.out.1.size (.cells #[.int .i64 V0, .slice yA yn yc, .int .i64 V, .slice zA zn zc, .slice C q r] 61))
            have hba := (Below.refl wr.heap.size wr).alloc (Nat.le_refl _) (.cells #[.int .i64 V0, .slice yA yn yc, .int .i64 V, .slice zA zn zc, .slice C q r] 61)
            have Hba := hid hba
            have HG2 := hid (HB.out.2.below hba HB.out.2.lt)
            clear hba
            obtain ⟨c0, c1, c2, c3⟩ := HG2.out.four
            go_wp2_with fail
            refine (Hft.out _ Hba.out).mono ?_
            clear e0 e1 e2 e3 e4
            generalize wr.alloc (.cells #[.int .i64 V0, .slice yA yn yc, .int .i64 V, .slice zA zn zc, .slice C q r] 61) = wv at *
            rintro e w2 ⟨rfl, hb2⟩
            have HB3 := hid (HB2.out.trans (hb2.mono HB2.out.size))
            have HG3 := hid (HG2.out.below hb2 HG2.out.lt)
            clear hb2 c0 c1 c2 c3
            cases bb with
            | false =>
              as_aux_lemma =>
                have Hr := hid (Hno.out rfl)
                go_wp2_with fail
                go_ret
                exact ⟨ret_b Hr.out, HB3.out⟩
            | true =>
              have Hr := hid (Hyes.out rfl)
              go_wp2_with fail
              go_round
              case rel => exact ⟨k + 1, by omega, by go_num, hid ⟨HB3.out, HG3.out⟩, Hr⟩
              case measure => simp [intOf]; omega
          · obtain rfl : k = tn := by omega
            have Hr := hid (HR2.out.trans (all_yes HTl.out hE.out))
            go_wp2_with fail
            go_ret
            exact ⟨ret_b Hr.out, HB.out.1⟩
  · have t1 : ((tn : Int) != (dn : Int)) = true := by simp; omega
    have Hr := hid (show R = false by rw [HR.out]; simp [h1])
    clear h1
    go_wp2_with fail
    go_ret
    exact ⟨ret_b Hr.out, HB0.out⟩
end Go.Proofs.Ytopkmeceakjocaa
