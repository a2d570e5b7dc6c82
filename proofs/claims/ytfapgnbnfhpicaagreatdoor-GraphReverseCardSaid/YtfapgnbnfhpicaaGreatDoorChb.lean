/- The package's checkBlocks and checkFuncs. -/
import Derived.Test.YtfapgnbnfhpicaaGreatDoorChk
namespace Go.Proofs.YtfapgnbnfhpicaaGreatDoor
set_option maxRecDepth 20000
set_option linter.unusedVariables false
set_option linter.unusedSimpArgs false
open Go.ChangeShapes Go.WideShapes Go.ChangeAt Go.RowKit

theorem dup_cases (ns : List ByteArray) : dupI ns = -1 ∨ 0 ≤ dupI ns := by
  unfold dupI
  cases h : (List.range ns.length).findSome? (dupAt ns) with
  | none => exact .inl rfl
  | some v =>
    obtain ⟨i, _, hi⟩ := List.exists_of_findSome?_eq_some h
    right
    unfold dupAt at hi
    split at hi
    · split at hi
      · injection hi with hi; subst hi; show (0 : Int) ≤ _; simp
      · cases hi
    · cases hi
/-- The first error in a block's statements: block, statement, error. -/
def stAt (F B : List ByteArray) (ss : List Stm) (k j : Nat) : Option (Int × Int × Int) :=
  match ss[j]? with | some t => if stmtE F B (decide (j + 1 = ss.length)) t == 0 then none else some ((k : Int), (j : Int), stmtE F B (decide (j + 1 = ss.length)) t) | none => none
def blkAt (F B : List ByteArray) (bs : List Blk) (k : Nat) : Option (Int × Int × Int) :=
  match bs[k]? with | some b => (List.range b.ss.length).findSome? (stAt F B b.ss k) | none => none
/-- The first error in the blocks of a function. -/
def blocksE (F : List ByteArray) (bs : List Blk) : Int × Int × Int :=
  if dupI (bs.map Blk.name) == -1 then ((List.range bs.length).findSome? (blkAt F (bs.map Blk.name) bs)).getD (0, 0, 0) else (dupI (bs.map Blk.name), -1, 6)
theorem st_none {F B : List ByteArray} {ss : List Stm} {k j : Nat} {t : Stm} {e : Int} (h : ss[j]? = some t) (he : stmtE F B (decide (j + 1 = ss.length)) t = e) (h0 : (e == 0) = true) : stAt F B ss k j = none := by
  unfold stAt; rw [h]; simp only [he, h0]; rfl
theorem st_some {F B : List ByteArray} {ss : List Stm} {k j : Nat} {t : Stm} {e : Int} (h : ss[j]? = some t) (he : stmtE F B (decide (j + 1 = ss.length)) t = e) (h0 : (e == 0) = false) : stAt F B ss k j = some ((k : Int), (j : Int), e) := by
  unfold stAt; rw [h]; simp only [he, h0]; rfl
theorem blk_at {F B : List ByteArray} {bs : List Blk} {k : Nat} {b : Blk} (h : bs[k]? = some b) : blkAt F B bs k = (List.range b.ss.length).findSome? (stAt F B b.ss k) := by unfold blkAt; rw [h]
theorem blocks_dup {F : List ByteArray} {bs : List Blk} {d : Int} (h : dupI (bs.map Blk.name) = d) (hd : 0 ≤ d) : blocksE F bs = (d, -1, 6) := by
  unfold blocksE; rw [h]; simp; omega
theorem blocks_hit {F : List ByteArray} {bs : List Blk} {k : Nat} {r : Int × Int × Int} (h : dupI (bs.map Blk.name) = -1) (h0 : (List.range k).findSome? (blkAt F (bs.map Blk.name) bs) = none) (hk : k < bs.length) (hr : blkAt F (bs.map Blk.name) bs k = some r) : blocksE F bs = r := by
  unfold blocksE; rw [h, some_hit h0 hk hr]; rfl
theorem blocks_end {F : List ByteArray} {bs : List Blk} {k : Nat} (h : dupI (bs.map Blk.name) = -1) (h0 : (List.range k).findSome? (blkAt F (bs.map Blk.name) bs) = none) (hk : k = bs.length) : blocksE F bs = (0, 0, 0) := by
  subst hk; unfold blocksE; rw [h, h0]; rfl
def RetB (w : World) (r : Int × Int × Int) (e : Ending) (w' : World) : Prop := e = .returned (.tuple #[.int .i64 r.1, .int .i64 r.2.1, .int .i64 r.2.2]) ∧ Below w.heap.size w w'
theorem retB_mk {w w' : World} {r : Int × Int × Int} {a b c : Int} (h : r = (a, b, c)) (hb : Below w.heap.size w w') : RetB w r (.returned (.tuple #[.int .i64 a, .int .i64 b, .int .i64 c])) w' := by subst h; exact ⟨rfl, hb⟩
theorem last_eq {j n : Nat} : ((j : Int) == (n : Int) - 1) = decide (j + 1 = n) := by
  rw [Bool.eq_iff_iff]; simp; omega
set_option maxHeartbeats 6400000 in
theorem checkBlocks_any (x : FH) (ex : List (Option Nat)) (bf : Nat) (F : List ByteArray) (w : World) (h : FHok w ex x) (hF : NS w bf F) :
    Calls Tryz.prog 134 #[.slice x.A x.n x.c, .map (some bf)] w (RetB w (blocksE F x.f.bs)) := by
  have HX := hid h
  have HF := hid hF
  have hn := h.few
  have HL := hid h.len
  have HC := hid (collectB_any x ex w h)
  have Hns := hid (show (x.f.bs.map Blk.name) = x.l.map fun y => y.name by simp [FH.f, List.map_map, Function.comp_def, BH.b])
  have Hlb := hid (show x.f.bs.length = x.l.length by simp [FH.f])
  clear h hF
  obtain ⟨nm, A, n, c, l⟩ := x
  simp only at hn HL HC Hns Hlb
  generalize hbs : FH.f ⟨nm, A, n, c, l⟩ = ff at *
  have Hbs := hid (show ff.bs = l.map BH.b by rw [← hbs]; rfl)
  clear hbs
  go_enter Tryz.func134, Tryz.ntmps134
  go_wp2_with fail
  refine HC.out.mono ?_
  rw [← Hns.out]
  rintro e w1 ⟨b, rfl, hb1, hn1⟩
  have HB1 := hid hb1
  have HN1 := hid hn1
  have HF1 := hid (HF.out.below hb1)
  clear hb1 hn1 HF HC
  generalize hd : dupI (ff.bs.map Blk.name) = d at *
  have Hd := hid hd
  have hdc : d = -1 ∨ 0 ≤ d := hd ▸ dup_cases _
  clear hd
  rcases hdc with hd1 | hd1
  case inr =>
    have t1 : decide (0 ≤ d) = true := by simpa using hd1
    have Hr := hid (blocks_dup (F := F) Hd.out hd1)
    clear hd1
    go_wp2_with fail
    refine bodyPost_ret (v := .tuple #[.int .i64 d, .int .i64 (-1), .int .i64 6]) (by simp [results, Tryz.results134, go_sem]) rfl ?_
    exact retB_mk Hr.out HB1.out
  case inl =>
    have HN := hid (HN1.out hd1)
    subst hd1
    clear HN1
    generalize hBn : ff.bs.map Blk.name = Bn at *
    have HBn := hid hBn
    clear hBn
    go_wp2_with fail
    go_loopw [9, 10, 11, 12, 13, 24] (fun _ _ _ _ _ iv wr => ∃ k : Nat, k ≤ n ∧ iv = .int .i64 k ∧ Hid ((List.range k).findSome? (blkAt F Bn ff.bs) = none) ∧ Hid (NS wr b Bn) ∧ Hid (NS wr bf F) ∧ Hid (Below w.heap.size w wr)) (fun _ _ _ _ _ iv _ => n - (intOf iv).toNat)
    case atStart => exact ⟨0, by omega, rfl, hid rfl, HN.out, HF1.out, HB1.out⟩
    case round =>
      clear HN HF1 HB1
      obtain ⟨k, hk, rfl, hX, hN, hF, hB⟩ := hrel
      by_cases hlt : k < n
      · obtain ⟨y, hy, hym⟩ := get_at HL.out hlt
        have HPr := hid (HX.out.go (Go2.below hB.out))
        obtain ⟨ad, hA, had, hc1, hc2⟩ := BH.cells HPr.out.lies hy
        simp only at hA
        subst hA
        have hb2 := (Below.refl wr.heap.size wr).alloc (Nat.le_refl _) (.cells #[.string y.name, .slice y.A y.n y.c] 65)
        have HN2 := hid (hN.out.below hb2)
        have HF2 := hid (hF.out.below hb2)
        have HB2 := hid (below_step hB.out hb2)
        have HG2 := hid (Fb.new wr #[.string y.name, .slice y.A y.n y.c] 65)
        have Hget := hid (show ff.bs[k]? = some y.b by rw [Hbs.out, List.getElem?_map, hy]; rfl)
        have Hya := hid (fun (v : World) (h : Below w.heap.size w v) => (HX.out.go (Go2.below h)).all y hym)
        have hyn : y.n ≤ 40 := (HPr.out.all y hym).few
        have Hyl := hid (show y.l.length = y.n from (HPr.out.all y hym).len)
        have Hss := hid (show y.b.ss = y.l.map SH.t from rfl)
        clear hy hym HPr hb2 hN hF hB
        obtain ⟨g0, g1⟩ := HG2.out.twoc
        generalize y.b = bb at *
        obtain ⟨ynm, yA, yn, yc, yl⟩ := y
        simp only at *
        go_wp2_with fail
        clear g0 g1 hc1 hc2 had
        obtain ⟨G, hG⟩ : ∃ G, wr.heap.size = G := ⟨_, rfl⟩
        rw [hG] at HG2
        rw [hG]
        clear hG
        go_loopw [11, 12, 13, 32] (fun _ _ _ iv wr => ∃ j : Nat, j ≤ yn ∧ iv = .int .i64 j ∧ Hid ((List.range j).findSome? (stAt F Bn bb.ss k) = none) ∧ Hid (NS wr b Bn) ∧ Hid (NS wr bf F) ∧ Hid (Below w.heap.size w wr) ∧ Hid (Fb wr G #[.string ynm, .slice yA yn yc] 65)) (fun _ _ _ iv _ => yn - (intOf iv).toNat)
        case atStart => exact ⟨0, by omega, rfl, hid rfl, HN2.out, HF2.out, HB2.out, HG2.out⟩
        case round =>
          clear HN2 HF2 HB2 HG2
          obtain ⟨j, hj, rfl, hY, hN, hF, hB, hG⟩ := hrel
          by_cases hlt2 : j < yn
          · obtain ⟨s, hs, hsm⟩ := get_at Hyl.out hlt2
            have HPr := hid (Hya.out _ hB.out)
            obtain ⟨ad2, hA, had, hc1, hc2, hc3, hc4⟩ := SH.cells HPr.out.lies hs
            simp only at hA
            subst hA
            have hb2 := (Below.refl wr.heap.size wr).alloc (Nat.le_refl _) (.cells #[.int .i64 s.t.op, .string s.t.d, .slice s.A s.n s.c, .slice s.B s.m s.c2] 68)
            have HS := hid ((HPr.out.all s hsm).go (Go2.below hb2))
            have HN2 := hid (hN.out.below hb2)
            have HF2 := hid (hF.out.below hb2)
            have HB2 := hid (below_step hB.out hb2)
            have HG2 := hid (hG.out.below hb2 hG.out.lt)
            have Hget2 := hid (show bb.ss[j]? = some s.t by rw [Hss.out, List.getElem?_map, hs]; rfl)
            have Hsl := hid (show bb.ss.length = yn by rw [Hss.out, List.length_map]; exact Hyl.out)
            clear hs hsm HPr hb2 hN hF hB
            obtain ⟨f0, f1⟩ := hG.out.twoc
            have hGl := hG.out.lt
            clear hG
            go_wp2_with fail
            refine (checkStmt_any s ex _ b bf F Bn _ HS.out HN2.out HF2.out).mono ?_
            rw [last_eq]
            rintro e w3 ⟨rfl, hb3⟩
            have HN3 := hid (HN2.out.below hb3)
            have HF3 := hid (HF2.out.below hb3)
            have HB3 := hid (below_step HB2.out hb3)
            have HG3 := hid (HG2.out.below hb3 HG2.out.lt)
            clear hb3 HS HN2 HF2 HB2 HG2 f0 f1 hGl hc1 hc2 hc3 hc4 had
            generalize he : stmtE F Bn (decide (j + 1 = yn)) s.t = ee at *
            have He := hid (show stmtE F Bn (decide (j + 1 = bb.ss.length)) s.t = ee by rw [Hsl.out]; exact he)
            clear he
            cases h0 : (ee == 0) with
            | false =>
              as_aux_lemma =>
                have h1 : (ee != 0) = true := by show (!(ee == 0)) = true; rw [h0]; rfl
                have Hr := hid (blocks_hit (F := F) (by rw [HBn.out]; exact Hd.out) (by rw [HBn.out]; exact hX.out) (show k < ff.bs.length by rw [Hlb.out, HL.out]; exact hlt) (by rw [HBn.out, blk_at Hget.out]; exact some_hit hY.out (by rw [Hsl.out]; exact hlt2) (st_some Hget2.out He.out h0)))
                go_wp2_with fail
                refine bodyPost_ret (v := .tuple #[.int .i64 k, .int .i64 j, .int .i64 ee]) (by simp [results, Tryz.results134, go_sem]) rfl ?_
                exact retB_mk Hr.out HB3.out
            | true =>
              as_aux_lemma =>
                have h1 : (ee != 0) = false := by show (!(ee == 0)) = false; rw [h0]; rfl
                have Hr := hid (some_step hY.out (st_none (k := k) Hget2.out He.out h0))
                go_wp2_with fail
                go_roundw
                case rel => exact ⟨j + 1, by omega, by go_num, Hr, HN3, HF3, HB3, HG3⟩
                case measure => simp [intOf]; omega
          · as_aux_lemma =>
              obtain rfl : j = yn := by omega
              have Hsl := hid (show bb.ss.length = j by rw [Hss.out, List.length_map]; exact Hyl.out)
              have Hr := hid (some_step hX.out (show blkAt F Bn ff.bs k = none by rw [blk_at Hget.out, Hsl.out]; exact hY.out))
              go_wp2_with fail
              go_roundw
              case rel => exact ⟨k + 1, by omega, by go_num, Hr, hN, hF, hB⟩
              case measure => simp [intOf]; omega
      · as_aux_lemma =>
          obtain rfl : k = n := by omega
          have Hr := hid (blocks_end (F := F) (by rw [HBn.out]; exact Hd.out) (by rw [HBn.out]; exact hX.out) (show k = ff.bs.length by rw [Hlb.out, HL.out]))
          go_wp2_with fail
          refine bodyPost_ret (v := .tuple #[.int .i64 0, .int .i64 0, .int .i64 0]) (by simp [results, Tryz.results134, go_sem]) rfl ?_
          exact retB_mk Hr.out hB.out

/-- The first error that has a place, and its node. -/
def fnAt (F : List ByteArray) (fs : List Fnc) (i : Nat) : Option ((Int × Int × Int × Int) × Int) :=
  match fs[i]? with | some f => if (blocksE F f.bs).2.2 == 0 then none else some ((3, (i : Int), (blocksE F f.bs).1, (blocksE F f.bs).2.1), (blocksE F f.bs).2.2) | none => none
def funcsE (fs : List Fnc) : (Int × Int × Int × Int) × Int :=
  if dupI (fs.map Fnc.name) == -1 then ((List.range fs.length).findSome? (fnAt (fs.map Fnc.name) fs)).getD ((0, 0, 0, 0), 0) else ((1, dupI (fs.map Fnc.name), -1, -1), 6)
theorem fn_none {F : List ByteArray} {fs : List Fnc} {i : Nat} {f : Fnc} {a b e : Int} (h : fs[i]? = some f) (he : blocksE F f.bs = (a, b, e)) (h0 : (e == 0) = true) : fnAt F fs i = none := by
  unfold fnAt; rw [h]; simp only [he, h0]; rfl
theorem fn_some {F : List ByteArray} {fs : List Fnc} {i : Nat} {f : Fnc} {a b e : Int} (h : fs[i]? = some f) (he : blocksE F f.bs = (a, b, e)) (h0 : (e == 0) = false) : fnAt F fs i = some ((3, (i : Int), a, b), e) := by
  unfold fnAt; rw [h]; simp only [he, h0]; rfl
theorem funcs_dup {fs : List Fnc} {d : Int} (h : dupI (fs.map Fnc.name) = d) (hd : 0 ≤ d) : funcsE fs = ((1, d, -1, -1), 6) := by
  unfold funcsE; rw [h]; simp; omega
theorem funcs_hit {fs : List Fnc} {k : Nat} {r : (Int × Int × Int × Int) × Int} (h : dupI (fs.map Fnc.name) = -1) (h0 : (List.range k).findSome? (fnAt (fs.map Fnc.name) fs) = none) (hk : k < fs.length) (hr : fnAt (fs.map Fnc.name) fs k = some r) : funcsE fs = r := by
  unfold funcsE; rw [h, some_hit h0 hk hr]; rfl
theorem funcs_end {fs : List Fnc} {k : Nat} (h : dupI (fs.map Fnc.name) = -1) (h0 : (List.range k).findSome? (fnAt (fs.map Fnc.name) fs) = none) (hk : k = fs.length) : funcsE fs = ((0, 0, 0, 0), 0) := by
  subst hk; unfold funcsE; rw [h, h0]; rfl
def RetNd (w : World) (r : (Int × Int × Int × Int) × Int) (e : Ending) (w' : World) : Prop :=
  e = .returned (.tuple #[.agg #[.int .i64 r.1.1, .int .i64 r.1.2.1, .int .i64 r.1.2.2.1, .int .i64 r.1.2.2.2], .int .i64 r.2]) ∧ Below w.heap.size w w'
theorem retNd_mk {w w' : World} {r : (Int × Int × Int × Int) × Int} {a b c d e : Int} (h : r = ((a, b, c, d), e)) (hb : Below w.heap.size w w') : RetNd w r (.returned (.tuple #[.agg #[.int .i64 a, .int .i64 b, .int .i64 c, .int .i64 d], .int .i64 e])) w' := by subst h; exact ⟨rfl, hb⟩
def nod0 : Array Value := #[.int .i64 0, .int .i64 0, .int .i64 0, .int .i64 0]
theorem info51 : (Tryz.prog.info? 75).map (fun i => (i.zero, i.size, i.bytes)) = some (some (.agg #[.int .i64 0, .int .i64 0, .int .i64 0, .int .i64 0]), 4, 32) := by kernel_rfl
set_option maxHeartbeats 6400000 in
theorem checkFuncs_any (x : PH) (ex : List (Option Nat)) (w : World) (h : PHok w ex x) :
    Calls Tryz.prog 90 #[.slice x.A x.n x.c] w (RetNd w (funcsE x.p)) := by
  have hb0 := (Below.refl w.heap.size w).alloc (Nat.le_refl _) (.cells #[.int .i64 0, .int .i64 0, .int .i64 0, .int .i64 0] 75)
  have HX := hid (PHok.below h hb0)
  have HG0 := hid (Fb.new w #[.int .i64 0, .int .i64 0, .int .i64 0, .int .i64 0] 75)
  have HB0 := hid hb0
  have hn := h.few
  have HL := hid h.len
  have HC := hid (collectF_any x ex _ HX.out)
  have Hns := hid (show (x.p.map Fnc.name) = x.l.map fun y => y.name by simp [PH.p, List.map_map, Function.comp_def, FH.f])
  have Hlb := hid (show x.p.length = x.l.length by simp [PH.p])
  clear h hb0
  obtain ⟨A, n, c, l⟩ := x
  simp only at hn HL HC Hns Hlb
  generalize hbs : PH.p ⟨A, n, c, l⟩ = fs at *
  have Hbs := hid (show fs = l.map FH.f by rw [← hbs]; rfl)
  clear hbs
  go_enter Tryz.func90, Tryz.ntmps90
  go_wp2_with fail
  generalize w.alloc (.cells #[.int .i64 0, .int .i64 0, .int .i64 0, .int .i64 0] 75) = w0 at *
  have hgg : w.heap.size < w0.heap.size := HG0.out.lt
  refine HC.out.mono ?_
  rw [← Hns.out]
  rintro e w1 ⟨b, rfl, hb1, hn1⟩
  have HB1 := hid (below_step HB0.out hb1)
  have HW1 := hid hb1
  have HN1 := hid hn1
  have HG1 := hid (HG0.out.below hb1 HG0.out.lt)
  clear hb1 hn1 HC HB0 HG0
  generalize hd : dupI (fs.map Fnc.name) = d at *
  have Hd := hid hd
  have hdc : d = -1 ∨ 0 ≤ d := hd ▸ dup_cases _
  clear hd
  rcases hdc with hd1 | hd1
  case inr =>
    have t1 : decide (0 ≤ d) = true := by simpa using hd1
    have Hr := hid (funcs_dup Hd.out hd1)
    have HZ := hid (fun a b c d => (((HB1.out.setCell (p := ⟨w.heap.size, 0, none⟩) (Nat.le_refl _) a).setCell (p := ⟨w.heap.size, 1, none⟩) (Nat.le_refl _) b).setCell (p := ⟨w.heap.size, 2, none⟩) (Nat.le_refl _) c).setCell (p := ⟨w.heap.size, 3, none⟩) (Nat.le_refl _) d)
    obtain ⟨g0, g1, g2, g3⟩ := Fb.four HG1.out
    have z0 := HG1.out.frozen 0
    have z1 := HG1.out.frozen 1
    have z2 := HG1.out.frozen 2
    have z3 := HG1.out.frozen 3
    have hlt1 := HG1.out.lt
    clear hd1
    go_wp2_with fail
    refine bodyPost_ret (v := .tuple #[.agg #[.int .i64 1, .int .i64 d, .int .i64 (-1), .int .i64 (-1)], .int .i64 6]) (by simp [results, Tryz.results90, go_sem, g0, g1, g2, g3, z0, z1, z2, z3, hlt1]) rfl ?_
    exact retNd_mk Hr.out (HZ.out _ _ _ _)
  case inl =>
    have HN := hid (HN1.out hd1)
    subst hd1
    clear HN1
    generalize hBn : fs.map Fnc.name = Bn at *
    have HBn := hid hBn
    clear hBn
    go_wp2_with fail
    go_loopw [6, 7, 8, 9, 10, 22] (fun _ _ _ _ _ iv wr => ∃ k : Nat, k ≤ n ∧ iv = .int .i64 k ∧ Hid ((List.range k).findSome? (fnAt Bn fs) = none) ∧ Hid (NS wr b Bn) ∧ Hid (Below w0.heap.size w0 wr) ∧ Hid (Below w.heap.size w wr) ∧ Hid (Fb wr w.heap.size #[.int .i64 0, .int .i64 0, .int .i64 0, .int .i64 0] 75)) (fun _ _ _ _ _ iv _ => n - (intOf iv).toNat)
    case atStart => exact ⟨0, by omega, rfl, hid rfl, HN.out, HW1.out, HB1.out, HG1.out⟩
    case round =>
      clear HN HW1 HB1 HG1
      obtain ⟨k, hk, rfl, hX, hN, hW, hB, hG⟩ := hrel
      by_cases hlt : k < n
      · obtain ⟨y, hy, hym⟩ := get_at HL.out hlt
        have HPr := hid (HX.out.go (Go2.below hW.out))
        obtain ⟨ad, hA, had, hc1, hc2⟩ := FH.cells HPr.out.lies hy
        simp only at hA
        subst hA
        have hb2 := (Below.refl wr.heap.size wr).alloc (Nat.le_refl _) (.cells #[.string y.name, .slice y.A y.n y.c] 62)
        have HN2 := hid (hN.out.below hb2)
        have HW2 := hid (below_step hW.out hb2)
        have HB2 := hid (below_step hB.out hb2)
        have HG2 := hid (hG.out.below hb2 hG.out.lt)
        have HY2 := hid ((HPr.out.all y hym).go (Go2.below hb2))
        have Hget := hid (show fs[k]? = some y.f by rw [Hbs.out, List.getElem?_map, hy]; rfl)
        clear hy hym HPr hb2 hN hW hB hG
        go_wp2_with fail
        refine (checkBlocks_any y ex b Bn _ HY2.out HN2.out).mono ?_
        have hq : ∃ q, blocksE Bn y.f.bs = q := ⟨_, rfl⟩
        obtain ⟨⟨qa, qb, qe⟩, hq⟩ := hq
        rw [hq]
        rintro e w3 ⟨rfl, hb3⟩
        have HN3 := hid (HN2.out.below hb3)
        have HW3 := hid (below_step HW2.out hb3)
        have HB3 := hid (below_step HB2.out hb3)
        have HG3 := hid (HG2.out.below hb3 HG2.out.lt)
        have Hq := hid hq
        clear hb3 HN2 HW2 HB2 HG2 HY2 hc1 hc2 had hq
        cases h0 : (qe == 0) with
        | false =>
          as_aux_lemma =>
            have h1 : (qe != 0) = true := by show (!(qe == 0)) = true; rw [h0]; rfl
            have Hr := hid (funcs_hit (by rw [HBn.out]; exact Hd.out) (by rw [HBn.out]; exact hX.out) (show k < fs.length by rw [Hlb.out, HL.out]; exact hlt) (by rw [HBn.out]; exact fn_some Hget.out Hq.out h0))
            have HZ := hid (fun a b c d => (((HB3.out.setCell (p := ⟨w.heap.size, 0, none⟩) (Nat.le_refl _) a).setCell (p := ⟨w.heap.size, 1, none⟩) (Nat.le_refl _) b).setCell (p := ⟨w.heap.size, 2, none⟩) (Nat.le_refl _) c).setCell (p := ⟨w.heap.size, 3, none⟩) (Nat.le_refl _) d)
            obtain ⟨g0, g1, g2, g3⟩ := Fb.four HG3.out
            have z0 := HG3.out.frozen 0
            have z1 := HG3.out.frozen 1
            have z2 := HG3.out.frozen 2
            have z3 := HG3.out.frozen 3
            have hlt1 := HG3.out.lt
            go_wp2_with fail
            refine bodyPost_ret (v := .tuple #[.agg #[.int .i64 3, .int .i64 k, .int .i64 qa, .int .i64 qb], .int .i64 qe]) (by simp [results, Tryz.results90, go_sem, g0, g1, g2, g3, z0, z1, z2, z3, hlt1]) rfl ?_
            exact retNd_mk Hr.out (HZ.out _ _ _ _)
        | true =>
          as_aux_lemma =>
            have h1 : (qe != 0) = false := by show (!(qe == 0)) = false; rw [h0]; rfl
            have Hr := hid (some_step hX.out (fn_none Hget.out Hq.out h0))
            go_wp2_with fail
            go_roundw
            case rel => exact ⟨k + 1, by omega, by go_num, Hr, HN3, HW3, HB3, HG3⟩
            case measure => simp [intOf]; omega
      · as_aux_lemma =>
          obtain rfl : k = n := by omega
          have Hr := hid (funcs_end (by rw [HBn.out]; exact Hd.out) (by rw [HBn.out]; exact hX.out) (show k = fs.length by rw [Hlb.out, HL.out]))
          have HZ := hid (fun a b c d => (((hB.out.setCell (p := ⟨w.heap.size, 0, none⟩) (Nat.le_refl _) a).setCell (p := ⟨w.heap.size, 1, none⟩) (Nat.le_refl _) b).setCell (p := ⟨w.heap.size, 2, none⟩) (Nat.le_refl _) c).setCell (p := ⟨w.heap.size, 3, none⟩) (Nat.le_refl _) d)
          obtain ⟨g0, g1, g2, g3⟩ := Fb.four hG.out
          have z0 := hG.out.frozen 0
          have z1 := hG.out.frozen 1
          have z2 := hG.out.frozen 2
          have z3 := hG.out.frozen 3
          have hlt1 := hG.out.lt
          go_wp2_with fail
          refine bodyPost_ret (v := .tuple #[.agg #[.int .i64 0, .int .i64 0, .int .i64 0, .int .i64 0], .int .i64 0]) (by simp [results, Tryz.results90, go_sem, g0, g1, g2, g3, z0, z1, z2, z3, hlt1]) rfl ?_
          exact retNd_mk Hr.out (HZ.out _ _ _ _)
end Go.Proofs.YtfapgnbnfhpicaaGreatDoor
