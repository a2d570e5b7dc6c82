/- The package's statements: the statements of a well-formed program in one list. -/
import Derived.Test.YtfapgnbnfhpicaaGreatDoorVdw
import Derived.Test.YtfapgnbnfhpicaaGreatDoorPg1
import Derived.Deep.AppendLies
namespace Go.Proofs.YtfapgnbnfhpicaaGreatDoor
set_option maxRecDepth 20000
set_option linter.unusedVariables false
set_option linter.unusedSimpArgs false
open Go.ChangeShapes Go.WideShapes Go.ChangeAt Go.RowKit

def fncS (f : Fnc) : List Stm := f.bs.flatMap Blk.ss
def stmtsP (p : List Fnc) : List Stm := if prgB p then p.flatMap fncS else []
theorem blk_parts {b : Blk} (h : blkB b = true) : 1 ≤ b.ss.length ∧ b.ss.length ≤ 32 ∧ ∀ s ∈ b.ss, stmB s = true := by
  unfold blkB at h
  simp only [Bool.and_eq_true, decide_eq_true_eq] at h
  exact ⟨h.1.1.2, h.1.2, fun s hs => List.all_eq_true.1 h.2 s hs⟩
theorem fnc_parts {f : Fnc} (h : fncB f = true) : 1 ≤ f.bs.length ∧ f.bs.length ≤ 16 ∧ ∀ b ∈ f.bs, blkB b = true := by
  unfold fncB at h
  simp only [Bool.and_eq_true, decide_eq_true_eq] at h
  exact ⟨h.1.1.2, h.1.2, fun s hs => List.all_eq_true.1 h.2 s hs⟩
theorem prg_parts {p : List Fnc} (h : prgB p = true) : 1 ≤ p.length ∧ p.length ≤ 8 ∧ ∀ f ∈ p, fncB f = true := by
  unfold prgB at h
  simp only [Bool.and_eq_true, decide_eq_true_eq] at h
  exact ⟨h.1.1, h.1.2, fun s hs => List.all_eq_true.1 h.2 s hs⟩
theorem flat_mem {α β : Type} {f : α → List β} {l : List α} {P : β → Prop} (h : ∀ a ∈ l, ∀ b ∈ f a, P b) : ∀ b ∈ l.flatMap f, P b := by
  intro b hb
  obtain ⟨a, ha, hb⟩ := List.mem_flatMap.1 hb
  exact h a ha b hb
theorem stmts_ok {p : List Fnc} : ∀ s ∈ stmtsP p, stmB s = true := by
  unfold stmtsP
  split
  · next h => exact flat_mem fun f hf => flat_mem fun b hb => (blk_parts ((fnc_parts ((prg_parts h).2.2 f hf)).2.2 b hb)).2.2
  · simp
theorem one_shc2 (l : List SH) : ∀ u ∈ l.flatMap shc, u.oneCell' = true := flat_mem fun x _ => by
  intro u hu
  simp [shc] at hu
  rcases hu with rfl | rfl | rfl | rfl <;> rfl
/-- The statements' list came back. -/
def RetSt (w0 w : World) (p : List Fnc) (e : Ending) (w' : World) : Prop :=
  ∃ (A : Option Addr) (c : Nat) (l : List SH), e = .returned (.slice A l.length c) ∧ l.map SH.t = stmtsP p ∧ l.length ≤ 4096 ∧ (∀ ex : List (Option Nat), (∀ k, some k ∈ ex → k < w.heap.size) → EAt w' ex A (l.flatMap shc)) ∧ (∀ y ∈ l, SHok w0 [] y) ∧ Below w.heap.size w w'
/-- The list of statements that is built, beside what it is built of. -/
structure Stg (w0 w : World) (v : Value) (m : Nat) (L : List SH) (wr : World) : Prop where
  own : wr.ownsRow (w.heap.size + 1) 68 4 v m (L.flatMap shc)
  len : m = L.length
  all : ∀ y ∈ L, SHok w0 [] y
  bel : Below w.heap.size w wr
  siz : w.heap.size + 1 ≤ wr.heap.size
theorem Stg.below {w0 w wr w' : World} {v : Value} {m : Nat} {L : List SH} (h : Stg w0 w v m L wr) (hb : Below wr.heap.size wr w') : Stg w0 w v m L w' :=
  ⟨own_below h.own hb, h.len, h.all, below_step h.bel hb, Nat.le_trans h.siz hb.size⟩
theorem Stg.push {w0 w wr w' : World} {v : Value} {m n g cap : Nat} {L l : List SH} (h : Stg w0 w v m L wr) (hall : ∀ y ∈ l, SHok w0 [] y) (hn : l.length = n)
    (hown : w'.ownsRow (w.heap.size + 1) 68 4 (.slice (some ⟨g, 0, none⟩) (m + n) cap) (m + n) (L.flatMap shc ++ l.flatMap shc)) (hg : wr.grownBy w' v.ownBlock) : Stg w0 w (.slice (some ⟨g, 0, none⟩) (m + n) cap) (m + n) (L ++ l) w' := by
  refine ⟨by rw [List.flatMap_append]; exact hown, by rw [List.length_append, h.len, hn], fun y hy => (List.mem_append.1 hy).elim (h.all y) (hall y), ?_, Nat.le_trans h.siz hg.size⟩
  exact h.bel.grown hg h.bel.size (fun k hk => by have := (h.own.lt k hk).1; omega)
theorem info46 : (Tryz.prog.info? 68).map (fun i => (i.zero, i.size, i.bytes)) = some (some (.agg #[.int .i64 0, .string ⟨#[]⟩, .slice none 0 0, .slice none 0 0]), 4, 72) := by kernel_rfl
set_option maxHeartbeats 6400000 in
theorem statements_any (x : PH) (ex : List (Option Nat)) (wz w : World) (h : PHok wz ex x) (hwz : Below wz.heap.size wz w) (hs : Shp w) :
    Calls Tryz.prog 119 #[.agg #[.slice x.A x.n x.c]] w (RetSt wz w x.p) := by
  obtain ⟨i1, hi, hz0, hz1, hz2⟩ := info_parts info46
  have Hi := hid hi; have Hz0 := hid hz0; have Hz1 := hid hz1; have Hz2 := hid hz2
  clear hi hz0 hz1 hz2
  have hx0 : PHok wz [] x := h.go (Go2.less wz (by simp))
  have Hwz := hid hwz
  have hb0 := (Below.refl w.heap.size w).alloc (Nat.le_refl _) (.cells #[.slice x.A x.n x.c] 44)
  have HX := hid hx0
  have HB0 := hid hb0
  have HG0 := hid (Fb.new w #[.slice x.A x.n x.c] 44)
  have HV := hid (devValid_any x [] _ (PHok.below (PHok.below hx0 hwz) hb0) (hs.keep (hb0.block 1 hs.pos0)))
  have hsz0 := hid (show (w.alloc (.cells #[.slice x.A x.n x.c] 44)).heap.size = w.heap.size + 1 by rw [World.size_alloc])
  have hn := h.few
  have HL := hid h.len
  clear h hb0 hx0 hs hwz
  obtain ⟨A, n, c, l⟩ := x
  simp only at *
  go_enter Tryz.func119, Tryz.ntmps119
  go_wp2_with fail
  generalize w.alloc (.cells #[.slice A n c] 44) = w0 at *
  refine HV.out.mono ?_
  rintro e w1 ⟨rfl, hb1⟩
  have HB1 := hid (below_step HB0.out hb1)
  have HG1 := hid (HG0.out.below hb1 HG0.out.lt)
  have HS1 := hid (show w.heap.size + 1 ≤ w1.heap.size by have := hb1.size; have := hsz0.out; omega)
  clear hb1 HB0 HG0 HV hsz0
  cases hv : prgB (PH.p ⟨A, n, c, l⟩) with
  | false =>
    as_aux_lemma =>
      have Hr := hid (show stmtsP (PH.p ⟨A, n, c, l⟩) = [] by unfold stmtsP; rw [hv]; rfl)
      clear hv
      go_wp2_with fail
      go_ret
      exact ⟨none, 0, [], rfl, by rw [Hr.out]; rfl, by simp, fun _ _ => EAt.nil _ _ _, by simp, HB1.out⟩
  | true =>
    have Hr := hid (show stmtsP (PH.p ⟨A, n, c, l⟩) = l.flatMap (fun y => fncS y.f) by unfold stmtsP PH.p; rw [show prgB (l.map FH.f) = true from hv, if_pos rfl, List.flatMap_map])
    have HP := hid (prg_parts hv)
    have hn8 : n ≤ 8 := by have := HP.out.2.1; have := HL.out; simp [PH.p] at *; omega
    have Hf := hid (fun (y : FH) (hy : y ∈ l) => fnc_parts (HP.out.2.2 y.f (List.mem_map_of_mem hy)))
    clear hv
    have HO := hid (show Stg wz w (.slice none 0 0) 0 [] w1 from ⟨World.ownsRow_nil _ _ _ _, rfl, by simp, HB1.out, HS1.out⟩)
    obtain g0 := HG1.out.onec
    clear HB1 HS1 HP
    go_wp2_with fail
    clear g0 HG1
    go_loopw [3, 5, 7, 14] (fun sv _ _ iv wr => ∃ (k m : Nat) (v : Value) (L : List SH), k ≤ n ∧ iv = .int .i64 k ∧ sv = v ∧ m ≤ k * 512 ∧ Hid (L.map SH.t = (l.take k).flatMap (fun y => fncS y.f)) ∧ Hid (Stg wz w v m L wr)) (fun _ _ _ iv _ => n - (intOf iv).toNat)
    case atStart => exact ⟨0, 0, _, [], by omega, rfl, rfl, by omega, hid rfl, HO.out⟩
    case round =>
      clear HO
      obtain ⟨k, m, v, L, hk, rfl, rfl, hm, hE, hO⟩ := hrel
      by_cases hlt : k < n
      · obtain ⟨y, hy, hym⟩ := get_at HL.out hlt
        have HPr := hid (HX.out.go (Go2.below (below_step Hwz.out hO.out.bel)))
        obtain ⟨ad, hA, had, hc1, hc2⟩ := FH.cells HPr.out.lies hy
        simp only at hA
        subst hA
        have hb2 := (Below.refl wr.heap.size wr).alloc (Nat.le_refl _) (.cells #[.string y.name, .slice y.A y.n y.c] 62)
        have HO2 := hid (hO.out.below hb2)
        have HG2 := hid (Fb.new wr #[.string y.name, .slice y.A y.n y.c] 62)
        have Hy := hid (HX.out.all y hym)
        have Hyl := hid (show y.l.length = y.n from (HX.out.all y hym).len)
        have hyn : y.n ≤ 16 := by have := (Hf.out y hym).2.1; have := Hyl.out; simp [FH.f] at *; omega
        have Hyb := hid (fun (z : BH) (hz : z ∈ y.l) => blk_parts ((Hf.out y hym).2.2 z.b (List.mem_map_of_mem hz)))
        have Hstep := hid (show (l.take (k + 1)).flatMap (fun y => fncS y.f) = (l.take k).flatMap (fun y => fncS y.f) ++ fncS y.f by rw [List.take_add_one, hy, List.flatMap_append]; simp)
        have Hfs := hid (show fncS y.f = y.l.flatMap (fun z => z.b.ss) by unfold fncS FH.f; rw [List.flatMap_map])
        clear hy hym HPr hb2 hO
        obtain ⟨g0, g1⟩ := HG2.out.twoc
        obtain ⟨ynm, yA, yn, yc, yl⟩ := y
        simp only at *
        go_wp2_with fail
        clear g0 g1 hc1 hc2 had HG2
        go_loopw [3, 7, 21] (fun sv _ iv wr => ∃ (j m2 : Nat) (v : Value) (L2 : List SH), j ≤ yn ∧ iv = .int .i64 j ∧ sv = v ∧ m2 ≤ k * 512 + j * 32 ∧ Hid (L2.map SH.t = (l.take k).flatMap (fun y => fncS y.f) ++ (yl.take j).flatMap (fun z => z.b.ss)) ∧ Hid (Stg wz w v m2 L2 wr)) (fun _ _ iv _ => yn - (intOf iv).toNat)
        case atStart => exact ⟨0, m, _, L, by omega, rfl, rfl, by omega, hid (by rw [hE.out]; simp), HO2.out⟩
        case round =>
          clear HO2
          obtain ⟨j, m2, v2, L2, hj, rfl, rfl, hm2, hE2, hO⟩ := hrel
          by_cases hlt2 : j < yn
          · obtain ⟨z, hz, hzm⟩ := get_at Hyl.out hlt2
            have HPr := hid (Hy.out.go (Go2.below (below_step Hwz.out hO.out.bel)))
            obtain ⟨ad2, hA, had, hc1, hc2⟩ := BH.cells HPr.out.lies hz
            simp only at hA
            subst hA
            have hb2 := (Below.refl wr.heap.size wr).alloc (Nat.le_refl _) (.cells #[.string z.name, .slice z.A z.n z.c] 65)
            have HO2 := hid (hO.out.below hb2)
            have HG2 := hid (Fb.new wr #[.string z.name, .slice z.A z.n z.c] 65)
            have HZ := hid ((HPr.out.all z hzm).lies.go (Go2.below hb2))
            have Hza := hid (Hy.out.all z hzm).all
            have Hzl := hid (show z.l.length = z.n from (HPr.out.all z hzm).len)
            have hzn : 1 ≤ z.n ∧ z.n ≤ 32 := by have h1 := (Hyb.out z hzm).1; have h2 := (Hyb.out z hzm).2.1; have := Hzl.out; simp [BH.b] at *; omega
            have Hstep2 := hid (show (yl.take (j + 1)).flatMap (fun z => z.b.ss) = (yl.take j).flatMap (fun z => z.b.ss) ++ z.l.map SH.t by rw [List.take_add_one, hz, List.flatMap_append]; simp [BH.b])
            clear hz hzm HPr hb2 hO
            obtain ⟨g0, g1⟩ := HG2.out.twoc
            obtain ⟨znm, zA, zn, zc, zl⟩ := z
            simp only at *
            obtain ⟨za, rfl, hzs, hzc⟩ : ∃ ad, zA = some ad ∧ Safe _ [] ad.block ∧ ∀ j u, (zl.flatMap shc)[j]? = some u → World.cell? _ (ad.add j) = some u := by
              rcases HZ.out with h | h
              · have := flat_len shc_len zl; rw [h] at this; simp at this; have := Hzl.out; omega
              · exact h
            have Hzc := hid hzc
            have Hnl := hid (show (zl.flatMap shc).length = zn * 4 by rw [flat_len shc_len, Hzl.out])
            clear hzc hzs
            go_wp2_with ((
              at_builtin
              refine wpList_append_lies _ rfl _ _ 63 rfl (w.heap.size + 1) 68 i1 _ 4 72 Tryz.underlying63 Hi.out Hz0.out Hz1.out Hz2.out rfl (by decide) _ m2 (L2.flatMap shc) rfl HO2.out.own za zn zc (zl.flatMap shc) rfl Hnl.out Hzc.out (one_shc2 zl) (by omega) (by unfold maxLen; omega) (by omega) HO2.out.siz _ rfl ?_
              intro g5 cap5 w5 hown5 hgr5 hat5 hlt5
              have H5 := hid (Stg.push HO2.out Hza.out Hzl.out hown5 hgr5)
              clear hown5 hgr5 hat5 hlt5))
            clear g0 g1 hc1 hc2 had HG2 HO2 HZ Hzc
            go_roundw
            case rel => exact ⟨j + 1, m2 + zn, _, L2 ++ zl, by omega, by go_num, rfl, by omega, hid (by rw [List.map_append, hE2.out, Hstep2.out, List.append_assoc]), H5⟩
            case measure => simp [intOf]; omega
          · as_aux_lemma =>
              obtain rfl : j = yn := by omega
              have Hd := hid (show L2.map SH.t = (l.take (k + 1)).flatMap (fun y => fncS y.f) by rw [hE2.out, Hstep.out, Hfs.out, ← Hyl.out, List.take_length])
              go_wp2_with fail
              go_roundw
              case rel => exact ⟨k + 1, m2, _, L2, by omega, by go_num, rfl, by omega, Hd, hO⟩
              case measure => simp [intOf]; omega
      · as_aux_lemma =>
          obtain rfl : k = n := by omega
          have Hd := hid (show L.map SH.t = stmtsP (PH.p ⟨A, k, c, l⟩) by rw [hE.out, Hr.out, ← HL.out, List.take_length])
          obtain ⟨B, cc, hvv⟩ := own_any_slice hO.out.own
          subst hvv
          have hml := hO.out.len
          go_wp2_with fail
          go_ret
          subst hml
          exact ⟨B, cc, L, rfl, Hd.out, by omega, fun ex hex => EAt.own hO.out.own (fun g hg hm => by have := (hO.out.own.lt g hg).1; have := hex g hm; omega), hO.out.all, hO.out.bel⟩
end Go.Proofs.YtfapgnbnfhpicaaGreatDoor
