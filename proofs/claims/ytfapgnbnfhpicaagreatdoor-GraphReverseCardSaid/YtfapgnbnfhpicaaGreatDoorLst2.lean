/- The package's List of nodes. -/
import Derived.Test.YtfapgnbnfhpicaaGreatDoorChp
namespace Go.Proofs.YtfapgnbnfhpicaaGreatDoor
set_option maxRecDepth 20000
set_option linter.unusedVariables false
set_option linter.unusedSimpArgs false
open Go.ChangeShapes Go.WideShapes Go.ChangeAt Go.RowKit

/-- A node: kind, function, block, statement. -/
structure Nd where
  kd : Int
  fn : Int
  bk : Int
  st : Int
deriving DecidableEq
def ndc (x : Nd) : List Value := [.int .i64 x.kd, .int .i64 x.fn, .int .i64 x.bk, .int .i64 x.st]
theorem ndc_len (x : Nd) : (ndc x).length = 4 := rfl
def ndS (f b j : Nat) (t : Stm) : List Nd := if t.op == 3 then [⟨3, f, b, j⟩, ⟨4, f, b, j⟩] else [⟨3, f, b, j⟩]
def ndSs (f b : Nat) (ss : List Stm) (j : Nat) : List Nd := match ss[j]? with | some t => ndS f b j t | none => []
def ndB (f b : Nat) (x : Blk) : List Nd := (List.range x.ss.length).flatMap (ndSs f b x.ss)
def ndBs (f : Nat) (bs : List Blk) (b : Nat) : List Nd := match bs[b]? with | some x => ndB f b x | none => []
def ndF (f : Nat) (x : Fnc) : List Nd := ⟨1, f, -1, -1⟩ :: (List.range x.bs.length).flatMap (ndBs f x.bs) ++ [⟨2, f, -1, -1⟩]
def ndFs (fs : List Fnc) (f : Nat) : List Nd := match fs[f]? with | some x => ndF f x | none => []
/-- P7.1. -/
def listN (p : List Fnc) : List Nd := if (checkP p).2 == 0 then (List.range p.length).flatMap (ndFs p) else []
theorem range_flat {f : Nat → List Nd} {k : Nat} : (List.range (k + 1)).flatMap f = (List.range k).flatMap f ++ f k := by rw [List.range_succ, List.flatMap_append]; simp
theorem ndSs_at {f b : Nat} {ss : List Stm} {j : Nat} {t : Stm} (h : ss[j]? = some t) : ndSs f b ss j = ndS f b j t := by unfold ndSs; rw [h]
theorem ndBs_at {f : Nat} {bs : List Blk} {b : Nat} {x : Blk} (h : bs[b]? = some x) : ndBs f bs b = ndB f b x := by unfold ndBs; rw [h]
theorem ndFs_at {fs : List Fnc} {f : Nat} {x : Fnc} (h : fs[f]? = some x) : ndFs fs f = ndF f x := by unfold ndFs; rw [h]
/-- The list of nodes came back: it lies in a block of its own. -/
def RetLn (w : World) (L : List Nd) (e : Ending) (w' : World) : Prop :=
  ∃ (A : Option Addr) (c : Nat), e = .returned (.slice A L.length c) ∧ (∀ ex : List (Option Nat), (∀ k, some k ∈ ex → k < w.heap.size) → EAt w' ex A (L.flatMap ndc)) ∧ L.length ≤ 200000 ∧ Below w.heap.size w w'
/-- The list that is built. -/
structure Ng (w : World) (v : Value) (m : Nat) (L : List Nd) (wr : World) : Prop where
  own : wr.ownsRow (w.heap.size + 1) 75 4 v m (L.flatMap ndc)
  len : m = L.length
  bel : Below w.heap.size w wr
  siz : w.heap.size + 1 ≤ wr.heap.size
theorem Ng.below {w wr w' : World} {v : Value} {m : Nat} {L : List Nd} (h : Ng w v m L wr) (hb : Below wr.heap.size wr w') : Ng w v m L w' :=
  ⟨own_below h.own hb, h.len, below_step h.bel hb, Nat.le_trans h.siz hb.size⟩
theorem Ng.alloc {w wr : World} {v : Value} {m : Nat} {L : List Nd} (h : Ng w v m L wr) (o : Obj) : Ng w v m L (wr.alloc o) := h.below ((Below.refl _ _).alloc (Nat.le_refl _) o)
theorem Ng.push {w wr w' : World} {v : Value} {m g cap : Nat} {L : List Nd} {x : Nd} (h : Ng w v m L wr)
    (hown : w'.ownsRow (w.heap.size + 1) 75 4 (.slice (some ⟨g, 0, none⟩) (m + 1) cap) (m + 1) (L.flatMap ndc ++ ndc x)) (hg : wr.grownBy w' v.ownBlock) : Ng w (.slice (some ⟨g, 0, none⟩) (m + 1) cap) (m + 1) (L ++ [x]) w' := by
  refine ⟨by rw [List.flatMap_append]; simpa using hown, by rw [List.length_append, h.len]; rfl, ?_, Nat.le_trans h.siz hg.size⟩
  exact h.bel.grown hg h.bel.size (fun k hk => by have := (h.own.lt k hk).1; omega)
/-- A block of one's own stays while the list grows. -/
theorem Ng.keep {w wr w' : World} {v : Value} {m g t : Nat} {L : List Nd} {cs : Array Value} (h : Ng w v m L wr) (hf : Fb wr g cs t) (ht : t ≠ 75) (hg : wr.grownBy w' v.ownBlock) : Fb w' g cs t := hf.grown hg (fb_ne_own hf h.own ht)
theorem one_ndc (x : Nd) : ∀ u ∈ ndc x, u.oneCell' = true := by
  intro u hu
  simp [ndc] at hu
  rcases hu with rfl | rfl | rfl | rfl <;> rfl
theorem nd_new (w : World) (x : Nd) : ∀ j u, (ndc x)[j]? = some u → (w.alloc (.cells #[.int .i64 x.kd, .int .i64 x.fn, .int .i64 x.bk, .int .i64 x.st] 75)).cell? ((⟨w.heap.size, 0, none⟩ : Addr).add j) = some u := by
  intro j u h
  have hb := Fb.new w #[.int .i64 x.kd, .int .i64 x.fn, .int .i64 x.bk, .int .i64 x.st] 75
  rw [add_of, hb.cell]
  simpa [ndc] using h
set_option maxHeartbeats 16000000 in
theorem list_any (x : PH) (ex : List (Option Nat)) (w : World) (h : PHok w ex x) (hs : Shp w) :
    Calls Tryz.prog 70 #[.agg #[.slice x.A x.n x.c]] w (RetLn w (listN x.p)) := by
  obtain ⟨i1, hi, hz0, hz1, hz2⟩ := info_parts info51
  have Hi := hid hi; have Hz0 := hid hz0; have Hz1 := hid hz1; have Hz2 := hid hz2
  clear hi hz0 hz1 hz2
  have hx0 : PHok w [] x := h.go (Go2.less w (by simp))
  have hb0 := (Below.refl w.heap.size w).alloc (Nat.le_refl _) (.cells #[.slice x.A x.n x.c] 44)
  have HX := hid hx0
  have HB0 := hid hb0
  have HG0 := hid (Fb.new w #[.slice x.A x.n x.c] 44)
  have HC := hid (check_any x [] _ (PHok.below hx0 hb0) (hs.keep (hb0.block 1 hs.pos0)))
  have hsz0 := hid (show (w.alloc (.cells #[.slice x.A x.n x.c] 44)).heap.size = w.heap.size + 1 by rw [World.size_alloc])
  have hn := h.few
  have HL := hid h.len
  have Hpl := hid (show x.p.length = x.l.length by simp [PH.p])
  have Hpa := hid (fun (k : Nat) (y : FH) (hy : x.l[k]? = some y) => show x.p[k]? = some y.f by unfold PH.p; rw [List.getElem?_map, hy]; rfl)
  clear h hb0 hx0 hs
  obtain ⟨A, n, c, l⟩ := x
  simp only at *
  generalize hp : PH.p ⟨A, n, c, l⟩ = p at *
  have hq : ∃ q, checkP p = q := ⟨_, rfl⟩
  obtain ⟨⟨⟨qa, qb, qc, qd⟩, qe⟩, hq⟩ := hq
  have Hq := hid (show listN p = if qe == 0 then (List.range p.length).flatMap (ndFs p) else [] by unfold listN; rw [hq])
  rw [hq] at HC
  clear hq hp
  go_enter Tryz.func70, Tryz.ntmps70
  go_wp2_with fail
  generalize w.alloc (.cells #[.slice A n c] 44) = w0 at *
  refine HC.out.mono ?_
  rintro e w1 ⟨rfl, hb1⟩
  have ha1 := (Below.refl w1.heap.size w1).alloc (Nat.le_refl _) (.cells #[.int .i64 qa, .int .i64 qb, .int .i64 qc, .int .i64 qd] 75)
  have hb2 := below_step hb1 ha1
  have HB2 := hid (below_step HB0.out hb2)
  have HG2 := hid (HG0.out.below hb2 HG0.out.lt)
  have HS2 := hid (show w.heap.size + 1 ≤ (w1.alloc (.cells #[.int .i64 qa, .int .i64 qb, .int .i64 qc, .int .i64 qd] 75)).heap.size by have := hb2.size; have := hsz0.out; omega)
  clear hb1 ha1 hb2 HB0 HG0 HC hsz0
  simp only
  cases h0 : (qe == 0) with
  | false =>
    as_aux_lemma =>
      have h1 : (qe != 0) = true := by show (!(qe == 0)) = true; rw [h0]; rfl
      have Hr := hid (show listN p = [] by rw [Hq.out, h0]; rfl)
      clear h0
      go_wp2_with fail
      go_ret
      rw [Hr.out]
      exact ⟨none, 0, rfl, fun _ _ => EAt.nil _ _ _, by simp, HB2.out⟩
  | true =>
    have h1 : (qe != 0) = false := by show (!(qe == 0)) = false; rw [h0]; rfl
    have Hr := hid (show listN p = (List.range p.length).flatMap (ndFs p) by rw [Hq.out, h0]; rfl)
    clear h0
    have HO := hid (show Ng w (.slice none 0 0) 0 [] (w1.alloc (.cells #[.int .i64 qa, .int .i64 qb, .int .i64 qc, .int .i64 qd] 75)) from ⟨World.ownsRow_nil _ _ _ _, rfl, HB2.out, HS2.out⟩)
    obtain g0 := HG2.out.onec
    clear HB2 HS2 Hq
    go_wp2_with fail
    clear g0 HG2 h1
    generalize w1.alloc (.cells #[.int .i64 qa, .int .i64 qb, .int .i64 qc, .int .i64 qd] 75) = w2 at HO ⊢
    go_loopw [5, 6, 7, 8, 9, 10, 11, 22] (fun sv _ _ _ _ _ _ iv wr => ∃ (k m : Nat) (v : Value) (L : List Nd), k ≤ n ∧ iv = .int .i64 k ∧ sv = v ∧ m ≤ k * 3202 ∧ Hid (L = (List.range k).flatMap (ndFs p)) ∧ Hid (Ng w v m L wr)) (fun _ _ _ _ _ _ _ iv _ => n - (intOf iv).toNat)
    case atStart => exact ⟨0, 0, _, [], by omega, rfl, rfl, by omega, hid rfl, HO.out⟩
    case round =>
      clear HO
      obtain ⟨k, m, v, L, hk, rfl, rfl, hm, hE, hO⟩ := hrel
      by_cases hlt : k < n
      · obtain ⟨y, hy, hym⟩ := get_at HL.out hlt
        have HPr := hid (HX.out.go (Go2.below hO.out.bel))
        obtain ⟨ad, hA, had, hc1, hc2⟩ := FH.cells HPr.out.lies hy
        simp only at hA
        subst hA
        have Hya := hid (fun (v : World) (h : Below w.heap.size w v) => (HX.out.go (Go2.below h)).all y hym)
        have Hget := hid (Hpa.out k y hy)
        have hyn : y.n ≤ 40 := (HPr.out.all y hym).few
        have Hyl := hid (show y.l.length = y.n from (HPr.out.all y hym).len)
        have Hyb := hid (show y.f.bs.length = y.n by show (y.l.map BH.b).length = y.n; rw [List.length_map]; exact (HPr.out.all y hym).len)
        have Hyg := hid (fun (j : Nat) (z : BH) (hz : y.l[j]? = some z) => show y.f.bs[j]? = some z.b by show (y.l.map BH.b)[j]? = _; rw [List.getElem?_map, hz]; rfl)
        have H1 := hid (hO.out.alloc (.cells #[.string y.name, .slice y.A y.n y.c] 62))
        have HG1 := hid ((Fb.new wr #[.string y.name, .slice y.A y.n y.c] 62).alloc (Obj.cells #[Value.int .i64 1, Value.int .i64 (k : Int), Value.int .i64 (-1), Value.int .i64 (-1)] 75))
        have H2 := hid (H1.out.alloc (Obj.cells #[Value.int .i64 1, Value.int .i64 (k : Int), Value.int .i64 (-1), Value.int .i64 (-1)] 75))
        have HN1 := hid (show ∀ j u, (ndc (⟨1, k, -1, -1⟩ : Nd))[j]? = some u → ((wr.alloc (.cells #[.string y.name, .slice y.A y.n y.c] 62)).alloc (Obj.cells #[Value.int .i64 1, Value.int .i64 (k : Int), Value.int .i64 (-1), Value.int .i64 (-1)] 75)).cell? ((⟨wr.heap.size + 1, 0, none⟩ : Addr).add j) = some u by have := nd_new (wr.alloc (.cells #[.string y.name, .slice y.A y.n y.c] 62)) (⟨1, k, -1, -1⟩ : Nd); rw [World.size_alloc] at this; exact this)
        clear hy hym HPr H1
        generalize y.f = ff at *
        obtain ⟨ynm, yA, yn, yc, yl⟩ := y
        simp only at *
        go_wp2_with ((
          at_builtin
          go_must (refine wpList_append_lies _ rfl _ _ 25 rfl (w.heap.size + 1) 75 i1 _ 4 32 Tryz.underlying25 Hi.out Hz0.out Hz1.out Hz2.out rfl (by decide) _ m (L.flatMap ndc) rfl H2.out.own ⟨wr.heap.size + 1, 0, none⟩ 1 1 (ndc (⟨1, k, -1, -1⟩ : Nd)) rfl rfl HN1.out (one_ndc _) (by omega) (by unfold maxLen; omega) (by omega) H2.out.siz _ rfl ?_)
          intro g5 cap5 w5 hown5 hgr5 hat5 hlt5
          have H5 := hid (Ng.push H2.out hown5 hgr5)
          obtain ⟨y0, y1⟩ := Fb.twoc (Ng.keep H2.out HG1.out (by decide) hgr5)
          clear hown5 hgr5 hat5 hlt5))
        clear y0 y1 hc1 hc2 had HG1 H2 HN1 hO
        go_loopw [5, 8, 9, 10, 11, 35] (fun sv _ _ _ _ iv wr => ∃ (j m2 : Nat) (v : Value) (L2 : List Nd), j ≤ yn ∧ iv = .int .i64 j ∧ sv = v ∧ m2 ≤ k * 3202 + 1 + j * 80 ∧ Hid (L2 = (L ++ [(⟨1, k, -1, -1⟩ : Nd)]) ++ (List.range j).flatMap (ndBs k ff.bs)) ∧ Hid (Ng w v m2 L2 wr)) (fun _ _ _ _ _ iv _ => yn - (intOf iv).toNat)
        case atStart => exact ⟨0, m + 1, _, L ++ [(⟨1, k, -1, -1⟩ : Nd)], by omega, rfl, rfl, by omega, hid (by simp), H5.out⟩
        case round =>
          clear H5
          obtain ⟨j, m2, v2, L2, hj, rfl, rfl, hm2, hE2, hO⟩ := hrel
          by_cases hlt2 : j < yn
          · obtain ⟨z, hz, hzm⟩ := get_at Hyl.out hlt2
            have HPr := hid (Hya.out _ hO.out.bel)
            obtain ⟨ad2, hA, had, hc1, hc2⟩ := BH.cells HPr.out.lies hz
            simp only at hA
            subst hA
            have Hza := hid (fun (v : World) (h : Below w.heap.size w v) => (Hya.out v h).all z hzm)
            have Hgz := hid (Hyg.out j z hz)
            have hzn : z.n ≤ 40 := (HPr.out.all z hzm).few
            have Hzl := hid (show z.l.length = z.n from (HPr.out.all z hzm).len)
            have Hzb := hid (show z.b.ss.length = z.n by show (z.l.map SH.t).length = z.n; rw [List.length_map]; exact (HPr.out.all z hzm).len)
            have Hzg := hid (fun (i : Nat) (s : SH) (hs : z.l[i]? = some s) => show z.b.ss[i]? = some s.t by show (z.l.map SH.t)[i]? = _; rw [List.getElem?_map, hs]; rfl)
            have H1 := hid (hO.out.alloc (.cells #[.string z.name, .slice z.A z.n z.c] 65))
            have HG1 := hid (Fb.new wr #[.string z.name, .slice z.A z.n z.c] 65)
            clear hz hzm HPr
            generalize z.b = bb at *
            obtain ⟨znm, zA, zn, zc, zl⟩ := z
            simp only at *
            obtain ⟨y0, y1⟩ := HG1.out.twoc
            go_wp2_with fail
            clear y0 y1 hc1 hc2 had HG1 hO
            go_loopw [5, 10, 11, 43] (fun sv _ _ iv wr => ∃ (i m3 : Nat) (v : Value) (L3 : List Nd), i ≤ zn ∧ iv = .int .i64 i ∧ sv = v ∧ m3 ≤ m2 + i * 2 ∧ Hid (L3 = L2 ++ (List.range i).flatMap (ndSs k j bb.ss)) ∧ Hid (Ng w v m3 L3 wr)) (fun _ _ _ iv _ => zn - (intOf iv).toNat)
            case atStart => exact ⟨0, m2, _, L2, by omega, rfl, rfl, by omega, hid (by simp), H1.out⟩
            case round =>
              clear H1
              obtain ⟨i, m3, v3, L3, hi, rfl, rfl, hm3, hE3, hO⟩ := hrel
              by_cases hlt3 : i < zn
              · obtain ⟨s, hs, hsm⟩ := get_at Hzl.out hlt3
                have HPr := hid (Hza.out _ hO.out.bel)
                obtain ⟨ad3, hA, had, hc1, hc2, hc3, hc4⟩ := SH.cells HPr.out.lies hs
                simp only at hA
                subst hA
                have Hgs := hid (ndSs_at (f := k) (b := j) (Hzg.out i s hs))
                have H1 := hid (hO.out.alloc (.cells #[.int .i64 s.t.op, .string s.t.d, .slice s.A s.n s.c, .slice s.B s.m s.c2] 68))
                have HG1 := hid ((Fb.new wr #[.int .i64 s.t.op, .string s.t.d, .slice s.A s.n s.c, .slice s.B s.m s.c2] 68).alloc (Obj.cells #[Value.int .i64 3, Value.int .i64 (k : Int), Value.int .i64 (j : Int), Value.int .i64 (i : Int)] 75))
                have H2 := hid (H1.out.alloc (Obj.cells #[Value.int .i64 3, Value.int .i64 (k : Int), Value.int .i64 (j : Int), Value.int .i64 (i : Int)] 75))
                have HN1 := hid (show ∀ j_1 u, (ndc (⟨3, k, j, i⟩ : Nd))[j_1]? = some u → ((wr.alloc (.cells #[.int .i64 s.t.op, .string s.t.d, .slice s.A s.n s.c, .slice s.B s.m s.c2] 68)).alloc (Obj.cells #[Value.int .i64 3, Value.int .i64 (k : Int), Value.int .i64 (j : Int), Value.int .i64 (i : Int)] 75)).cell? ((⟨wr.heap.size + 1, 0, none⟩ : Addr).add j_1) = some u by have := nd_new (wr.alloc (.cells #[.int .i64 s.t.op, .string s.t.d, .slice s.A s.n s.c, .slice s.B s.m s.c2] 68)) (⟨3, k, j, i⟩ : Nd); rw [World.size_alloc] at this; exact this)
                clear hs hsm HPr H1
                cases ho : (s.t.op == 3) with
                | false =>
                  have Hst := hid (show ndSs k j bb.ss i = [(⟨3, k, j, i⟩ : Nd)] by rw [Hgs.out]; unfold ndS; rw [ho]; rfl)
                  go_wp2_with ((
                    at_builtin
                    go_must (refine wpList_append_lies _ rfl _ _ 25 rfl (w.heap.size + 1) 75 i1 _ 4 32 Tryz.underlying25 Hi.out Hz0.out Hz1.out Hz2.out rfl (by decide) _ m3 (L3.flatMap ndc) rfl H2.out.own ⟨wr.heap.size + 1, 0, none⟩ 1 1 (ndc (⟨3, k, j, i⟩ : Nd)) rfl rfl HN1.out (one_ndc _) (by omega) (by unfold maxLen; omega) (by omega) H2.out.siz _ rfl ?_)
                    intro g5 cap5 w5 hown5 hgr5 hat5 hlt5
                    have H5 := hid (Ng.push H2.out hown5 hgr5)
                    obtain ⟨y0, y1, y2, y3⟩ := Fb.four (Ng.keep H2.out HG1.out (by decide) hgr5)
                    clear hown5 hgr5 hat5 hlt5))
                  as_aux_lemma =>
                    go_roundw
                    case rel => exact ⟨i + 1, m3 + 1, _, L3 ++ [(⟨3, k, j, i⟩ : Nd)], by omega, by go_num, rfl, by omega, hid (by rw [hE3.out, range_flat, Hst.out, List.append_assoc]), H5⟩
                    case measure => simp [intOf]; omega
                | true =>
                  have Hst := hid (show ndSs k j bb.ss i = [(⟨3, k, j, i⟩ : Nd), (⟨4, k, j, i⟩ : Nd)] by rw [Hgs.out]; unfold ndS; rw [ho]; rfl)
                  go_wp2_with (
                    first
                    | (
                     at_builtin
                     refine wpList_append_lies _ rfl _ _ 25 rfl (w.heap.size + 1) 75 i1 _ 4 32 Tryz.underlying25 Hi.out Hz0.out Hz1.out Hz2.out rfl (by decide) _ m3 (L3.flatMap ndc) rfl H2.out.own ⟨wr.heap.size + 1, 0, none⟩ 1 1 (ndc (⟨3, k, j, i⟩ : Nd)) rfl rfl HN1.out (one_ndc _) (by omega) (by unfold maxLen; omega) (by omega) H2.out.siz _ rfl ?_
                     intro g5 cap5 w5 hown5 hgr5 hat5 hlt5
                     have H5 := hid (Ng.push H2.out hown5 hgr5)
                     obtain ⟨y0, y1, y2, y3⟩ := Fb.four (Ng.keep H2.out HG1.out (by decide) hgr5)
                     have H6 := hid (H5.out.alloc (Obj.cells #[Value.int .i64 4, Value.int .i64 (k : Int), Value.int .i64 (j : Int), Value.int .i64 (i : Int)] 75))
                     have HN4 := hid (nd_new w5 (⟨4, k, j, i⟩ : Nd))
                     clear H2
                     clear hown5 hgr5 hat5 hlt5)
                    | (
                     at_builtin
                     go_must (refine wpList_append_lies _ rfl _ _ 25 rfl (w.heap.size + 1) 75 i1 _ 4 32 Tryz.underlying25 Hi.out Hz0.out Hz1.out Hz2.out rfl (by decide) _ (m3 + 1) ((L3 ++ [(⟨3, k, j, i⟩ : Nd)]).flatMap ndc) rfl H6.out.own ⟨w5.heap.size, 0, none⟩ 1 1 (ndc (⟨4, k, j, i⟩ : Nd)) rfl rfl HN4.out (one_ndc _) (by omega) (by unfold maxLen; omega) (by omega) H6.out.siz _ rfl ?_)
                     intro g7 cap7 w7 hown7 hgr7 hat7 hlt7
                     have H7 := hid (Ng.push H6.out hown7 hgr7)
                     clear hown7 hgr7 hat7 hlt7))
                  as_aux_lemma =>
                    go_roundw
                    case rel => exact ⟨i + 1, m3 + 1 + 1, _, (L3 ++ [(⟨3, k, j, i⟩ : Nd)]) ++ [(⟨4, k, j, i⟩ : Nd)], by omega, by go_num, rfl, by omega, hid (by rw [hE3.out, range_flat, Hst.out]; simp), H7⟩
                    case measure => simp [intOf]; omega
              · as_aux_lemma =>
                  obtain rfl : i = zn := by omega
                  have Hd := hid (show L3 = (L ++ [(⟨1, k, -1, -1⟩ : Nd)]) ++ (List.range (j + 1)).flatMap (ndBs k ff.bs) by rw [hE3.out, hE2.out, range_flat, ndBs_at Hgz.out, List.append_assoc]; unfold ndB; rw [Hzb.out])
                  go_wp2_with fail
                  go_roundw
                  case rel => exact ⟨j + 1, m3, _, L3, by omega, by go_num, rfl, by omega, Hd, hO⟩
                  case measure => simp [intOf]; omega
          · obtain rfl : j = yn := by omega
            have H2 := hid (hO.out.alloc (Obj.cells #[Value.int .i64 2, Value.int .i64 (k : Int), Value.int .i64 (-1), Value.int .i64 (-1)] 75))
            have HN1 := hid (nd_new wr (⟨2, k, -1, -1⟩ : Nd))
            have Hd := hid (show L2 ++ [(⟨2, k, -1, -1⟩ : Nd)] = (List.range (k + 1)).flatMap (ndFs p) by rw [hE2.out, range_flat, ← hE.out, ndFs_at Hget.out]; unfold ndF; rw [Hyb.out]; simp)
            as_aux_lemma =>
              go_wp2_with ((
                at_builtin
                go_must (refine wpList_append_lies _ rfl _ _ 25 rfl (w.heap.size + 1) 75 i1 _ 4 32 Tryz.underlying25 Hi.out Hz0.out Hz1.out Hz2.out rfl (by decide) _ m2 (L2.flatMap ndc) rfl H2.out.own ⟨wr.heap.size, 0, none⟩ 1 1 (ndc (⟨2, k, -1, -1⟩ : Nd)) rfl rfl HN1.out (one_ndc _) (by omega) (by unfold maxLen; omega) (by omega) H2.out.siz _ rfl ?_)
                intro g5 cap5 w5 hown5 hgr5 hat5 hlt5
                have H5 := hid (Ng.push H2.out hown5 hgr5)
                clear hown5 hgr5 hat5 hlt5))
              go_roundw
              case rel => exact ⟨k + 1, m2 + 1, _, L2 ++ [(⟨2, k, -1, -1⟩ : Nd)], by omega, by go_num, rfl, by omega, Hd, H5⟩
              case measure => simp [intOf]; omega
      · as_aux_lemma =>
          obtain rfl : k = n := by omega
          have Hd := hid (show L = listN p by rw [hE.out, Hr.out, Hpl.out, HL.out])
          obtain ⟨B, cc, hvv⟩ := own_any_slice hO.out.own
          subst hvv
          have hml := hO.out.len
          go_wp2_with fail
          go_ret
          rw [← Hd.out]
          subst hml
          exact ⟨B, cc, rfl, fun ex hex => EAt.own hO.out.own (fun g hg hm => by have := (hO.out.own.lt g hg).1; have := hex g hm; omega), by omega, hO.out.bel⟩
end Go.Proofs.YtfapgnbnfhpicaaGreatDoor
