/- Merged texts: what YtopkmeceakjocaaGreatEliminationReducesProof leans on. -/
import Derived.Deep.RegionLaw
import Derived.Laws.IdiomCopy
import Derived.Deep.DeepCutAuto
import Derived.Shelf.Spec.SlicesInsertGrow
import Derived.Deep.AppendLies
import Derived.Lib.AppendZeros
import Derived.Test.YtopkmeceakjocaaGreatErdM0a
import Derived.Test.YtopkmeceakjocaaGreatErdM0
namespace Go.Proofs.YtopkmeceakjocaaGreat
set_option maxRecDepth 20000
set_option linter.unusedVariables false
set_option linter.unusedSimpArgs false
open Go.ChangeShapes Go.WideShapes Go.ChangeAt Go.RowKit
def AH.a (a : AH) : Value := .agg #[.int .i64 a.m, .int .i64 a.f.G.W, .slice a.f.G.A a.f.G.n a.f.G.c, .int .i64 a.f.K.W, .slice a.f.K.A a.f.K.n a.f.K.c, .slice a.f.C a.f.k a.f.q]
structure Plc (l : List AH) (m : Int) (p : Nat) : Prop where
 le : p ≤ l.length
 lo : ∀ (i : Nat) (a : AH), i < p → l[i]? = some a → a.m < m
 hi : ∀ (i : Nat) (a : AH), p ≤ i → l[i]? = some a → m ≤ a.m
def fdA (l : List AH) (p : Nat) (m : Int) : Bool := match l[p]? with
 | some a => a.m == m
 | none => false
def RetPl (w : World) (r : AL) (m : Int) (e : Ending) (w' : World) : Prop :=
 ∃ p : Nat, Plc r.l m p ∧ e = .returned (.tuple #[.int .i64 p, .bool (fdA r.l p m)]) ∧ Below w.heap.size w w'
theorem plc1_any (a : AH) (m : Int) (w : World) : Calls Tryz.prog 154 #[a.a, .int .i64 m] w fun e w' => e = .returned (.int .i64 (cmpI a.m m)) ∧ Below w.heap.size w w' := by
 have HB := hid ((Below.refl w.heap.size w).alloc (Nat.le_refl _) (.cells #[.int .i64 a.m, .int .i64 a.f.G.W, .slice a.f.G.A a.f.G.n a.f.G.c, .int .i64 a.f.K.W, .slice a.f.K.A a.f.K.n a.f.K.c, .slice a.f.C a.f.k a.f.q] 63))
 unfold AH.a
 go_enter Tryz.func154, Tryz.ntmps154
 go_wp2_with (go_at_call 155; refine (cmpI_any _ _ _).mono ?_; rintro e w' ⟨rfl, rfl⟩)
 go_ret
 exact ⟨rfl, HB.out⟩
theorem cmpI_lt {a b : Int} (h : a < b) : cmpI a b = -1 := by unfold cmpI; rw [if_pos h]
theorem RowA.later {b v N : Nat} {u : World} {r : AL} (h : RowA b u v N r) {i : Nat} {a : AH} (hi : r.l[i]? = some a) : ∃ g, r.A = some ⟨g, 0, none⟩ ∧ g < u.heap.size ∧
 u.cell? ⟨g, i * 6, none⟩ = some (.int .i64 a.m) ∧ u.cell? ⟨g, i * 6 + 1, none⟩ = some (.int .i64 a.f.G.W) ∧ u.cell? ⟨g, i * 6 + 2, none⟩ = some (.slice a.f.G.A a.f.G.n a.f.G.c) ∧
 u.cell? ⟨g, i * 6 + 3, none⟩ = some (.int .i64 a.f.K.W) ∧ u.cell? ⟨g, i * 6 + 4, none⟩ = some (.slice a.f.K.A a.f.K.n a.f.K.c) ∧ u.cell? ⟨g, i * 6 + 5, none⟩ = some (.slice a.f.C a.f.k a.f.q) := by
 obtain ⟨g, e, -, hlt, -, hc, -⟩ := h.at hi
 exact ⟨g, e, hlt, hc 0 (by decide), hc 1 (by decide), hc 2 (by decide), hc 3 (by decide), hc 4 (by decide), hc 5 (by decide)⟩
theorem ris_lt {N : Nat} {l : List AH} (h : RisP N (l.map AH.m)) {i j : Nat} {a c : AH} (hij : i < j) (hi : l[i]? = some a) (hj : l[j]? = some c) : a.m < c.m := by
 have := List.pairwise_iff_getElem.1 h.1 i j (by simpa using (List.getElem?_eq_some_iff.1 hi).1) (by simpa using (List.getElem?_eq_some_iff.1 hj).1) hij
 simp only [List.getElem_map] at this
 obtain ⟨_, e1⟩ := List.getElem?_eq_some_iff.1 hi
 obtain ⟨_, e2⟩ := List.getElem?_eq_some_iff.1 hj
 rwa [e1, e2] at this
set_option maxHeartbeats 3200000 in
theorem bsearch_any (b v N : Nat) (r : AL) (m : Int) (w : World) (h : RowA b w v N r) (hN : N ≤ 256) :
 Calls Tryz.prog 153 #[r.v, .int .i64 m, .func (Fn.func 154) #[] #[]] w (RetPl w r m) := by
 have hlen := h.len
 have hfew := h.few
 have Hr := hid h
 have Hlen := hid hlen
 obtain ⟨A, n, c, l⟩ := r
 simp only at hfew
 clear h hlen
 unfold AL.v
 go_enter Tryz.func153, Tryz.ntmps153
 go_wp2_with fail
 go_loopw [9, 10] (fun iv jv wr => ∃ i j : Nat, i ≤ j ∧ j ≤ n ∧ iv = .int .i64 i ∧ jv = .int .i64 j ∧ Hid ((∀ (k : Nat) (a : AH), k < i → l[k]? = some a → a.m < m) ∧ (∀ (k : Nat) (a : AH), j ≤ k → l[k]? = some a → m ≤ a.m) ∧ Below w.heap.size w wr)) (fun iv jv _ => (intOf jv).toNat - (intOf iv).toNat)
 case atStart => exact ⟨0, n, by omega, by omega, rfl, rfl, hid ⟨fun k a hk => by omega, fun k a hk ha => by have := (List.getElem?_eq_some_iff.1 ha).1; have := Hlen.out; omega, Below.refl _ _⟩⟩
 case round =>
  obtain ⟨i, j, hij, hjn, rfl, rfl, HL⟩ := hrel
  by_cases hlt : i < j
  · obtain ⟨h, hh⟩ : ∃ h : Nat, (i + j) / 2 = h := ⟨_, rfl⟩
    have hm : ((i : Int) + (j : Int)) / 2 = (h : Int) := by omega
    have h1 : i ≤ h := by omega
    have h2 : h < j := by omega
    have n0 : (0 : Int) ≤ h := by omega
    have n1 : (h : Int) < n := by omega
    have n2 : (h : Int).toNat = h := by omega
    obtain ⟨a, ha, ham⟩ := get_at Hlen.out (show h < n by omega)
    obtain ⟨g, hA, hg, c0, c1, c2, c3, c4, c5⟩ := ((Hr.out.below HL.out.2.2)).later ha
    simp only at hA
    subst hA
    have HP := hid (plc1_any a m wr)
    have Ha := hid ha
    unfold AH.a at HP
    clear hh ha ham
    rcases Int.lt_or_le a.m m with hlm | hlm
    · rw [cmpI_lt hlm] at HP
      have HL2 := hid (show ∀ (k : Nat) (x : AH), k < h + 1 → l[k]? = some x → x.m < m from fun k x hk hx => by
       by_cases e : k = h
       · subst e
         rw [Ha.out] at hx
         obtain rfl := Option.some.inj hx
         exact hlm
       · have := ris_lt Hr.out.ris (show k < h by omega) hx Ha.out
         omega)
      clear hlm
      go_wp2_with fail
      refine HP.out.mono ?_
      rintro e w5 ⟨rfl, hb5⟩
      have HB5 := hid (below_step HL.out.2.2 hb5)
      clear hb5 c0 c1 c2 c3 c4 c5 HP hg
      go_wp2_with fail
      go_roundw
      case rel => exact ⟨h + 1, j, by omega, by omega, by go_num, rfl, hid ⟨HL2.out, HL.out.2.1, HB5.out⟩⟩
      case measure => simp [intOf]; omega
    · have hc : ¬ cmpI a.m m < 0 := by unfold cmpI; rw [if_neg (by omega)]; split <;> omega
      have HL2 := hid (show ∀ (k : Nat) (x : AH), h ≤ k → l[k]? = some x → m ≤ x.m from fun k x hk hx => by
       by_cases e : k = h
       · subst e
         rw [Ha.out] at hx
         obtain rfl := Option.some.inj hx
         exact hlm
       · have := ris_lt Hr.out.ris (show h < k by omega) Ha.out hx
         omega)
      have hc2 : decide (cmpI a.m m < 0) = false := decide_eq_false hc
      generalize cmpI a.m m = z at *
      clear hlm hc
      go_wp2_with fail
      refine HP.out.mono ?_
      rintro e w5 ⟨rfl, hb5⟩
      have HB5 := hid (below_step HL.out.2.2 hb5)
      clear hb5 c0 c1 c2 c3 c4 c5 HP hg
      go_wp2_with fail
      go_roundw
      case rel => exact ⟨i, h, by omega, by omega, rfl, rfl, hid ⟨HL.out.1, HL2.out, HB5.out⟩⟩
      case measure => simp [intOf]; omega
  · have e : i = j := by omega
    subst e
    have HPl := hid (show Plc l m i from ⟨by rw [Hlen.out]; exact hjn, HL.out.1, HL.out.2.1⟩)
    by_cases hlt2 : i < n
    · have n0 : (0 : Int) ≤ i := by omega
      have n1 : (i : Int) < n := by omega
      have n2 : (i : Int).toNat = i := by omega
      obtain ⟨a, ha, ham⟩ := get_at Hlen.out hlt2
      obtain ⟨g, hA, hg, c0, c1, c2, c3, c4, c5⟩ := ((Hr.out.below HL.out.2.2)).later ha
      simp only at hA
      subst hA
      have HP := hid (plc1_any a m wr)
      have hfd : (cmpI a.m m == 0) = fdA l i m := by
       unfold fdA
       rw [ha]
       show _ = (a.m == m)
       unfold cmpI
       by_cases e1 : a.m < m
       · rw [if_pos e1]; simp; omega
       · rw [if_neg e1]
         by_cases e2 : m < a.m
         · rw [if_pos e2]; simp; omega
         · rw [if_neg e2]; simp; omega
      generalize hz : cmpI a.m m = z at *
      generalize hf : fdA l i m = f at *
      have Hf := hid hf
      unfold AH.a at HP
      clear hz hf ha ham
      go_wp2_with fail
      refine HP.out.mono ?_
      rintro e w5 ⟨rfl, hb5⟩
      have HB5 := hid (below_step HL.out.2.2 hb5)
      clear hb5 c0 c1 c2 c3 c4 c5 HP hg
      go_wp2_with fail
      refine bodyPost_ret (v := .tuple #[.int .i64 i, .bool f]) (by simp [results, Tryz.results153, go_sem]) rfl ⟨i, HPl.out, ?_, HB5.out⟩
      rw [← Hf.out]
    · have e : i = n := by omega
      subst e
      have hfd : fdA l i m = false := by
       unfold fdA
       rw [List.getElem?_eq_none (by rw [Hlen.out]; omega)]
      have Hf := hid hfd
      clear hfd
      go_wp2_with fail
      refine bodyPost_ret (v := .tuple #[.int .i64 i, .bool false]) (by simp [results, Tryz.results153, go_sem]) rfl ⟨i, HPl.out, ?_, HL.out.2.2⟩
      rw [Hf.out]
theorem place_any (b v N : Nat) (r : AL) (m : Int) (w : World) (h : RowA b w v N r) (hN : N ≤ 256) :
 Calls Tryz.prog 127 #[r.v, .int .i64 m] w (RetPl w r m) := by
 have HC := hid (bsearch_any b v N r m w h hN)
 obtain ⟨A, n, c, l⟩ := r
 clear h
 unfold AL.v at *
 go_enter Tryz.func127, Tryz.ntmps127
 go_wp2_with fail
 refine HC.out.mono ?_
 rintro e w5 ⟨p, hp, rfl, hb⟩
 generalize hf : fdA (⟨A, n, c, l⟩ : AL).l p m = f at *
 have Hp := hid hp
 have Hb := hid hb
 have Hf := hid hf
 clear hp hb hf HC
 go_wp2_with fail
 refine bodyPost_ret (v := .tuple #[.int .i64 p, .bool f]) (by simp [results, Tryz.results127, go_sem]) rfl ⟨p, Hp.out, ?_, Hb.out⟩
 rw [Hf.out]
def lay (cur : Array Value) (o : Nat) (vs : List Value) : Array Value := (cur.toList.take o ++ vs ++ cur.toList.drop (o + vs.length)).toArray
theorem lay_get {cur : Array Value} {o : Nat} {vs : List Value} (h : o + vs.length ≤ cur.size) (j : Nat) : (lay cur o vs)[j]? = if j < o then cur[j]? else if j < o + vs.length then vs[j - o]? else cur[j]? := by
 have hl : cur.toList.length = cur.size := by simp
 have ht : (cur.toList.take o).length = o := by rw [List.length_take]; omega
 unfold lay
 rw [List.getElem?_toArray]
 by_cases h1 : j < o
 · rw [if_pos h1, List.append_assoc, List.getElem?_append_left (by omega), List.getElem?_take_of_lt h1, Array.getElem?_toList]
 · rw [if_neg h1]
   by_cases h2 : j < o + vs.length
   · rw [if_pos h2, List.append_assoc, List.getElem?_append_right (by omega), ht, List.getElem?_append_left (by omega)]
   · rw [if_neg h2, List.getElem?_append_right (by rw [List.length_append, ht]; omega), List.length_append, ht, List.getElem?_drop, Array.getElem?_toList]
     congr 1; omega
theorem lay_size {cur : Array Value} {o : Nat} {vs : List Value} (h : o + vs.length ≤ cur.size) : (lay cur o vs).size = cur.size := by
 have hl : cur.toList.length = cur.size := by simp
 unfold lay
 rw [List.size_toArray, List.length_append, List.length_append, List.length_take, List.length_drop, hl]
 omega
theorem arr_ext {a b : Array Value} (h : a.size = b.size) (he : ∀ j, j < a.size → a[j]? = b[j]?) : a = b :=
 Array.ext h fun i h1 h2 => Option.some.inj (by rw [← Array.getElem?_eq_getElem h1, ← Array.getElem?_eq_getElem h2]; exact he i h1)
theorem lay_cons {cur : Array Value} {o : Nat} {v : Value} {vs : List Value} (h : o + (v :: vs).length ≤ cur.size) : lay (cur.setIfInBounds o v) (o + 1) vs = lay cur o (v :: vs) := by
 have h' := h
 simp only [List.length_cons] at h'
 have h2 : o + 1 + vs.length ≤ (cur.setIfInBounds o v).size := by rw [Array.size_setIfInBounds]; omega
 refine arr_ext (by rw [lay_size h2, lay_size h, Array.size_setIfInBounds]) fun j hj => ?_
 rw [lay_size h2, Array.size_setIfInBounds] at hj
 rw [lay_get h2, lay_get h, List.length_cons]
 by_cases h1 : j < o
 · rw [if_pos (by omega), if_pos h1, Array.getElem?_setIfInBounds_ne (by omega)]
 · rw [if_neg h1]
   by_cases e : j = o
   · subst e
     rw [if_pos (by omega), if_pos (by omega), Array.getElem?_setIfInBounds_self_of_lt (by omega), Nat.sub_self]; rfl
   · rw [if_neg (by omega)]
     by_cases h3 : j < o + 1 + vs.length
     · rw [if_pos h3, if_pos (by omega), show j - o = (j - (o + 1)) + 1 by omega, List.getElem?_cons_succ]
     · rw [if_neg h3, if_neg (by omega), Array.getElem?_setIfInBounds_ne (by omega)]
theorem fb_setCells {g t : Nat} : ∀ (vs : List Value) (o : Nat) (w : World) (cur : Array Value), Fb w g cur t → o + vs.length ≤ cur.size → Fb (w.setCells g o vs) g (lay cur o vs) t
 | [], o, w, cur, h, _ => by
   have : lay cur o [] = cur := by unfold lay; simp
   rw [this]; exact h
 | v :: vs, o, w, cur, h, hl => by
   rw [World.setCells, ← lay_cons hl]
   refine fb_setCells vs (o + 1) _ _ (h.set o v) ?_
   simp only [List.length_cons] at hl
   rw [Array.size_setIfInBounds]; omega
theorem grown_setCells (g : Nat) : ∀ (vs : List Value) (o : Nat) (w : World), w.grownBy (w.setCells g o vs) (some g)
 | [], o, w => grown_of_below (Below.refl _ _) _
 | v :: vs, o, w => grown_trans (grown_set w g rfl v) (grown_setCells g vs (o + 1) _)
theorem run_clear_wide {P : Program} (w : World) (t e ty : TypeId) (z : Value) (size : Nat) (ht : P.underlying t = some (.slice e)) (hv : ∀ w, (zeroValue e).run P w = .ok z w) (zs : List Value) (n : Nat) (hz : (Builtin.zeroCells z.cells n).toList = zs) (h1 : ∀ u ∈ zs, u.oneCell' = true) (b o c : Nat) (hn : 0 < n)
 (hc : ∀ j, j < zs.length → (w.cell? ⟨b, o + j, none⟩).isSome = true) (hf : ∀ j, j < zs.length → w.frozen? ⟨b, o + j, none⟩ = false) :
 (Builtin.clear_ #[t] ty #[.slice (some ⟨b, o, none⟩) n c]).run P w = .ok (.tuple #[]) (w.setCells b o zs) := by
 have hst := run_storeCells_cells (P := P) b o zs 0 w (by simpa using hc) (by simpa using hf) h1
 simp only [Nat.add_zero] at hst
 obtain ⟨m, rfl⟩ : ∃ m, n = m + 1 := ⟨n - 1, by omega⟩
 simp [Builtin.clear_, run_underlying ht, hv, hz, hst]
def zArc : List Value := [.int .i64 0, .int .i64 0, .slice none 0 0, .int .i64 0, .slice none 0 0, .slice none 0 0]
theorem one_arc (l : List AH) : ∀ u ∈ l.flatMap AH.cells, u.oneCell' = true := by
 intro u hu
 obtain ⟨a, -, ha⟩ := List.mem_flatMap.1 hu
 simp only [AH.cells, List.mem_cons, List.not_mem_nil, or_false] at ha
 rcases ha with rfl | rfl | rfl | rfl | rfl | rfl <;> rfl
theorem infoArc : (Tryz.prog.info? 63).map (fun i => (i.zero, i.size, i.bytes)) = some (some (.agg #[.int .i64 0, .int .i64 0, .slice none 0 0, .int .i64 0, .slice none 0 0, .slice none 0 0]), 6, 96) := by kernel_rfl
set_option maxHeartbeats 3200000 in
theorem delete_any (b v N : Nat) (r : AL) (i : Nat) (w : World) (h : RowA b w v N r) (hN : N ≤ 256) (hi : i < r.n) :
 Calls Tryz.prog 129 #[r.v, .int .i64 i, .int .i64 ((i : Int) + 1)] w fun e w' => e = .returned (.slice r.A (r.n - 1) r.c) ∧ RowA b w' v N ⟨r.A, r.n - 1, r.c, r.l.eraseIdx i⟩ ∧ w.grownBy w' r.v.ownBlock := by
 obtain ⟨i0, hi0, hz0, hz1, hz2⟩ := info_parts infoArc
 have HI := hid hi0; have HI1 := hid hz1
 clear hi0 hz0 hz1 hz2
 have hlen := h.len
 have hfew := h.few
 have Hr := hid h
 rcases h.own.2 with ⟨e, e2⟩ | ⟨g, cap, cur, e, hge, hc, h1, h2, h3, h4⟩
 · omega
 · unfold AL.v at e
   injection e with e1 e2 e3
   obtain ⟨A, n, c, l⟩ := r
   simp only at e1 e3 hi hlen hfew h4 h1
   subst e1
   subst e3
   have hf0 : Fb w g cur 63 := hc
   have hnews : ((l.drop (i + 1)).flatMap AH.cells).length = (n - (i + 1)) * 6 := by rw [flat_len AH.cells_len, List.length_drop, hlen]
   have hcn : ∀ (j : Nat) (x : Value), j < n * 6 → (l.flatMap AH.cells)[j]? = some x → cur[j]? = some x := fun j x hj hx => by
    rw [← h4, List.getElem?_take_of_lt hj, Array.getElem?_toList] at hx; exact hx
   have hdr : ∀ (t : Nat), ((l.drop (i + 1)).flatMap AH.cells)[t]? = (l.flatMap AH.cells)[(i + 1) * 6 + t]? := fun t => by
    have e : l.flatMap AH.cells = (l.take (i + 1)).flatMap AH.cells ++ (l.drop (i + 1)).flatMap AH.cells := by rw [← List.flatMap_append, List.take_append_drop]
    have hl : ((l.take (i + 1)).flatMap AH.cells).length = (i + 1) * 6 := by rw [flat_len AH.cells_len, List.length_take]; omega
    rw [e, List.getElem?_append_right (by omega), hl, Nat.add_sub_cancel_left]
   have Hone := hid (one_arc (l.drop (i + 1)))
   obtain ⟨news, hnw⟩ : ∃ news, news = (l.drop (i + 1)).flatMap AH.cells := ⟨_, rfl⟩
   rw [← hnw] at hnews hdr Hone
   have Hnw := hid hnw
   obtain ⟨Ad, hA, hsrc⟩ : ∃ Ad : Addr, (if c = i + 1 then (some ⟨g, 0, none⟩ : Option Addr) else some ⟨g, (i + 1) * 6, none⟩) = some Ad ∧ Hid (∀ t u, news[t]? = some u → w.drew.cell? (Ad.add t) = some u) := by
    by_cases h : c = i + 1
    · refine ⟨⟨g, 0, none⟩, by rw [if_pos h], fun t u hu => ?_⟩
      have := (List.getElem?_eq_some_iff.1 hu).1
      omega
    · refine ⟨⟨g, (i + 1) * 6, none⟩, by rw [if_neg h], fun t u hu => ?_⟩
      have ht := (List.getElem?_eq_some_iff.1 hu).1
      rw [Addr.add_lit]
      show w.cell? ⟨g, (i + 1) * 6 + t, none⟩ = some u
      rw [hf0.cell]
      rw [hdr t] at hu
      exact hcn _ _ (by omega) hu
   have hfit : i * 6 + news.length ≤ cur.size := by rw [hnews, h3]; omega
   have S1 := hid (show news.length = (n - (i + 1)) * 6 from hnews)
   have S3 := hid (show ∀ t, t < news.length → (w.drew.cell? ⟨g, 0 + i * 6 + t, none⟩).isSome = true ∧ w.drew.frozen? ⟨g, 0 + i * 6 + t, none⟩ = false from fun t ht => by
    rw [Nat.zero_add]
    refine ⟨?_, hf0.frozen _⟩
    show (w.cell? ⟨g, i * 6 + t, none⟩).isSome = true
    rw [hf0.cell, Array.getElem?_eq_getElem (by omega)]; rfl)
   obtain ⟨W1, hW1⟩ : ∃ W1, W1 = w.drew.setCells g (0 + i * 6) news := ⟨_, rfl⟩
   have F1 := hid (show Fb W1 g (lay cur (i * 6) news) 63 from by rw [hW1, Nat.zero_add]; exact fb_setCells news (i * 6) w.drew cur hf0 hfit)
   have G1 := hid (show w.grownBy W1 (some g) from by rw [hW1]; exact grown_trans (grown_of_below (Below.refl _ _).drew _) (grown_setCells g news _ _))
   have HW := hid hW1
   have hne : ((i : Int) == (i : Int) + 1) = false := by simp; omega
   have hcur : cur.size = c * 6 := h3
   have hl1 : (lay cur (i * 6) news).size = c * 6 := by rw [lay_size hfit, h3]
   have hm : i + (n - (i + 1)) = n - 1 := by omega
   obtain ⟨W2, hW2⟩ : ∃ W2, W2 = W1.setCells g ((i + (n - (i + 1))) * 6) zArc := ⟨_, rfl⟩
   have hfit2 : (n - 1) * 6 + zArc.length ≤ (lay cur (i * 6) news).size := by rw [hl1]; show (n - 1) * 6 + 6 ≤ c * 6; omega
   have F2 := hid (show Fb W2 g (lay (lay cur (i * 6) news) ((n - 1) * 6) zArc) 63 from by rw [hW2, hm]; exact fb_setCells zArc _ W1 _ F1.out hfit2)
   have G2 := hid (show w.grownBy W2 (some g) from by rw [hW2]; exact grown_trans G1.out (grown_setCells g zArc _ _))
   have hcl : (Builtin.clear_ #[64] 0 #[.slice (some ⟨g, (i + (n - (i + 1))) * 6, none⟩) (n - (i + (n - (i + 1)))) (c - (i + (n - (i + 1))))]).run Tryz.prog W1 = .ok (.tuple #[]) W2 := by
    rw [hW2]
    refine run_clear_wide W1 _ 63 0 _ 6 Tryz.underlying64 Tryz.zeroValue63 zArc _ (by rw [show n - (i + (n - (i + 1))) = 1 by omega]; kernel_rfl) (fun u hu => by
     simp only [zArc, List.mem_cons, List.not_mem_nil, or_false] at hu
     rcases hu with rfl | rfl | rfl | rfl | rfl | rfl <;> rfl) g _ _ (by omega) (fun j hj => ?_) (fun j hj => F1.out.frozen _)
    have hj6 : j < 6 := hj
    rw [F1.out.cell, Array.getElem?_eq_getElem (by rw [hl1]; omega)]; rfl
   have HE := hid (show (lay (lay cur (i * 6) news) ((n - 1) * 6) zArc).toList.take ((n - 1) * 6) = (l.eraseIdx i).flatMap AH.cells from by
    apply List.ext_getElem?
    intro j
    rw [List.eraseIdx_eq_take_drop_succ, List.flatMap_append, ← hnw]
    have ht : ((l.take i).flatMap AH.cells).length = i * 6 := by rw [flat_len AH.cells_len, List.length_take]; omega
    by_cases hj : j < (n - 1) * 6
    · rw [List.getElem?_take_of_lt hj, Array.getElem?_toList, lay_get hfit2, if_pos hj, lay_get hfit]
      by_cases h5 : j < i * 6
      · rw [if_pos h5, List.getElem?_append_left (by omega)]
        have e : l.flatMap AH.cells = (l.take i).flatMap AH.cells ++ (l.drop i).flatMap AH.cells := by rw [← List.flatMap_append, List.take_append_drop]
        have hx : ((l.take i).flatMap AH.cells)[j]? = some (((l.take i).flatMap AH.cells)[j]'(by omega)) := List.getElem?_eq_getElem _
        rw [hx]
        refine hcn j _ (by omega) ?_
        rw [e, List.getElem?_append_left (by omega), hx]
      · rw [if_neg h5, if_pos (by omega), List.getElem?_append_right (by omega), ht]
    · rw [List.getElem?_eq_none (by rw [List.length_take]; omega), List.getElem?_eq_none (by rw [List.length_append, ht]; omega)])
   have HS := hid (show (lay (lay cur (i * 6) news) ((n - 1) * 6) zArc).size = c * 6 from by rw [lay_size hfit2, hl1])
   have hic : i ≤ c := by omega
   have k0 : (0 : Int) ≤ (i : Int) + 1 := by omega
   have k1 : (i : Int) + 1 ≤ n := by omega
   have hjc : i + 1 ≤ c := by omega
   have hnc : i + (n - (i + 1)) ≤ c := by omega
   clear hcur hl1 hW2 hfit2 hm
   have H12 := hid (And.intro h1 h2)
   clear h hc hcn hdr hnw hnews hfit hW1 hf0 h4 h3 h2 
   unfold AL.v
   go_enter Tryz.func129, Tryz.ntmps129
   go_wp2_with fail
   have mixed : Tryz.prog.follows .mixedOrders = true := by kernel_rfl
   go_region_law_o (refine step_append_room rfl (.tmp 22) (.tmp 25) 64 rfl 63 i0 6 Tryz.underlying64 HI.out HI1.out g 0 i c (by simp [Act.eval, Act.put]) Ad (n - (i + 1)) (c - (i + 1)) news (by simp [Act.eval, Act.put]) S1.out hsrc.out Hone.out (by omega) S3.out ?_; rw [← HW.out])
   go_wp2_with fail
   refine bodyPost_ret (v := .slice (some ⟨g, 0, none⟩) (i + (n - (i + 1))) c) (by simp [results, Tryz.results129, go_sem]) rfl ⟨by rw [show i + (n - (i + 1)) = n - 1 by omega], ?_, G2.out⟩
   have hs2 : Stp1 63 w W2 := ⟨_, G2.out, fun k e => by obtain rfl := Option.some.inj e; exact own_typ Hr.out.own rfl⟩
   refine ⟨⟨by rw [flat_len AH.cells_len, List.length_eraseIdx_of_lt (by omega), hlen], .inr ⟨g, c, _, rfl, hge, F2.out, by show n - 1 ≤ c; omega, H12.out.2, HS.out, HE.out⟩⟩, fun a ha => ?_, ?_⟩
   · exact (Hr.out.arcs a (List.mem_of_mem_eraseIdx ha)).stp hs2 (by decide) (by decide)
   · have h5 : ((l.eraseIdx i).map AH.m).Sublist (l.map AH.m) := (List.eraseIdx_sublist l i).map _
     exact ⟨Hr.out.ris.1.sublist h5, fun x hx => Hr.out.ris.2 x (h5.subset hx)⟩
theorem run_copy_wide {P : Program} (w : World) (dT sT ty elem : TypeId) (size b o dLen dCap : Nat) (ad : Addr) (sLen sCap : Nat) (cs : List Value) (hu : P.underlying dT = some (.slice elem)) (hs : (P.info? elem).map (·.size) = some size)
 (hn : cs.length = Nat.min sLen dLen * size) (hsrc : ∀ j v, cs[j]? = some v → w.cell? (ad.add j) = some v) (hc : ∀ j, j < cs.length → (w.cell? ⟨b, o + j, none⟩).isSome = true) (hf : ∀ j, j < cs.length → w.frozen? ⟨b, o + j, none⟩ = false) (h1 : ∀ v ∈ cs, v.oneCell' = true) :
 (Builtin.copy_ #[dT, sT] ty #[.slice (some ⟨b, o, none⟩) dLen dCap, .slice (some ad) sLen sCap]).run P w = .ok (goInt (Nat.min sLen dLen)) (w.setCells b o cs) := by
 have hst := run_storeCells_cells (P := P) b o cs 0 w (by simpa using hc) (by simpa using hf) h1
 simp only [Nat.add_zero] at hst
 obtain ⟨i, hi, hi2⟩ := Option.map_eq_some_iff.1 hs
 have hfc := run_firstCells_some (P := P) w size (Nat.min sLen dLen) ad sLen sCap cs hn hsrc
 have hl : (Builtin.lenOf (.slice (some ad) sLen sCap)).run P w = .ok sLen w := rfl
 simp [Builtin.copy_, run_underlying hu, hl, sizeOf, typeInfo, hi, hi2, hfc, hst]
theorem shape_fb {w : World} {g t : Nat} {cs : Array Value} (h : Fb w g cs t) : w.shape? g = some (t, cs.size) := by
 unfold Fb at h
 simp [World.shape?, h]
def RetIns (b v N : Nat) (r : AL) (i : Nat) (a : AH) (w : World) (e : Ending) (w' : World) : Prop :=
 ∃ (A : Option Addr) (c : Nat), e = .returned (.slice A (r.n + 1) c) ∧ RowA b w' v N ⟨A, r.n + 1, c, r.l.insertIdx i a⟩ ∧ w.grownBy w' r.v.ownBlock ∧ ∀ g, (Value.slice A (r.n + 1) c).ownBlock = some g → r.v.ownBlock = some g ∨ w.heap.size ≤ g
theorem ins_list {α : Type} (l : List α) {i : Nat} (hi : i ≤ l.length) (a : α) : l.insertIdx i a = l.take i ++ a :: l.drop i := by
 induction l generalizing i with
 | nil => obtain rfl : i = 0 := by simpa using hi
          rfl
 | cons x l ih =>
   cases i with
   | zero => rfl
   | succ i => rw [List.insertIdx_succ_cons, ih (by simpa using hi)]; rfl
theorem ins_ris {N : Nat} {l : List AH} {a : AH} {i : Nat} (h : RisP N (l.map AH.m)) (hp : Plc l a.m i) (hf : fdA l i a.m = false) (hm : 0 ≤ a.m ∧ a.m < N) : RisP N ((l.insertIdx i a).map AH.m) := by
 rw [ins_list l hp.le]
 have hs : ∀ x ∈ l.drop i, a.m < x.m := fun x hx => by
  obtain ⟨k, hk⟩ := List.mem_iff_getElem?.1 hx
  rw [List.getElem?_drop] at hk
  have h1 := hp.hi (i + k) x (by omega) hk
  rcases Int.lt_or_eq_of_le h1 with h2 | h2
  · exact h2
  · exfalso
    by_cases e : k = 0
    · subst e
      unfold fdA at hf
      rw [Nat.add_zero] at hk
      rw [hk] at hf
      simp [h2] at hf
    · obtain ⟨y, hy⟩ : ∃ y, l[i]? = some y := ⟨_, List.getElem?_eq_getElem (by have := (List.getElem?_eq_some_iff.1 hk).1; omega)⟩
      have h3 := hp.hi i y (Nat.le_refl _) hy
      have h4 := ris_lt h (show i < i + k by omega) hy hk
      omega
 have ht : ∀ x ∈ l.take i, x.m < a.m := fun x hx => by
  obtain ⟨k, hk⟩ := List.mem_iff_getElem?.1 hx
  rw [List.getElem?_take] at hk
  split at hk
  · next hki => exact hp.lo k x hki hk
  · cases hk
 have h1 := h.1
 rw [← List.take_append_drop i l, List.map_append, List.pairwise_append] at h1
 refine ⟨?_, fun x hx => ?_⟩
 · rw [List.map_append, List.map_cons, List.pairwise_append]
   refine ⟨h1.1, List.pairwise_cons.2 ⟨fun x hx => ?_, h1.2.1⟩, fun x hx y hy => ?_⟩
   · obtain ⟨z, hz, rfl⟩ := List.mem_map.1 hx; exact hs z hz
   · obtain ⟨z, hz, rfl⟩ := List.mem_map.1 hx
     rcases List.mem_cons.1 hy with rfl | hy
     · exact ht z hz
     · exact h1.2.2 _ (List.mem_map.2 ⟨z, hz, rfl⟩) y hy
 · obtain ⟨z, hz, rfl⟩ := List.mem_map.1 hx
   rcases List.mem_append.1 hz with hz | hz
   · exact h.2 _ (List.mem_map.2 ⟨z, List.mem_of_mem_take hz, rfl⟩)
   · rcases List.mem_cons.1 hz with rfl | hz
     · exact hm
     · exact h.2 _ (List.mem_map.2 ⟨z, List.mem_of_mem_drop hz, rfl⟩)
section
variable {b v N : Nat} {r : AL} {i : Nat} {a : AH} {g0 : Nat} {w : World}
theorem insert_end (h : RowA b w v N r) (hN : N ≤ 256) (hb : b ≤ w.heap.size) (hp : Plc r.l a.m r.n) (ha : FWt w v a.f) (hm : 0 ≤ a.m ∧ a.m < N) (hx : Fb w g0 a.cells.toArray 63) (hf : fdA r.l r.n a.m = false) :
 Calls Tryz.prog 166 #[r.v, .int .i64 r.n, .slice (some ⟨g0, 0, none⟩) 1 1] w (RetIns b v N r r.n a w) := by
 obtain ⟨iA, hi, hz0, hz1, hz2⟩ := info_parts infoArc
 have HA := hid hi; have HA0 := hid hz0; have HA1 := hid hz1; have HA2 := hid hz2
 clear hi hz0 hz1 hz2
 have hfew := h.few
 have Hr := hid h
 have Hx := hid hx
 have Hown := hid h.own
 have Hris := hid (ins_ris h.ris hp hf hm)
 have Ha := hid ha
 have Hnews := hid (World.news_of_block (w := w) hx)
 have Hone := hid (show ∀ u ∈ a.cells, u.oneCell' = true from fun u hu => one_arc [a] u (by simpa using hu))
 have hlen := h.len
 have Hlen := hid hlen
 have hnc : r.n ≤ r.c := by
  rcases h.own.2 with ⟨e, e2⟩ | ⟨g, cap, cur, e, _, _, h1, _⟩
  · unfold AL.v at e
    injection e with _ e1 e3; omega
  · unfold AL.v at e
    injection e with _ _ e3; omega
 obtain ⟨A, n, c, l⟩ := r
 simp only at hfew hlen hnc
 unfold AL.v at *
 clear h hx ha hp hf hlen
 simp only at *
 by_cases hcn : c = n
 · subst hcn
   go_enter Tryz.func166, Tryz.ntmps166
   go_wp2_with (first
    | (at_builtin
       refine wpList_append_lies _ rfl _ _ 64 rfl b 63 iA _ 6 96 Tryz.underlying64 HA.out HA0.out HA1.out HA2.out rfl (by decide) (.slice A c c) c (l.flatMap AH.cells) rfl Hown.out ⟨g0, 0, none⟩ 1 1 a.cells rfl rfl Hnews.out Hone.out (by omega) (by unfold maxLen; omega) (by omega) hb _ rfl ?_
       intro g9 q9 w9 hown hgr hat _
       have Hown9 := hid hown; have Hgr := hid hgr; have Hat := hid hat
       clear hown hgr hat))
   all_goals
    refine bodyPost_ret (v := .slice (some ⟨g9, 0, none⟩) (c + 1) q9) (by simp [results, Tryz.results166, go_sem]) rfl ⟨_, q9, rfl, ?_, Hgr.out, fun g e => ?_⟩
    · have hs : Stp1 63 w w9 := ⟨_, Hgr.out, fun k e => own_typ Hown.out e⟩
      refine ⟨?_, fun x hx => ?_, Hris.out⟩
      · have e : (l.insertIdx c a).flatMap AH.cells = l.flatMap AH.cells ++ a.cells := by
         rw [ins_list l (by rw [Hlen.out]; exact Nat.le_refl _), List.take_of_length_le (by rw [Hlen.out]; exact Nat.le_refl _), List.drop_of_length_le (by rw [Hlen.out]; exact Nat.le_refl _), List.flatMap_append]
         simp
        show w9.ownsRow b _ 6 _ (c + 1) ((l.insertIdx c a).flatMap AH.cells)
        rw [e]; exact Hown9.out
      · have hx2 : x ∈ l.insertIdx c a := hx
        rw [ins_list l (by rw [Hlen.out]; exact Nat.le_refl _)] at hx2
        rcases List.mem_append.1 hx2 with h1 | h1
        · exact (Hr.out.arcs x (List.mem_of_mem_take h1)).stp hs (by decide) (by decide)
        · rcases List.mem_cons.1 h1 with rfl | h1
          · exact Ha.out.stp hs (by decide) (by decide)
          · exact (Hr.out.arcs x (List.mem_of_mem_drop h1)).stp hs (by decide) (by decide)
    · obtain rfl := Option.some.inj e
      rcases Hat.out with h1 | h1
      · exact .inl h1
      · exact .inr (by show w.heap.size ≤ g9; omega)
 · have hcn2 := hcn
   go_enter Tryz.func166, Tryz.ntmps166
   go_wp2_with (first
    | (at_builtin
       refine wpList_append_lies _ rfl _ _ 64 rfl b 63 iA _ 6 96 Tryz.underlying64 HA.out HA0.out HA1.out HA2.out rfl (by decide) (.slice A n c) n (l.flatMap AH.cells) rfl Hown.out ⟨g0, 0, none⟩ 1 1 a.cells rfl rfl Hnews.out Hone.out (by omega) (by unfold maxLen; omega) (by omega) hb _ rfl ?_
       intro g9 q9 w9 hown hgr hat _
       have Hown9 := hid hown; have Hgr := hid hgr; have Hat := hid hat
       clear hown hgr hat))
   all_goals
    refine bodyPost_ret (v := .slice (some ⟨g9, 0, none⟩) (n + 1) q9) (by simp [results, Tryz.results166, go_sem]) rfl ⟨_, q9, rfl, ?_, Hgr.out, fun g e => ?_⟩
    · have hs : Stp1 63 w w9 := ⟨_, Hgr.out, fun k e => own_typ Hown.out e⟩
      refine ⟨?_, fun x hx => ?_, Hris.out⟩
      · have e : (l.insertIdx n a).flatMap AH.cells = l.flatMap AH.cells ++ a.cells := by
         rw [ins_list l (by rw [Hlen.out]; exact Nat.le_refl _), List.take_of_length_le (by rw [Hlen.out]; exact Nat.le_refl _), List.drop_of_length_le (by rw [Hlen.out]; exact Nat.le_refl _), List.flatMap_append]
         simp
        show w9.ownsRow b _ 6 _ (n + 1) ((l.insertIdx n a).flatMap AH.cells)
        rw [e]; exact Hown9.out
      · have hx2 : x ∈ l.insertIdx n a := hx
        rw [ins_list l (by rw [Hlen.out]; exact Nat.le_refl _)] at hx2
        rcases List.mem_append.1 hx2 with h1 | h1
        · exact (Hr.out.arcs x (List.mem_of_mem_take h1)).stp hs (by decide) (by decide)
        · rcases List.mem_cons.1 h1 with rfl | h1
          · exact Ha.out.stp hs (by decide) (by decide)
          · exact (Hr.out.arcs x (List.mem_of_mem_drop h1)).stp hs (by decide) (by decide)
    · obtain rfl := Option.some.inj e
      rcases Hat.out with h1 | h1
      · exact .inl h1
      · exact .inr (by show w.heap.size ≤ g9; omega)
theorem insert_shift (h : RowA b w v N r) (hN : N ≤ 256) (hi : i < r.n) (hroom : r.n + 1 ≤ r.c) (hp : Plc r.l a.m i) (hf : fdA r.l i a.m = false) (ha : FWt w v a.f) (hm : 0 ≤ a.m ∧ a.m < N) (hx : Fb w g0 a.cells.toArray 63) (hne : r.v.ownBlock ≠ some g0) :
 Calls Tryz.prog 166 #[r.v, .int .i64 i, .slice (some ⟨g0, 0, none⟩) 1 1] w (RetIns b v N r i a w) := by
 have hlen := h.len
 have hfew := h.few
 have Hr := hid h
 have Hris := hid (ins_ris h.ris hp hf hm)
 have Ha := hid ha
 have Hone := hid (show ∀ u ∈ a.cells, u.oneCell' = true from fun u hu => one_arc [a] u (by simpa using hu))
 rcases h.own.2 with ⟨e, e2⟩ | ⟨g, cap, cur, e, hge, hc, h1, h2, h3, h4⟩
 · omega
 · unfold AL.v at e
   injection e with e1 e2 e3
   obtain ⟨A, n, c, l⟩ := r
   simp only at e1 e3 hi hroom hlen hfew h4 h1 hp hf
   subst e1
   subst e3
   have hgg : g0 ≠ g := fun e => hne (by rw [e]; rfl)
   have hf0 : Fb w g cur 63 := hc
   clear h hc hne hp hf ha
   obtain ⟨cs1, hcs1⟩ : ∃ cs1, cs1 = (l.drop i).flatMap AH.cells := ⟨_, rfl⟩
   have hl1 : cs1.length = (n - i) * 6 := by rw [hcs1, flat_len AH.cells_len, List.length_drop, hlen]
   have hcn : ∀ (j : Nat) (x : Value), j < n * 6 → (l.flatMap AH.cells)[j]? = some x → cur[j]? = some x := fun j x hj hx => by
    rw [← h4, List.getElem?_take_of_lt hj, Array.getElem?_toList] at hx; exact hx
   have hsp : l.flatMap AH.cells = (l.take i).flatMap AH.cells ++ cs1 := by rw [hcs1, ← List.flatMap_append, List.take_append_drop]
   have htl : ((l.take i).flatMap AH.cells).length = i * 6 := by rw [flat_len AH.cells_len, List.length_take]; omega
   have hsrc : ∀ (j : Nat) (x : Value), cs1[j]? = some x → w.cell? ⟨g, i * 6 + j, none⟩ = some x := fun j x hx => by
    have hj := (List.getElem?_eq_some_iff.1 hx).1
    rw [hf0.cell]
    refine hcn _ _ (by omega) ?_
    rw [hsp, List.getElem?_append_right (by omega), htl, Nat.add_sub_cancel_left]; exact hx
   have hone1 : ∀ u ∈ cs1, u.oneCell' = true := by rw [hcs1]; exact one_arc _
   have hsz : (Tryz.prog.info? 63).map (·.size) = some 6 := by kernel_rfl
   have hfit1 : (i + 1) * 6 + cs1.length ≤ cur.size := by rw [hl1, h3]; omega
   obtain ⟨W1, hW1⟩ : ∃ W1, W1 = w.drew.setCells g ((i + 1) * 6) cs1 := ⟨_, rfl⟩
   have hcp1 : ∀ ty dc sc, (Builtin.copy_ #[64, 64] ty #[.slice (some ⟨g, (i + 1) * 6, none⟩) (n + 1 - (i + 1)) dc, .slice (some ⟨g, i * 6, none⟩) (n + 1 - i) sc]).run Tryz.prog w.drew = .ok (goInt ((n - i : Nat) : Int)) W1 := fun ty dc sc => by
    have hmn : Nat.min (n + 1 - i) (n + 1 - (i + 1)) = n - i := by simp only [Nat.min_def]; split <;> omega
    have := run_copy_wide (P := Tryz.prog) w.drew 64 64 ty 63 6 g ((i + 1) * 6) (n + 1 - (i + 1)) dc ⟨g, i * 6, none⟩ (n + 1 - i) sc cs1 Tryz.underlying64 hsz (by rw [hmn, hl1])
     (fun j x hx => by rw [Addr.add_lit]; exact hsrc j x hx)
     (fun j hj => by show (w.cell? ⟨g, (i + 1) * 6 + j, none⟩).isSome = true; rw [hf0.cell, Array.getElem?_eq_getElem (by omega)]; rfl) (fun j hj => hf0.frozen _) hone1
    rw [hmn] at this
    rw [this, hW1]
   have F1 : Fb W1 g (lay cur ((i + 1) * 6) cs1) 63 := by rw [hW1]; exact fb_setCells cs1 _ w.drew cur hf0 hfit1
   have G1 : w.grownBy W1 (some g) := by rw [hW1]; exact grown_trans (grown_of_below (Below.refl _ _).drew _) (grown_setCells g cs1 _ _)
   have X1 : Fb W1 g0 a.cells.toArray 63 := hx.grown G1 (by simpa using hgg)
   have hls1 : (lay cur ((i + 1) * 6) cs1).size = c * 6 := by rw [lay_size hfit1, h3]
   have hac : a.cells.length = 6 := rfl
   obtain ⟨W2, hW2⟩ : ∃ W2, W2 = W1.setCells g (i * 6) a.cells := ⟨_, rfl⟩
   have hcp2 : ∀ ty dc, (Builtin.copy_ #[64, 64] ty #[.slice (some ⟨g, i * 6, none⟩) (n + 1 - i) dc, .slice (some ⟨g0, 0, none⟩) 1 1]).run Tryz.prog W1 = .ok (goInt ((1 : Nat) : Int)) W2 := fun ty dc => by
    have hmn : Nat.min 1 (n + 1 - i) = 1 := by simp only [Nat.min_def]; split <;> omega
    have := run_copy_wide (P := Tryz.prog) W1 64 64 ty 63 6 g (i * 6) (n + 1 - i) dc ⟨g0, 0, none⟩ 1 1 a.cells Tryz.underlying64 hsz (by rw [hmn, hac])
     (fun j x hx => by rw [Addr.add_lit, Nat.zero_add, X1.cell]; simpa using hx)
     (fun j hj => by rw [F1.cell, Array.getElem?_eq_getElem (by rw [hls1]; omega)]; rfl) (fun j hj => F1.frozen _) Hone.out
    rw [hmn] at this
    rw [this, hW2]
   have hfit2 : i * 6 + a.cells.length ≤ (lay cur ((i + 1) * 6) cs1).size := by rw [hls1, hac]; omega
   have F2 := hid (show Fb W2 g (lay (lay cur ((i + 1) * 6) cs1) (i * 6) a.cells) 63 from by rw [hW2]; exact fb_setCells a.cells _ W1 _ F1 hfit2)
   have G2 := hid (show w.grownBy W2 (some g) from by rw [hW2]; exact grown_trans G1 (grown_setCells g a.cells _ _))
   have HS := hid (show (lay (lay cur ((i + 1) * 6) cs1) (i * 6) a.cells).size = c * 6 from by rw [lay_size hfit2, hls1])
   have HE := hid (show (lay (lay cur ((i + 1) * 6) cs1) (i * 6) a.cells).toList.take ((n + 1) * 6) = (l.insertIdx i a).flatMap AH.cells from by
    have e : (l.insertIdx i a).flatMap AH.cells = (l.take i).flatMap AH.cells ++ (a.cells ++ cs1) := by
     rw [ins_list l (by omega), List.flatMap_append, List.flatMap_cons, ← hcs1]
    rw [e]
    apply List.ext_getElem?
    intro j
    by_cases hj : j < (n + 1) * 6
    · rw [List.getElem?_take_of_lt hj, Array.getElem?_toList, lay_get hfit2]
      by_cases h5 : j < i * 6
      · rw [if_pos h5, lay_get hfit1, if_pos (by omega), List.getElem?_append_left (by omega)]
        have hx : ((l.take i).flatMap AH.cells)[j]? = some (((l.take i).flatMap AH.cells)[j]'(by omega)) := List.getElem?_eq_getElem _
        rw [hx]
        refine hcn j _ (by omega) ?_
        rw [hsp, List.getElem?_append_left (by omega), hx]
      · rw [if_neg h5, List.getElem?_append_right (by omega), htl]
        by_cases h6 : j < i * 6 + a.cells.length
        · rw [if_pos h6, List.getElem?_append_left (by omega)]
        · rw [if_neg h6, lay_get hfit1, if_neg (by omega), if_pos (by omega), List.getElem?_append_right (by omega)]
          congr 1; omega
    · rw [List.getElem?_eq_none (by rw [List.length_take]; omega), List.getElem?_eq_none (by simp only [List.length_append, htl, hac, hl1]; omega)])
   have hov : ∀ lb cb, (callFunc 184 #[.slice (some ⟨g0, 0, none⟩) 1 1, .slice (some ⟨g, (i + 1) * 6, none⟩) lb cb]).run Tryz.prog w = .ok (.value (.bool false)) w := fun lb cb => by
    rw [run_callFunc_extern Tryz.func184 (by kernel_rfl) (by kernel_rfl) (by kernel_rfl) (e := Extern.SlicesOverlaps.overlaps #[64, 64] #[4]) (by kernel_rfl),
     Lib.run_overlaps_apart w 64 4 63 Tryz.underlying64 6 Tryz.sizeOf63 ⟨g0, 0, none⟩ ⟨g, (i + 1) * 6, none⟩ 1 1 lb cb hgg 63 63 6 (c * 6) (shape_fb hx) (by rw [shape_fb hf0, h3]) (by omega) (hx.frozen _) (hx.frozen _)]
    rfl
   have mixed : Tryz.prog.follows .mixedOrders = true := by kernel_rfl
   have H12 := hid (And.intro h1 h2)
   have hz2 : ((i : Int) == (n : Int)) = false := by simp; omega
   have hb2 : ¬ (c = i + 1) := by omega
   have hb4 : ¬ (c = i) := by omega
   have hb5 : ¬ (c = n + 1 ∧ False) := by simp
   have k0 : (0 : Int) ≤ (i : Int) + 1 := by omega
   have k1 : (i : Int) + 1 ≤ (n : Int) + 1 := by omega
   have k2 : ((i : Int) + 1).toNat = i + 1 := by omega
   have k3 : i ≤ n := by omega
   have k4 : n + 1 ≤ c := hroom
   have k5 : n ≤ c := h1
   have k6 : (i : Int) ≤ (n : Int) + 1 := by omega
   have k7 : decide ((c : Int) < (n : Int) + 1) = false := by simp; omega
   clear hW1 hW2 F1 G1 X1 hls1 hfit1 hfit2 hsrc hcn hsp htl h4 h3 h2 hf0 hcs1 hl1 hone1 hsz hac hx hb5
   unfold AL.v
   go_enter Tryz.func166, Tryz.ntmps166
   go_wp2_with (simp only [hov])
   have hw1 : IntKind.i64.wrap ((i : Int) + 1) = (i : Int) + 1 := IntWalk.i64_in _ (by omega)
   go_region_law_o (refine step_copy_runI rfl (.tmp 73) (.tmp 76) 64 64 rfl (.slice (some ⟨g, (i + 1) * 6, none⟩) (n + 1 - (i + 1)) (c - (i + 1))) (.slice (some ⟨g, i * 6, none⟩) (n + 1 - i) (c - i)) (by simp [Act.eval, Act.put]) (by simp [Act.eval, Act.put]) (hcp1 3 (c - (i + 1)) (c - i)) ?_)
   go_wp2_with (at_builtin; refine wpList_copy_runI _ rfl _ _ 64 64 rfl _ _ rfl rfl (hcp2 _ _) ?_)
   refine bodyPost_ret (v := .slice (some ⟨g, 0, none⟩) (n + 1) c) (by simp [results, Tryz.results166, go_sem]) rfl ⟨some ⟨g, 0, none⟩, c, rfl, ?_, G2.out, fun g e => .inl e⟩
   have hs : Stp1 63 w W2 := ⟨_, G2.out, fun k e => by obtain rfl := Option.some.inj e; exact own_typ Hr.out.own rfl⟩
   refine ⟨⟨by rw [flat_len AH.cells_len]; show (l.insertIdx i a).length * 6 = (n + 1) * 6; rw [ins_list l (by omega), List.length_append, List.length_cons, List.length_take, List.length_drop]; omega, .inr ⟨g, c, _, rfl, hge, F2.out, hroom, H12.out.2, HS.out, HE.out⟩⟩, fun x hx => ?_, Hris.out⟩
   have hx2 : x ∈ l.insertIdx i a := hx
   rw [ins_list l (by omega)] at hx2
   rcases List.mem_append.1 hx2 with h1 | h1
   · exact (Hr.out.arcs x (List.mem_of_mem_take h1)).stp hs (by decide) (by decide)
   · rcases List.mem_cons.1 h1 with rfl | h1
     · exact Ha.out.stp hs (by decide) (by decide)
     · exact (Hr.out.arcs x (List.mem_of_mem_drop h1)).stp hs (by decide) (by decide)
theorem insert_grow (h : RowA b w v N r) (hN : N ≤ 256) (hb : b ≤ w.heap.size) (hi : i < r.n) (hroom : r.c < r.n + 1) (hp : Plc r.l a.m i) (hf : fdA r.l i a.m = false) (ha : FWt w v a.f) (hm : 0 ≤ a.m ∧ a.m < N) (hx : Fb w g0 a.cells.toArray 63) :
 Calls Tryz.prog 166 #[r.v, .int .i64 i, .slice (some ⟨g0, 0, none⟩) 1 1] w (RetIns b v N r i a w) := by
 obtain ⟨i0, hi0, hz0, hzs, hzb⟩ := info_parts infoArc
 have hlen := h.len
 have hfew := h.few
 have Hr := hid h
 have Hris := hid (ins_ris h.ris hp hf hm)
 have Ha := hid ha
 have Hone := hid (show ∀ u ∈ a.cells, u.oneCell' = true from fun u hu => one_arc [a] u (by simpa using hu))
 rcases h.own.2 with ⟨e, e2⟩ | ⟨g, cap, cur, e, hge, hc, h1, h2, h3, h4⟩
 · omega
 · unfold AL.v at e
   injection e with e1 e2 e3
   obtain ⟨A, n, c, l⟩ := r
   simp only at e1 e3 hi hroom hlen hfew h4 h1 hp hf
   subst e1
   subst e3
   have hf0 : Fb w g cur 63 := hc
   have hgl := hf0.lt
   have hxl := hx.lt
   clear h hc hp hf ha
   obtain ⟨cs1, hcs1⟩ : ∃ cs1, cs1 = (l.drop i).flatMap AH.cells := ⟨_, rfl⟩
   obtain ⟨cs0, hcs0⟩ : ∃ cs0, cs0 = (l.take i).flatMap AH.cells := ⟨_, rfl⟩
   have hl1 : cs1.length = (n - i) * 6 := by rw [hcs1, flat_len AH.cells_len, List.length_drop, hlen]
   have hl0 : cs0.length = i * 6 := by rw [hcs0, flat_len AH.cells_len, List.length_take]; omega
   have hcn : ∀ (j : Nat) (x : Value), j < n * 6 → (l.flatMap AH.cells)[j]? = some x → cur[j]? = some x := fun j x hj hx => by
    rw [← h4, List.getElem?_take_of_lt hj, Array.getElem?_toList] at hx; exact hx
   have hsp : l.flatMap AH.cells = cs0 ++ cs1 := by rw [hcs0, hcs1, ← List.flatMap_append, List.take_append_drop]
   have hsrc0 : ∀ (j : Nat) (x : Value), cs0[j]? = some x → w.cell? ⟨g, j, none⟩ = some x := fun j x hx => by
    have hj := (List.getElem?_eq_some_iff.1 hx).1
    rw [hf0.cell]
    refine hcn _ _ (by omega) ?_
    rw [hsp, List.getElem?_append_left (by omega)]; exact hx
   have hsrc : ∀ (j : Nat) (x : Value), cs1[j]? = some x → w.cell? ⟨g, i * 6 + j, none⟩ = some x := fun j x hx => by
    have hj := (List.getElem?_eq_some_iff.1 hx).1
    rw [hf0.cell]
    refine hcn _ _ (by omega) ?_
    rw [hsp, List.getElem?_append_right (by omega), hl0, Nat.add_sub_cancel_left]; exact hx
   have hone1 : ∀ u ∈ cs1, u.oneCell' = true := by rw [hcs1]; exact one_arc _
   have hsz : (Tryz.prog.info? 63).map (·.size) = some 6 := by kernel_rfl
   have hold : (Builtin.firstCells i0.size i (.slice (some ⟨g, 0, none⟩) i c)).run Tryz.prog w.drew = .ok cs0.toArray w.drew := by
    rw [hzs]
    exact run_firstCells_some w.drew 6 i ⟨g, 0, none⟩ i c cs0 (by rw [hl0]) (fun j x hj => by rw [Addr.add_lit, Nat.zero_add]; exact hsrc0 j x hj)
   have hkk : (n : Int) + 1 - (i : Int) = ((n + 1 - i : Nat) : Int) := by omega
   have hik : i + (n + 1 - i) = n + 1 := by omega
   obtain ⟨G, hG⟩ : ∃ G, G = grownCap w (n + 1) c 63 := ⟨_, rfl⟩
   obtain ⟨ROW, hROW⟩ : ∃ ROW : Array Value, ROW = cs0.toArray ++ Builtin.zeroCells (Value.agg #[.int .i64 0, .int .i64 0, .slice none 0 0, .int .i64 0, .slice none 0 0, .slice none 0 0]).cells (n + 1 - i) ++ Builtin.zeroCells (Value.agg #[.int .i64 0, .int .i64 0, .slice none 0 0, .int .i64 0, .slice none 0 0, .slice none 0 0]).cells (G - (n + 1)) := ⟨_, rfl⟩
   obtain ⟨W1, hW1⟩ : ∃ W1, W1 = w.drew.alloc (.cells ROW 63) := ⟨_, rfl⟩
   have hrz : ∀ ty, (Builtin.append_ #[64, 3] ty #[.slice (some ⟨g, 0, none⟩) i c, .int .i64 ((n : Int) + 1 - (i : Int))]).run Tryz.prog w = .ok (.slice (some ⟨w.heap.size, 0, none⟩) (n + 1) G) W1 := fun ty => by
    have h := Lib.run_append_grow_zeros w 64 3 ty 63 i0 _ .i64 .i64 Tryz.underlying64 Tryz.underlying3 hi0 hz0 (some ⟨g, 0, none⟩) i c cs0 hold (n + 1 - i) (by omega) (by omega) (by omega) (by omega) (by rw [hzb]; omega) (by rw [hzb, hik]; exact growslice_fits hroom (by omega))
    rw [hik] at h
    rw [hkk, hW1, hROW, hG]
    exact h
   have hGn : n + 1 ≤ G := by rw [hG]; exact grownCap_ge w _ _ _
   have hGm : G ≤ maxLen := by rw [hG]; exact grownCap_le_maxLen w (n + 1) c 63 (by unfold maxLen; omega)
   have hRl : ROW.size = G * 6 := by
    rw [hROW]
    simp only [Array.size_append, List.size_toArray, Builtin.zeroCells, Value.cells, Array.size_map, Array.size_range, hl0]
    show i * 6 + (n + 1 - i) * 6 + (G - (n + 1)) * 6 = G * 6
    omega
   have hR0 : ∀ j, j < i * 6 → ROW[j]? = cs0[j]? := fun j hj => by
    rw [hROW, Array.append_assoc, Array.getElem?_append_left (by simp; omega)]; simp
   have F1 : Fb W1 w.heap.size ROW 63 := by rw [hW1]; exact Fb.new w.drew ROW _
   have B1 : Below w.heap.size w W1 := by rw [hW1]; exact (Below.refl _ _).drew.alloc (Nat.le_refl _) _
   have hbN : g ≠ w.heap.size := by omega
   have X1 : Fb W1 g0 a.cells.toArray 63 := hx.below B1 hxl
   have Y1 : Fb W1 g cur 63 := hf0.below B1 hgl
   have hac : a.cells.length = 6 := rfl
   have hfit2 : i * 6 + a.cells.length ≤ ROW.size := by rw [hRl, hac]; omega
   obtain ⟨W2, hW2⟩ : ∃ W2, W2 = W1.setCells w.heap.size (i * 6) a.cells := ⟨_, rfl⟩
   have hcp2 : ∀ ty dc, (Builtin.copy_ #[64, 64] ty #[.slice (some ⟨w.heap.size, i * 6, none⟩) (n + 1 - i) dc, .slice (some ⟨g0, 0, none⟩) 1 1]).run Tryz.prog W1 = .ok (goInt ((1 : Nat) : Int)) W2 := fun ty dc => by
    have hmn : Nat.min 1 (n + 1 - i) = 1 := by simp only [Nat.min_def]; split <;> omega
    have := run_copy_wide (P := Tryz.prog) W1 64 64 ty 63 6 w.heap.size (i * 6) (n + 1 - i) dc ⟨g0, 0, none⟩ 1 1 a.cells Tryz.underlying64 hsz (by rw [hmn, hac])
     (fun j x hx => by rw [Addr.add_lit, Nat.zero_add, X1.cell]; simpa using hx)
     (fun j hj => by rw [F1.cell, Array.getElem?_eq_getElem (by omega)]; rfl) (fun j hj => F1.frozen _) Hone.out
    rw [hmn] at this
    rw [this, hW2]
   have F2 : Fb W2 w.heap.size (lay ROW (i * 6) a.cells) 63 := by rw [hW2]; exact fb_setCells a.cells _ W1 _ F1 hfit2
   have G2 : W1.grownBy W2 (some w.heap.size) := by rw [hW2]; exact grown_setCells _ a.cells _ _
   have Y2 : Fb W2 g cur 63 := Y1.grown G2 (by simpa using hbN)
   have hls2 : (lay ROW (i * 6) a.cells).size = G * 6 := by rw [lay_size hfit2, hRl]
   have hfit3 : (i + 1) * 6 + cs1.length ≤ (lay ROW (i * 6) a.cells).size := by rw [hls2, hl1]; omega
   obtain ⟨W3, hW3⟩ : ∃ W3, W3 = W2.drew.setCells w.heap.size ((i + 1) * 6) cs1 := ⟨_, rfl⟩
   have hcp3 : ∀ ty dc sc, (Builtin.copy_ #[64, 64] ty #[.slice (some ⟨w.heap.size, (i + 1) * 6, none⟩) (n + 1 - (i + 1)) dc, .slice (some ⟨g, i * 6, none⟩) (n - i) sc]).run Tryz.prog W2.drew = .ok (goInt ((n - i : Nat) : Int)) W3 := fun ty dc sc => by
    have hmn : Nat.min (n - i) (n + 1 - (i + 1)) = n - i := by simp only [Nat.min_def]; split <;> omega
    have := run_copy_wide (P := Tryz.prog) W2.drew 64 64 ty 63 6 w.heap.size ((i + 1) * 6) (n + 1 - (i + 1)) dc ⟨g, i * 6, none⟩ (n - i) sc cs1 Tryz.underlying64 hsz (by rw [hmn, hl1])
     (fun j x hx => by
       rw [Addr.add_lit]
       show W2.cell? ⟨g, i * 6 + j, none⟩ = some x
       rw [Y2.cell, ← hf0.cell]; exact hsrc j x hx)
     (fun j hj => by show (W2.cell? ⟨w.heap.size, (i + 1) * 6 + j, none⟩).isSome = true; rw [F2.cell, Array.getElem?_eq_getElem (by omega)]; rfl) (fun j hj => F2.frozen _) hone1
    rw [hmn] at this
    rw [this, hW3]
   have F3 := hid (show Fb W3 w.heap.size (lay (lay ROW (i * 6) a.cells) ((i + 1) * 6) cs1) 63 from by rw [hW3]; exact fb_setCells cs1 _ W2.drew _ F2 hfit3)
   have hB3 : Below w.heap.size w W3 := by
    rw [hW3]
    have h5 := B1.grown G2 B1.size (fun k e => by obtain rfl := Option.some.inj e; exact Nat.le_refl _)
    exact h5.drew.grown (grown_setCells w.heap.size cs1 _ _) h5.size (fun k e => by obtain rfl := Option.some.inj e; exact Nat.le_refl _)
   have G3 := hid (show w.grownBy W3 (some g) from grown_of_below hB3 _)
   have HS := hid (show (lay (lay ROW (i * 6) a.cells) ((i + 1) * 6) cs1).size = G * 6 from by rw [lay_size hfit3, hls2])
   have HE := hid (show (lay (lay ROW (i * 6) a.cells) ((i + 1) * 6) cs1).toList.take ((n + 1) * 6) = (l.insertIdx i a).flatMap AH.cells from by
    have e : (l.insertIdx i a).flatMap AH.cells = cs0 ++ (a.cells ++ cs1) := by
     rw [ins_list l (by omega), List.flatMap_append, List.flatMap_cons, ← hcs1, ← hcs0]
    rw [e]
    apply List.ext_getElem?
    intro j
    by_cases hj : j < (n + 1) * 6
    · rw [List.getElem?_take_of_lt hj, Array.getElem?_toList, lay_get hfit3]
      by_cases h5 : j < (i + 1) * 6
      · rw [if_pos h5, lay_get hfit2]
        by_cases h6 : j < i * 6
        · rw [if_pos h6, hR0 j h6, List.getElem?_append_left (by omega)]
        · rw [if_neg h6, if_pos (by omega), List.getElem?_append_right (by omega), hl0, List.getElem?_append_left (by omega)]
      · rw [if_neg h5, if_pos (by omega), List.getElem?_append_right (by omega), List.getElem?_append_right (by omega)]
        congr 1; omega
    · rw [List.getElem?_eq_none (by rw [List.length_take]; omega), List.getElem?_eq_none (by simp only [List.length_append, hac, hl1, hl0]; omega)])
   have mixed : Tryz.prog.follows .mixedOrders = true := by kernel_rfl
   have HGm := hid hGm
   have hz2 : ((i : Int) == (n : Int)) = false := by simp; omega
   have hci : ¬ (c = i) := by omega
   have hGi : ¬ (G = i) := by omega
   have hGim : ¬ (G = i + 1) := by omega
   have k0 : (0 : Int) ≤ (i : Int) + 1 := by omega
   have k1 : (i : Int) + 1 ≤ (n : Int) + 1 := by omega
   have k2 : ((i : Int) + 1).toNat = i + 1 := by omega
   have k3 : i ≤ n := by omega
   have k5 : n ≤ c := h1
   have k6 : (i : Int) ≤ (n : Int) + 1 := by omega
   have k7 : decide ((c : Int) < (n : Int) + 1) = true := by simp; omega
   have k8 : i ≤ c := by omega
   have hG63 : G ≤ 9223372036854775807 := by unfold maxLen at hGm; exact hGm
   clear hW1 hW2 hW3 F1 B1 X1 Y1 F2 G2 Y2 hls2 hfit2 hfit3 hsrc hsrc0 hcn hsp h4 h3 h2 hf0 hcs1 hcs0 hl1 hl0 hone1 hsz hac hx hold hkk hik hG hROW hRl hR0 hB3 hGm hi0 hz0 hzs hzb
   unfold AL.v
   go_enter Tryz.func166, Tryz.ntmps166
   go_wp2_with (first
    | (at_builtin; refine Lib.wpList_append_run _ rfl _ _ _ _ rfl _ _ rfl rfl _ _ (hrz _) ?_)
    | (at_builtin; refine wpList_copy_runI _ rfl _ _ 64 64 rfl _ _ rfl rfl (hcp2 _ _) ?_))
   have hw1 : IntKind.i64.wrap ((i : Int) + 1) = (i : Int) + 1 := IntWalk.i64_in _ (by omega)
   go_region_law_o (refine step_copy_runI rfl (.tmp 50) (.tmp 53) 64 64 rfl (.slice (some ⟨w.heap.size, (i + 1) * 6, none⟩) (n + 1 - (i + 1)) (G - (i + 1))) (.slice (some ⟨g, i * 6, none⟩) (n - i) (c - i)) (by simp [Act.eval, Act.put]) (by simp [Act.eval, Act.put]) (hcp3 3 (G - (i + 1)) (c - i)) ?_)
   go_wp2_with fail
   refine bodyPost_ret (v := .slice (some ⟨w.heap.size, 0, none⟩) (n + 1) G) (by simp [results, Tryz.results166, go_sem]) rfl ⟨some ⟨w.heap.size, 0, none⟩, G, rfl, ?_, G3.out, fun k e => by obtain rfl := Option.some.inj e; exact .inr (Nat.le_refl _)⟩
   have hs : Stp1 63 w W3 := ⟨_, G3.out, fun k e => by obtain rfl := Option.some.inj e; exact own_typ Hr.out.own rfl⟩
   refine ⟨⟨by rw [flat_len AH.cells_len]; show (l.insertIdx i a).length * 6 = (n + 1) * 6; rw [ins_list l (by omega), List.length_append, List.length_cons, List.length_take, List.length_drop]; omega, .inr ⟨w.heap.size, G, _, rfl, hb, F3.out, hGn, HGm.out, HS.out, HE.out⟩⟩, fun x hx => ?_, Hris.out⟩
   have hx2 : x ∈ l.insertIdx i a := hx
   rw [ins_list l (by omega)] at hx2
   rcases List.mem_append.1 hx2 with h1 | h1
   · exact (Hr.out.arcs x (List.mem_of_mem_take h1)).stp hs (by decide) (by decide)
   · rcases List.mem_cons.1 h1 with rfl | h1
     · exact Ha.out.stp hs (by decide) (by decide)
     · exact (Hr.out.arcs x (List.mem_of_mem_drop h1)).stp hs (by decide) (by decide)
theorem insertA_any (h : RowA b w v N r) (hN : N ≤ 256) (hb : b ≤ w.heap.size) (hp : Plc r.l a.m i) (hf : fdA r.l i a.m = false) (ha : FWt w v a.f) (hm : 0 ≤ a.m ∧ a.m < N) (hx : Fb w g0 a.cells.toArray 63) (hne : r.v.ownBlock ≠ some g0) :
 Calls Tryz.prog 166 #[r.v, .int .i64 i, .slice (some ⟨g0, 0, none⟩) 1 1] w (RetIns b v N r i a w) := by
 have hle := hp.le
 rw [h.len] at hle
 rcases Nat.lt_or_ge i r.n with hi | hi
 · rcases Nat.lt_or_ge r.c (r.n + 1) with hr | hr
   · exact insert_grow h hN hb hi hr hp hf ha hm hx
   · exact insert_shift h hN hi hr hp hf ha hm hx hne
 · obtain rfl : i = r.n := by omega
   exact insert_end h hN hb hp ha hm hx hf
end
theorem run_copy_zero {P : Program} (w : World) (dT sT ty elem : TypeId) (d A : Option Addr) (dc sc : Nat) (hu : P.underlying dT = some (.slice elem)) (hs : ((P.info? elem).map (·.size)).isSome = true) :
 (Builtin.copy_ #[dT, sT] ty #[.slice d 0 dc, .slice A 0 sc]).run P w = .ok (goInt ((0 : Nat) : Int)) w := by
 cases hq : P.info? elem with
 | none => simp [hq] at hs
 | some i =>
   have hl : (Builtin.lenOf (.slice A 0 sc)).run P w = .ok 0 w := rfl
   cases A with
   | none =>
     have hf := run_firstCells_none (P := P) w i.size 0 0 sc
     cases d <;> simp [Builtin.copy_, run_underlying hu, hl, sizeOf, typeInfo, hq, hf, storeCells]
   | some ad =>
     have hf := run_firstCells_some (P := P) w i.size 0 ad 0 sc [] (by simp) (fun j u hj => by simp at hj)
     cases d <;> simp [Builtin.copy_, run_underlying hu, hl, sizeOf, typeInfo, hq, hf, storeCells]
def RetCpd (t n : Nat) (xs : List Value) (w : World) (e : Ending) (w' : World) : Prop :=
 e = .returned (.slice (some ⟨w.heap.size, 0, none⟩) n n) ∧ Fb w' w.heap.size xs.toArray t ∧ Below w.heap.size w w'
theorem lay_all {cur : Array Value} {xs : List Value} (h : cur.size = xs.length) : lay cur 0 xs = xs.toArray := by
 unfold lay
 rw [List.take_zero, List.nil_append, Nat.zero_add, List.drop_of_length_le (by simp; omega), List.append_nil]
set_option maxHeartbeats 1600000 in
theorem cpdSet_any (A : Option Addr) (n c : Nat) (xs : List Value) (w : World) (hl : xs.length = n * 2) (hn : n ≤ 100000) (hx : xs = [] ∨ ∃ ad : Addr, A = some ad ∧ ad.block < w.heap.size ∧ ∀ (j : Nat) (x : Value), xs[j]? = some x → w.cell? (ad.add j) = some x) (h1 : ∀ u ∈ xs, u.oneCell' = true) :
 Calls Tryz.prog 107 #[.slice A n c] w (RetCpd 49 n xs w) := by
 obtain ⟨i, hi, hz0, hz1, hz2⟩ := info_parts (show (Tryz.prog.info? 49).map (fun i => (i.zero, i.size, i.bytes)) = some (some (.agg #[.int .i64 0, .slice none 0 0]), 2, 32) from by kernel_rfl)
 obtain ⟨W1, hW1⟩ : ∃ W1, W1 = w.alloc (.cells (madeCells (.agg #[.int .i64 0, .slice none 0 0] : Value).cells (n * 2)) 49) := ⟨_, rfl⟩
 have hmk : (Instr.makeSlice 25 (.int .i64 (n : Int)) (.int .i64 (n : Int))).run Tryz.prog w = .ok (.slice (some ⟨w.heap.size, 0, none⟩) n n) W1 := by
  have h := run_make (P := Tryz.prog) w 25 49 i (.agg #[.int .i64 0, .slice none 0 0]) Tryz.underlying25 hi hz0 .i64 .i64 n n (by omega) (by omega) (by rw [hz2]; omega) (by omega)
  rw [h, hz1, hW1]
  simp only [Int.toNat_natCast]
 have F1 : Fb W1 w.heap.size (madeCells (.agg #[.int .i64 0, .slice none 0 0] : Value).cells (n * 2)) 49 := by rw [hW1]; exact Fb.new w _ _
 have B1 : Below w.heap.size w W1 := by rw [hW1]; exact (Below.refl _ _).alloc (Nat.le_refl _) _
 have hs1 : (madeCells (.agg #[.int .i64 0, .slice none 0 0] : Value).cells (n * 2)).size = n * 2 := size_madeCells _ _
 have hsz : (Tryz.prog.info? 49).map (·.size) = some 2 := by rw [hi]; simp [hz1]
 obtain ⟨W2, hW2⟩ : ∃ W2, W2 = W1.setCells w.heap.size 0 xs := ⟨_, rfl⟩
 have F2 := hid (show Fb W2 w.heap.size xs.toArray 49 from by
  rw [hW2, ← lay_all (cur := madeCells (.agg #[.int .i64 0, .slice none 0 0] : Value).cells (n * 2)) (by rw [hs1, hl])]
  exact fb_setCells xs 0 W1 _ F1 (by rw [hs1, hl]; omega))
 have B2 := hid (show Below w.heap.size w W2 from by rw [hW2]; exact B1.grown (grown_setCells w.heap.size xs _ _) B1.size (fun k e => by obtain rfl := Option.some.inj e; exact Nat.le_refl _))
 have hcp : ∀ ty, (Builtin.copy_ #[25, 25] ty #[.slice (some ⟨w.heap.size, 0, none⟩) n n, .slice A n c]).run Tryz.prog W1 = .ok (goInt ((n : Nat) : Int)) W2 := fun ty => by
  rcases hx with rfl | ⟨ad, rfl, hlt, hc⟩
  · have e0 : n = 0 := by simp only [List.length_nil] at hl; omega
    subst e0
    rw [hW2]
    exact run_copy_zero W1 25 25 ty 49 _ A _ _ Tryz.underlying25 (by rw [hsz]; rfl)
  · have hmn : Nat.min n n = n := Nat.min_self n
    have := run_copy_wide (P := Tryz.prog) W1 25 25 ty 49 2 w.heap.size 0 n n ad n c xs Tryz.underlying25 hsz (by rw [hmn, hl])
     (fun j x hx => (B1.cell (by rw [add_block]; exact hlt)).trans (hc j x hx))
     (fun j hj => by rw [F1.cell, Array.getElem?_eq_getElem (by rw [hs1]; omega)]; rfl) (fun j hj => F1.frozen _) h1
    rw [hmn] at this
    rw [this, hW2]
 have hmk' := hmk
 clear hW1 hW2 F1 B1 hs1 hsz hx h1 hl hi hz0 hz1 hz2 hmk
 go_enter Tryz.func107, Tryz.ntmps107
 go_wp2_with (at_builtin; refine wpList_copy_runI _ rfl _ _ 25 25 rfl _ _ rfl rfl (hcp _) ?_)
 exact bodyPost_ret (v := .slice (some ⟨w.heap.size, 0, none⟩) n n) (by simp [results, Tryz.results107, go_sem]) rfl ⟨rfl, F2.out, B2.out⟩
set_option maxHeartbeats 1600000 in
theorem cpdRow_any (A : Option Addr) (n c : Nat) (xs : List Value) (w : World) (hl : xs.length = n * 1) (hn : n ≤ 100000) (hx : xs = [] ∨ ∃ ad : Addr, A = some ad ∧ ad.block < w.heap.size ∧ ∀ (j : Nat) (x : Value), xs[j]? = some x → w.cell? (ad.add j) = some x) (h1 : ∀ u ∈ xs, u.oneCell' = true) :
 Calls Tryz.prog 108 #[.slice A n c] w (RetCpd 64 n xs w) := by
 obtain ⟨i, hi, hz0, hz1, hz2⟩ := info_parts (show (Tryz.prog.info? 64).map (fun i => (i.zero, i.size, i.bytes)) = some (some (.slice none 0 0), 1, 24) from by kernel_rfl)
 obtain ⟨W1, hW1⟩ : ∃ W1, W1 = w.alloc (.cells (madeCells (.slice none 0 0 : Value).cells (n * 1)) 64) := ⟨_, rfl⟩
 have hmk : (Instr.makeSlice 65 (.int .i64 (n : Int)) (.int .i64 (n : Int))).run Tryz.prog w = .ok (.slice (some ⟨w.heap.size, 0, none⟩) n n) W1 := by
  have h := run_make (P := Tryz.prog) w 65 64 i (.slice none 0 0) Tryz.underlying65 hi hz0 .i64 .i64 n n (by omega) (by omega) (by rw [hz2]; omega) (by omega)
  rw [h, hz1, hW1]
  simp only [Int.toNat_natCast]
 have F1 : Fb W1 w.heap.size (madeCells (.slice none 0 0 : Value).cells (n * 1)) 64 := by rw [hW1]; exact Fb.new w _ _
 have B1 : Below w.heap.size w W1 := by rw [hW1]; exact (Below.refl _ _).alloc (Nat.le_refl _) _
 have hs1 : (madeCells (.slice none 0 0 : Value).cells (n * 1)).size = n * 1 := size_madeCells _ _
 have hsz : (Tryz.prog.info? 64).map (·.size) = some 1 := by rw [hi]; simp [hz1]
 obtain ⟨W2, hW2⟩ : ∃ W2, W2 = W1.setCells w.heap.size 0 xs := ⟨_, rfl⟩
 have F2 := hid (show Fb W2 w.heap.size xs.toArray 64 from by
  rw [hW2, ← lay_all (cur := madeCells (.slice none 0 0 : Value).cells (n * 1)) (by rw [hs1, hl])]
  exact fb_setCells xs 0 W1 _ F1 (by rw [hs1, hl]; omega))
 have B2 := hid (show Below w.heap.size w W2 from by rw [hW2]; exact B1.grown (grown_setCells w.heap.size xs _ _) B1.size (fun k e => by obtain rfl := Option.some.inj e; exact Nat.le_refl _))
 have hcp : ∀ ty, (Builtin.copy_ #[65, 65] ty #[.slice (some ⟨w.heap.size, 0, none⟩) n n, .slice A n c]).run Tryz.prog W1 = .ok (goInt ((n : Nat) : Int)) W2 := fun ty => by
  rcases hx with rfl | ⟨ad, rfl, hlt, hc⟩
  · have e0 : n = 0 := by simp only [List.length_nil] at hl; omega
    subst e0
    rw [hW2]
    exact run_copy_zero W1 65 65 ty 64 _ A _ _ Tryz.underlying65 (by rw [hsz]; rfl)
  · have hmn : Nat.min n n = n := Nat.min_self n
    have := run_copy_wide (P := Tryz.prog) W1 65 65 ty 64 1 w.heap.size 0 n n ad n c xs Tryz.underlying65 hsz (by rw [hmn, hl])
     (fun j x hx => (B1.cell (by rw [add_block]; exact hlt)).trans (hc j x hx))
     (fun j hj => by rw [F1.cell, Array.getElem?_eq_getElem (by rw [hs1]; omega)]; rfl) (fun j hj => F1.frozen _) h1
    rw [hmn] at this
    rw [this, hW2]
 have hmk' := hmk
 clear hW1 hW2 F1 B1 hs1 hsz hx h1 hl hi hz0 hz1 hz2 hmk
 go_enter Tryz.func108, Tryz.ntmps108
 go_wp2_with (at_builtin; refine wpList_copy_runI _ rfl _ _ 65 65 rfl _ _ rfl rfl (hcp _) ?_)
 exact bodyPost_ret (v := .slice (some ⟨w.heap.size, 0, none⟩) n n) (by simp [results, Tryz.results108, go_sem]) rfl ⟨rfl, F2.out, B2.out⟩
set_option maxHeartbeats 1600000 in
theorem cpdArc_any (A : Option Addr) (n c : Nat) (xs : List Value) (w : World) (hl : xs.length = n * 6) (hn : n ≤ 100000) (hx : xs = [] ∨ ∃ ad : Addr, A = some ad ∧ ad.block < w.heap.size ∧ ∀ (j : Nat) (x : Value), xs[j]? = some x → w.cell? (ad.add j) = some x) (h1 : ∀ u ∈ xs, u.oneCell' = true) :
 Calls Tryz.prog 110 #[.slice A n c] w (RetCpd 63 n xs w) := by
 obtain ⟨i, hi, hz0, hz1, hz2⟩ := info_parts (show (Tryz.prog.info? 63).map (fun i => (i.zero, i.size, i.bytes)) = some (some (.agg #[.int .i64 0, .int .i64 0, .slice none 0 0, .int .i64 0, .slice none 0 0, .slice none 0 0]), 6, 96) from by kernel_rfl)
 obtain ⟨W1, hW1⟩ : ∃ W1, W1 = w.alloc (.cells (madeCells (.agg #[.int .i64 0, .int .i64 0, .slice none 0 0, .int .i64 0, .slice none 0 0, .slice none 0 0] : Value).cells (n * 6)) 63) := ⟨_, rfl⟩
 have hmk : (Instr.makeSlice 64 (.int .i64 (n : Int)) (.int .i64 (n : Int))).run Tryz.prog w = .ok (.slice (some ⟨w.heap.size, 0, none⟩) n n) W1 := by
  have h := run_make (P := Tryz.prog) w 64 63 i (.agg #[.int .i64 0, .int .i64 0, .slice none 0 0, .int .i64 0, .slice none 0 0, .slice none 0 0]) Tryz.underlying64 hi hz0 .i64 .i64 n n (by omega) (by omega) (by rw [hz2]; omega) (by omega)
  rw [h, hz1, hW1]
  simp only [Int.toNat_natCast]
 have F1 : Fb W1 w.heap.size (madeCells (.agg #[.int .i64 0, .int .i64 0, .slice none 0 0, .int .i64 0, .slice none 0 0, .slice none 0 0] : Value).cells (n * 6)) 63 := by rw [hW1]; exact Fb.new w _ _
 have B1 : Below w.heap.size w W1 := by rw [hW1]; exact (Below.refl _ _).alloc (Nat.le_refl _) _
 have hs1 : (madeCells (.agg #[.int .i64 0, .int .i64 0, .slice none 0 0, .int .i64 0, .slice none 0 0, .slice none 0 0] : Value).cells (n * 6)).size = n * 6 := size_madeCells _ _
 have hsz : (Tryz.prog.info? 63).map (·.size) = some 6 := by rw [hi]; simp [hz1]
 obtain ⟨W2, hW2⟩ : ∃ W2, W2 = W1.setCells w.heap.size 0 xs := ⟨_, rfl⟩
 have F2 := hid (show Fb W2 w.heap.size xs.toArray 63 from by
  rw [hW2, ← lay_all (cur := madeCells (.agg #[.int .i64 0, .int .i64 0, .slice none 0 0, .int .i64 0, .slice none 0 0, .slice none 0 0] : Value).cells (n * 6)) (by rw [hs1, hl])]
  exact fb_setCells xs 0 W1 _ F1 (by rw [hs1, hl]; omega))
 have B2 := hid (show Below w.heap.size w W2 from by rw [hW2]; exact B1.grown (grown_setCells w.heap.size xs _ _) B1.size (fun k e => by obtain rfl := Option.some.inj e; exact Nat.le_refl _))
 have hcp : ∀ ty, (Builtin.copy_ #[64, 64] ty #[.slice (some ⟨w.heap.size, 0, none⟩) n n, .slice A n c]).run Tryz.prog W1 = .ok (goInt ((n : Nat) : Int)) W2 := fun ty => by
  rcases hx with rfl | ⟨ad, rfl, hlt, hc⟩
  · have e0 : n = 0 := by simp only [List.length_nil] at hl; omega
    subst e0
    rw [hW2]
    exact run_copy_zero W1 64 64 ty 63 _ A _ _ Tryz.underlying64 (by rw [hsz]; rfl)
  · have hmn : Nat.min n n = n := Nat.min_self n
    have := run_copy_wide (P := Tryz.prog) W1 64 64 ty 63 6 w.heap.size 0 n n ad n c xs Tryz.underlying64 hsz (by rw [hmn, hl])
     (fun j x hx => (B1.cell (by rw [add_block]; exact hlt)).trans (hc j x hx))
     (fun j hj => by rw [F1.cell, Array.getElem?_eq_getElem (by rw [hs1]; omega)]; rfl) (fun j hj => F1.frozen _) h1
    rw [hmn] at this
    rw [this, hW2]
 have hmk' := hmk
 clear hW1 hW2 F1 B1 hs1 hsz hx h1 hl hi hz0 hz1 hz2 hmk
 go_enter Tryz.func110, Tryz.ntmps110
 go_wp2_with (at_builtin; refine wpList_copy_runI _ rfl _ _ 64 64 rfl _ _ rfl rfl (hcp _) ?_)
 exact bodyPost_ret (v := .slice (some ⟨w.heap.size, 0, none⟩) n n) (by simp [results, Tryz.results110, go_sem]) rfl ⟨rfl, F2.out, B2.out⟩
set_option maxHeartbeats 1600000 in
theorem cpdCopy_any (A : Option Addr) (n c : Nat) (xs : List Value) (w : World) (hl : xs.length = n * 2) (hn : n ≤ 100000) (hx : xs = [] ∨ ∃ ad : Addr, A = some ad ∧ ad.block < w.heap.size ∧ ∀ (j : Nat) (x : Value), xs[j]? = some x → w.cell? (ad.add j) = some x) (h1 : ∀ u ∈ xs, u.oneCell' = true) :
 Calls Tryz.prog 111 #[.slice A n c] w (RetCpd 58 n xs w) := by
 obtain ⟨i, hi, hz0, hz1, hz2⟩ := info_parts (show (Tryz.prog.info? 58).map (fun i => (i.zero, i.size, i.bytes)) = some (some (.agg #[.int .i64 0, .int .i64 0]), 2, 16) from by kernel_rfl)
 obtain ⟨W1, hW1⟩ : ∃ W1, W1 = w.alloc (.cells (madeCells (.agg #[.int .i64 0, .int .i64 0] : Value).cells (n * 2)) 58) := ⟨_, rfl⟩
 have hmk : (Instr.makeSlice 59 (.int .i64 (n : Int)) (.int .i64 (n : Int))).run Tryz.prog w = .ok (.slice (some ⟨w.heap.size, 0, none⟩) n n) W1 := by
  have h := run_make (P := Tryz.prog) w 59 58 i (.agg #[.int .i64 0, .int .i64 0]) Tryz.underlying59 hi hz0 .i64 .i64 n n (by omega) (by omega) (by rw [hz2]; omega) (by omega)
  rw [h, hz1, hW1]
  simp only [Int.toNat_natCast]
 have F1 : Fb W1 w.heap.size (madeCells (.agg #[.int .i64 0, .int .i64 0] : Value).cells (n * 2)) 58 := by rw [hW1]; exact Fb.new w _ _
 have B1 : Below w.heap.size w W1 := by rw [hW1]; exact (Below.refl _ _).alloc (Nat.le_refl _) _
 have hs1 : (madeCells (.agg #[.int .i64 0, .int .i64 0] : Value).cells (n * 2)).size = n * 2 := size_madeCells _ _
 have hsz : (Tryz.prog.info? 58).map (·.size) = some 2 := by rw [hi]; simp [hz1]
 obtain ⟨W2, hW2⟩ : ∃ W2, W2 = W1.setCells w.heap.size 0 xs := ⟨_, rfl⟩
 have F2 := hid (show Fb W2 w.heap.size xs.toArray 58 from by
  rw [hW2, ← lay_all (cur := madeCells (.agg #[.int .i64 0, .int .i64 0] : Value).cells (n * 2)) (by rw [hs1, hl])]
  exact fb_setCells xs 0 W1 _ F1 (by rw [hs1, hl]; omega))
 have B2 := hid (show Below w.heap.size w W2 from by rw [hW2]; exact B1.grown (grown_setCells w.heap.size xs _ _) B1.size (fun k e => by obtain rfl := Option.some.inj e; exact Nat.le_refl _))
 have hcp : ∀ ty, (Builtin.copy_ #[59, 59] ty #[.slice (some ⟨w.heap.size, 0, none⟩) n n, .slice A n c]).run Tryz.prog W1 = .ok (goInt ((n : Nat) : Int)) W2 := fun ty => by
  rcases hx with rfl | ⟨ad, rfl, hlt, hc⟩
  · have e0 : n = 0 := by simp only [List.length_nil] at hl; omega
    subst e0
    rw [hW2]
    exact run_copy_zero W1 59 59 ty 58 _ A _ _ Tryz.underlying59 (by rw [hsz]; rfl)
  · have hmn : Nat.min n n = n := Nat.min_self n
    have := run_copy_wide (P := Tryz.prog) W1 59 59 ty 58 2 w.heap.size 0 n n ad n c xs Tryz.underlying59 hsz (by rw [hmn, hl])
     (fun j x hx => (B1.cell (by rw [add_block]; exact hlt)).trans (hc j x hx))
     (fun j hj => by rw [F1.cell, Array.getElem?_eq_getElem (by rw [hs1]; omega)]; rfl) (fun j hj => F1.frozen _) h1
    rw [hmn] at this
    rw [this, hW2]
 have hmk' := hmk
 clear hW1 hW2 F1 B1 hs1 hsz hx h1 hl hi hz0 hz1 hz2 hmk
 go_enter Tryz.func111, Tryz.ntmps111
 go_wp2_with (at_builtin; refine wpList_copy_runI _ rfl _ _ 59 59 rfl _ _ rfl rfl (hcp _) ?_)
 exact bodyPost_ret (v := .slice (some ⟨w.heap.size, 0, none⟩) n n) (by simp [results, Tryz.results111, go_sem]) rfl ⟨rfl, F2.out, B2.out⟩
set_option maxHeartbeats 1600000 in
theorem cpdWord_any (A : Option Addr) (n c : Nat) (xs : List Value) (w : World) (hl : xs.length = n * 1) (hn : n ≤ 100000) (hx : xs = [] ∨ ∃ ad : Addr, A = some ad ∧ ad.block < w.heap.size ∧ ∀ (j : Nat) (x : Value), xs[j]? = some x → w.cell? (ad.add j) = some x) (h1 : ∀ u ∈ xs, u.oneCell' = true) :
 Calls Tryz.prog 136 #[.slice A n c] w (RetCpd 106 n xs w) := by
 obtain ⟨i, hi, hz0, hz1, hz2⟩ := info_parts (show (Tryz.prog.info? 106).map (fun i => (i.zero, i.size, i.bytes)) = some (some (.int .u64 0), 1, 8) from by kernel_rfl)
 obtain ⟨W1, hW1⟩ : ∃ W1, W1 = w.alloc (.cells (madeCells (.int .u64 0 : Value).cells (n * 1)) 106) := ⟨_, rfl⟩
 have hmk : (Instr.makeSlice 47 (.int .i64 (n : Int)) (.int .i64 (n : Int))).run Tryz.prog w = .ok (.slice (some ⟨w.heap.size, 0, none⟩) n n) W1 := by
  have h := run_make (P := Tryz.prog) w 47 106 i (.int .u64 0) Tryz.underlying47 hi hz0 .i64 .i64 n n (by omega) (by omega) (by rw [hz2]; omega) (by omega)
  rw [h, hz1, hW1]
  simp only [Int.toNat_natCast]
 have F1 : Fb W1 w.heap.size (madeCells (.int .u64 0 : Value).cells (n * 1)) 106 := by rw [hW1]; exact Fb.new w _ _
 have B1 : Below w.heap.size w W1 := by rw [hW1]; exact (Below.refl _ _).alloc (Nat.le_refl _) _
 have hs1 : (madeCells (.int .u64 0 : Value).cells (n * 1)).size = n * 1 := size_madeCells _ _
 have hsz : (Tryz.prog.info? 106).map (·.size) = some 1 := by rw [hi]; simp [hz1]
 obtain ⟨W2, hW2⟩ : ∃ W2, W2 = W1.setCells w.heap.size 0 xs := ⟨_, rfl⟩
 have F2 := hid (show Fb W2 w.heap.size xs.toArray 106 from by
  rw [hW2, ← lay_all (cur := madeCells (.int .u64 0 : Value).cells (n * 1)) (by rw [hs1, hl])]
  exact fb_setCells xs 0 W1 _ F1 (by rw [hs1, hl]; omega))
 have B2 := hid (show Below w.heap.size w W2 from by rw [hW2]; exact B1.grown (grown_setCells w.heap.size xs _ _) B1.size (fun k e => by obtain rfl := Option.some.inj e; exact Nat.le_refl _))
 have hcp : ∀ ty, (Builtin.copy_ #[47, 47] ty #[.slice (some ⟨w.heap.size, 0, none⟩) n n, .slice A n c]).run Tryz.prog W1 = .ok (goInt ((n : Nat) : Int)) W2 := fun ty => by
  rcases hx with rfl | ⟨ad, rfl, hlt, hc⟩
  · have e0 : n = 0 := by simp only [List.length_nil] at hl; omega
    subst e0
    rw [hW2]
    exact run_copy_zero W1 47 47 ty 106 _ A _ _ Tryz.underlying47 (by rw [hsz]; rfl)
  · have hmn : Nat.min n n = n := Nat.min_self n
    have := run_copy_wide (P := Tryz.prog) W1 47 47 ty 106 1 w.heap.size 0 n n ad n c xs Tryz.underlying47 hsz (by rw [hmn, hl])
     (fun j x hx => (B1.cell (by rw [add_block]; exact hlt)).trans (hc j x hx))
     (fun j hj => by rw [F1.cell, Array.getElem?_eq_getElem (by rw [hs1]; omega)]; rfl) (fun j hj => F1.frozen _) h1
    rw [hmn] at this
    rw [this, hW2]
 have hmk' := hmk
 clear hW1 hW2 F1 B1 hs1 hsz hx h1 hl hi hz0 hz1 hz2 hmk
 go_enter Tryz.func136, Tryz.ntmps136
 go_wp2_with (at_builtin; refine wpList_copy_runI _ rfl _ _ 47 47 rfl _ _ rfl rfl (hcp _) ?_)
 exact bodyPost_ret (v := .slice (some ⟨w.heap.size, 0, none⟩) n n) (by simp [results, Tryz.results136, go_sem]) rfl ⟨rfl, F2.out, B2.out⟩
theorem one_words (ws : List Nat) : ∀ u ∈ words ws, u.oneCell' = true := by
 intro u hu
 unfold words at hu
 obtain ⟨x, -, rfl⟩ := List.mem_map.1 hu
 rfl
theorem two_set {u : World} {b t : Nat} {x y : Value} (h : Fb u b #[x, y] t) (p q : Value) : Fb ((u.setCell ⟨b, 0, none⟩ p).setCell ⟨b, 1, none⟩ q) b #[p, q] t := (h.set 0 p).set 1 q
def csR (j : Nat) (u u' : World) : Prop := if j = 6 then Stp1 49 u u' else Below u.heap.size u u'
theorem csR_stp {j : Nat} {u u' : World} (h : csR j u u') : Stp1 49 u u' := by
 unfold csR at h
 split at h
 · exact h
 · exact Stp1.below h
theorem csR_bel {j : Nat} {u u' : World} (h : csR j u u') (hj : j ≠ 6) : Below u.heap.size u u' := by
 unfold csR at h
 rwa [if_neg hj] at h
theorem csR_of {j : Nat} {u u' : World} (h : Below u.heap.size u u') (hj : j ≠ 6) : csR j u u' := by
 unfold csR; rwa [if_neg hj]
theorem csR_refl (j : Nat) (u : World) (hj : j ≠ 6) : csR j u u := csR_of (Below.refl _ _) hj
theorem two_R {u : World} {b : Nat} {x y : Value} (h : Fb u b #[x, y] 49) (p q : Value) : csR 6 u ((u.setCell ⟨b, 0, none⟩ p).setCell ⟨b, 1, none⟩ q) := by
 unfold csR
 rw [if_pos rfl]
 exact ⟨some b, grown_trans (grown_set u b rfl p) (grown_set _ b rfl q), fun g e => by obtain rfl := Option.some.inj e; exact h.typ⟩
def csF (b : Nat) (W : Int) (A : Option Addr) (n c : Nat) (ws : List Nat) : Nat → (Nat → Value) → World → Prop
 | 0, f, u => f 0 = .pointer (some ⟨b, 0, none⟩)
 | 1, f, u => f 1 = .int .i64 W
 | 2, f, u => f 2 = .pointer (some ⟨b, 1, none⟩)
 | 3, f, u => f 3 = .slice A n c
 | 4, f, u => ∃ g, f 4 = .slice (some ⟨g, 0, none⟩) n n ∧ Row u g ws ∧ b ≤ g
 | 5, f, u => ∃ g, f 5 = .agg #[.int .i64 W, .slice (some ⟨g, 0, none⟩) n n] ∧ Row u g ws ∧ b ≤ g
 | 6, f, u => ∃ g, Fb u (b + 1) #[.int .i64 W, .slice (some ⟨g, 0, none⟩) n n] 49 ∧ Row u g ws ∧ b ≤ g
 | _, _, _ => True
def csU : Nat → Option Nat
 | _ => none
theorem csF_st {b : Nat} {W : Int} {A : Option Addr} {n c : Nat} {ws : List Nat} {ops : Array Oper}  (jx : Nat) (vx : Value) (u u' : World) (ix : Nat) (f : Nat → Value) (hR : csR  jx u u') (hne : ix ≠ jx) (hu : csU ix ≠ some jx) (hc : (reachL ops 5 ix).contains jx = false) (h : csF b W A n c ws ix f u) : csF b W A n c ws ix (updV f jx vx) u' := by
 match ix, hne, hu, hc, h with
 | 0, hne, hu, hc, h => exact (updV_ne f vx hne).trans h
 | 1, hne, hu, hc, h => exact (updV_ne f vx hne).trans h
 | 2, hne, hu, hc, h => exact (updV_ne f vx hne).trans h
 | 3, hne, hu, hc, h => exact (updV_ne f vx hne).trans h
 | 4, hne, hu, hc, h => obtain ⟨g, h1, h2, h3⟩ := h; exact ⟨g, (updV_ne f vx hne).trans h1, (csR_stp hR).row h2 (by decide), h3⟩
 | 5, hne, hu, hc, h => obtain ⟨g, h1, h2, h3⟩ := h; exact ⟨g, (updV_ne f vx hne).trans h1, (csR_stp hR).row h2 (by decide), h3⟩
 | 6, hne, hu, hc, h => obtain ⟨g, h1, h2, h3⟩ := h; have hb := csR_bel hR (fun e => hne e.symm); exact ⟨g, h1.below hb h1.lt, h2.below hb h2.lt, h3⟩
 | ix + 7, _, _, _, _ => trivial
def RetCst (w : World) (W : Int) (n : Nat) (ws : List Nat) (e : Ending) (w' : World) : Prop :=
 ∃ g, e = .returned (.agg #[.int .i64 W, .slice (some ⟨g, 0, none⟩) n n]) ∧ Row w' g ws ∧ w.heap.size ≤ g ∧ Below w.heap.size w w'
set_option maxHeartbeats 1600000 in
theorem copiedSetE_any (W : Int) (A : Option Addr) (n c : Nat) (ws : List Nat) (w : World) (hA : Arg w A n ws) (hn : n ≤ 100000) :
 Calls Tryz.prog 109 #[.agg #[.int .i64 W, .slice A n c]] w (RetCst w W n ws) := by
 have H1 := (Below.refl w.heap.size w).alloc (Nat.le_refl _) (.cells #[.int .i64 W, .slice A n c] 49)
 have HBel := hid (H1.alloc H1.size (.cells #[.int .i64 0, .slice none 0 0] 49))
 have hbx := Fb.new w #[.int .i64 W, .slice A n c] 49
 have HBx := hid (show Fb ((w.alloc (.cells #[.int .i64 W, .slice A n c] 49)).alloc (.cells #[.int .i64 0, .slice none 0 0] 49)) w.heap.size #[.int .i64 W, .slice A n c] 49 from hbx.below ((Below.refl _ _).alloc (Nat.le_refl _) _) hbx.lt)
 have HZ := hid (show Fb ((w.alloc (.cells #[.int .i64 W, .slice A n c] 49)).alloc (.cells #[.int .i64 0, .slice none 0 0] 49)) (w.heap.size + 1) #[.int .i64 0, .slice none 0 0] 49 from by
  have := Fb.new (w.alloc (.cells #[.int .i64 W, .slice A n c] 49)) #[.int .i64 0, .slice none 0 0] 49
  simpa using this)
 have HA := hid (hA.below HBel.out)
 clear H1 hbx hA
 go_enter Tryz.func109, Tryz.ntmps109
 go_upto_region 1 with fail
 rename_i Kx hKx
 generalize (w.alloc (.cells #[.int .i64 W, .slice A n c] 49)).alloc (.cells #[.int .i64 0, .slice none 0 0] 49) = w2 at *
 refine wp_region_factsI (fun j u => (j = 4 ∨ j = 6) → Arg u A n ws ∧ Fb u (w.heap.size + 1) #[.int .i64 0, .slice none 0 0] 49) (csF w.heap.size W A n c ws) (fun u => Fb u w.heap.size #[.int .i64 W, .slice A n c] 49 ∧ Below w.heap.size w u) csU (csR ) Kx (fun _ _ h => h) 7 7 (some 3 :: some 4 :: some 5 :: some 6 :: some 7 :: some 8 :: none :: []) (by kernel_rfl) (by kernel_rfl) (by kernel_rfl) (by kernel_rfl) (by kernel_rfl) (by kernel_rfl) (by decide)
  (csF_st) ?bs ?gb ?gs ?ar ?en
 case bs => exact ⟨(HBx.out.below (Below.refl _ _).drew HBx.out.lt), HBel.out.drew⟩
 case gb =>
  exact fun c _ => ⟨HA.out.below (Below.refl _ _).drew, HZ.out.below (Below.refl _ _).drew HZ.out.lt⟩
 case gs =>
  intro j u u' c hR hne hnr hG hc
  have hj : j ≠ 6 := by
   rintro rfl
   rcases hc with rfl | rfl
   · exact Bool.false_ne_true (hnr.symm.trans (by kernel_rfl))
   · exact hne rfl
  have hb := csR_bel hR hj
  obtain ⟨h1, h2⟩ := hG hc
  exact ⟨h1.below hb, h2.below hb h2.lt⟩
 case ar =>
  intro j o f u ho hi hB hG hpre K hK
  match j, ho, hG, hpre, hK with
  | 0, ho, hG, hpre, hK =>
    obtain rfl := Option.some.inj ho
    refine wpOp_step rfl fun K' hK' => ?_
    simp only [putL, updV]
    go_simp
    have hz := hK' _ _ (hK (.pointer (some ⟨w.heap.size, 0, none⟩)) (u) (hB) (csR_refl _ _ (by decide)) (rfl))
    refine Eq.mp (congrArg (fun act => K' act (u)) ?_) hz
    kernel_rfl
  | 1, ho, hG, hpre, hK =>
    obtain rfl := Option.some.inj ho
    obtain ⟨x0, x1⟩ := hB.1.two
    have hl := hB.1.lt
    have e0 : f 0 = .pointer (some ⟨w.heap.size, 0, none⟩) := hpre ⟨0, .data⟩ (by simp) rfl (.inl rfl)
    obtain ⟨f, rfl⟩ := fixG f 0 _ e0
    clear e0
    refine wpOp_step rfl fun K' hK' => ?_
    simp only [putL, updV]
    go_simp
    have hz := hK' _ _ (hK (.int .i64 W) (u) (hB) (csR_refl _ _ (by decide)) (rfl))
    refine Eq.mp (congrArg (fun act => K' act (u)) ?_) hz
    kernel_rfl
  | 2, ho, hG, hpre, hK =>
    obtain rfl := Option.some.inj ho
    refine wpOp_step rfl fun K' hK' => ?_
    simp only [putL, updV]
    go_simp
    have hz := hK' _ _ (hK (.pointer (some ⟨w.heap.size, 1, none⟩)) (u) (hB) (csR_refl _ _ (by decide)) (rfl))
    refine Eq.mp (congrArg (fun act => K' act (u)) ?_) hz
    kernel_rfl
  | 3, ho, hG, hpre, hK =>
    obtain rfl := Option.some.inj ho
    obtain ⟨x0, x1⟩ := hB.1.two
    have hl := hB.1.lt
    have e2 : f 2 = .pointer (some ⟨w.heap.size, 1, none⟩) := hpre ⟨2, .data⟩ (by simp) rfl (.inl rfl)
    obtain ⟨f, rfl⟩ := fixG f 2 _ e2
    clear e2
    refine wpOp_step rfl fun K' hK' => ?_
    simp only [putL, updV]
    go_simp
    have hz := hK' _ _ (hK (.slice A n c) (u) (hB) (csR_refl _ _ (by decide)) (rfl))
    refine Eq.mp (congrArg (fun act => K' act (u)) ?_) hz
    kernel_rfl
  | 4, ho, hG, hpre, hK =>
    obtain rfl := Option.some.inj ho
    have e3 : f 3 = .slice A n c := hpre ⟨3, .data⟩ (by simp) rfl (.inl rfl)
    obtain ⟨f, rfl⟩ := fixG f 3 _ e3
    clear e3
    refine wpOp_step rfl fun K' hK' => ?_
    simp only [putL, updV]
    go_simp
    go_at_call 136
    refine (cpdWord_any A n c (words ws) u (by rw [Nat.mul_one]; exact (words_len ws).trans (hG (.inl rfl)).1.len) hn (hG (.inl rfl)).1.lies (one_words ws)).mono ?_
    rintro e u5 ⟨rfl, hr, hb⟩
    have hz := hK' _ _ (hK (.slice (some ⟨u.heap.size, 0, none⟩) n n) (u5) (⟨hB.1.below hb hB.1.lt, below_step hB.2 hb⟩) (csR_of hb (by decide)) (⟨_, rfl, hr, hB.2.size⟩))
    refine Eq.mp (congrArg (fun act => K' act (u5)) ?_) hz
    kernel_rfl
  | 5, ho, hG, hpre, hK =>
    obtain rfl := Option.some.inj ho
    have e1 : f 1 = .int .i64 W := hpre ⟨1, .data⟩ (by simp) rfl (.inl rfl)
    obtain ⟨g, e4, hr, hgb⟩ : ∃ g : Nat, f 4 = .slice (some ⟨g, 0, none⟩) n n ∧ Row u g ws ∧ w.heap.size ≤ g := hpre ⟨4, .data⟩ (by simp) rfl (.inl rfl)
    obtain ⟨f, rfl⟩ := fixG f 1 _ e1
    rw [updV_ne _ _ (by decide)] at e4
    obtain ⟨f, rfl⟩ := fixG f 4 _ e4
    clear e1 e4
    refine wpOp_step rfl fun K' hK' => ?_
    simp only [putL, updV]
    go_simp
    have hz := hK' _ _ (hK (.agg #[.int .i64 W, .slice (some ⟨g, 0, none⟩) n n]) (u) (hB) (csR_refl _ _ (by decide)) (⟨g, rfl, hr, hgb⟩))
    refine Eq.mp (congrArg (fun act => K' act (u)) ?_) hz
    kernel_rfl
  | 6, ho, hG, hpre, hK =>
    obtain rfl := Option.some.inj ho
    have hz := (hG (.inr rfl)).2
    obtain ⟨z0, z1⟩ := hz.two
    have f0 := hz.frozen 0
    have f1 := hz.frozen 1
    have hl := hz.lt
    obtain ⟨g, e5, hr, hgb⟩ : ∃ g : Nat, f 5 = .agg #[.int .i64 W, .slice (some ⟨g, 0, none⟩) n n] ∧ Row u g ws ∧ w.heap.size ≤ g := hpre ⟨5, .data⟩ (by simp) rfl (.inl rfl)
    obtain ⟨f, rfl⟩ := fixG f 5 _ e5
    clear e5
    refine wpOp_step rfl fun K' hK' => ?_
    simp only [putL, updV]
    go_simp
    have hz := hK' _ _ (hK (undef) ((u.setCell ⟨w.heap.size + 1, 0, none⟩ (.int .i64 W)).setCell ⟨w.heap.size + 1, 1, none⟩ (.slice (some ⟨g, 0, none⟩) n n)) (⟨(hB.1.far (by show w.heap.size ≠ w.heap.size + 1; omega) _).far (by show w.heap.size ≠ w.heap.size + 1; omega) _, (hB.2.setCell (by show w.heap.size ≤ w.heap.size + 1; omega) _).setCell (by show w.heap.size ≤ w.heap.size + 1; omega) _⟩) (two_R hz _ _) (⟨g, two_set hz _ _, ((stp_cell hz 0 _).row hr (by decide)).far (by exact (hr.typ.ne hz.typ (by decide))) _, hgb⟩))
    refine Eq.mp (congrArg (fun act => K' act ((u.setCell ⟨w.heap.size + 1, 0, none⟩ (.int .i64 W)).setCell ⟨w.heap.size + 1, 1, none⟩ (.slice (some ⟨g, 0, none⟩) n n))) ?_) hz
    kernel_rfl
  | j + 7, ho, hG, hpre, hK => exact absurd hi (by omega)
 case en =>
  intro Q2 hQ2 f u hB hF
  obtain ⟨g, hfb, hr, hgb⟩ : ∃ g : Nat, Fb u (w.heap.size + 1) #[.int .i64 W, .slice (some ⟨g, 0, none⟩) n n] 49 ∧ Row u g ws ∧ w.heap.size ≤ g := hF 6 (by decide) rfl
  have Hfb := hid hfb
  have Hr := hid hr
  have HB := hid hB
  obtain ⟨c0, c1⟩ := hfb.two
  clear hF
  show wpAny _ _ _ _ 0 (tailArr 7 7) _ _
  refine ⟨by kernel_rfl, hQ2 _ _ (hKx _ _ ?_)⟩
  simp only [putL, updV]
  clear hfb hr hB HA HZ HBx HBel
  go_wp2_with fail
  exact bodyPost_ret (v := .agg #[.int .i64 W, .slice (some ⟨g, 0, none⟩) n n]) (by simp [results, Tryz.results109, go_sem, c0, c1]) rfl ⟨g, rfl, Hr.out, hgb, HB.out.2⟩
structure Cw (w0 : World) (v N gB gI K : Nat) (B : List ZH) (M : List Value) (J : List AL) (u : World) : Prop where
 bel : Below w0.heap.size w0 u
 gb : w0.heap.size ≤ gB
 gi : w0.heap.size ≤ gI
 fb : Fb u gB (B.flatMap ZH.cs).toArray 49
 fi : Fb u gI M.toArray 64
 bl : B.length = N
 ml : M.length = N
 bt : ∀ (j : Nat) (z : ZH), j < K → B[j]? = some z → ZWt u v z
 rt : ∀ r ∈ J, RowA w0.heap.size u v N r
 ap : ∀ (j k : Nat) (x y : AL) (g : Nat), J[j]? = some x → J[k]? = some y → x.v.ownBlock = some g → y.v.ownBlock = some g → j = k
section
variable {w0 u u' : World} {v N gB gI K : Nat} {B : List ZH} {M : List Value} {J : List AL}
theorem Cw.ow (h : Cw w0 v N gB gI N B M J u) (hj : J.length = N) : Ow w0 v N gB gI B M J u :=
 ⟨h.bel, h.gb, h.gi, h.fb, h.fi, h.bl, h.ml, hj, fun z hz => by
   obtain ⟨j, hj⟩ := List.mem_iff_getElem?.1 hz
   exact h.bt j z (by rw [← h.bl]; exact (List.getElem?_eq_some_iff.1 hj).1) hj, h.rt, h.ap⟩
theorem Cw.below (h : Cw w0 v N gB gI K B M J u) (hb : Below u.heap.size u u') : Cw w0 v N gB gI K B M J u' :=
 ⟨below_step h.bel hb, h.gb, h.gi, h.fb.below hb h.fb.lt, h.fi.below hb h.fi.lt, h.bl, h.ml, fun j z hj hz => (h.bt j z hj hz).below hb, fun r hr => (h.rt r hr).below hb, h.ap⟩
theorem Cw.cellM (h : Cw w0 v N gB gI K B M J u) {k : Nat} {x : Value} (hk : M[k]? = some x) : u.cell? ⟨gI, k, none⟩ = some x := by rw [h.fi.cell]; simpa using hk
theorem Cw.cellB (h : Cw w0 v N gB gI K B M J u) {k : Nat} {z : ZH} (hk : B[k]? = some z) : u.cell? ⟨gB, k * 2, none⟩ = some (.int .i64 z.W) ∧ u.cell? ⟨gB, k * 2 + 1, none⟩ = some (.slice z.A z.n z.c) := by
 have h0 := flat_cell ZH.cs_len hk (j := 0) (by decide)
 have h1 := flat_cell ZH.cs_len hk (j := 1) (by decide)
 rw [Nat.add_zero] at h0
 constructor
 · rw [h.fb.cell]; simpa [ZH.cs] using h0
 · rw [h.fb.cell]; simpa [ZH.cs] using h1
theorem Cw.setM (h : Cw w0 v N gB gI K B M J u) {k : Nat} (x : Value) : Cw w0 v N gB gI K B (M.set k x) J (u.setCell ⟨gI, k, none⟩ x) := by
 have hs := stp_cell h.fi k x
 have hfi := h.fi.set k x
 rw [List.setIfInBounds_toArray] at hfi
 exact ⟨below_set h.bel h.gi x, h.gb, h.gi, hs.fb h.fb (by decide), hfi, h.bl, by rw [List.length_set]; exact h.ml, fun j z hj hz => (h.bt j z hj hz).stp hs (by decide), fun r hr => (h.rt r hr).stp hs (by decide) (by decide) (by decide), h.ap⟩
theorem Cw.setB (h : Cw w0 v N gB gI K B M J u) (hk : K < N) {z : ZH} (hz : ZWt u v z) : Cw w0 v N gB gI (K + 1) (B.set K z) M J ((u.setCell ⟨gB, K * 2, none⟩ (.int .i64 z.W)).setCell ⟨gB, K * 2 + 1, none⟩ (.slice z.A z.n z.c)) := by
 have s1 := stp_cell h.fb (K * 2) (.int .i64 z.W)
 have f1 := h.fb.set (K * 2) (.int .i64 z.W)
 have s2 := stp_cell f1 (K * 2 + 1) (.slice z.A z.n z.c)
 have f2 := f1.set (K * 2 + 1) (.slice z.A z.n z.c)
 rw [List.setIfInBounds_toArray, List.setIfInBounds_toArray, flat_put (by rw [h.bl]; exact hk)] at f2
 refine ⟨below_set (below_set h.bel h.gb _) h.gb _, h.gb, h.gi, f2, s2.fb (s1.fb h.fi (by decide)) (by decide), by rw [List.length_set]; exact h.bl, h.ml, fun j y hj hy => ?_, fun r hr => ((h.rt r hr).stp s1 (by decide) (by decide) (by decide)).stp s2 (by decide) (by decide) (by decide), h.ap⟩
 by_cases e : j = K
 · subst e
   rw [List.getElem?_set_self (by rw [h.bl]; exact hk)] at hy
   obtain rfl := Option.some.inj hy
   exact (hz.stp s1 (by decide)).stp s2 (by decide)
 · rw [List.getElem?_set_ne (fun e' => e e'.symm)] at hy
   exact ((h.bt j y (by omega) hy).stp s1 (by decide)).stp s2 (by decide)
theorem Cw.push (h : Cw w0 v N gB gI K B M J u) {r : AL} (hr : RowA w0.heap.size u v N r) (hne : ∀ y ∈ J, ∀ g, y.v.ownBlock = some g → r.v.ownBlock ≠ some g) : Cw w0 v N gB gI K B M (J ++ [r]) u := by
 refine ⟨h.bel, h.gb, h.gi, h.fb, h.fi, h.bl, h.ml, h.bt, fun y hy => ?_, fun j k x y g hj hk hx hy => ?_⟩
 · rcases List.mem_append.1 hy with hy | hy
   · exact h.rt y hy
   · rw [List.mem_singleton.1 hy]; exact hr
 · have key : ∀ {j : Nat} {x : AL}, (J ++ [r])[j]? = some x → (j < J.length ∧ J[j]? = some x) ∨ (j = J.length ∧ x = r) := fun {j x} hj => by
    rcases Nat.lt_or_ge j J.length with h1 | h1
    · rw [List.getElem?_append_left h1] at hj; exact .inl ⟨h1, hj⟩
    · rw [List.getElem?_append_right h1] at hj
      obtain ⟨h2, -⟩ := List.getElem?_eq_some_iff.1 hj
      simp only [List.length_singleton] at h2
      rw [show j - J.length = 0 by omega] at hj
      exact .inr ⟨by omega, by simpa using hj.symm⟩
   rcases key hj with ⟨_, h1⟩ | ⟨e1, rfl⟩ <;> rcases key hk with ⟨_, h2⟩ | ⟨e2, e3⟩
   · exact h.ap j k x y g h1 h2 hx hy
   · subst e3; exact absurd hy (hne x (List.mem_of_getElem? h1) g hx)
   · exact absurd hx (hne y (List.mem_of_getElem? h2) g hy)
   · omega
end
structure Cp (w0 : World) (v N gB gI K gr i : Nat) (B : List ZH) (M : List Value) (J : List AL) (src l : List AH) (u : World) : Prop where
 cw : Cw w0 v N gB gI K B M J u
 fr : Fb u gr (l.flatMap AH.cells).toArray 63
 ge : w0.heap.size ≤ gr
 ne : ∀ y ∈ J, y.v.ownBlock ≠ some gr
 len : l.length = src.length
 lo : ∀ (j : Nat) (a s : AH), j < i → l[j]? = some a → src[j]? = some s → a.m = s.m ∧ a.f.pf = s.f.pf ∧ FWt u v a.f
 hi : ∀ j : Nat, i ≤ j → l[j]? = src[j]?
section
variable {w0 u u' : World} {v N gB gI K gr i : Nat} {B : List ZH} {M : List Value} {J : List AL} {src l : List AH}
theorem Cp.below (h : Cp w0 v N gB gI K gr i B M J src l u) (hb : Below u.heap.size u u') : Cp w0 v N gB gI K gr i B M J src l u' :=
 ⟨h.cw.below hb, h.fr.below hb h.fr.lt, h.ge, h.ne, h.len, fun j a s hj ha hs => by obtain ⟨h1, h2, h3⟩ := h.lo j a s hj ha hs; exact ⟨h1, h2, h3.below hb⟩, h.hi⟩
theorem Cp.put (h : Cp w0 v N gB gI K gr i B M J src l u) {a : AH} {f : FH} (hi : src[i]? = some a) (hf : FWt u v f) (he : f.pf = a.f.pf) : Cp w0 v N gB gI K gr (i + 1) B M J src (l.set i (arcSet a f)) (putF u gr (i * 6 + 1) f) := by
 have hG := putF_grown u gr (i * 6 + 1) f
 have hs : Stp1 63 u (putF u gr (i * 6 + 1) f) := ⟨_, hG, fun k e => by obtain rfl := Option.some.inj e; exact h.fr.typ⟩
 have hil := (List.getElem?_eq_some_iff.1 hi).1
 have hli : l[i]? = some a := by rw [h.hi i (Nat.le_refl _)]; exact hi
 refine ⟨⟨h.cw.bel.grown hG h.cw.bel.size (fun k e => by obtain rfl := Option.some.inj e; exact h.ge), h.cw.gb, h.cw.gi, hs.fb h.cw.fb (by decide), hs.fb h.cw.fi (by decide), h.cw.bl, h.cw.ml, fun j z hj hz => (h.cw.bt j z hj hz).stp hs (by decide), fun y hy => ?_, h.cw.ap⟩, ?_, h.ge, h.ne, by rw [List.length_set]; exact h.len, fun j x s hj hx hsr => ?_, fun j hj => by rw [List.getElem?_set_ne (by omega)]; exact h.hi j (by omega)⟩
 · have hy2 := h.cw.rt y hy
   refine ⟨hy2.own.kept hG ?_, fun a ha => (hy2.arcs a ha).stp hs (by decide) (by decide), hy2.ris⟩
   exact .inr (h.ne y hy)
 · have f5 := ((((h.fr.set (i * 6 + 1) (.int .i64 f.G.W)).set (i * 6 + 1 + 1) (.slice f.G.A f.G.n f.G.c)).set (i * 6 + 1 + 2) (.int .i64 f.K.W)).set (i * 6 + 1 + 3) (.slice f.K.A f.K.n f.K.c)).set (i * 6 + 1 + 4) (.slice f.C f.k f.q)
   rw [List.setIfInBounds_toArray, List.setIfInBounds_toArray, List.setIfInBounds_toArray, List.setIfInBounds_toArray, List.setIfInBounds_toArray] at f5
   rw [← flat_putF hli]
   exact f5
 · by_cases e : j = i
   · subst e
     rw [hi] at hsr
     obtain rfl := Option.some.inj hsr
     rw [List.getElem?_set_self (by rw [h.len]; exact hil)] at hx
     obtain rfl := Option.some.inj hx
     exact ⟨rfl, he, hf.stp hs (by decide) (by decide)⟩
   · rw [List.getElem?_set_ne (fun e' => e e'.symm)] at hx
     obtain ⟨h1, h2, h3⟩ := h.lo j x s (by omega) hx hsr
     exact ⟨h1, h2, h3.stp hs (by decide) (by decide)⟩
theorem Cp.ms (h : Cp w0 v N gB gI K gr i B M J src l u) (hi : src.length ≤ i) : l.map AH.pa = src.map AH.pa ∧ l.map AH.m = src.map AH.m := by
 have key : ∀ j : Nat, (l.map fun a => (a.m, a.f.pf))[j]? = (src.map fun a => (a.m, a.f.pf))[j]? := fun j => by
  rw [List.getElem?_map, List.getElem?_map]
  rcases Nat.lt_or_ge j src.length with h1 | h1
  · obtain ⟨a, ha⟩ : ∃ a, l[j]? = some a := ⟨_, List.getElem?_eq_getElem (by rw [h.len]; exact h1)⟩
    obtain ⟨s, hs⟩ : ∃ s, src[j]? = some s := ⟨_, List.getElem?_eq_getElem h1⟩
    obtain ⟨e1, e2, -⟩ := h.lo j a s (by omega) ha hs
    rw [ha, hs]
    simp [e1, e2]
  · rw [List.getElem?_eq_none (by rw [h.len]; omega), List.getElem?_eq_none h1]
 have e := List.ext_getElem? key
 constructor
 · have := congrArg (List.map fun p : Int × Pf => (p.1.toNat, p.2)) e
   rw [List.map_map, List.map_map] at this
   exact this
 · have := congrArg (List.map fun p : Int × Pf => p.1) e
   simpa [List.map_map, Function.comp_def] using this
theorem Cp.row (h : Cp w0 v N gB gI K gr i B M J src l u) (hi : src.length ≤ i) (hr : RisP N (src.map AH.m)) (hN : N ≤ 256) : RowA w0.heap.size u v N ⟨some ⟨gr, 0, none⟩, src.length, src.length, l⟩ := by
 have hlf : (l.flatMap AH.cells).length = src.length * 6 := by rw [flat_len AH.cells_len, h.len]
 have hsl : src.length ≤ N := by have := ris_len hr; rwa [List.length_map] at this
 refine ⟨⟨hlf, .inr ⟨gr, src.length, _, rfl, h.ge, h.fr, Nat.le_refl _, by unfold maxLen; omega, by rw [List.size_toArray]; exact hlf, List.take_of_length_le (Nat.le_of_eq hlf)⟩⟩, fun a ha => ?_, by show RisP N (l.map AH.m); rw [(h.ms hi).2]; exact hr⟩
 obtain ⟨j, hj⟩ := List.mem_iff_getElem?.1 ha
 have hjl : j < l.length := (List.getElem?_eq_some_iff.1 hj).1
 obtain ⟨s, hs⟩ : ∃ s, src[j]? = some s := ⟨_, List.getElem?_eq_getElem (by rw [← h.len]; exact hjl)⟩
 exact (h.lo j a s (by have := h.len; omega) hj hs).2.2
end
theorem Ow.stp {w0 u u' : World} {v N gB gI t : Nat} {B : List ZH} {M : List Value} {J : List AL} (h : Ow w0 v N gB gI B M J u) (hs : Stp1 t u u') (hb : Below w0.heap.size w0 u') (h1 : 49 ≠ t) (h2 : 64 ≠ t) (h3 : 106 ≠ t) (h4 : 58 ≠ t) (h5 : 63 ≠ t) : Ow w0 v N gB gI B M J u' :=
 ⟨hb, h.gb, h.gi, hs.fb h.fb h1, hs.fb h.fi h2, h.bl, h.ml, h.jl, fun z hz => (h.bt z hz).stp hs h3, fun r hr => (h.rt r hr).stp hs h3 h4 h5, h.ap⟩
structure CsV (Bl : List ZH) (Il : List AL) (k : Nat) (B : List ZH) (M : List Value) (J : List AL) : Prop where
 jl : J.length = k
 ml : ∀ j : Nat, j < k → M[j]? = (J[j]?).map AL.v
 mh : ∀ j : Nat, k ≤ j → M[j]? = (Il[j]?).map AL.v
 bl : ∀ (j : Nat) (z y : ZH), j < k → B[j]? = some z → Bl[j]? = some y → z.ws = y.ws
 bh : ∀ j : Nat, k ≤ j → B[j]? = Bl[j]?
 jv : J.map AL.pa = (Il.take k).map AL.pa
theorem CsV.start (Bl : List ZH) (Il : List AL) : CsV Bl Il 0 Bl (Il.map AL.v) [] :=
 ⟨rfl, fun j h => by omega, fun j _ => by rw [List.getElem?_map], fun j z y h => by omega, fun j _ => rfl, rfl⟩
theorem CsV.next {Bl : List ZH} {Il : List AL} {k : Nat} {B : List ZH} {M : List Value} {J : List AL} (h : CsV Bl Il k B M J) {z y : ZH} {s r : AL} (hk : k < B.length) (hm : k < M.length) (hy : Bl[k]? = some y) (hz : z.ws = y.ws) (hs : Il[k]? = some s) (hr : r.pa = s.pa) : CsV Bl Il (k + 1) (B.set k z) (M.set k r.v) (J ++ [r]) := by
 refine ⟨by rw [List.length_append, h.jl]; rfl, fun j hj => ?_, fun j hj => by rw [List.getElem?_set_ne (by omega)]; exact h.mh j (by omega), fun j a b hj ha hb => ?_, fun j hj => by rw [List.getElem?_set_ne (by omega)]; exact h.bh j (by omega), ?_⟩
 · by_cases e : j = k
   · subst e
     rw [List.getElem?_set_self hm, List.getElem?_append_right (by rw [h.jl]; exact Nat.le_refl _), h.jl, Nat.sub_self]; rfl
   · rw [List.getElem?_set_ne (fun e' => e e'.symm), List.getElem?_append_left (by rw [h.jl]; omega)]
     exact h.ml j (by omega)
 · by_cases e : j = k
   · subst e
     rw [List.getElem?_set_self hk] at ha
     obtain rfl := Option.some.inj ha
     rw [hy] at hb
     obtain rfl := Option.some.inj hb
     exact hz
   · rw [List.getElem?_set_ne (fun e' => e e'.symm)] at ha
     exact h.bl j a b (by omega) ha hb
 · rw [List.map_append, h.jv, List.take_add_one, hs, List.map_append]
   simp [hr]
theorem CsV.done {Bl : List ZH} {Il : List AL} {N : Nat} {B : List ZH} {M : List Value} {J : List AL} (h : CsV Bl Il N B M J) (hm : M.length = N) (hB : B.length = N) (hl : Bl.length = N) (hi : Il.length = N) : M = J.map AL.v ∧ B.map ZH.ws = Bl.map ZH.ws ∧ J.map AL.pa = Il.map AL.pa := by
 refine ⟨List.ext_getElem? fun j => ?_, List.ext_getElem? fun j => ?_, by rw [h.jv, List.take_of_length_le (by omega)]⟩
 · rw [List.getElem?_map]
   rcases Nat.lt_or_ge j N with h1 | h1
   · exact h.ml j h1
   · rw [List.getElem?_eq_none (by omega), List.getElem?_eq_none (by rw [h.jl]; exact h1)]; rfl
 · rw [List.getElem?_map, List.getElem?_map]
   rcases Nat.lt_or_ge j N with h1 | h1
   · obtain ⟨z, hz⟩ : ∃ z, B[j]? = some z := ⟨_, List.getElem?_eq_getElem (by omega)⟩
     obtain ⟨y, hy⟩ : ∃ y, Bl[j]? = some y := ⟨_, List.getElem?_eq_getElem (by omega)⟩
     rw [hz, hy, Option.map_some, Option.map_some, h.bl j z y h1 hz hy]
   · rw [List.getElem?_eq_none (by omega), List.getElem?_eq_none (by omega)]
def zWeb : Array Value := #[.int .i64 0, .slice none 0 0, .slice none 0 0]
theorem three_set {u : World} {b t : Nat} {x y z : Value} (h : Fb u b #[x, y, z] t) (p q r : Value) : Fb (((u.setCell ⟨b, 0, none⟩ p).setCell ⟨b, 1, none⟩ q).setCell ⟨b, 2, none⟩ r) b #[p, q, r] t := ((h.set 0 p).set 1 q).set 2 r
theorem three_stp {u : World} {b t : Nat} {cs : Array Value} (h : Fb u b cs t) (p q r : Value) : Stp1 t u (((u.setCell ⟨b, 0, none⟩ p).setCell ⟨b, 1, none⟩ q).setCell ⟨b, 2, none⟩ r) :=
 ⟨some b, grown_trans (grown_trans (grown_set u b rfl p) (grown_set _ b rfl q)) (grown_set _ b rfl r), fun g e => by obtain rfl := Option.some.inj e; exact h.typ⟩
theorem Stp1.fb3 {t t' : Nat} {w w' : World} (h : Stp1 t w w') {g : Nat} {cs : Array Value} (hf : Fb w g cs t') (ht : t' ≠ t) : Fb w' g cs t' := h.fb hf ht
theorem two_cells {u : World} {b t : Nat} {cs : Array Value} (h : Fb u b cs t) (i j : Nat) (p q : Value) : Stp1 t u ((u.setCell ⟨b, i, none⟩ p).setCell ⟨b, j, none⟩ q) :=
 ⟨some b, grown_trans (grown_set u b rfl p) (grown_set _ b rfl q), fun g e => by obtain rfl := Option.some.inj e; exact h.typ⟩
theorem putF_stp {u : World} {g t : Nat} {cs : Array Value} (h : Fb u g cs t) (o : Nat) (f : FH) : Stp1 t u (putF u g o f) := ⟨some g, putF_grown u g o f, fun k e => by obtain rfl := Option.some.inj e; exact h.typ⟩
theorem one_sets (l : List ZH) : ∀ u ∈ l.flatMap ZH.cs, u.oneCell' = true := by
 intro u hu
 obtain ⟨a, -, ha⟩ := List.mem_flatMap.1 hu
 simp only [ZH.cs, List.mem_cons, List.not_mem_nil, or_false] at ha
 rcases ha with rfl | rfl <;> rfl
theorem one_rows (l : List AL) : ∀ u ∈ l.map AL.v, u.oneCell' = true := by
 intro u hu
 obtain ⟨a, -, rfl⟩ := List.mem_map.1 hu
 rfl
theorem one_pairs (cs : List (Int × Int)) : ∀ u ∈ pairs cs, u.oneCell' = true := by
 intro u hu
 unfold pairs at hu
 obtain ⟨p, -, hp⟩ := List.mem_flatMap.1 hu
 simp only [List.mem_cons, List.not_mem_nil, or_false] at hp
 rcases hp with rfl | rfl <;> rfl
theorem pairs_len2 (cs : List (Int × Int)) : (pairs cs).length = cs.length * 2 := by
 unfold pairs
 induction cs with
 | nil => rfl
 | cons p cs ih => rw [List.flatMap_cons, List.length_append, ih, List.length_cons]; simp; omega
theorem CopT.fb {u : World} {g : Nat} {cs : List (Int × Int)} (h : Fb u g (pairs cs).toArray 58) : CopT u (some ⟨g, 0, none⟩) cs.length cs :=
 ⟨⟨.inr ⟨_, rfl, h.lt, fun j x hx => by rw [add_of, h.cell]; simpa using hx⟩, rfl⟩, .inr ⟨_, rfl, h.typ⟩⟩
theorem new_f {u : World} {v gG gK gC : Nat} {f : FH} (ha : FArg u f.G.A f.G.n f.K.A f.K.n f.C f.k f.G.ws f.K.ws f.cs) (ho : FOk v f) (h1 : Row u gG f.G.ws) (h2 : Row u gK f.K.ws) (h3 : Fb u gC (pairs f.cs).toArray 58) :
 FWt u v ⟨⟨f.G.W, some ⟨gG, 0, none⟩, f.G.n, f.G.n, f.G.ws⟩, ⟨f.K.W, some ⟨gK, 0, none⟩, f.K.n, f.K.n, f.K.ws⟩, some ⟨gC, 0, none⟩, f.k, f.k, f.cs⟩ := by
 have a1 := ArgT.row h1 ha.gen.ok
 have a2 := ArgT.row h2 ha.kill.ok
 have a3 := CopT.fb h3
 rw [ha.gen.len] at a1
 rw [ha.kill.len] at a2
 rw [ha.cops.len] at a3
 exact ⟨⟨ho.w1, ho.w2, ho.ok⟩, a1, a2, a3⟩
theorem fr_cells {u : World} {g t : Nat} {l : List AH} (h : Fb u g (l.flatMap AH.cells).toArray t) {i : Nat} {a : AH} (hi : l[i]? = some a) :
 u.cell? ⟨g, i * 6, none⟩ = some (.int .i64 a.m) ∧ u.cell? ⟨g, i * 6 + 1, none⟩ = some (.int .i64 a.f.G.W) ∧ u.cell? ⟨g, i * 6 + 1 + 1, none⟩ = some (.slice a.f.G.A a.f.G.n a.f.G.c) ∧
 u.cell? ⟨g, i * 6 + 1 + 2, none⟩ = some (.int .i64 a.f.K.W) ∧ u.cell? ⟨g, i * 6 + 1 + 3, none⟩ = some (.slice a.f.K.A a.f.K.n a.f.K.c) ∧ u.cell? ⟨g, i * 6 + 1 + 4, none⟩ = some (.slice a.f.C a.f.k a.f.q) := by
 have key : ∀ j, j < 6 → u.cell? ⟨g, i * 6 + j, none⟩ = (a.cells)[j]? := fun j hj => by
  rw [h.cell]
  have := flat_cell AH.cells_len hi hj
  simpa using this
 exact ⟨key 0 (by decide), key 1 (by decide), key 2 (by decide), key 3 (by decide), key 4 (by decide), key 5 (by decide)⟩
structure Bx (w0 : World) (WO WS : Array Value) (bO : Nat) (u : World) : Prop where
 oo : Fb u bO WO 67
 ss : Fb u w0.heap.size WS 67
 zz : Fb u (w0.heap.size + 1) zWeb 67
 bel : Below w0.heap.size w0 u
theorem Bx.below {w0 u u' : World} {WO WS : Array Value} {bO : Nat} (h : Bx w0 WO WS bO u) (hb : Below u.heap.size u u') : Bx w0 WO WS bO u' := ⟨h.oo.below hb h.oo.lt, h.ss.below hb h.ss.lt, h.zz.below hb h.zz.lt, below_step h.bel hb⟩
theorem Bx.put {w0 u u' : World} {WO WS : Array Value} {bO t : Nat} (h : Bx w0 WO WS bO u) (hs : Stp1 t u u') (ht : 67 ≠ t) (hb : Below w0.heap.size w0 u') : Bx w0 WO WS bO u' := ⟨hs.fb h.oo ht, hs.fb h.ss ht, hs.fb h.zz ht, hb⟩
def c1R (j : Nat) (u u' : World) : Prop := if j = 10 then Stp1 67 u u' else Below u.heap.size u u'
theorem c1R_stp {j : Nat} {u u' : World} (h : c1R j u u') : Stp1 67 u u' := by
 unfold c1R at h
 split at h
 · exact h
 · exact Stp1.below h
theorem c1R_bel {j : Nat} {u u' : World} (h : c1R j u u') (hj : j ≠ 10) : Below u.heap.size u u' := by
 unfold c1R at h
 rwa [if_neg hj] at h
theorem c1R_of {j : Nat} {u u' : World} (h : Below u.heap.size u u') (hj : j ≠ 10) : c1R j u u' := by
 unfold c1R; rwa [if_neg hj]
theorem c1R_refl (j : Nat) (u : World) (hj : j ≠ 10) : c1R j u u := c1R_of (Below.refl _ _) hj
theorem c1R_w {u u' : World} (h : Stp1 67 u u') : c1R 10 u u' := by unfold c1R; rw [if_pos rfl]; exact h
def c1F (b : Nat) (v N : Nat) (adB adI : Addr) (bc ic : Nat) (Bl : List ZH) (Il : List AL) : Nat → (Nat → Value) → World → Prop
 | 0, f, u => f 0 = .pointer (some ⟨b, 0, none⟩)
 | 1, f, u => f 1 = .int .i64 v
 | 2, f, u => f 2 = .pointer (some ⟨b, 1, none⟩)
 | 3, f, u => f 3 = .slice (some adB) N bc
 | 4, f, u => ∃ gB, f 4 = .slice (some ⟨gB, 0, none⟩) N N ∧ Fb u gB (Bl.flatMap ZH.cs).toArray 49 ∧ b ≤ gB
 | 5, f, u => f 5 = .pointer (some ⟨b, 2, none⟩)
 | 6, f, u => f 6 = .slice (some adI) N ic
 | 7, f, u => ∃ gI, f 7 = .slice (some ⟨gI, 0, none⟩) N N ∧ Fb u gI (Il.map AL.v).toArray 64 ∧ b ≤ gI
 | 8, f, u => ∃ gB gI, f 8 = .agg #[.int .i64 v, .slice (some ⟨gB, 0, none⟩) N N, .slice (some ⟨gI, 0, none⟩) N N] ∧ Fb u gB (Bl.flatMap ZH.cs).toArray 49 ∧ Fb u gI (Il.map AL.v).toArray 64 ∧ b ≤ gB ∧ b ≤ gI
 | 9, f, u => ∃ bO, f 9 = .pointer (some ⟨bO, 0, none⟩) ∧ Fb u bO zWeb 67 ∧ b + 1 < bO
 | 10, f, u => ∃ bO gB gI, f 9 = .pointer (some ⟨bO, 0, none⟩) ∧ Fb u bO #[.int .i64 v, .slice (some ⟨gB, 0, none⟩) N N, .slice (some ⟨gI, 0, none⟩) N N] 67 ∧ b + 1 < bO ∧ Fb u gB (Bl.flatMap ZH.cs).toArray 49 ∧ Fb u gI (Il.map AL.v).toArray 64 ∧ b ≤ gB ∧ b ≤ gI
 | _, _, _ => True
def c1U : Nat → Option Nat
 | 9 => some 10
 | _ => none
theorem c1F_st {b : Nat} {v N : Nat} {adB adI : Addr} {bc ic : Nat} {Bl : List ZH} {Il : List AL} {ops : Array Oper} (hq10 : ∀ j, (reachL ops 5 10).contains j = false → j ≠ 9)  (jx : Nat) (vx : Value) (u u' : World) (ix : Nat) (f : Nat → Value) (hR : c1R  jx u u') (hne : ix ≠ jx) (hu : c1U ix ≠ some jx) (hc : (reachL ops 5 ix).contains jx = false) (h : c1F b v N adB adI bc ic Bl Il ix f u) : c1F b v N adB adI bc ic Bl Il ix (updV f jx vx) u' := by
 match ix, hne, hu, hc, h with
 | 0, hne, hu, hc, h => exact (updV_ne f vx hne).trans h
 | 1, hne, hu, hc, h => exact (updV_ne f vx hne).trans h
 | 2, hne, hu, hc, h => exact (updV_ne f vx hne).trans h
 | 3, hne, hu, hc, h => exact (updV_ne f vx hne).trans h
 | 4, hne, hu, hc, h => obtain ⟨g, h1, h2, h3⟩ := h; exact ⟨g, (updV_ne f vx hne).trans h1, (c1R_stp hR).fb h2 (by decide), h3⟩
 | 5, hne, hu, hc, h => exact (updV_ne f vx hne).trans h
 | 6, hne, hu, hc, h => exact (updV_ne f vx hne).trans h
 | 7, hne, hu, hc, h => obtain ⟨g, h1, h2, h3⟩ := h; exact ⟨g, (updV_ne f vx hne).trans h1, (c1R_stp hR).fb h2 (by decide), h3⟩
 | 8, hne, hu, hc, h => obtain ⟨g, g', h1, h2, h3, h4⟩ := h; exact ⟨g, g', (updV_ne f vx hne).trans h1, (c1R_stp hR).fb h2 (by decide), (c1R_stp hR).fb h3 (by decide), h4⟩
 | 9, hne, hu, hc, h => obtain ⟨g, h1, h2, h3⟩ := h; have hb := c1R_bel hR (fun e => hu (by rw [e]; rfl)); exact ⟨g, (updV_ne f vx hne).trans h1, h2.below hb h2.lt, h3⟩
 | 10, hne, hu, hc, h => obtain ⟨bO, g, g', h1, h2, h3, h4, h5, h6⟩ := h; have hb := c1R_bel hR (fun e => hne e.symm); exact ⟨bO, g, g', (updV_ne f vx (fun e => hq10 jx hc e.symm)).trans h1, h2.below hb h2.lt, h3, h4.below hb h4.lt, h5.below hb h5.lt, h6⟩
 | ix + 11, _, _, _, _ => trivial
def c5R (j : Nat) (u u' : World) : Prop := if j = 10 then Stp1 49 u u' else Below u.heap.size u u'
theorem c5R_stp {j : Nat} {u u' : World} (h : c5R j u u') : Stp1 49 u u' := by
 unfold c5R at h
 split at h
 · exact h
 · exact Stp1.below h
theorem c5R_bel {j : Nat} {u u' : World} (h : c5R j u u') (hj : j ≠ 10) : Below u.heap.size u u' := by
 unfold c5R at h
 rwa [if_neg hj] at h
theorem c5R_of {j : Nat} {u u' : World} (h : Below u.heap.size u u') (hj : j ≠ 10) : c5R j u u' := by
 unfold c5R; rwa [if_neg hj]
theorem c5R_refl (j : Nat) (u : World) (hj : j ≠ 10) : c5R j u u := c5R_of (Below.refl _ _) hj
theorem c5R_w {u u' : World} (h : Stp1 49 u u') : c5R 10 u u' := by unfold c5R; rw [if_pos rfl]; exact h
def c5F (w : World) (v N gB gI bO k : Nat) (adB : Addr) (bc : Nat) (W : Int) (A : Option Addr) (n c : Nat) (ws : List Nat) (B : List ZH) (M : List Value) (J : List AL) : Nat → (Nat → Value) → World → Prop
 | 0, f, u => f 0 = .pointer (some ⟨bO, 1, none⟩)
 | 1, f, u => f 1 = .slice (some ⟨gB, 0, none⟩) N N
 | 2, f, u => f 2 = .int .i64 (k : Int)
 | 3, f, u => f 3 = .pointer (some ⟨w.heap.size, 1, none⟩)
 | 4, f, u => f 4 = .slice (some adB) N bc
 | 5, f, u => f 5 = .int .i64 (k : Int)
 | 6, f, u => f 6 = .pointer (some (adB.add (k * 2)))
 | 7, f, u => f 7 = .agg #[.int .i64 W, .slice A n c]
 | 8, f, u => ∃ g, f 8 = .agg #[.int .i64 W, .slice (some ⟨g, 0, none⟩) n n] ∧ Row u g ws
 | 9, f, u => f 9 = .pointer (some ⟨gB, k * 2, none⟩)
 | 10, f, u => ∃ g, Cw w v N gB gI (k + 1) (B.set k ⟨W, some ⟨g, 0, none⟩, n, n, ws⟩) M J u
 | _, _, _ => True
def c5U : Nat → Option Nat
 | _ => none
theorem c5F_st {w : World} {v N gB gI bO k : Nat} {adB : Addr} {bc : Nat} {W : Int} {A : Option Addr} {n c : Nat} {ws : List Nat} {B : List ZH} {M : List Value} {J : List AL} {ops : Array Oper}  (jx : Nat) (vx : Value) (u u' : World) (ix : Nat) (f : Nat → Value) (hR : c5R  jx u u') (hne : ix ≠ jx) (hu : c5U ix ≠ some jx) (hc : (reachL ops 5 ix).contains jx = false) (h : c5F w v N gB gI bO k adB bc W A n c ws B M J ix f u) : c5F w v N gB gI bO k adB bc W A n c ws B M J ix (updV f jx vx) u' := by
 match ix, hne, hu, hc, h with
 | 0, hne, hu, hc, h => exact (updV_ne f vx hne).trans h
 | 1, hne, hu, hc, h => exact (updV_ne f vx hne).trans h
 | 2, hne, hu, hc, h => exact (updV_ne f vx hne).trans h
 | 3, hne, hu, hc, h => exact (updV_ne f vx hne).trans h
 | 4, hne, hu, hc, h => exact (updV_ne f vx hne).trans h
 | 5, hne, hu, hc, h => exact (updV_ne f vx hne).trans h
 | 6, hne, hu, hc, h => exact (updV_ne f vx hne).trans h
 | 7, hne, hu, hc, h => exact (updV_ne f vx hne).trans h
 | 8, hne, hu, hc, h => obtain ⟨g, h1, h2⟩ := h; exact ⟨g, (updV_ne f vx hne).trans h1, (c5R_stp hR).row h2 (by decide)⟩
 | 9, hne, hu, hc, h => exact (updV_ne f vx hne).trans h
 | 10, hne, hu, hc, h => obtain ⟨g, h1⟩ := h; exact ⟨g, h1.below (c5R_bel hR (fun e => hne e.symm))⟩
 | ix + 11, _, _, _, _ => trivial
def c6R (j : Nat) (u u' : World) : Prop := if j = 6 then Stp1 64 u u' else Below u.heap.size u u'
theorem c6R_stp {j : Nat} {u u' : World} (h : c6R j u u') : Stp1 64 u u' := by
 unfold c6R at h
 split at h
 · exact h
 · exact Stp1.below h
theorem c6R_bel {j : Nat} {u u' : World} (h : c6R j u u') (hj : j ≠ 6) : Below u.heap.size u u' := by
 unfold c6R at h
 rwa [if_neg hj] at h
theorem c6R_of {j : Nat} {u u' : World} (h : Below u.heap.size u u') (hj : j ≠ 6) : c6R j u u' := by
 unfold c6R; rwa [if_neg hj]
theorem c6R_refl (j : Nat) (u : World) (hj : j ≠ 6) : c6R j u u := c6R_of (Below.refl _ _) hj
theorem c6R_w {u u' : World} (h : Stp1 64 u u') : c6R 6 u u' := by unfold c6R; rw [if_pos rfl]; exact h
def c6F (w : World) (v N gB gI bO k : Nat) (rA : Option Addr) (rn rc : Nat) (src : List AH) (B5 : List ZH) (M : List Value) (J : List AL) : Nat → (Nat → Value) → World → Prop
 | 0, f, u => f 0 = .pointer (some ⟨bO, 2, none⟩)
 | 1, f, u => f 1 = .slice (some ⟨gI, 0, none⟩) N N
 | 2, f, u => f 2 = .int .i64 (k : Int)
 | 3, f, u => f 3 = .slice rA rn rc
 | 4, f, u => ∃ g, f 4 = .slice (some ⟨g, 0, none⟩) rn rn ∧ Fb u g (src.flatMap AH.cells).toArray 63 ∧ w.heap.size ≤ g ∧ ∀ y ∈ J, y.v.ownBlock ≠ some g
 | 5, f, u => f 5 = .pointer (some ⟨gI, k, none⟩)
 | 6, f, u => ∃ g, Cp w v N gB gI (k + 1) g 0 B5 (M.set k (.slice (some ⟨g, 0, none⟩) rn rn)) J src src u
 | _, _, _ => True
def c6U : Nat → Option Nat
 | _ => none
theorem c6F_st {w : World} {v N gB gI bO k : Nat} {rA : Option Addr} {rn rc : Nat} {src : List AH} {B5 : List ZH} {M : List Value} {J : List AL} {ops : Array Oper}  (jx : Nat) (vx : Value) (u u' : World) (ix : Nat) (f : Nat → Value) (hR : c6R  jx u u') (hne : ix ≠ jx) (hu : c6U ix ≠ some jx) (hc : (reachL ops 5 ix).contains jx = false) (h : c6F w v N gB gI bO k rA rn rc src B5 M J ix f u) : c6F w v N gB gI bO k rA rn rc src B5 M J ix (updV f jx vx) u' := by
 match ix, hne, hu, hc, h with
 | 0, hne, hu, hc, h => exact (updV_ne f vx hne).trans h
 | 1, hne, hu, hc, h => exact (updV_ne f vx hne).trans h
 | 2, hne, hu, hc, h => exact (updV_ne f vx hne).trans h
 | 3, hne, hu, hc, h => exact (updV_ne f vx hne).trans h
 | 4, hne, hu, hc, h => obtain ⟨g, h1, h2, h3⟩ := h; exact ⟨g, (updV_ne f vx hne).trans h1, (c6R_stp hR).fb h2 (by decide), h3⟩
 | 5, hne, hu, hc, h => exact (updV_ne f vx hne).trans h
 | 6, hne, hu, hc, h => obtain ⟨g, h1⟩ := h; exact ⟨g, h1.below (c6R_bel hR (fun e => hne e.symm))⟩
 | ix + 7, _, _, _, _ => trivial
def c0R (j : Nat) (u u' : World) : Prop := if j = 21 then Stp1 63 u u' else Below u.heap.size u u'
theorem c0R_stp {j : Nat} {u u' : World} (h : c0R j u u') : Stp1 63 u u' := by
 unfold c0R at h
 split at h
 · exact h
 · exact Stp1.below h
theorem c0R_bel {j : Nat} {u u' : World} (h : c0R j u u') (hj : j ≠ 21) : Below u.heap.size u u' := by
 unfold c0R at h
 rwa [if_neg hj] at h
theorem c0R_of {j : Nat} {u u' : World} (h : Below u.heap.size u u') (hj : j ≠ 21) : c0R j u u' := by
 unfold c0R; rwa [if_neg hj]
theorem c0R_refl (j : Nat) (u : World) (hj : j ≠ 21) : c0R j u u := c0R_of (Below.refl _ _) hj
theorem c0R_w {u u' : World} (h : Stp1 63 u u') : c0R 21 u u' := by unfold c0R; rw [if_pos rfl]; exact h
def c0F (w : World) (v N gB gI bO k gr i bA rn : Nat) (a : AH) (B5 : List ZH) (M6 : List Value) (J : List AL) (src l : List AH) : Nat → (Nat → Value) → World → Prop
 | 0, f, u => f 0 = .pointer (some ⟨bO, 2, none⟩)
 | 1, f, u => f 1 = .slice (some ⟨gI, 0, none⟩) N N
 | 2, f, u => f 2 = .int .i64 (k : Int)
 | 3, f, u => f 3 = .pointer (some ⟨gI, k, none⟩)
 | 4, f, u => f 4 = .slice (some ⟨gr, 0, none⟩) rn rn
 | 5, f, u => f 5 = .int .i64 (i : Int)
 | 6, f, u => f 6 = .pointer (some ⟨bA, 1, none⟩)
 | 7, f, u => f 7 = .pointer (some ⟨bA, 1, none⟩)
 | 8, f, u => f 8 = .agg #[.int .i64 a.f.G.W, .slice a.f.G.A a.f.G.n a.f.G.c]
 | 9, f, u => ∃ g, f 9 = .agg #[.int .i64 a.f.G.W, .slice (some ⟨g, 0, none⟩) a.f.G.n a.f.G.n] ∧ Row u g a.f.G.ws
 | 10, f, u => f 10 = .pointer (some ⟨bA, 1, none⟩)
 | 11, f, u => f 11 = .pointer (some ⟨bA, 3, none⟩)
 | 12, f, u => f 12 = .agg #[.int .i64 a.f.K.W, .slice a.f.K.A a.f.K.n a.f.K.c]
 | 13, f, u => ∃ g, f 13 = .agg #[.int .i64 a.f.K.W, .slice (some ⟨g, 0, none⟩) a.f.K.n a.f.K.n] ∧ Row u g a.f.K.ws
 | 14, f, u => f 14 = .pointer (some ⟨bA, 1, none⟩)
 | 15, f, u => f 15 = .pointer (some ⟨bA, 5, none⟩)
 | 16, f, u => f 16 = .slice a.f.C a.f.k a.f.q
 | 17, f, u => ∃ g, f 17 = .slice (some ⟨g, 0, none⟩) a.f.k a.f.k ∧ Fb u g (pairs a.f.cs).toArray 58
 | 18, f, u => ∃ gG gK gC, f 18 = .agg #[.int .i64 a.f.G.W, .slice (some ⟨gG, 0, none⟩) a.f.G.n a.f.G.n, .int .i64 a.f.K.W, .slice (some ⟨gK, 0, none⟩) a.f.K.n a.f.K.n, .slice (some ⟨gC, 0, none⟩) a.f.k a.f.k] ∧ Row u gG a.f.G.ws ∧ Row u gK a.f.K.ws ∧ Fb u gC (pairs a.f.cs).toArray 58
 | 19, f, u => f 19 = .pointer (some ⟨gr, i * 6, none⟩)
 | 20, f, u => f 20 = .pointer (some ⟨gr, i * 6 + 1, none⟩)
 | 21, f, u => ∃ l2, Cp w v N gB gI (k + 1) gr (i + 1) B5 M6 J src l2 u
 | _, _, _ => True
def c0U : Nat → Option Nat
 | _ => none
theorem c0F_st {w : World} {v N gB gI bO k gr i bA rn : Nat} {a : AH} {B5 : List ZH} {M6 : List Value} {J : List AL} {src l : List AH} {ops : Array Oper}  (jx : Nat) (vx : Value) (u u' : World) (ix : Nat) (f : Nat → Value) (hR : c0R  jx u u') (hne : ix ≠ jx) (hu : c0U ix ≠ some jx) (hc : (reachL ops 5 ix).contains jx = false) (h : c0F w v N gB gI bO k gr i bA rn a B5 M6 J src l ix f u) : c0F w v N gB gI bO k gr i bA rn a B5 M6 J src l ix (updV f jx vx) u' := by
 match ix, hne, hu, hc, h with
 | 0, hne, hu, hc, h => exact (updV_ne f vx hne).trans h
 | 1, hne, hu, hc, h => exact (updV_ne f vx hne).trans h
 | 2, hne, hu, hc, h => exact (updV_ne f vx hne).trans h
 | 3, hne, hu, hc, h => exact (updV_ne f vx hne).trans h
 | 4, hne, hu, hc, h => exact (updV_ne f vx hne).trans h
 | 5, hne, hu, hc, h => exact (updV_ne f vx hne).trans h
 | 6, hne, hu, hc, h => exact (updV_ne f vx hne).trans h
 | 7, hne, hu, hc, h => exact (updV_ne f vx hne).trans h
 | 8, hne, hu, hc, h => exact (updV_ne f vx hne).trans h
 | 9, hne, hu, hc, h => obtain ⟨g, h1, h2⟩ := h; exact ⟨g, (updV_ne f vx hne).trans h1, (c0R_stp hR).row h2 (by decide)⟩
 | 10, hne, hu, hc, h => exact (updV_ne f vx hne).trans h
 | 11, hne, hu, hc, h => exact (updV_ne f vx hne).trans h
 | 12, hne, hu, hc, h => exact (updV_ne f vx hne).trans h
 | 13, hne, hu, hc, h => obtain ⟨g, h1, h2⟩ := h; exact ⟨g, (updV_ne f vx hne).trans h1, (c0R_stp hR).row h2 (by decide)⟩
 | 14, hne, hu, hc, h => exact (updV_ne f vx hne).trans h
 | 15, hne, hu, hc, h => exact (updV_ne f vx hne).trans h
 | 16, hne, hu, hc, h => exact (updV_ne f vx hne).trans h
 | 17, hne, hu, hc, h => obtain ⟨g, h1, h2⟩ := h; exact ⟨g, (updV_ne f vx hne).trans h1, (c0R_stp hR).fb h2 (by decide)⟩
 | 18, hne, hu, hc, h => obtain ⟨g1, g2, g3, h1, h2, h3, h4⟩ := h; exact ⟨g1, g2, g3, (updV_ne f vx hne).trans h1, (c0R_stp hR).row h2 (by decide), (c0R_stp hR).row h3 (by decide), (c0R_stp hR).fb h4 (by decide)⟩
 | 19, hne, hu, hc, h => exact (updV_ne f vx hne).trans h
 | 20, hne, hu, hc, h => exact (updV_ne f vx hne).trans h
 | 21, hne, hu, hc, h => obtain ⟨l2, h1⟩ := h; exact ⟨l2, h1.below (c0R_bel hR (fun e => hne e.symm))⟩
 | ix + 22, _, _, _, _ => trivial
def RetCwb (w : World) (v N : Nat) (x : WB) (e : Ending) (w' : World) : Prop :=
 ∃ (gB gI : Nat) (B : List ZH) (J : List AL), e = .returned (.agg #[.int .i64 v, .slice (some ⟨gB, 0, none⟩) N N, .slice (some ⟨gI, 0, none⟩) N N]) ∧ Ow w v N gB gI B (J.map AL.v) J w' ∧ B.map ZH.ws = x.B.l.map ZH.ws ∧ J.map AL.pa = x.I.l.map AL.pa
theorem EAt.at3 {w : World} {ex : List (Option Nat)} {A : Option Addr} {xs : List Value} (h : EAt w ex A xs) : xs = [] ∨ ∃ ad : Addr, A = some ad ∧ ad.block < w.heap.size ∧ ∀ (j : Nat) (x : Value), xs[j]? = some x → w.cell? (ad.add j) = some x := by
 rcases h with e | ⟨ad, e, hs, hc⟩
 · exact .inl e
 · exact .inr ⟨ad, e, hs.1, hc⟩
set_option maxHeartbeats 12800000 in
theorem copiedWeb_any (x : WB) (v N : Nat) (ex : List (Option Nat)) (w : World) (h : WBok w ex x) (ho : WOk x v N) (hk : WLk x N) :
 Calls Tryz.prog 73 #[x.a] w (RetCwb w v N x) := by
 have hN := ho.n256
 have hN1 := hk.n1
 have hv := ho.v256
 have h1 := ho.w
 have h2 := ho.bn.symm
 have h3 := ho.inn.symm
 have hbd := ho.bd
 have harc := ho.arcs
 have hris := hk.ris
 obtain ⟨XW, ⟨BA, bn, bc, Bl⟩, ⟨IA, inn, ic, Il⟩⟩ := x
 simp only at h1 h2 h3 hbd harc hris
 subst h1
 subst h2
 subst h3
 obtain ⟨z0, hz0, -⟩ := get_at h.b.len (show 0 < N by omega)
 obtain ⟨adB, hA, -⟩ := h.b.cell hz0
 simp only at hA
 subst hA
 obtain ⟨r0, hr0, -⟩ := get_at h.i.len (show 0 < N by omega)
 obtain ⟨adI, hA, -⟩ := h.i.cell hr0
 simp only at hA
 subst hA
 clear hz0 hr0 ho hk
 have hbl : Bl.length = N := h.b.len
 have hil : Il.length = N := h.i.len
 have HX := hid (show (∀ u, Below w.heap.size w u → (Bl.flatMap ZH.cs).length = N * 2 ∧ ((Bl.flatMap ZH.cs) = [] ∨ ∃ ad : Addr, some adB = some ad ∧ ad.block < u.heap.size ∧ ∀ (j : Nat) (x : Value), (Bl.flatMap ZH.cs)[j]? = some x → u.cell? (ad.add j) = some x)) ∧ (∀ u, Below w.heap.size w u → (Il.map AL.v).length = N * 1 ∧ ((Il.map AL.v) = [] ∨ ∃ ad : Addr, some adI = some ad ∧ ad.block < u.heap.size ∧ ∀ (j : Nat) (x : Value), (Il.map AL.v)[j]? = some x → u.cell? (ad.add j) = some x)) from
  ⟨fun u hu => ⟨by rw [flat_len ZH.cs_len, hbl], (h.below hu).b.lies.at3⟩, fun u hu => ⟨by rw [List.length_map, hil, Nat.mul_one], (h.below hu).i.lies.at3⟩⟩)
 have HW := hid h
 have Hbd := hid hbd
 have Harc := hid harc
 have Hris := hid hris
 have Hbl := hid hbl
 have Hil := hid hil
 have hN2 : N ≤ 100000 := by omega
 clear h hbd harc hris hbl hil
 unfold WB.a
 simp only
 have H1 := (Below.refl w.heap.size w).alloc (Nat.le_refl _) (.cells #[.int .i64 v, .slice (some adB) N bc, .slice (some adI) N ic] 67)
 have hbx := Fb.new w #[.int .i64 v, .slice (some adB) N bc, .slice (some adI) N ic] 67
 have HS1 := hid (show Fb ((w.alloc (.cells #[.int .i64 v, .slice (some adB) N bc, .slice (some adI) N ic] 67)).alloc (.cells #[.int .i64 0, .slice none 0 0, .slice none 0 0] 67)) w.heap.size #[.int .i64 v, .slice (some adB) N bc, .slice (some adI) N ic] 67 ∧ Fb ((w.alloc (.cells #[.int .i64 v, .slice (some adB) N bc, .slice (some adI) N ic] 67)).alloc (.cells #[.int .i64 0, .slice none 0 0, .slice none 0 0] 67)) (w.heap.size + 1) zWeb 67 ∧ Below w.heap.size w ((w.alloc (.cells #[.int .i64 v, .slice (some adB) N bc, .slice (some adI) N ic] 67)).alloc (.cells #[.int .i64 0, .slice none 0 0, .slice none 0 0] 67)) from
  ⟨hbx.below ((Below.refl _ _).alloc (Nat.le_refl _) _) hbx.lt, by
    have := Fb.new (w.alloc (.cells #[.int .i64 v, .slice (some adB) N bc, .slice (some adI) N ic] 67)) #[.int .i64 0, .slice none 0 0, .slice none 0 0] 67
    unfold zWeb
    simpa using this, H1.alloc H1.size _⟩)
 clear H1 hbx
 go_enter Tryz.func73, Tryz.ntmps73
 go_upto_region 1 with fail
 rename_i Kx hKx
 generalize (w.alloc (.cells #[.int .i64 v, .slice (some adB) N bc, .slice (some adI) N ic] 67)).alloc (.cells #[.int .i64 0, .slice none 0 0, .slice none 0 0] 67) = w2 at *
 refine wp_region_factsI (fun _ _ => True) (c1F w.heap.size v N adB adI bc ic Bl Il) (fun u => Fb u w.heap.size #[.int .i64 v, .slice (some adB) N bc, .slice (some adI) N ic] 67 ∧ Fb u (w.heap.size + 1) zWeb 67 ∧ Below w.heap.size w u) c1U (c1R ) Kx (fun _ _ h => h) 11 11 (some 8 :: some 9 :: some 10 :: some 11 :: some 12 :: some 13 :: some 14 :: some 15 :: some 16 :: some 3 :: none :: []) (by kernel_rfl) (by kernel_rfl) (by kernel_rfl) (by kernel_rfl) (by kernel_rfl) (by kernel_rfl) (by decide)
  (c1F_st (fun j h e => by subst e; exact Bool.false_ne_true (h.symm.trans (by kernel_rfl)))) ?bs ?gb ?gs ?ar ?en
 case bs => exact ⟨HS1.out.1.below (Below.refl _ _).drew HS1.out.1.lt, HS1.out.2.1.below (Below.refl _ _).drew HS1.out.2.1.lt, HS1.out.2.2.drew⟩
 case gb =>
  exact fun c => trivial
 case gs =>
  exact fun _ _ _ _ _ _ _ _ => trivial
 case ar =>
  intro j o f u ho hi hB hG hpre K hK
  match j, ho, hG, hpre, hK with
  | 0, ho, hG, hpre, hK =>
    obtain rfl := Option.some.inj ho
    refine wpOp_step rfl fun K' hK' => ?_
    simp only [putL, updV]
    go_simp
    have hz := hK' _ _ (hK (.pointer (some ⟨w.heap.size, 0, none⟩)) (u) (hB) (c1R_refl _ _ (by decide)) (rfl))
    refine Eq.mp (congrArg (fun act => K' act (u)) ?_) hz
    kernel_rfl
  | 1, ho, hG, hpre, hK =>
    obtain rfl := Option.some.inj ho
    obtain ⟨x0, x1, x2⟩ := hB.1.three
    have hl := hB.1.lt
    have e0 : f 0 = .pointer (some ⟨w.heap.size, 0, none⟩) := hpre ⟨0, .data⟩ (by simp) rfl (.inl rfl)
    obtain ⟨f, rfl⟩ := fixG f 0 _ e0
    clear e0
    refine wpOp_step rfl fun K' hK' => ?_
    simp only [putL, updV]
    go_simp
    have hz := hK' _ _ (hK (.int .i64 v) (u) (hB) (c1R_refl _ _ (by decide)) (rfl))
    refine Eq.mp (congrArg (fun act => K' act (u)) ?_) hz
    kernel_rfl
  | 2, ho, hG, hpre, hK =>
    obtain rfl := Option.some.inj ho
    refine wpOp_step rfl fun K' hK' => ?_
    simp only [putL, updV]
    go_simp
    have hz := hK' _ _ (hK (.pointer (some ⟨w.heap.size, 1, none⟩)) (u) (hB) (c1R_refl _ _ (by decide)) (rfl))
    refine Eq.mp (congrArg (fun act => K' act (u)) ?_) hz
    kernel_rfl
  | 3, ho, hG, hpre, hK =>
    obtain rfl := Option.some.inj ho
    obtain ⟨x0, x1, x2⟩ := hB.1.three
    have hl := hB.1.lt
    have e2 : f 2 = .pointer (some ⟨w.heap.size, 1, none⟩) := hpre ⟨2, .data⟩ (by simp) rfl (.inl rfl)
    obtain ⟨f, rfl⟩ := fixG f 2 _ e2
    clear e2
    refine wpOp_step rfl fun K' hK' => ?_
    simp only [putL, updV]
    go_simp
    have hz := hK' _ _ (hK (.slice (some adB) N bc) (u) (hB) (c1R_refl _ _ (by decide)) (rfl))
    refine Eq.mp (congrArg (fun act => K' act (u)) ?_) hz
    kernel_rfl
  | 4, ho, hG, hpre, hK =>
    obtain rfl := Option.some.inj ho
    have e3 : f 3 = .slice (some adB) N bc := hpre ⟨3, .data⟩ (by simp) rfl (.inl rfl)
    obtain ⟨f, rfl⟩ := fixG f 3 _ e3
    clear e3
    refine wpOp_step rfl fun K' hK' => ?_
    simp only [putL, updV]
    go_simp
    go_at_call 107
    refine (cpdSet_any (some adB) N bc (Bl.flatMap ZH.cs) u (HX.out.1 u hB.2.2).1 hN2 (HX.out.1 u hB.2.2).2 (one_sets Bl)).mono ?_
    rintro e u5 ⟨rfl, hfb, hb⟩
    have hz := hK' _ _ (hK (.slice (some ⟨u.heap.size, 0, none⟩) N N) (u5) (⟨hB.1.below hb hB.1.lt, hB.2.1.below hb hB.2.1.lt, below_step hB.2.2 hb⟩) (c1R_of hb (by decide)) (⟨_, rfl, hfb, hB.2.2.size⟩))
    refine Eq.mp (congrArg (fun act => K' act (u5)) ?_) hz
    kernel_rfl
  | 5, ho, hG, hpre, hK =>
    obtain rfl := Option.some.inj ho
    refine wpOp_step rfl fun K' hK' => ?_
    simp only [putL, updV]
    go_simp
    have hz := hK' _ _ (hK (.pointer (some ⟨w.heap.size, 2, none⟩)) (u) (hB) (c1R_refl _ _ (by decide)) (rfl))
    refine Eq.mp (congrArg (fun act => K' act (u)) ?_) hz
    kernel_rfl
  | 6, ho, hG, hpre, hK =>
    obtain rfl := Option.some.inj ho
    obtain ⟨x0, x1, x2⟩ := hB.1.three
    have hl := hB.1.lt
    have e5 : f 5 = .pointer (some ⟨w.heap.size, 2, none⟩) := hpre ⟨5, .data⟩ (by simp) rfl (.inl rfl)
    obtain ⟨f, rfl⟩ := fixG f 5 _ e5
    clear e5
    refine wpOp_step rfl fun K' hK' => ?_
    simp only [putL, updV]
    go_simp
    have hz := hK' _ _ (hK (.slice (some adI) N ic) (u) (hB) (c1R_refl _ _ (by decide)) (rfl))
    refine Eq.mp (congrArg (fun act => K' act (u)) ?_) hz
    kernel_rfl
  | 7, ho, hG, hpre, hK =>
    obtain rfl := Option.some.inj ho
    have e6 : f 6 = .slice (some adI) N ic := hpre ⟨6, .data⟩ (by simp) rfl (.inl rfl)
    obtain ⟨f, rfl⟩ := fixG f 6 _ e6
    clear e6
    refine wpOp_step rfl fun K' hK' => ?_
    simp only [putL, updV]
    go_simp
    go_at_call 108
    refine (cpdRow_any (some adI) N ic (Il.map AL.v) u (HX.out.2 u hB.2.2).1 hN2 (HX.out.2 u hB.2.2).2 (one_rows Il)).mono ?_
    rintro e u5 ⟨rfl, hfi, hb⟩
    have hz := hK' _ _ (hK (.slice (some ⟨u.heap.size, 0, none⟩) N N) (u5) (⟨hB.1.below hb hB.1.lt, hB.2.1.below hb hB.2.1.lt, below_step hB.2.2 hb⟩) (c1R_of hb (by decide)) (⟨_, rfl, hfi, hB.2.2.size⟩))
    refine Eq.mp (congrArg (fun act => K' act (u5)) ?_) hz
    kernel_rfl
  | 8, ho, hG, hpre, hK =>
    obtain rfl := Option.some.inj ho
    have e1 : f 1 = .int .i64 v := hpre ⟨1, .data⟩ (by simp) rfl (.inl rfl)
    obtain ⟨gB, e4, hfb, hgb⟩ : ∃ gB : Nat, f 4 = .slice (some ⟨gB, 0, none⟩) N N ∧ Fb u gB (Bl.flatMap ZH.cs).toArray 49 ∧ w.heap.size ≤ gB := hpre ⟨4, .data⟩ (by simp) rfl (.inl rfl)
    obtain ⟨gI, e7, hfi, hgi⟩ : ∃ gI : Nat, f 7 = .slice (some ⟨gI, 0, none⟩) N N ∧ Fb u gI (Il.map AL.v).toArray 64 ∧ w.heap.size ≤ gI := hpre ⟨7, .data⟩ (by simp) rfl (.inl rfl)
    obtain ⟨f, rfl⟩ := fixG f 1 _ e1
    rw [updV_ne _ _ (by decide)] at e4
    rw [updV_ne _ _ (by decide)] at e7
    obtain ⟨f, rfl⟩ := fixG f 4 _ e4
    rw [updV_ne _ _ (by decide)] at e7
    obtain ⟨f, rfl⟩ := fixG f 7 _ e7
    clear e1 e4 e7
    refine wpOp_step rfl fun K' hK' => ?_
    simp only [putL, updV]
    go_simp
    have hz := hK' _ _ (hK (.agg #[.int .i64 v, .slice (some ⟨gB, 0, none⟩) N N, .slice (some ⟨gI, 0, none⟩) N N]) (u) (hB) (c1R_refl _ _ (by decide)) (⟨gB, gI, rfl, hfb, hfi, hgb, hgi⟩))
    refine Eq.mp (congrArg (fun act => K' act (u)) ?_) hz
    kernel_rfl
  | 9, ho, hG, hpre, hK =>
    obtain rfl := Option.some.inj ho
    have hb := (Below.refl u.heap.size u).alloc (Nat.le_refl _) (.cells zWeb 67)
    have hl := hB.2.1.lt
    refine wpOp_step rfl fun K' hK' => ?_
    simp only [putL, updV]
    go_simp
    have hz := hK' _ _ (hK (.pointer (some ⟨u.heap.size, 0, none⟩)) (u.alloc (.cells zWeb 67)) (⟨hB.1.below hb hB.1.lt, hB.2.1.below hb hB.2.1.lt, below_step hB.2.2 hb⟩) (c1R_of hb (by decide)) (⟨_, rfl, Fb.new u _ _, hl⟩))
    refine Eq.mp (congrArg (fun act => K' act (u.alloc (.cells zWeb 67))) ?_) hz
    kernel_rfl
  | 10, ho, hG, hpre, hK =>
    obtain rfl := Option.some.inj ho
    have hl := hB.2.1.lt
    obtain ⟨bO, e9, hz, hbo⟩ : ∃ bO : Nat, f 9 = .pointer (some ⟨bO, 0, none⟩) ∧ Fb u bO zWeb 67 ∧ w.heap.size + 1 < bO := hpre ⟨9, .data⟩ (by simp) rfl (.inr rfl)
    obtain ⟨gB, gI, e8, hfb, hfi, hgb, hgi⟩ : ∃ gB gI : Nat, f 8 = .agg #[.int .i64 v, .slice (some ⟨gB, 0, none⟩) N N, .slice (some ⟨gI, 0, none⟩) N N] ∧ Fb u gB (Bl.flatMap ZH.cs).toArray 49 ∧ Fb u gI (Il.map AL.v).toArray 64 ∧ w.heap.size ≤ gB ∧ w.heap.size ≤ gI := hpre ⟨8, .data⟩ (by simp) rfl (.inl rfl)
    obtain ⟨z0, z1, z2⟩ := hz.three
    have f0 := hz.frozen 0
    have f1 := hz.frozen 1
    have f2 := hz.frozen 2
    have hlz := hz.lt
    have hs3 := three_stp hz (.int .i64 v) (.slice (some ⟨gB, 0, none⟩) N N) (.slice (some ⟨gI, 0, none⟩) N N)
    have hR3 := c1R_w hs3
    obtain ⟨f, rfl⟩ := fixG f 9 _ e9
    rw [updV_ne _ _ (by decide)] at e8
    obtain ⟨f, rfl⟩ := fixG f 8 _ e8
    clear e9 e8
    refine wpOp_step rfl fun K' hK' => ?_
    simp only [putL, updV]
    go_simp
    have hz := hK' _ _ (hK (undef) (((u.setCell ⟨bO, 0, none⟩ (.int .i64 v)).setCell ⟨bO, 1, none⟩ (.slice (some ⟨gB, 0, none⟩) N N)).setCell ⟨bO, 2, none⟩ (.slice (some ⟨gI, 0, none⟩) N N)) (⟨((hB.1.far (by show w.heap.size ≠ bO; omega) _).far (by show w.heap.size ≠ bO; omega) _).far (by show w.heap.size ≠ bO; omega) _, ((hB.2.1.far (by show w.heap.size + 1 ≠ bO; omega) _).far (by show w.heap.size + 1 ≠ bO; omega) _).far (by show w.heap.size + 1 ≠ bO; omega) _, ((hB.2.2.setCell (by show w.heap.size ≤ bO; omega) _).setCell (by show w.heap.size ≤ bO; omega) _).setCell (by show w.heap.size ≤ bO; omega) _⟩) (hR3) (⟨bO, gB, gI, rfl, three_set hz _ _ _, hbo, hs3.fb3 hfb (by decide), hs3.fb3 hfi (by decide), hgb, hgi⟩))
    refine Eq.mp (congrArg (fun act => K' act (((u.setCell ⟨bO, 0, none⟩ (.int .i64 v)).setCell ⟨bO, 1, none⟩ (.slice (some ⟨gB, 0, none⟩) N N)).setCell ⟨bO, 2, none⟩ (.slice (some ⟨gI, 0, none⟩) N N))) ?_) hz
    kernel_rfl
  | j + 11, ho, hG, hpre, hK => exact absurd hi (by omega)
 case en =>
  intro Q2 hQ2 f u hB hF
  obtain ⟨bO, gB, gI, e9, hfo, hbo, hfb, hfi, hgb, hgi⟩ : ∃ bO gB gI : Nat, f 9 = .pointer (some ⟨bO, 0, none⟩) ∧ Fb u bO #[.int .i64 v, .slice (some ⟨gB, 0, none⟩) N N, .slice (some ⟨gI, 0, none⟩) N N] 67 ∧ w.heap.size + 1 < bO ∧ Fb u gB (Bl.flatMap ZH.cs).toArray 49 ∧ Fb u gI (Il.map AL.v).toArray 64 ∧ w.heap.size ≤ gB ∧ w.heap.size ≤ gI := hF 10 (by decide) rfl
  have Hfo := hid hfo
  have Hfb := hid hfb
  have Hfi := hid hfi
  have HS2 := hid hB
  obtain ⟨f, rfl⟩ := fixG f 9 _ e9
  clear e9
  clear hF
  show wpAny _ _ _ _ 0 (tailArr 11 11) _ _
  refine ⟨by kernel_rfl, hQ2 _ _ (hKx _ _ ?_)⟩
  simp only [putL, updV]
  clear hfo hfb hfi hB HS1
  have HBx0 := hid (show Bx w #[.int .i64 v, .slice (some ⟨gB, 0, none⟩) N N, .slice (some ⟨gI, 0, none⟩) N N] #[.int .i64 v, .slice (some adB) N bc, .slice (some adI) N ic] bO u from ⟨Hfo.out, HS2.out.1, HS2.out.2.1, HS2.out.2.2⟩)
  have HCw0 := hid (show Cw w v N gB gI 0 Bl (Il.map AL.v) [] u from ⟨HS2.out.2.2, hgb, hgi, Hfb.out, Hfi.out, Hbl.out, by rw [List.length_map, Hil.out], (fun j z hj => by omega), (fun r hr => by cases hr), (fun j k x y g hj => by simp at hj)⟩)
  have HI0 := hid (show ∃ (B : List ZH) (M : List Value) (J : List AL), Cw w v N gB gI 0 B M J u ∧ Bx w #[.int .i64 v, .slice (some ⟨gB, 0, none⟩) N N, .slice (some ⟨gI, 0, none⟩) N N] #[.int .i64 v, .slice (some adB) N bc, .slice (some adI) N ic] bO u ∧ CsV Bl Il 0 B M J from ⟨_, _, _, HCw0.out, HBx0.out, CsV.start Bl Il⟩)
  obtain ⟨c0, c1, c2⟩ := HBx0.out.oo.three
  clear Hfo Hfb Hfi HS2 HCw0 HBx0 HX
  go_wp2_with fail
  clear c0 c1 c2
  go_loopw [20] (fun kv wr => ∃ k : Nat, k ≤ N ∧ kv = .int .i64 k ∧ Hid (∃ (B : List ZH) (M : List Value) (J : List AL), Cw w v N gB gI k B M J wr ∧ Bx w #[.int .i64 v, .slice (some ⟨gB, 0, none⟩) N N, .slice (some ⟨gI, 0, none⟩) N N] #[.int .i64 v, .slice (some adB) N bc, .slice (some adI) N ic] bO wr ∧ CsV Bl Il k B M J)) (fun kv _ => N - (intOf kv).toNat)
  case atStart => exact ⟨0, by omega, rfl, HI0⟩
  case round =>
   clear HI0
   obtain ⟨k, hk, rfl, HI⟩ := hrel
   obtain ⟨B, M, J, hcw, hbx, hcs⟩ := HI.out
   have HCw := hid hcw
   have HBx := hid hbx
   have HCs := hid hcs
   clear HI hcw hbx hcs
   by_cases hlt : k < N
   · have n0 : (0 : Int) ≤ k := by omega
     have n1 : (k : Int) < N := by omega
     have n2 : (k : Int).toNat = k := by omega
     obtain ⟨z, hz, hzm⟩ := get_at Hbl.out hlt
     obtain ⟨r, hr, hrm⟩ := get_at Hil.out hlt
     have hM : M[k]? = some r.v := by rw [HCs.out.mh k (Nat.le_refl _), hr]; rfl
     have y0 := HCw.out.cellM hM
     have HZ := hid (fun (u : World) (hu : Below w.heap.size w u) => by
      obtain ⟨ad, e, a1, a2, a3⟩ := (HW.out.below hu).b.cell (i := k) (y := z) hz
      obtain rfl := Option.some.inj e
      exact (show adB.block < u.heap.size ∧ u.cell? (adB.add (k * 2)) = some (.int .i64 z.W) ∧ u.cell? ⟨(adB.add (k * 2)).block, (adB.add (k * 2)).off + 1, none⟩ = some (.slice z.A z.n z.c) from ⟨a1, a2, a3⟩))
     have HZA := hid (fun (u : World) (hu : Below w.heap.size w u) => ((HW.out.below hu).b.all z hzm).arg)
     have hzw := (Hbd.out z hzm).1
     have hzf := (Hbd.out z hzm).2
     have hzl := (HW.out.b.all z hzm).len
     have HZW := hid (fun (u : World) (g : Nat) (hr : Row u g z.ws) => (show ZWt u v ⟨z.W, some ⟨g, 0, none⟩, z.n, z.n, z.ws⟩ from ⟨hzw, hzf, by have := ArgT.row hr hzf.ok; rwa [hzl] at this⟩))
     have hn5 : z.n ≤ 100000 := by rw [← hzl, hzf.len]; unfold Bs.nw; omega
     have Hz := hid (show B[k]? = some z from by rw [HCs.out.bh k (Nat.le_refl _)]; exact hz)
     have Hy := hid hz
     have HR := hid (fun (u : World) (hu : Below w.heap.size w u) => And.intro (show (r.l.flatMap AH.cells).length = r.n * 6 from by rw [flat_len AH.cells_len, (HW.out.i.all r hrm).len]) ((HW.out.below hu).i.all r hrm).lies.at3)
     have hn6 : r.n ≤ 100000 := by have := (Harc.out r hrm).1; omega
     have HAr := hid (fun (a : AH) (ha : a ∈ r.l) => And.intro ((Harc.out r hrm).2 a ha).2 (fun (u : World) (hu : Below w.heap.size w u) => (((HW.out.below hu).i.all r hrm).all a ha).arg))
     have HAc := hid (fun (i : Nat) (a : AH) (ha : r.l[i]? = some a) (u : World) (hu : Below w.heap.size w u) => ((HW.out.below hu).i.all r hrm).cell ha)
     have Hrr := hid (Hris.out r hrm)
     have Hrl := hid ((HW.out.i.all r hrm).len)
     have Hm := hid hM
     have Hr := hid hr
     have HMl := hid (And.intro HCw.out.ml HCw.out.bl)
     clear hz hzm hr hrm hM hzw hzf hzl
     unfold AL.v at y0 Hm
     obtain ⟨W, A, n, c, ws⟩ := z
     obtain ⟨rA, rn, rc, src⟩ := r
     simp only at *
     go_upto_region 5 with fail
     rename_i Kx hKx
     clear y0
     refine wp_region_factsI (fun j u => j = 10 → Cw w v N gB gI k B M J u) (c5F w v N gB gI bO k adB bc W A n c ws B M J) (fun u => Bx w #[.int .i64 v, .slice (some ⟨gB, 0, none⟩) N N, .slice (some ⟨gI, 0, none⟩) N N] (#[.int .i64 v, .slice (some adB) N bc, .slice (some adI) N ic]) bO u) c5U (c5R ) Kx (fun _ _ h => h) 11 11 (some 25 :: some 26 :: some 27 :: some 28 :: some 29 :: some 30 :: some 31 :: some 32 :: some 33 :: some 34 :: none :: []) (by kernel_rfl) (by kernel_rfl) (by kernel_rfl) (by kernel_rfl) (by kernel_rfl) (by kernel_rfl) (by decide)
      (c5F_st) ?bs ?gb ?gs ?ar ?en
     case bs => exact HBx.out.below (Below.refl _ _).drew
     case gb =>
      exact fun c _ => HCw.out.below (Below.refl _ _).drew
     case gs =>
      intro j u u' c hR hne hnr hG hc
      subst hc
      exact (hG rfl).below (c5R_bel hR (fun e => hne e.symm))
     case ar =>
      intro j o f u ho hi hB hG hpre K hK
      match j, ho, hG, hpre, hK with
      | 0, ho, hG, hpre, hK =>
        obtain rfl := Option.some.inj ho
        refine wpOp_step rfl fun K' hK' => ?_
        simp only [putL, updV]
        go_simp
        have hz := hK' _ _ (hK (.pointer (some ⟨bO, 1, none⟩)) (u) (hB) (c5R_refl _ _ (by decide)) (rfl))
        refine Eq.mp (congrArg (fun act => K' act (u)) ?_) hz
        kernel_rfl
      | 1, ho, hG, hpre, hK =>
        obtain rfl := Option.some.inj ho
        obtain ⟨x0, x1, x2⟩ := hB.oo.three
        have hl := hB.oo.lt
        have e0 : f 0 = .pointer (some ⟨bO, 1, none⟩) := hpre ⟨0, .data⟩ (by simp) rfl (.inl rfl)
        obtain ⟨f, rfl⟩ := fixG f 0 _ e0
        clear e0
        refine wpOp_step rfl fun K' hK' => ?_
        simp only [putL, updV]
        go_simp
        have hz := hK' _ _ (hK (.slice (some ⟨gB, 0, none⟩) N N) (u) (hB) (c5R_refl _ _ (by decide)) (rfl))
        refine Eq.mp (congrArg (fun act => K' act (u)) ?_) hz
        kernel_rfl
      | 2, ho, hG, hpre, hK =>
        obtain rfl := Option.some.inj ho
        refine wpOp_step rfl fun K' hK' => ?_
        simp only [putL, updV]
        go_simp
        have hz := hK' _ _ (hK (.int .i64 (k : Int)) (u) (hB) (c5R_refl _ _ (by decide)) (rfl))
        refine Eq.mp (congrArg (fun act => K' act (u)) ?_) hz
        kernel_rfl
      | 3, ho, hG, hpre, hK =>
        obtain rfl := Option.some.inj ho
        refine wpOp_step rfl fun K' hK' => ?_
        simp only [putL, updV]
        go_simp
        have hz := hK' _ _ (hK (.pointer (some ⟨w.heap.size, 1, none⟩)) (u) (hB) (c5R_refl _ _ (by decide)) (rfl))
        refine Eq.mp (congrArg (fun act => K' act (u)) ?_) hz
        kernel_rfl
      | 4, ho, hG, hpre, hK =>
        obtain rfl := Option.some.inj ho
        obtain ⟨x0, x1, x2⟩ := hB.ss.three
        have hl := hB.ss.lt
        have e3 : f 3 = .pointer (some ⟨w.heap.size, 1, none⟩) := hpre ⟨3, .data⟩ (by simp) rfl (.inl rfl)
        obtain ⟨f, rfl⟩ := fixG f 3 _ e3
        clear e3
        refine wpOp_step rfl fun K' hK' => ?_
        simp only [putL, updV]
        go_simp
        have hz := hK' _ _ (hK (.slice (some adB) N bc) (u) (hB) (c5R_refl _ _ (by decide)) (rfl))
        refine Eq.mp (congrArg (fun act => K' act (u)) ?_) hz
        kernel_rfl
      | 5, ho, hG, hpre, hK =>
        obtain rfl := Option.some.inj ho
        refine wpOp_step rfl fun K' hK' => ?_
        simp only [putL, updV]
        go_simp
        have hz := hK' _ _ (hK (.int .i64 (k : Int)) (u) (hB) (c5R_refl _ _ (by decide)) (rfl))
        refine Eq.mp (congrArg (fun act => K' act (u)) ?_) hz
        kernel_rfl
      | 6, ho, hG, hpre, hK =>
        obtain rfl := Option.some.inj ho
        have k0 : (0 : Int) ≤ k := by omega
        have k1 : (k : Int) < N := by omega
        have k2 : (k : Int).toNat = k := by omega
        have e4 : f 4 = .slice (some adB) N bc := hpre ⟨4, .data⟩ (by simp) rfl (.inl rfl)
        have e5 : f 5 = .int .i64 (k : Int) := hpre ⟨5, .data⟩ (by simp) rfl (.inl rfl)
        obtain ⟨f, rfl⟩ := fixG f 4 _ e4
        rw [updV_ne _ _ (by decide)] at e5
        obtain ⟨f, rfl⟩ := fixG f 5 _ e5
        clear e4 e5
        refine wpOp_step rfl fun K' hK' => ?_
        simp only [putL, updV]
        go_simp
        have hz := hK' _ _ (hK (.pointer (some (adB.add (k * 2)))) (u) (hB) (c5R_refl _ _ (by decide)) (rfl))
        refine Eq.mp (congrArg (fun act => K' act (u)) ?_) hz
        kernel_rfl
      | 7, ho, hG, hpre, hK =>
        obtain rfl := Option.some.inj ho
        obtain ⟨y0, y1, y2⟩ := HZ.out u hB.bel
        have hl : adB.block < u.heap.size := y0
        have e6 : f 6 = .pointer (some (adB.add (k * 2))) := hpre ⟨6, .data⟩ (by simp) rfl (.inl rfl)
        obtain ⟨f, rfl⟩ := fixG f 6 _ e6
        clear e6
        refine wpOp_step rfl fun K' hK' => ?_
        simp only [putL, updV]
        go_simp
        have hz := hK' _ _ (hK (.agg #[.int .i64 W, .slice A n c]) (u) (hB) (c5R_refl _ _ (by decide)) (rfl))
        refine Eq.mp (congrArg (fun act => K' act (u)) ?_) hz
        kernel_rfl
      | 8, ho, hG, hpre, hK =>
        obtain rfl := Option.some.inj ho
        have e7 : f 7 = .agg #[.int .i64 W, .slice A n c] := hpre ⟨7, .data⟩ (by simp) rfl (.inl rfl)
        obtain ⟨f, rfl⟩ := fixG f 7 _ e7
        clear e7
        refine wpOp_step rfl fun K' hK' => ?_
        simp only [putL, updV]
        go_simp
        go_at_call 109
        refine (copiedSetE_any W A n c ws u (HZA.out u hB.bel) hn5).mono ?_
        rintro e u5 ⟨g, rfl, hr, -, hb⟩
        have hz := hK' _ _ (hK (.agg #[.int .i64 W, .slice (some ⟨g, 0, none⟩) n n]) (u5) (hB.below hb) (c5R_of hb (by decide)) (⟨g, rfl, hr⟩))
        refine Eq.mp (congrArg (fun act => K' act (u5)) ?_) hz
        kernel_rfl
      | 9, ho, hG, hpre, hK =>
        obtain rfl := Option.some.inj ho
        have k0 : (0 : Int) ≤ k := by omega
        have k1 : (k : Int) < N := by omega
        have k2 : (k : Int).toNat = k := by omega
        have e1 : f 1 = .slice (some ⟨gB, 0, none⟩) N N := hpre ⟨1, .data⟩ (by simp) rfl (.inl rfl)
        have e2 : f 2 = .int .i64 (k : Int) := hpre ⟨2, .data⟩ (by simp) rfl (.inl rfl)
        obtain ⟨f, rfl⟩ := fixG f 1 _ e1
        rw [updV_ne _ _ (by decide)] at e2
        obtain ⟨f, rfl⟩ := fixG f 2 _ e2
        clear e1 e2
        refine wpOp_step rfl fun K' hK' => ?_
        simp only [putL, updV]
        go_simp
        have hz := hK' _ _ (hK (.pointer (some ⟨gB, k * 2, none⟩)) (u) (hB) (c5R_refl _ _ (by decide)) (rfl))
        refine Eq.mp (congrArg (fun act => K' act (u)) ?_) hz
        kernel_rfl
      | 10, ho, hG, hpre, hK =>
        obtain rfl := Option.some.inj ho
        have hcw := hG rfl
        obtain ⟨y0, y1⟩ := hcw.cellB Hz.out
        have f0 := hcw.fb.frozen (k * 2)
        have f1 := hcw.fb.frozen (k * 2 + 1)
        have hl := hcw.fb.lt
        have e9 : f 9 = .pointer (some ⟨gB, k * 2, none⟩) := hpre ⟨9, .data⟩ (by simp) rfl (.inl rfl)
        obtain ⟨g, e8, hr⟩ : ∃ g : Nat, f 8 = .agg #[.int .i64 W, .slice (some ⟨g, 0, none⟩) n n] ∧ Row u g ws := hpre ⟨8, .data⟩ (by simp) rfl (.inl rfl)
        obtain ⟨f, rfl⟩ := fixG f 9 _ e9
        rw [updV_ne _ _ (by decide)] at e8
        obtain ⟨f, rfl⟩ := fixG f 8 _ e8
        clear e9 e8
        have hcw2 := hcw.setB hlt (z := ⟨W, some ⟨g, 0, none⟩, n, n, ws⟩) (HZW.out u g hr)
        refine wpOp_step rfl fun K' hK' => ?_
        simp only [putL, updV]
        go_simp
        have hz := hK' _ _ (hK (undef) ((u.setCell ⟨gB, k * 2, none⟩ (.int .i64 W)).setCell ⟨gB, k * 2 + 1, none⟩ (.slice (some ⟨g, 0, none⟩) n n)) (hB.put (two_cells hcw.fb _ _ _ _) (by decide) hcw2.bel) (c5R_w (two_cells hcw.fb _ _ _ _)) (⟨g, hcw2⟩))
        refine Eq.mp (congrArg (fun act => K' act ((u.setCell ⟨gB, k * 2, none⟩ (.int .i64 W)).setCell ⟨gB, k * 2 + 1, none⟩ (.slice (some ⟨g, 0, none⟩) n n))) ?_) hz
        kernel_rfl
      | j + 11, ho, hG, hpre, hK => exact absurd hi (by omega)
     case en =>
      intro Q2 hQ2 f u hB hF
      obtain ⟨g, hcw⟩ : ∃ g : Nat, Cw w v N gB gI (k + 1) (B.set k ⟨W, some ⟨g, 0, none⟩, n, n, ws⟩) M J u := hF 10 (by decide) rfl
      have HCw5 := hid hcw
      have HBx5 := hid hB
      clear hF
      show wpAny _ _ _ _ 0 (tailArr 11 11) _ _
      refine ⟨by kernel_rfl, hQ2 _ _ (hKx _ _ ?_)⟩
      simp only [putL, updV]
      clear hcw hB HCw HBx
      obtain ⟨B5, hB5⟩ : ∃ B5, B.set k ⟨W, some ⟨g, 0, none⟩, n, n, ws⟩ = B5 := ⟨_, rfl⟩
      have HB5 := hid hB5
      rw [hB5] at HCw5
      clear hB5 HZ HZA HZW Hz
      go_upto_region 6 with fail
      rename_i Kx hKx
      refine wp_region_factsI (fun j u => (j = 4 ∨ j = 6) → Cw w v N gB gI (k + 1) B5 M J u) (c6F w v N gB gI bO k rA rn rc src B5 M J) (fun u => Bx w #[.int .i64 v, .slice (some ⟨gB, 0, none⟩) N N, .slice (some ⟨gI, 0, none⟩) N N] (#[.int .i64 v, .slice (some adB) N bc, .slice (some adI) N ic]) bO u) c6U (c6R ) Kx (fun _ _ h => h) 7 7 (some 35 :: some 36 :: some 37 :: some 38 :: some 39 :: some 40 :: none :: []) (by kernel_rfl) (by kernel_rfl) (by kernel_rfl) (by kernel_rfl) (by kernel_rfl) (by kernel_rfl) (by decide)
       (c6F_st) ?bs ?gb ?gs ?ar ?en
      case bs => exact HBx5.out.below (Below.refl _ _).drew
      case gb =>
       exact fun c _ => HCw5.out.below (Below.refl _ _).drew
      case gs =>
       intro j u u' c hR hne hnr hG hc
       have hj : j ≠ 6 := by
        rintro rfl
        rcases hc with rfl | rfl
        · exact Bool.false_ne_true (hnr.symm.trans (by kernel_rfl))
        · exact hne rfl
       exact (hG hc).below (c6R_bel hR hj)
      case ar =>
       intro j o f u ho hi hB hG hpre K hK
       match j, ho, hG, hpre, hK with
       | 0, ho, hG, hpre, hK =>
         obtain rfl := Option.some.inj ho
         refine wpOp_step rfl fun K' hK' => ?_
         simp only [putL, updV]
         go_simp
         have hz := hK' _ _ (hK (.pointer (some ⟨bO, 2, none⟩)) (u) (hB) (c6R_refl _ _ (by decide)) (rfl))
         refine Eq.mp (congrArg (fun act => K' act (u)) ?_) hz
         kernel_rfl
       | 1, ho, hG, hpre, hK =>
         obtain rfl := Option.some.inj ho
         obtain ⟨x0, x1, x2⟩ := hB.oo.three
         have hl := hB.oo.lt
         have e0 : f 0 = .pointer (some ⟨bO, 2, none⟩) := hpre ⟨0, .data⟩ (by simp) rfl (.inl rfl)
         obtain ⟨f, rfl⟩ := fixG f 0 _ e0
         clear e0
         refine wpOp_step rfl fun K' hK' => ?_
         simp only [putL, updV]
         go_simp
         have hz := hK' _ _ (hK (.slice (some ⟨gI, 0, none⟩) N N) (u) (hB) (c6R_refl _ _ (by decide)) (rfl))
         refine Eq.mp (congrArg (fun act => K' act (u)) ?_) hz
         kernel_rfl
       | 2, ho, hG, hpre, hK =>
         obtain rfl := Option.some.inj ho
         refine wpOp_step rfl fun K' hK' => ?_
         simp only [putL, updV]
         go_simp
         have hz := hK' _ _ (hK (.int .i64 (k : Int)) (u) (hB) (c6R_refl _ _ (by decide)) (rfl))
         refine Eq.mp (congrArg (fun act => K' act (u)) ?_) hz
         kernel_rfl
       | 3, ho, hG, hpre, hK =>
         obtain rfl := Option.some.inj ho
         refine wpOp_step rfl fun K' hK' => ?_
         simp only [putL, updV]
         go_simp
         have hz := hK' _ _ (hK (.slice rA rn rc) (u) (hB) (c6R_refl _ _ (by decide)) (rfl))
         refine Eq.mp (congrArg (fun act => K' act (u)) ?_) hz
         kernel_rfl
       | 4, ho, hG, hpre, hK =>
         obtain rfl := Option.some.inj ho
         have e3 : f 3 = .slice rA rn rc := hpre ⟨3, .data⟩ (by simp) rfl (.inl rfl)
         obtain ⟨f, rfl⟩ := fixG f 3 _ e3
         clear e3
         refine wpOp_step rfl fun K' hK' => ?_
         simp only [putL, updV]
         go_simp
         go_at_call 110
         refine (cpdArc_any rA rn rc (src.flatMap AH.cells) u (HR.out u hB.bel).1 hn6 (HR.out u hB.bel).2 (one_arc src)).mono ?_
         rintro e u5 ⟨rfl, hfr, hb⟩
         have hcw := hG (.inl rfl)
         have hz := hK' _ _ (hK (.slice (some ⟨u.heap.size, 0, none⟩) rn rn) (u5) (hB.below hb) (c6R_of hb (by decide)) (⟨_, rfl, hfr, hB.bel.size, fun y hy e => Nat.lt_irrefl _ ((hcw.rt y hy).own.lt _ e).2⟩))
         refine Eq.mp (congrArg (fun act => K' act (u5)) ?_) hz
         kernel_rfl
       | 5, ho, hG, hpre, hK =>
         obtain rfl := Option.some.inj ho
         have k0 : (0 : Int) ≤ k := by omega
         have k1 : (k : Int) < N := by omega
         have k2 : (k : Int).toNat = k := by omega
         have e1 : f 1 = .slice (some ⟨gI, 0, none⟩) N N := hpre ⟨1, .data⟩ (by simp) rfl (.inl rfl)
         have e2 : f 2 = .int .i64 (k : Int) := hpre ⟨2, .data⟩ (by simp) rfl (.inl rfl)
         obtain ⟨f, rfl⟩ := fixG f 1 _ e1
         rw [updV_ne _ _ (by decide)] at e2
         obtain ⟨f, rfl⟩ := fixG f 2 _ e2
         clear e1 e2
         refine wpOp_step rfl fun K' hK' => ?_
         simp only [putL, updV]
         go_simp
         have hz := hK' _ _ (hK (.pointer (some ⟨gI, k, none⟩)) (u) (hB) (c6R_refl _ _ (by decide)) (rfl))
         refine Eq.mp (congrArg (fun act => K' act (u)) ?_) hz
         kernel_rfl
       | 6, ho, hG, hpre, hK =>
         obtain rfl := Option.some.inj ho
         have hcw := hG (.inr rfl)
         have y0 := hcw.cellM Hm.out
         have f0 := hcw.fi.frozen k
         have hl := hcw.fi.lt
         have e5 : f 5 = .pointer (some ⟨gI, k, none⟩) := hpre ⟨5, .data⟩ (by simp) rfl (.inl rfl)
         obtain ⟨g, e4, hfr, hge, hnj⟩ : ∃ g : Nat, f 4 = .slice (some ⟨g, 0, none⟩) rn rn ∧ Fb u g (src.flatMap AH.cells).toArray 63 ∧ w.heap.size ≤ g ∧ ∀ y ∈ J, y.v.ownBlock ≠ some g := hpre ⟨4, .data⟩ (by simp) rfl (.inl rfl)
         obtain ⟨f, rfl⟩ := fixG f 5 _ e5
         rw [updV_ne _ _ (by decide)] at e4
         obtain ⟨f, rfl⟩ := fixG f 4 _ e4
         clear e5 e4
         refine wpOp_step rfl fun K' hK' => ?_
         simp only [putL, updV]
         go_simp
         have hz := hK' _ _ (hK (undef) (u.setCell ⟨gI, k, none⟩ (.slice (some ⟨g, 0, none⟩) rn rn)) (hB.put (stp_cell hcw.fi k _) (by decide) (hcw.setM _).bel) (c6R_w (stp_cell hcw.fi k _)) (⟨g, hcw.setM _, (stp_cell hcw.fi k _).fb hfr (by decide), hge, hnj, rfl, fun j a s hj => absurd hj (by omega), fun j _ => rfl⟩))
         refine Eq.mp (congrArg (fun act => K' act (u.setCell ⟨gI, k, none⟩ (.slice (some ⟨g, 0, none⟩) rn rn))) ?_) hz
         kernel_rfl
       | j + 7, ho, hG, hpre, hK => exact absurd hi (by omega)
      case en =>
       intro Q2 hQ2 f u hB hF
       obtain ⟨gr, hcp⟩ : ∃ g : Nat, Cp w v N gB gI (k + 1) g 0 B5 (M.set k (.slice (some ⟨g, 0, none⟩) rn rn)) J src src u := hF 6 (by decide) rfl
       have HCp := hid hcp
       have HBx6 := hid hB
       clear hF
       show wpAny _ _ _ _ 0 (tailArr 7 7) _ _
       refine ⟨by kernel_rfl, hQ2 _ _ (hKx _ _ ?_)⟩
       simp only [putL, updV]
       clear hcp hB HCw5 HBx5
       obtain ⟨M6, hM6⟩ : ∃ M6, M.set k (.slice (some ⟨gr, 0, none⟩) rn rn) = M6 := ⟨_, rfl⟩
       have HM6 := hid hM6
       have Hm6 := hid (show M6[k]? = some (.slice (some ⟨gr, 0, none⟩) rn rn) from by rw [← hM6, List.getElem?_set_self (by rw [HMl.out.1]; exact hlt)])
       rw [hM6] at HCp
       clear hM6 HR
       have HI6 := hid (show ∃ l : List AH, Cp w v N gB gI (k + 1) gr 0 B5 M6 J src l u ∧ Bx w #[.int .i64 v, .slice (some ⟨gB, 0, none⟩) N N, .slice (some ⟨gI, 0, none⟩) N N] #[.int .i64 v, .slice (some adB) N bc, .slice (some adI) N ic] bO u from ⟨src, HCp.out, HBx6.out⟩)
       clear HCp HBx6
       go_wp2_with fail
       go_loopw [43] (fun iv wr => ∃ i : Nat, i ≤ rn ∧ iv = .int .i64 i ∧ Hid (∃ l : List AH, Cp w v N gB gI (k + 1) gr i B5 M6 J src l wr ∧ Bx w #[.int .i64 v, .slice (some ⟨gB, 0, none⟩) N N, .slice (some ⟨gI, 0, none⟩) N N] #[.int .i64 v, .slice (some adB) N bc, .slice (some adI) N ic] bO wr)) (fun iv _ => rn - (intOf iv).toNat)
       case atStart => exact ⟨0, by omega, rfl, HI6⟩
       case round =>
        clear HI6
        obtain ⟨i, hi, rfl, HI⟩ := hrel
        obtain ⟨l, hcp, hbx⟩ := HI.out
        have HCp := hid hcp
        have HBx := hid hbx
        clear HI hcp hbx
        by_cases hil : i < rn
        · have n0 : (0 : Int) ≤ i := by omega
          have n1 : (i : Int) < rn := by omega
          have n2 : (i : Int).toNat = i := by omega
          obtain ⟨a, ha, ham⟩ := get_at Hrl.out hil
          obtain ⟨adr, hA, hlt3, y0, y1, y2, y3, y4, y5⟩ := HAc.out i a ha _ HBx.out.bel
          subst hA
          have Ha := hid ha
          have Hl := hid (show l[i]? = some a from by rw [HCp.out.hi i (Nat.le_refl _)]; exact ha)
          have HF := hid (fun (u : World) (hu : Below w.heap.size w u) => And.intro ((HAr.out a ham).2 u hu) (HAr.out a ham).1)
          have Hn0 := hid (show a.f.G.n ≤ 100000 ∧ a.f.K.n ≤ 100000 ∧ a.f.k ≤ 100000 from by
           have hf := (HAr.out a ham).2 w (Below.refl _ _)
           obtain ⟨q1, q2, q3⟩ := (HAr.out a ham).1
           obtain ⟨p1, p2, p3, p4, p5⟩ := validT_iff q3
           have e1 := (Bs.fit_of_valid p1 hf.gen.ok).len
           have e2 := (Bs.fit_of_valid p2 hf.kill.ok).len
           rw [Int.toNat_natCast] at e1 e2
           have e3 := hf.gen.len
           have e4 := hf.kill.len
           have e5 := hf.cops.len
           unfold Bs.nw at e1 e2
           exact ⟨by omega, by omega, by omega⟩)
          have hba := (Below.refl wr.heap.size wr).alloc (Nat.le_refl _) (.cells #[.int .i64 a.m, .int .i64 a.f.G.W, .slice a.f.G.A a.f.G.n a.f.G.c, .int .i64 a.f.K.W, .slice a.f.K.A a.f.K.n a.f.K.c, .slice a.f.C a.f.k a.f.q] 63)
          have HCp9 := hid (HCp.out.below hba)
          have HBx9 := hid (HBx.out.below hba)
          have HAb := hid (Fb.new wr #[.int .i64 a.m, .int .i64 a.f.G.W, .slice a.f.G.A a.f.G.n a.f.G.c, .int .i64 a.f.K.W, .slice a.f.K.A a.f.K.n a.f.K.c, .slice a.f.C a.f.k a.f.q] 63)
          have hbg : wr.heap.size ≠ gr := by have := HCp.out.fr.lt; omega
          clear HCp HBx ha ham hba
          go_upto_region 10 with fail
          rename_i Kx hKx
          clear y0 y1 y2 y3 y4 y5
          generalize wr.alloc (.cells #[.int .i64 a.m, .int .i64 a.f.G.W, .slice a.f.G.A a.f.G.n a.f.G.c, .int .i64 a.f.K.W, .slice a.f.K.A a.f.K.n a.f.K.c, .slice a.f.C a.f.k a.f.q] 63) = w9 at *
          generalize wr.heap.size = bA at *
          refine wp_region_factsI (fun j u => (j = 4 ∨ j = 8 ∨ j = 12 ∨ j = 16 ∨ j = 21) → Cp w v N gB gI (k + 1) gr i B5 M6 J src l u ∧ Fb u bA #[.int .i64 a.m, .int .i64 a.f.G.W, .slice a.f.G.A a.f.G.n a.f.G.c, .int .i64 a.f.K.W, .slice a.f.K.A a.f.K.n a.f.K.c, .slice a.f.C a.f.k a.f.q] 63 ∧ bA ≠ gr) (c0F w v N gB gI bO k gr i bA rn a B5 M6 J src l) (fun u => Bx w #[.int .i64 v, .slice (some ⟨gB, 0, none⟩) N N, .slice (some ⟨gI, 0, none⟩) N N] (#[.int .i64 v, .slice (some adB) N bc, .slice (some adI) N ic]) bO u) c0U (c0R ) Kx (fun _ _ h => h) 22 22 (some 48 :: some 49 :: some 50 :: some 51 :: some 52 :: some 53 :: some 54 :: some 55 :: some 56 :: some 57 :: some 58 :: some 59 :: some 60 :: some 61 :: some 62 :: some 63 :: some 64 :: some 65 :: some 66 :: some 67 :: some 68 :: none :: []) (by kernel_rfl) (by kernel_rfl) (by kernel_rfl) (by kernel_rfl) (by kernel_rfl) (by kernel_rfl) (by decide)
           (c0F_st) ?bs ?gb ?gs ?ar ?en
          case bs => exact HBx9.out.below (Below.refl _ _).drew
          case gb =>
           exact fun c _ => ⟨HCp9.out.below (Below.refl _ _).drew, HAb.out.below (Below.refl _ _).drew HAb.out.lt, hbg⟩
          case gs =>
           intro j u u' c hR hne hnr hG hc
           have hj : j ≠ 21 := by
            rintro rfl
            rcases hc with rfl | rfl | rfl | rfl | rfl
            · exact Bool.false_ne_true (hnr.symm.trans (by kernel_rfl))
            · exact Bool.false_ne_true (hnr.symm.trans (by kernel_rfl))
            · exact Bool.false_ne_true (hnr.symm.trans (by kernel_rfl))
            · exact Bool.false_ne_true (hnr.symm.trans (by kernel_rfl))
            · exact hne rfl
           have hb := c0R_bel hR hj
           obtain ⟨h1, h2, h3⟩ := hG hc
           exact ⟨h1.below hb, h2.below hb h2.lt, h3⟩
          case ar =>
           intro j o f u ho hi hB hG hpre K hK
           match j, ho, hG, hpre, hK with
           | 0, ho, hG, hpre, hK =>
             obtain rfl := Option.some.inj ho
             refine wpOp_step rfl fun K' hK' => ?_
             simp only [putL, updV]
             go_simp
             have hz := hK' _ _ (hK (.pointer (some ⟨bO, 2, none⟩)) (u) (hB) (c0R_refl _ _ (by decide)) (rfl))
             refine Eq.mp (congrArg (fun act => K' act (u)) ?_) hz
             kernel_rfl
           | 1, ho, hG, hpre, hK =>
             obtain rfl := Option.some.inj ho
             obtain ⟨x0, x1, x2⟩ := hB.oo.three
             have hl := hB.oo.lt
             have e0 : f 0 = .pointer (some ⟨bO, 2, none⟩) := hpre ⟨0, .data⟩ (by simp) rfl (.inl rfl)
             obtain ⟨f, rfl⟩ := fixG f 0 _ e0
             clear e0
             refine wpOp_step rfl fun K' hK' => ?_
             simp only [putL, updV]
             go_simp
             have hz := hK' _ _ (hK (.slice (some ⟨gI, 0, none⟩) N N) (u) (hB) (c0R_refl _ _ (by decide)) (rfl))
             refine Eq.mp (congrArg (fun act => K' act (u)) ?_) hz
             kernel_rfl
           | 2, ho, hG, hpre, hK =>
             obtain rfl := Option.some.inj ho
             refine wpOp_step rfl fun K' hK' => ?_
             simp only [putL, updV]
             go_simp
             have hz := hK' _ _ (hK (.int .i64 (k : Int)) (u) (hB) (c0R_refl _ _ (by decide)) (rfl))
             refine Eq.mp (congrArg (fun act => K' act (u)) ?_) hz
             kernel_rfl
           | 3, ho, hG, hpre, hK =>
             obtain rfl := Option.some.inj ho
             have k0 : (0 : Int) ≤ k := by omega
             have k1 : (k : Int) < N := by omega
             have k2 : (k : Int).toNat = k := by omega
             have e1 : f 1 = .slice (some ⟨gI, 0, none⟩) N N := hpre ⟨1, .data⟩ (by simp) rfl (.inl rfl)
             have e2 : f 2 = .int .i64 (k : Int) := hpre ⟨2, .data⟩ (by simp) rfl (.inl rfl)
             obtain ⟨f, rfl⟩ := fixG f 1 _ e1
             rw [updV_ne _ _ (by decide)] at e2
             obtain ⟨f, rfl⟩ := fixG f 2 _ e2
             clear e1 e2
             refine wpOp_step rfl fun K' hK' => ?_
             simp only [putL, updV]
             go_simp
             have hz := hK' _ _ (hK (.pointer (some ⟨gI, k, none⟩)) (u) (hB) (c0R_refl _ _ (by decide)) (rfl))
             refine Eq.mp (congrArg (fun act => K' act (u)) ?_) hz
             kernel_rfl
           | 4, ho, hG, hpre, hK =>
             obtain rfl := Option.some.inj ho
             have y0 := (hG (.inl rfl)).1.cw.cellM Hm6.out
             have hl := (hG (.inl rfl)).1.cw.fi.lt
             have e3 : f 3 = .pointer (some ⟨gI, k, none⟩) := hpre ⟨3, .data⟩ (by simp) rfl (.inl rfl)
             obtain ⟨f, rfl⟩ := fixG f 3 _ e3
             clear e3
             refine wpOp_step rfl fun K' hK' => ?_
             simp only [putL, updV]
             go_simp
             have hz := hK' _ _ (hK (.slice (some ⟨gr, 0, none⟩) rn rn) (u) (hB) (c0R_refl _ _ (by decide)) (rfl))
             refine Eq.mp (congrArg (fun act => K' act (u)) ?_) hz
             kernel_rfl
           | 5, ho, hG, hpre, hK =>
             obtain rfl := Option.some.inj ho
             refine wpOp_step rfl fun K' hK' => ?_
             simp only [putL, updV]
             go_simp
             have hz := hK' _ _ (hK (.int .i64 (i : Int)) (u) (hB) (c0R_refl _ _ (by decide)) (rfl))
             refine Eq.mp (congrArg (fun act => K' act (u)) ?_) hz
             kernel_rfl
           | 6, ho, hG, hpre, hK =>
             obtain rfl := Option.some.inj ho
             refine wpOp_step rfl fun K' hK' => ?_
             simp only [putL, updV]
             go_simp
             have hz := hK' _ _ (hK (.pointer (some ⟨bA, 1, none⟩)) (u) (hB) (c0R_refl _ _ (by decide)) (rfl))
             refine Eq.mp (congrArg (fun act => K' act (u)) ?_) hz
             kernel_rfl
           | 7, ho, hG, hpre, hK =>
             obtain rfl := Option.some.inj ho
             have e6 : f 6 = .pointer (some ⟨bA, 1, none⟩) := hpre ⟨6, .data⟩ (by simp) rfl (.inl rfl)
             obtain ⟨f, rfl⟩ := fixG f 6 _ e6
             clear e6
             refine wpOp_step rfl fun K' hK' => ?_
             simp only [putL, updV]
             go_simp
             have hz := hK' _ _ (hK (.pointer (some ⟨bA, 1, none⟩)) (u) (hB) (c0R_refl _ _ (by decide)) (rfl))
             refine Eq.mp (congrArg (fun act => K' act (u)) ?_) hz
             kernel_rfl
           | 8, ho, hG, hpre, hK =>
             obtain rfl := Option.some.inj ho
             obtain ⟨x0, x1, x2, x3, x4, x5⟩ := (hG (.inr (.inl rfl))).2.1.six
             have hl := (hG (.inr (.inl rfl))).2.1.lt
             have e7 : f 7 = .pointer (some ⟨bA, 1, none⟩) := hpre ⟨7, .data⟩ (by simp) rfl (.inl rfl)
             obtain ⟨f, rfl⟩ := fixG f 7 _ e7
             clear e7
             refine wpOp_step rfl fun K' hK' => ?_
             simp only [putL, updV]
             go_simp
             have hz := hK' _ _ (hK (.agg #[.int .i64 a.f.G.W, .slice a.f.G.A a.f.G.n a.f.G.c]) (u) (hB) (c0R_refl _ _ (by decide)) (rfl))
             refine Eq.mp (congrArg (fun act => K' act (u)) ?_) hz
             kernel_rfl
           | 9, ho, hG, hpre, hK =>
             obtain rfl := Option.some.inj ho
             have e8 : f 8 = .agg #[.int .i64 a.f.G.W, .slice a.f.G.A a.f.G.n a.f.G.c] := hpre ⟨8, .data⟩ (by simp) rfl (.inl rfl)
             obtain ⟨f, rfl⟩ := fixG f 8 _ e8
             clear e8
             refine wpOp_step rfl fun K' hK' => ?_
             simp only [putL, updV]
             go_simp
             go_at_call 109
             refine (copiedSetE_any a.f.G.W a.f.G.A a.f.G.n a.f.G.c a.f.G.ws u (HF.out u hB.bel).1.gen Hn0.out.1).mono ?_
             rintro e u5 ⟨g, rfl, hr, -, hb⟩
             have hz := hK' _ _ (hK (.agg #[.int .i64 a.f.G.W, .slice (some ⟨g, 0, none⟩) a.f.G.n a.f.G.n]) (u5) (hB.below hb) (c0R_of hb (by decide)) (⟨g, rfl, hr⟩))
             refine Eq.mp (congrArg (fun act => K' act (u5)) ?_) hz
             kernel_rfl
           | 10, ho, hG, hpre, hK =>
             obtain rfl := Option.some.inj ho
             refine wpOp_step rfl fun K' hK' => ?_
             simp only [putL, updV]
             go_simp
             have hz := hK' _ _ (hK (.pointer (some ⟨bA, 1, none⟩)) (u) (hB) (c0R_refl _ _ (by decide)) (rfl))
             refine Eq.mp (congrArg (fun act => K' act (u)) ?_) hz
             kernel_rfl
           | 11, ho, hG, hpre, hK =>
             obtain rfl := Option.some.inj ho
             have e10 : f 10 = .pointer (some ⟨bA, 1, none⟩) := hpre ⟨10, .data⟩ (by simp) rfl (.inl rfl)
             obtain ⟨f, rfl⟩ := fixG f 10 _ e10
             clear e10
             refine wpOp_step rfl fun K' hK' => ?_
             simp only [putL, updV]
             go_simp
             have hz := hK' _ _ (hK (.pointer (some ⟨bA, 3, none⟩)) (u) (hB) (c0R_refl _ _ (by decide)) (rfl))
             refine Eq.mp (congrArg (fun act => K' act (u)) ?_) hz
             kernel_rfl
           | 12, ho, hG, hpre, hK =>
             obtain rfl := Option.some.inj ho
             obtain ⟨x0, x1, x2, x3, x4, x5⟩ := (hG (.inr (.inr (.inl rfl)))).2.1.six
             have hl := (hG (.inr (.inr (.inl rfl)))).2.1.lt
             have e11 : f 11 = .pointer (some ⟨bA, 3, none⟩) := hpre ⟨11, .data⟩ (by simp) rfl (.inl rfl)
             obtain ⟨f, rfl⟩ := fixG f 11 _ e11
             clear e11
             refine wpOp_step rfl fun K' hK' => ?_
             simp only [putL, updV]
             go_simp
             have hz := hK' _ _ (hK (.agg #[.int .i64 a.f.K.W, .slice a.f.K.A a.f.K.n a.f.K.c]) (u) (hB) (c0R_refl _ _ (by decide)) (rfl))
             refine Eq.mp (congrArg (fun act => K' act (u)) ?_) hz
             kernel_rfl
           | 13, ho, hG, hpre, hK =>
             obtain rfl := Option.some.inj ho
             have e12 : f 12 = .agg #[.int .i64 a.f.K.W, .slice a.f.K.A a.f.K.n a.f.K.c] := hpre ⟨12, .data⟩ (by simp) rfl (.inl rfl)
             obtain ⟨f, rfl⟩ := fixG f 12 _ e12
             clear e12
             refine wpOp_step rfl fun K' hK' => ?_
             simp only [putL, updV]
             go_simp
             go_at_call 109
             refine (copiedSetE_any a.f.K.W a.f.K.A a.f.K.n a.f.K.c a.f.K.ws u (HF.out u hB.bel).1.kill Hn0.out.2.1).mono ?_
             rintro e u5 ⟨g, rfl, hr, -, hb⟩
             have hz := hK' _ _ (hK (.agg #[.int .i64 a.f.K.W, .slice (some ⟨g, 0, none⟩) a.f.K.n a.f.K.n]) (u5) (hB.below hb) (c0R_of hb (by decide)) (⟨g, rfl, hr⟩))
             refine Eq.mp (congrArg (fun act => K' act (u5)) ?_) hz
             kernel_rfl
           | 14, ho, hG, hpre, hK =>
             obtain rfl := Option.some.inj ho
             refine wpOp_step rfl fun K' hK' => ?_
             simp only [putL, updV]
             go_simp
             have hz := hK' _ _ (hK (.pointer (some ⟨bA, 1, none⟩)) (u) (hB) (c0R_refl _ _ (by decide)) (rfl))
             refine Eq.mp (congrArg (fun act => K' act (u)) ?_) hz
             kernel_rfl
           | 15, ho, hG, hpre, hK =>
             obtain rfl := Option.some.inj ho
             have e14 : f 14 = .pointer (some ⟨bA, 1, none⟩) := hpre ⟨14, .data⟩ (by simp) rfl (.inl rfl)
             obtain ⟨f, rfl⟩ := fixG f 14 _ e14
             clear e14
             refine wpOp_step rfl fun K' hK' => ?_
             simp only [putL, updV]
             go_simp
             have hz := hK' _ _ (hK (.pointer (some ⟨bA, 5, none⟩)) (u) (hB) (c0R_refl _ _ (by decide)) (rfl))
             refine Eq.mp (congrArg (fun act => K' act (u)) ?_) hz
             kernel_rfl
           | 16, ho, hG, hpre, hK =>
             obtain rfl := Option.some.inj ho
             obtain ⟨x0, x1, x2, x3, x4, x5⟩ := (hG (.inr (.inr (.inr (.inl rfl))))).2.1.six
             have hl := (hG (.inr (.inr (.inr (.inl rfl))))).2.1.lt
             have e15 : f 15 = .pointer (some ⟨bA, 5, none⟩) := hpre ⟨15, .data⟩ (by simp) rfl (.inl rfl)
             obtain ⟨f, rfl⟩ := fixG f 15 _ e15
             clear e15
             refine wpOp_step rfl fun K' hK' => ?_
             simp only [putL, updV]
             go_simp
             have hz := hK' _ _ (hK (.slice a.f.C a.f.k a.f.q) (u) (hB) (c0R_refl _ _ (by decide)) (rfl))
             refine Eq.mp (congrArg (fun act => K' act (u)) ?_) hz
             kernel_rfl
           | 17, ho, hG, hpre, hK =>
             obtain rfl := Option.some.inj ho
             have e16 : f 16 = .slice a.f.C a.f.k a.f.q := hpre ⟨16, .data⟩ (by simp) rfl (.inl rfl)
             obtain ⟨f, rfl⟩ := fixG f 16 _ e16
             clear e16
             refine wpOp_step rfl fun K' hK' => ?_
             simp only [putL, updV]
             go_simp
             go_at_call 111
             refine (cpdCopy_any a.f.C a.f.k a.f.q (pairs a.f.cs) u (by rw [pairs_len2, (HF.out u hB.bel).1.cops.len]) Hn0.out.2.2 (HF.out u hB.bel).1.cops.lies (one_pairs _)).mono ?_
             rintro e u5 ⟨rfl, hC, hb⟩
             have hz := hK' _ _ (hK (.slice (some ⟨u.heap.size, 0, none⟩) a.f.k a.f.k) (u5) (hB.below hb) (c0R_of hb (by decide)) (⟨_, rfl, hC⟩))
             refine Eq.mp (congrArg (fun act => K' act (u5)) ?_) hz
             kernel_rfl
           | 18, ho, hG, hpre, hK =>
             obtain rfl := Option.some.inj ho
             obtain ⟨gG, e9, hG9⟩ : ∃ g : Nat, f 9 = .agg #[.int .i64 a.f.G.W, .slice (some ⟨g, 0, none⟩) a.f.G.n a.f.G.n] ∧ Row u g a.f.G.ws := hpre ⟨9, .data⟩ (by simp) rfl (.inl rfl)
             obtain ⟨gK, e13, hK9⟩ : ∃ g : Nat, f 13 = .agg #[.int .i64 a.f.K.W, .slice (some ⟨g, 0, none⟩) a.f.K.n a.f.K.n] ∧ Row u g a.f.K.ws := hpre ⟨13, .data⟩ (by simp) rfl (.inl rfl)
             obtain ⟨gC, e17, hC⟩ : ∃ g : Nat, f 17 = .slice (some ⟨g, 0, none⟩) a.f.k a.f.k ∧ Fb u g (pairs a.f.cs).toArray 58 := hpre ⟨17, .data⟩ (by simp) rfl (.inl rfl)
             obtain ⟨f, rfl⟩ := fixG f 9 _ e9
             rw [updV_ne _ _ (by decide)] at e13
             rw [updV_ne _ _ (by decide)] at e17
             obtain ⟨f, rfl⟩ := fixG f 13 _ e13
             rw [updV_ne _ _ (by decide)] at e17
             obtain ⟨f, rfl⟩ := fixG f 17 _ e17
             clear e9 e13 e17
             refine wpOp_step rfl fun K' hK' => ?_
             simp only [putL, updV]
             go_simp
             have hz := hK' _ _ (hK (.agg #[.int .i64 a.f.G.W, .slice (some ⟨gG, 0, none⟩) a.f.G.n a.f.G.n, .int .i64 a.f.K.W, .slice (some ⟨gK, 0, none⟩) a.f.K.n a.f.K.n, .slice (some ⟨gC, 0, none⟩) a.f.k a.f.k]) (u) (hB) (c0R_refl _ _ (by decide)) (⟨gG, gK, gC, rfl, hG9, hK9, hC⟩))
             refine Eq.mp (congrArg (fun act => K' act (u)) ?_) hz
             kernel_rfl
           | 19, ho, hG, hpre, hK =>
             obtain rfl := Option.some.inj ho
             have k0 : (0 : Int) ≤ i := by omega
             have k1 : (i : Int) < rn := by omega
             have k2 : (i : Int).toNat = i := by omega
             have e4 : f 4 = .slice (some ⟨gr, 0, none⟩) rn rn := hpre ⟨4, .data⟩ (by simp) rfl (.inl rfl)
             have e5 : f 5 = .int .i64 (i : Int) := hpre ⟨5, .data⟩ (by simp) rfl (.inl rfl)
             obtain ⟨f, rfl⟩ := fixG f 4 _ e4
             rw [updV_ne _ _ (by decide)] at e5
             obtain ⟨f, rfl⟩ := fixG f 5 _ e5
             clear e4 e5
             refine wpOp_step rfl fun K' hK' => ?_
             simp only [putL, updV]
             go_simp
             have hz := hK' _ _ (hK (.pointer (some ⟨gr, i * 6, none⟩)) (u) (hB) (c0R_refl _ _ (by decide)) (rfl))
             refine Eq.mp (congrArg (fun act => K' act (u)) ?_) hz
             kernel_rfl
           | 20, ho, hG, hpre, hK =>
             obtain rfl := Option.some.inj ho
             have e19 : f 19 = .pointer (some ⟨gr, i * 6, none⟩) := hpre ⟨19, .data⟩ (by simp) rfl (.inl rfl)
             obtain ⟨f, rfl⟩ := fixG f 19 _ e19
             clear e19
             refine wpOp_step rfl fun K' hK' => ?_
             simp only [putL, updV]
             go_simp
             have hz := hK' _ _ (hK (.pointer (some ⟨gr, i * 6 + 1, none⟩)) (u) (hB) (c0R_refl _ _ (by decide)) (rfl))
             refine Eq.mp (congrArg (fun act => K' act (u)) ?_) hz
             kernel_rfl
           | 21, ho, hG, hpre, hK =>
             obtain rfl := Option.some.inj ho
             have hcp := (hG (.inr (.inr (.inr (.inr rfl))))).1
             obtain ⟨x0, x1, x2, x3, x4, x5⟩ := fr_cells hcp.fr Hl.out
             have f1 := hcp.fr.frozen (i * 6 + 1)
             have f2 := hcp.fr.frozen (i * 6 + 1 + 1)
             have f3 := hcp.fr.frozen (i * 6 + 1 + 2)
             have f4 := hcp.fr.frozen (i * 6 + 1 + 3)
             have f5 := hcp.fr.frozen (i * 6 + 1 + 4)
             have hl := hcp.fr.lt
             have e20 : f 20 = .pointer (some ⟨gr, i * 6 + 1, none⟩) := hpre ⟨20, .data⟩ (by simp) rfl (.inl rfl)
             obtain ⟨gG, gK, gC, e18, hG', hK2, hC⟩ : ∃ gG gK gC : Nat, f 18 = .agg #[.int .i64 a.f.G.W, .slice (some ⟨gG, 0, none⟩) a.f.G.n a.f.G.n, .int .i64 a.f.K.W, .slice (some ⟨gK, 0, none⟩) a.f.K.n a.f.K.n, .slice (some ⟨gC, 0, none⟩) a.f.k a.f.k] ∧ Row u gG a.f.G.ws ∧ Row u gK a.f.K.ws ∧ Fb u gC (pairs a.f.cs).toArray 58 := hpre ⟨18, .data⟩ (by simp) rfl (.inl rfl)
             obtain ⟨f, rfl⟩ := fixG f 20 _ e20
             rw [updV_ne _ _ (by decide)] at e18
             obtain ⟨f, rfl⟩ := fixG f 18 _ e18
             clear e20 e18
             have hcp2 := hcp.put Ha.out (f := ⟨⟨a.f.G.W, some ⟨gG, 0, none⟩, a.f.G.n, a.f.G.n, a.f.G.ws⟩, ⟨a.f.K.W, some ⟨gK, 0, none⟩, a.f.K.n, a.f.K.n, a.f.K.ws⟩, some ⟨gC, 0, none⟩, a.f.k, a.f.k, a.f.cs⟩) (new_f (HF.out u hB.bel).1 (HF.out u hB.bel).2 hG' hK2 hC) rfl
             refine wpOp_step rfl fun K' hK' => ?_
             simp only [putL, updV]
             go_simp
             have hz := hK' _ _ (hK (undef) (putF u gr (i * 6 + 1) ⟨⟨a.f.G.W, some ⟨gG, 0, none⟩, a.f.G.n, a.f.G.n, a.f.G.ws⟩, ⟨a.f.K.W, some ⟨gK, 0, none⟩, a.f.K.n, a.f.K.n, a.f.K.ws⟩, some ⟨gC, 0, none⟩, a.f.k, a.f.k, a.f.cs⟩) (hB.put (putF_stp hcp.fr _ _) (by decide) hcp2.cw.bel) (c0R_w (putF_stp hcp.fr _ _)) (⟨_, hcp2⟩))
             refine Eq.mp (congrArg (fun act => K' act (putF u gr (i * 6 + 1) ⟨⟨a.f.G.W, some ⟨gG, 0, none⟩, a.f.G.n, a.f.G.n, a.f.G.ws⟩, ⟨a.f.K.W, some ⟨gK, 0, none⟩, a.f.K.n, a.f.K.n, a.f.K.ws⟩, some ⟨gC, 0, none⟩, a.f.k, a.f.k, a.f.cs⟩)) ?_) hz
             kernel_rfl
           | j + 22, ho, hG, hpre, hK => exact absurd hi (by omega)
          case en =>
           intro Q2 hQ2 f u hB hF
           obtain ⟨l2, hcp⟩ : ∃ l2, Cp w v N gB gI (k + 1) gr (i + 1) B5 M6 J src l2 u := hF 21 (by decide) rfl
           have HCp1 := hid hcp
           have HBx1 := hid hB
           clear hF
           show wpAny _ _ _ _ 0 (tailArr 22 22) _ _
           refine ⟨by kernel_rfl, hQ2 _ _ (hKx _ _ ?_)⟩
           simp only [putL, updV]
           clear hcp hB HCp9 HBx9
           have HI1 := hid (show ∃ l : List AH, Cp w v N gB gI (k + 1) gr (i + 1) B5 M6 J src l u ∧ Bx w #[.int .i64 v, .slice (some ⟨gB, 0, none⟩) N N, .slice (some ⟨gI, 0, none⟩) N N] #[.int .i64 v, .slice (some adB) N bc, .slice (some adI) N ic] bO u from ⟨_, HCp1.out, HBx1.out⟩)
           go_wp2_with fail
           go_roundw
           case rel => exact ⟨i + 1, by omega, by go_num, HI1⟩
           case measure => simp [intOf]; omega
        · have e : i = rn := by omega
          subst e
          have hrow := HCp.out.row (by rw [Hrl.out]; exact Nat.le_refl _) Hrr.out hN
          have hcw := HCp.out.cw.push hrow (fun y hy g hg e => HCp.out.ne y hy (hg.trans e.symm))
          have hcs := HCs.out.next (z := ⟨W, some ⟨g, 0, none⟩, n, n, ws⟩) (r := ⟨some ⟨gr, 0, none⟩, src.length, src.length, l⟩) (by rw [HMl.out.2]; exact hlt) (by rw [HMl.out.1]; exact hlt) Hy.out rfl Hr.out (HCp.out.ms (by rw [Hrl.out]; exact Nat.le_refl _)).1
          rw [HB5.out, show AL.v ⟨some ⟨gr, 0, none⟩, src.length, src.length, l⟩ = .slice (some ⟨gr, 0, none⟩) i i from by unfold AL.v; rw [Hrl.out], HM6.out] at hcs
          have HI2 := hid (show ∃ (B : List ZH) (M : List Value) (J : List AL), Cw w v N gB gI (k + 1) B M J wr ∧ Bx w #[.int .i64 v, .slice (some ⟨gB, 0, none⟩) N N, .slice (some ⟨gI, 0, none⟩) N N] #[.int .i64 v, .slice (some adB) N bc, .slice (some adI) N ic] bO wr ∧ CsV Bl Il (k + 1) B M J from ⟨_, _, _, hcw, HBx.out, hcs⟩)
          clear hrow hcw hcs
          go_wp2_with fail
          go_roundw
          case rel => exact ⟨k + 1, by omega, by go_num, HI2⟩
          case measure => simp [intOf]; omega
   · have e : k = N := by omega
     subst e
     obtain ⟨c0, c1, c2⟩ := HBx.out.oo.three
     obtain ⟨z0, z1, z2⟩ := HBx.out.zz.three
     have f0 := HBx.out.zz.frozen 0
     have f1 := HBx.out.zz.frozen 1
     have f2 := HBx.out.zz.frozen 2
     have hl := HBx.out.zz.lt
     obtain ⟨d1, d2, d3⟩ := HCs.out.done HCw.out.ml HCw.out.bl Hbl.out Hil.out
     have how := HCw.out.ow HCs.out.jl
     rw [d1] at how
     have hb3 : Below w.heap.size w (((wr.setCell ⟨w.heap.size + 1, 0, none⟩ (.int .i64 v)).setCell ⟨w.heap.size + 1, 1, none⟩ (.slice (some ⟨gB, 0, none⟩) k k)).setCell ⟨w.heap.size + 1, 2, none⟩ (.slice (some ⟨gI, 0, none⟩) k k)) :=
      ((HBx.out.bel.setCell (by show _ ≤ w.heap.size + 1; omega) _).setCell (by show _ ≤ w.heap.size + 1; omega) _).setCell (by show _ ≤ w.heap.size + 1; omega) _
     have HFin := hid (how.stp (three_stp HBx.out.zz (.int .i64 v) (.slice (some ⟨gB, 0, none⟩) k k) (.slice (some ⟨gI, 0, none⟩) k k)) hb3 (by decide) (by decide) (by decide) (by decide) (by decide))
     have Hd := hid (And.intro d2 d3)
     clear how hb3 d1 d2 d3
     go_wp2_with fail
     refine bodyPost_ret (v := .agg #[.int .i64 v, .slice (some ⟨gB, 0, none⟩) k k, .slice (some ⟨gI, 0, none⟩) k k]) (by simp [results, Tryz.results73, go_sem, z0, z1, z2]) rfl ⟨gB, gI, B, J, rfl, HFin.out, Hd.out⟩
end Go.Proofs.YtopkmeceakjocaaGreat
namespace Go.Proofs.YtopkmeceakjocaaGreat
set_option maxRecDepth 20000
open Go.ChangeShapes Go.WideShapes Go.ChangeAt Go.RowKit
def TwoT (w : World) (W V : Int) (A B C : Option Addr) (n c m d k q : Nat) (W' V' : Int) (A' B' C' : Option Addr) (n' c' m' d' k' q' : Nat) (wr : World) : Prop :=
 Fb wr w.heap.size #[.int .i64 W, .slice A n c, .int .i64 V, .slice B m d, .slice C k q] 61 ∧ Fb wr (w.heap.size + 1) #[.int .i64 W', .slice A' n' c', .int .i64 V', .slice B' m' d', .slice C' k' q'] 61 ∧ Below w.heap.size w wr
section
variable {w : World} {W V : Int} {A B C : Option Addr} {n c m d k q : Nat} {W' V' : Int} {A' B' C' : Option Addr} {n' c' m' d' k' q' : Nat} {wr w' : World}
theorem TwoT.start (w : World) (W V : Int) (A B C : Option Addr) (n c m d k q : Nat) (W' V' : Int) (A' B' C' : Option Addr) (n' c' m' d' k' q' : Nat) :
 TwoT w W V A B C n c m d k q W' V' A' B' C' n' c' m' d' k' q' ((w.alloc (.cells #[.int .i64 W, .slice A n c, .int .i64 V, .slice B m d, .slice C k q] 61)).alloc (.cells #[.int .i64 W', .slice A' n' c', .int .i64 V', .slice B' m' d', .slice C' k' q'] 61)) := by
 have hS := Fb.new (w.alloc (.cells #[.int .i64 W, .slice A n c, .int .i64 V, .slice B m d, .slice C k q] 61)) #[.int .i64 W', .slice A' n' c', .int .i64 V', .slice B' m' d', .slice C' k' q'] 61
 simp only [World.size_alloc] at hS
 exact ⟨(Fb.new w _ 61).alloc _, hS, ((Below.refl _ _).alloc (Nat.le_refl _) _).alloc (by simp) _⟩
theorem TwoT.below (h : TwoT w W V A B C n c m d k q W' V' A' B' C' n' c' m' d' k' q' wr) (hb : Below wr.heap.size wr w') : TwoT w W V A B C n c m d k q W' V' A' B' C' n' c' m' d' k' q' w' :=
 ⟨h.1.below hb h.1.lt, h.2.1.below hb h.2.1.lt, h.2.2.trans (hb.mono h.2.2.size)⟩
end
theorem list_ext_to {α : Type} {a b : List α} (hl : a.length = b.length) (h : ∀ x, x < a.length → a[x]? = b[x]?) : a = b :=
 List.ext_getElem? fun i => by
  rcases Nat.lt_or_ge i a.length with hi | hi
  · exact h i hi
  · rw [List.getElem?_eq_none hi, List.getElem?_eq_none (by omega)]
theorem copsEq_any (A B : Option Addr) (n c m d : Nat) (xs ys : List (Int × Int)) (w : World) (hA : ArgC w A n xs) (hB : ArgC w B m ys) (hn : n ≤ 100000) :
 Calls Tryz.prog 192 #[.slice A n c, .slice B m d] w fun e w' => e = .returned (.bool (decide (xs = ys))) ∧ Below w.heap.size w w' := by
 by_cases hnm : n = m
 · subst hnm
   have HA := hid hA; have HB := hid hB
   have t2 : ((n : Int) != (n : Int)) = false := by simp
   clear hA hB
   go_enter Tryz.func192, Tryz.ntmps192
   go_wp2
   clear t2
   go_loopw [5, 13] (fun _ i wr => ∃ k : Nat, k ≤ n ∧ i = .int .i64 k ∧ Hid (∀ j, j < k → xs[j]? = ys[j]?) ∧ ∃ q : Nat, wr = w.drewN q) (fun _ i _ => n - (intOf i).toNat)
   case atStart => exact ⟨0, by omega, rfl, fun j h => by omega, 0, rfl⟩
   case round =>
    obtain ⟨k, hk, rfl, hb, q, rfl⟩ := hrel
    by_cases hlt : k < n
    · have hgx : xs[k]? = some (xs[k]'(by rw [HA.out.len]; exact hlt)) := List.getElem?_eq_getElem _
      have hgy : ys[k]? = some (ys[k]'(by rw [HB.out.len]; exact hlt)) := List.getElem?_eq_getElem _
      generalize (xs[k]'(by rw [HA.out.len]; exact hlt)) = x at hgx
      generalize (ys[k]'(by rw [HB.out.len]; exact hlt)) = y at hgy
      obtain ⟨x1, x2⟩ := x
      obtain ⟨y1, y2⟩ := y
      obtain ⟨ad, rfl, had, a1, a2⟩ := HA.out.cell hgx
      obtain ⟨bd, rfl, hbd, b1, b2⟩ := HB.out.cell hgy
      have Hx := hid hgx; have Hy := hid hgy
      clear hgx hgy
      have a1' : (w.drewN q).cell? (ad.add (k * 2)) = some (.int .i64 x1) := a1
      have a2' : (w.drewN q).cell? ⟨(ad.add (k * 2)).block, (ad.add (k * 2)).off + 1, none⟩ = some (.int .i64 x2) := a2
      have b1' : (w.drewN q).cell? (bd.add (k * 2)) = some (.int .i64 y1) := b1
      have b2' : (w.drewN q).cell? ⟨(bd.add (k * 2)).block, (bd.add (k * 2)).off + 1, none⟩ = some (.int .i64 y2) := b2
      clear a1 a2 b1 b2
      have hk0 : (0 : Int) ≤ k := by omega
      have hkn : (k : Int).toNat = k := by omega
      have hk1 : (k : Int) < n := by omega
      have bad : ¬(x1 = y1 ∧ x2 = y2) → (decide (xs = ys)) = false := by
       intro h
       refine decide_eq_false fun e => h ?_
       have := Hx.out.symm.trans ((congrArg (·[k]?) e).trans Hy.out)
       simp at this
       exact this
      have Bad := hid bad
      clear bad
      generalize hwq : w.drewN q = wq at *
      have Hwq := hid hwq
      clear hwq
      by_cases e1 : x1 = y1
      · subst e1
        by_cases e2 : x2 = y2
        · subst e2
          go_wp2_with fail
          go_quiet (fail)
          clear a1' a2' b1' b2'
          go_wp2
          go_roundw
          case rel =>
           refine ⟨k + 1, by omega, by go_num, fun j hj => ?_, q + nq, by rw [← Hwq.out, World.drewN_drewN]⟩
           by_cases e : j = k
           · rw [e, Hx.out, Hy.out]
           · exact hb.out j (by omega)
          case measure => simp [intOf]; omega
        · have E := hid (Bad.out (by simp [e2]))
          go_wp2_with fail
          go_quiet (fail)
          go_wp2
          go_ret
          refine ⟨ret_bool E.out.symm, ?_⟩
          rw [← Hwq.out, World.drewN_drewN]; exact below_drewN (Below.refl _ _) _
      · have E := hid (Bad.out (by simp [e1]))
        go_wp2_with fail
        go_quiet (fail)
        go_wp2
        go_ret
        refine ⟨ret_bool E.out.symm, ?_⟩
        rw [← Hwq.out, World.drewN_drewN]; exact below_drewN (Below.refl _ _) _
    · have hkn : k = n := by omega
      subst hkn
      have E := hid (show decide (xs = ys) = true from decide_eq_true (list_ext_to (by rw [HA.out.len, HB.out.len]) (fun x hx => hb.out x (by rw [HA.out.len] at hx; exact hx))))
      go_wp2
      go_ret
      exact ⟨ret_bool E.out.symm, below_drewN (Below.refl _ _) _⟩
 · have t2 : ((n : Int) != (m : Int)) = true := by simp; omega
   have E := hid (show decide (xs = ys) = false from decide_eq_false fun e => hnm (by rw [← hA.len, ← hB.len, e]))
   clear hA hB
   go_enter Tryz.func192, Tryz.ntmps192
   go_wp2
   go_ret
   exact ⟨ret_bool E.out.symm, Below.refl _ _⟩
def checkR (v1 v2 : Bool) (W V : Int) : Int := if v1 = false ∨ v2 = false then 1 else if W ≠ V then 2 else 0
set_option maxHeartbeats 800000 in
theorem devCheck_any (W V : Int) (A B C : Option Addr) (n c m d k q : Nat) (gs ks : List Nat) (cs : List (Int × Int)) (W' V' : Int) (A' B' C' : Option Addr) (n' c' m' d' k' q' : Nat) (gs' ks' : List Nat) (cs' : List (Int × Int)) (w : World)
 (hF : FArg w A n B m C k gs ks cs) (hG : FArg w A' n' B' m' C' k' gs' ks' cs') :
 Calls Tryz.prog 162 #[.agg #[.int .i64 W, .slice A n c, .int .i64 V, .slice B m d, .slice C k q], .agg #[.int .i64 W', .slice A' n' c', .int .i64 V', .slice B' m' d', .slice C' k' q']] w
  fun e w' => e = .returned (.int .i64 (checkR (validT W gs V ks cs) (validT W' gs' V' ks' cs') W W')) ∧ Below w.heap.size w w' := by
 have HF := hid hF; have HG := hid hG
 have H0 := hid (TwoT.start w W V A B C n c m d k q W' V' A' B' C' n' c' m' d' k' q')
 clear hF hG
 go_enter Tryz.func162, Tryz.ntmps162
 go_wp2_with fail
 have HF0 := hid (HF.out.below H0.out.2.2)
 refine (devValidT_any W V A B C n c m d k q gs ks cs _ HF0.out.gen HF0.out.kill HF0.out.cops).mono ?_
 cases hv : validT W gs V ks cs with
 | false =>
   have Hr := hid (show checkR (validT W gs V ks cs) (validT W' gs' V' ks' cs') W W' = 1 by rw [hv]; unfold checkR; simp)
   rintro e w1 ⟨rfl, hb1⟩
   have H1 := hid (H0.out.below hb1)
   clear hb1 hv HF0
   go_wp2
   go_ret
   exact ⟨ret_int Hr.out.symm, H1.out.2.2⟩
 | true =>
   have Hv := hid hv
   rintro e w1 ⟨rfl, hb1⟩
   have H1 := hid (H0.out.below hb1)
   clear hb1 hv HF0
   obtain ⟨t0, t1, t2, t3, t4⟩ := H1.out.2.1.five
   have HG1 := hid (HG.out.below H1.out.2.2)
   go_wp2_with fail
   refine (devValidT_any W' V' A' B' C' n' c' m' d' k' q' gs' ks' cs' _ HG1.out.gen HG1.out.kill HG1.out.cops).mono ?_
   cases hv2 : validT W' gs' V' ks' cs' with
   | false =>
     have Hr := hid (show checkR (validT W gs V ks cs) (validT W' gs' V' ks' cs') W W' = 1 by rw [Hv.out, hv2]; unfold checkR; simp)
     rintro e w2 ⟨rfl, hb2⟩
     have H2 := hid (H1.out.below hb2)
     clear hb2 hv2 HG1 t0 t1 t2 t3 t4
     go_wp2
     go_ret
     exact ⟨ret_int Hr.out.symm, H2.out.2.2⟩
   | true =>
     have Hv2 := hid hv2
     rintro e w2 ⟨rfl, hb2⟩
     have H2 := hid (H1.out.below hb2)
     clear hb2 hv2 HG1 t0 t1 t2 t3 t4
     obtain ⟨t0, t1, t2, t3, t4⟩ := H2.out.2.1.five
     obtain ⟨s0, s1, s2, s3, s4⟩ := H2.out.1.five
     by_cases hw : W = W'
     · have Hr := hid (show checkR (validT W gs V ks cs) (validT W' gs' V' ks' cs') W W' = 0 by rw [Hv.out, Hv2.out]; unfold checkR; simp [hw])
       have tt : (W != W') = false := by simp [hw]
       clear hw
       go_wp2
       go_ret
       exact ⟨ret_int Hr.out.symm, H2.out.2.2⟩
     · have Hr := hid (show checkR (validT W gs V ks cs) (validT W' gs' V' ks' cs') W W' = 2 by rw [Hv.out, Hv2.out]; unfold checkR; simp [hw])
       have tt : (W != W') = true := by simp [hw]
       clear hw
       go_wp2
       go_ret
       exact ⟨ret_int Hr.out.symm, H2.out.2.2⟩
def equal2 (W : Int) (gs : List Nat) (V : Int) (ks : List Nat) (cs : List (Int × Int)) (W' : Int) (gs' : List Nat) (V' : Int) (ks' : List Nat) (cs' : List (Int × Int)) : Bool :=
 equalB W gs W' gs' && equalB V ks V' ks' && decide (cs = cs')
set_option maxHeartbeats 800000 in
theorem devEqual2_any (W V : Int) (A B C : Option Addr) (n c m d k q : Nat) (gs ks : List Nat) (cs : List (Int × Int)) (W' V' : Int) (A' B' C' : Option Addr) (n' c' m' d' k' q' : Nat) (gs' ks' : List Nat) (cs' : List (Int × Int)) (w : World)
 (hF : FArg w A n B m C k gs ks cs) (hG : FArg w A' n' B' m' C' k' gs' ks' cs') (hn : n ≤ maxLen) (hm : m ≤ maxLen) (hk : k ≤ 100000) :
 Calls Tryz.prog 179 #[.agg #[.int .i64 W, .slice A n c, .int .i64 V, .slice B m d, .slice C k q], .agg #[.int .i64 W', .slice A' n' c', .int .i64 V', .slice B' m' d', .slice C' k' q']] w
  fun e w' => e = .returned (.bool (equal2 W gs V ks cs W' gs' V' ks' cs')) ∧ Below w.heap.size w w' := by
 have HF := hid hF; have HG := hid hG
 have H0 := hid (TwoT.start w W V A B C n c m d k q W' V' A' B' C' n' c' m' d' k' q')
 clear hF hG
 go_enter Tryz.func179, Tryz.ntmps179
 go_wp2_with fail
 refine (devEqual_any W W' A A' n c n' c' gs gs' _ (HF.out.gen.below H0.out.2.2) (HG.out.gen.below H0.out.2.2) hn).mono ?_
 cases h1 : equalB W gs W' gs' with
 | false =>
   have Hr := hid (show equal2 W gs V ks cs W' gs' V' ks' cs' = false by unfold equal2; rw [h1]; rfl)
   rintro e w1 ⟨rfl, hb1⟩
   have H1 := hid (H0.out.below hb1)
   clear hb1 h1
   go_wp2
   go_ret
   exact ⟨ret_bool Hr.out.symm, H1.out.2.2⟩
 | true =>
   rintro e w1 ⟨rfl, hb1⟩
   have H1 := hid (H0.out.below hb1)
   have Hq1 := hid h1
   clear hb1 h1
   obtain ⟨t0, t1, t2, t3, t4⟩ := H1.out.2.1.five
   obtain ⟨s0, s1, s2, s3, s4⟩ := H1.out.1.five
   go_wp2_with fail
   refine (devEqual_any V V' B B' m d m' d' ks ks' _ (HF.out.kill.below H1.out.2.2) (HG.out.kill.below H1.out.2.2) hm).mono ?_
   cases h2 : equalB V ks V' ks' with
   | false =>
     have Hr := hid (show equal2 W gs V ks cs W' gs' V' ks' cs' = false by unfold equal2; rw [h2]; simp)
     rintro e w2 ⟨rfl, hb2⟩
     have H2 := hid (H1.out.below hb2)
     clear hb2 h2 t0 t1 t2 t3 t4 s0 s1 s2 s3 s4
     go_wp2
     go_ret
     exact ⟨ret_bool Hr.out.symm, H2.out.2.2⟩
   | true =>
     have Hr := hid (show equal2 W gs V ks cs W' gs' V' ks' cs' = decide (cs = cs') by unfold equal2; rw [h2, Hq1.out]; rfl)
     rintro e w2 ⟨rfl, hb2⟩
     have H2 := hid (H1.out.below hb2)
     clear hb2 h2 t0 t1 t2 t3 t4 s0 s1 s2 s3 s4
     obtain ⟨t0, t1, t2, t3, t4⟩ := H2.out.2.1.five
     obtain ⟨s0, s1, s2, s3, s4⟩ := H2.out.1.five
     go_wp2_with fail
     refine (copsEq_any C C' k q k' q' cs cs' _ (HF.out.cops.below H2.out.2.2) (HG.out.cops.below H2.out.2.2) hk).mono ?_
     generalize decide (cs = cs') = r at Hr
     rintro e w3 ⟨rfl, hb3⟩
     have H3 := hid (H2.out.below hb3)
     clear hb3 t0 t1 t2 t3 t4 s0 s1 s2 s3 s4
     go_wp2
     go_ret
     exact ⟨ret_bool Hr.out.symm, H3.out.2.2⟩
theorem zc_size (n : Nat) : (Builtin.zeroCells #[Value.int .i64 0, Value.int .i64 0] n).size = n * 2 := by simp [Builtin.zeroCells]
theorem grow_any (n : Nat) (w : World) (hn : n ≤ 10000) :
 Calls Tryz.prog 195 #[.slice none 0 0, .int .i64 n] w fun e w' => ∃ C q, e = .returned (.slice C 0 q) ∧ Cops w' w.heap.size (.slice C 0 q) [] ∧ Below w.heap.size w w' := by
 by_cases h0 : n = 0
 · subst h0
   go_enter Tryz.func195, Tryz.ntmps195
   go_wp2
   go_ret
   exact ⟨none, 0, rfl, World.ownsRow_nil _ _ _ _, Below.refl _ _⟩
 · obtain ⟨i0, hi, hz0, hz1, hz2⟩ := info_parts info35
   have hr : ∀ ty, (Builtin.append_ #[59, 3] ty #[.slice none 0 0, .int .i64 n]).run Tryz.prog w = .ok (.slice (some ⟨w.heap.size, 0, none⟩) n (grownCap w n 0 58)) (w.drew.alloc (.cells (Builtin.zeroCells #[Value.int .i64 0, Value.int .i64 0] n ++ Builtin.zeroCells #[Value.int .i64 0, Value.int .i64 0] (grownCap w n 0 58 - n)) 58)) := fun ty => by
    have := Lib.run_append_nil_zeros (P := Tryz.prog) w 59 3 ty 58 i0 _ .i64 .i64 Tryz.underlying59 Tryz.underlying3 hi hz0 n (by omega) (by rw [hz1]; omega) (by omega) (by rw [hz2]; omega)
    exact this
   have hge := grownCap_ge w n 0 58
   have hle : grownCap w n 0 58 ≤ maxLen := grownCap_le_maxLen w n 0 58 (by unfold maxLen; omega)
   have Hr := hid hr
   generalize grownCap w n 0 58 = G at *
   have Hrow := hid (show Cops (w.drew.alloc (.cells (Builtin.zeroCells #[Value.int .i64 0, Value.int .i64 0] n ++ Builtin.zeroCells #[Value.int .i64 0, Value.int .i64 0] (G - n)) 58)) w.heap.size (.slice (some ⟨w.heap.size, 0, none⟩) 0 G) [] from
    ⟨rfl, .inr ⟨w.heap.size, G, _, rfl, Nat.le_refl _, heap_alloc_new w.drew _, Nat.zero_le _, hle, by rw [Array.size_append, zc_size, zc_size]; omega, by simp [pairs]⟩⟩)
   have Hb := hid (show Below w.heap.size w (w.drew.alloc (.cells (Builtin.zeroCells #[Value.int .i64 0, Value.int .i64 0] n ++ Builtin.zeroCells #[Value.int .i64 0, Value.int .i64 0] (G - n)) 58)) from (Below.refl _ _).drew.alloc (Nat.le_refl _) _)
   have hn0 : (0 : Int) < (n : Int) := by omega
   unfold maxLen at hle
   clear hr hi hz0 hz1 hz2
   go_enter Tryz.func195, Tryz.ntmps195
   go_wp2_with (at_builtin; refine Lib.wpList_append_run _ rfl _ _ _ _ rfl _ _ rfl rfl _ _ (Hr.out _) ?_)
   go_ret
   exact ⟨_, _, rfl, Hrow.out, Hb.out⟩
theorem run_app_none (w : World) (C A : Option Addr) (n qr m q : Nat) (h : n ≤ qr) (hm : m = 0) (ty : TypeId) : (Builtin.append_ #[59, 59] ty #[.slice C n qr, .slice A m q]).run Tryz.prog w = .ok (.slice C n qr) w := by
 subst hm
 cases C with
 | none => cases A with
   | none => go_simp
   | some a => go_simp
 | some g => cases A with
   | none => go_simp
   | some a => go_simp
theorem Cops.cap {w : World} {base q n : Nat} {C : Option Addr} {rs : List (Int × Int)} (h : Cops w base (.slice C n q) rs) : rs.length ≤ q := by
 rcases h.2 with ⟨_, h0⟩ | ⟨g, cap, cur, e, _, _, hc, _⟩
 · omega
 · injection e with _ _ e; omega
def Catting (w : World) (g : Nat) (X Y : Option Addr) (kx qx ky qy : Nat) (v : Value) (rs : List (Int × Int)) (wr : World) : Prop :=
 (wr.cell? ⟨g, 0, none⟩ = some (.slice X kx qx) ∧ wr.cell? ⟨g, 1, none⟩ = some (.slice Y ky qy)) ∧ Cops wr w.heap.size v rs ∧ Below w.heap.size w wr
theorem Catting.row {w wr w' : World} {g : Nat} {X Y : Option Addr} {kx qx ky qy : Nat} {v v' : Value} {rs rs' : List (Int × Int)} (h : Catting w g X Y kx qx ky qy v rs wr) (hgl : g < w.heap.size) (hg : wr.grownBy w' v.ownBlock) (hc : Cops w' w.heap.size v' rs') : Catting w g X Y kx qx ky qy v' rs' w' := by
 have ne : ∀ k, v.ownBlock = some k → w.heap.size ≤ k := own_base h.2.1
 have hs := h.2.2.size
 have hb : w'.heap[g]? = wr.heap[g]? := hg.block g (by omega) (by
  intro e; have := ne g e.symm; omega)
 exact ⟨⟨(World.cell?_of_block (a := ⟨g, 0, none⟩) hb).trans h.1.1, (World.cell?_of_block (a := ⟨g, 1, none⟩) hb).trans h.1.2⟩, hc, h.2.2.grown hg hs ne⟩
theorem pairs_app (a b : List (Int × Int)) : pairs (a ++ b) = pairs a ++ pairs b := by simp [pairs]
theorem pairs_one (cs : List (Int × Int)) : ∀ u ∈ pairs cs, u.oneCell' = true := by
 intro u hu
 unfold pairs at hu
 obtain ⟨p, _, hp⟩ := List.mem_flatMap.1 hu
 simp at hp
 rcases hp with rfl | rfl <;> rfl
theorem ArgC.cells {w w' : World} {ad : Addr} {n : Nat} {cs : List (Int × Int)} (h : ArgC w (some ad) n cs) (hb : Below w.heap.size w w') : ∀ j u, (pairs cs)[j]? = some u → w'.cell? (ad.add j) = some u := by
 intro j u hu
 rcases h.lies with h0 | ⟨ad', e, hl, hc⟩
 · rw [h0] at hu; simp at hu
 · cases e
   exact (hb.cell (by rw [add_block]; exact hl)).trans (hc j u hu)
set_option maxHeartbeats 1600000 in
theorem concat_any (g c : Nat) (X Y : Option Addr) (kx qx ky qy : Nat) (xs ys : List (Int × Int)) (w : World) (hg : g < w.heap.size) (h0 : w.cell? ⟨g, 0, none⟩ = some (.slice X kx qx)) (h1 : w.cell? ⟨g, 1, none⟩ = some (.slice Y ky qy))
 (hX : ArgC w X kx xs) (hY : ArgC w Y ky ys) (hkx : kx ≤ 64) (hky : ky ≤ 64) :
 Calls Tryz.prog 187 #[.slice (some ⟨g, 0, none⟩) 2 c] w fun e w' => ∃ C q, e = .returned (.slice C (xs ++ ys).length q) ∧ ArgC w' C (xs ++ ys).length (xs ++ ys) ∧ Below w.heap.size w w' := by
 obtain ⟨i0, hi, hz0, hz1, hz2⟩ := info_parts info35
 have Hi := hid hi; have Hz0 := hid hz0; have Hz1 := hid hz1; have Hz2 := hid hz2
 have HX := hid hX; have HY := hid hY; have H0 := hid h0; have H1 := hid h1
 clear hi hz0 hz1 hz2 hX hY
 go_enter Tryz.func187, Tryz.ntmps187
 go_wp2_with fail
 go_loopw [3, 5, 11] (fun s _ i wr => ((i = .int .i64 (0 : Nat) ∧ s = .int .i64 (0 : Nat)) ∨ (i = .int .i64 (1 : Nat) ∧ s = .int .i64 (kx : Nat)) ∨ (i = .int .i64 (2 : Nat) ∧ s = .int .i64 (kx + ky : Nat))) ∧ wr = w) (fun _ _ i _ => 2 - (intOf i).toNat)
 case atStart => exact ⟨.inl ⟨rfl, rfl⟩, rfl⟩
 case round =>
  obtain ⟨⟨rfl, rfl⟩ | ⟨rfl, rfl⟩ | ⟨rfl, rfl⟩, hw⟩ := hrel
  all_goals subst wr
  · go_wp2
    go_roundw
    case rel => exact ⟨.inr (.inl ⟨rfl, by go_num⟩), by trivial⟩
    case measure => simp [intOf]
  · go_wp2
    go_roundw
    case rel => exact ⟨.inr (.inr ⟨rfl, by go_num⟩), by trivial⟩
    case measure => simp [intOf]
  · go_wp2_with fail
    have Hg := hid hg
    have hgr := grow_any (kx + ky) w (by omega)
    rw [Int.natCast_add] at hgr
    refine hgr.mono ?_
    rintro e w3 ⟨C0, q0, rfl, hc0, hb3⟩
    have H3 := hid (show Catting w g X Y kx qx ky qy (.slice C0 0 q0) [] w3 from ⟨⟨(hb3.cell hg).trans h0, (hb3.cell hg).trans h1⟩, hc0, hb3⟩)
    clear hc0 hb3 hgr h0 h1
    go_wp2_with fail
    go_loopw [6, 8, 27] (fun v _ i wr => ∃ (Cr : Option Addr) (qr : Nat), (i = .int .i64 (0 : Nat) ∧ v = .slice Cr ([] : List (Int × Int)).length qr ∧ Hid (Catting w g X Y kx qx ky qy (.slice Cr ([] : List (Int × Int)).length qr) [] wr)) ∨ (i = .int .i64 (1 : Nat) ∧ v = .slice Cr xs.length qr ∧ Hid (Catting w g X Y kx qx ky qy (.slice Cr xs.length qr) xs wr)) ∨ (i = .int .i64 (2 : Nat) ∧ v = .slice Cr (xs ++ ys).length qr ∧ Hid (Catting w g X Y kx qx ky qy (.slice Cr (xs ++ ys).length qr) (xs ++ ys) wr))) (fun _ _ i _ => 2 - (intOf i).toNat)
    case atStart => exact ⟨C0, q0, .inl ⟨rfl, rfl, H3.out⟩⟩
    case round =>
     obtain ⟨Cr, qr, ⟨rfl, rfl, hK⟩ | ⟨rfl, rfl, hK⟩ | ⟨rfl, rfl, hK⟩⟩ := hrel
     · obtain ⟨c0, c1⟩ := hK.out.1
       by_cases hz : kx = 0
       · have e0 : xs = [] := List.eq_nil_of_length_eq_zero (by rw [HX.out.len]; exact hz)
         have Hz := hid hz
         clear hz
         have E0 := hid e0
         clear e0
         have hcap := hK.out.2.1.cap
         go_wp2_with (at_builtin; refine Lib.wpList_append_run _ rfl _ _ _ _ rfl _ _ rfl rfl _ _ (run_app_none _ _ _ _ _ _ _ hcap Hz.out _) ?_)
         go_roundw
         case rel => exact ⟨Cr, qr, .inr (.inl ⟨rfl, by rw [E0.out]; rfl, by rw [E0.out]; exact hK⟩)⟩
         case measure => simp [intOf]
       · obtain ⟨ad, rfl⟩ : ∃ ad, X = some ad := by
          rcases HX.out.lies with h | ⟨ad, e, _⟩
          · exfalso
            have := HX.out.len
            have h2 := pairs_length xs
            rw [h] at h2; simp at h2; omega
          · exact ⟨ad, e⟩
         go_wp2_with ((
          at_builtin
          refine wpList_append_own _ rfl _ _ 59 rfl w.heap.size 58 i0 _ 2 16 Tryz.underlying59 Hi.out Hz0.out Hz1.out Hz2.out rfl (by decide) (.slice Cr (([] : List (Int × Int))).length qr) (([] : List (Int × Int))).length (pairs (([] : List (Int × Int)))) rfl hK.out.2.1 ad kx qx (pairs xs) rfl (by rw [pairs_length, HX.out.len]; omega) (HX.out.cells hK.out.2.2) (pairs_one _) (by unfold maxLen; (try simp only [List.length_nil]); omega) (by (try simp only [List.length_nil]); omega) hK.out.2.2.size ?_
          intro v' w7 hown7 hgr7 hnil7
          have hl7 : ∃ C7 q7, v' = .slice C7 (([] : List (Int × Int)) ++ xs).length q7 := by
           rcases hown7.2 with ⟨_, h0⟩ | ⟨g7, cap7, cur7, e7, _⟩
           · omega
           · exact ⟨_, cap7, by rw [e7, List.length_append, HX.out.len]⟩
          obtain ⟨C7, q7, rfl⟩ := hl7
          have H7 := hid (hK.out.row Hg.out hgr7 (show Cops w7 w.heap.size (.slice C7 (([] : List (Int × Int)) ++ xs).length q7) (([] : List (Int × Int)) ++ xs) from by have e : (([] : List (Int × Int)) ++ xs).length = (([] : List (Int × Int))).length + kx := (by rw [List.length_append, HX.out.len]); have hh := hown7; rw [← e, ← pairs_app] at hh; exact hh))
          clear hown7 hgr7 hnil7))
         go_roundw
         case rel => exact ⟨C7, q7, .inr (.inl ⟨rfl, by first | rfl | rw [List.length_append], H7⟩)⟩
         case measure => simp [intOf]
     · obtain ⟨c0, c1⟩ := hK.out.1
       have hlx : xs.length ≤ 64 := by have := HX.out.len; omega
       by_cases hz : ky = 0
       · have e0 : ys = [] := List.eq_nil_of_length_eq_zero (by rw [HY.out.len]; exact hz)
         have Hz := hid hz
         clear hz
         have E0 := hid e0
         clear e0
         have hcap := hK.out.2.1.cap
         go_wp2_with (at_builtin; refine Lib.wpList_append_run _ rfl _ _ _ _ rfl _ _ rfl rfl _ _ (run_app_none _ _ _ _ _ _ _ hcap Hz.out _) ?_)
         go_roundw
         case rel => exact ⟨Cr, qr, .inr (.inr ⟨rfl, by rw [E0.out, List.append_nil], by rw [E0.out, List.append_nil]; exact hK⟩)⟩
         case measure => simp [intOf]
       · obtain ⟨ad, rfl⟩ : ∃ ad, Y = some ad := by
          rcases HY.out.lies with h | ⟨ad, e, _⟩
          · exfalso
            have := HY.out.len
            have h2 := pairs_length ys
            rw [h] at h2; simp at h2; omega
          · exact ⟨ad, e⟩
         go_wp2_with ((
          at_builtin
          refine wpList_append_own _ rfl _ _ 59 rfl w.heap.size 58 i0 _ 2 16 Tryz.underlying59 Hi.out Hz0.out Hz1.out Hz2.out rfl (by decide) (.slice Cr (xs).length qr) (xs).length (pairs (xs)) rfl hK.out.2.1 ad ky qy (pairs ys) rfl (by rw [pairs_length, HY.out.len]; omega) (HY.out.cells hK.out.2.2) (pairs_one _) (by unfold maxLen; (try simp only [List.length_nil]); omega) (by (try simp only [List.length_nil]); omega) hK.out.2.2.size ?_
          intro v' w7 hown7 hgr7 hnil7
          have hl7 : ∃ C7 q7, v' = .slice C7 (xs ++ ys).length q7 := by
           rcases hown7.2 with ⟨_, h0⟩ | ⟨g7, cap7, cur7, e7, _⟩
           · omega
           · exact ⟨_, cap7, by rw [e7, List.length_append, HY.out.len]⟩
          obtain ⟨C7, q7, rfl⟩ := hl7
          have H7 := hid (hK.out.row Hg.out hgr7 (show Cops w7 w.heap.size (.slice C7 (xs ++ ys).length q7) (xs ++ ys) from by have e : (xs ++ ys).length = (xs).length + ky := (by rw [List.length_append, HY.out.len]); have hh := hown7; rw [← e, ← pairs_app] at hh; exact hh))
          clear hown7 hgr7 hnil7))
         go_roundw
         case rel => exact ⟨C7, q7, .inr (.inr ⟨rfl, by first | rfl | rw [List.length_append], H7⟩)⟩
         case measure => simp [intOf]
     · go_wp2_with fail
       go_ret
       exact ⟨Cr, qr, rfl, ⟨own_at hK.out.2.1, rfl⟩, hK.out.2.2⟩
theorem Arg.skip {w w' : World} {A : Option Addr} {n : Nat} {ws : List Nat} {R : Nat} (h : Arg w A n ws) (ha : ws = [] ∨ ∃ ad, A = some ad ∧ ad.block ≠ R) (hg : w.grownBy w' (some R)) : Arg w' A n ws := by
 refine ⟨?_, h.len, h.ok⟩
 rcases ha with rfl | ⟨ad, rfl, hne⟩
 · exact .inl rfl
 · rcases h.lies with h0 | ⟨ad', e, hb, hc⟩
   · exact .inl h0
   · cases e
     exact .inr ⟨ad, rfl, by have := hg.size; omega, fun j u hu => hg.cell (hc j u hu) (by rw [add_block]; intro e; injection e with e; exact hne e)⟩
theorem ArgC.skip {w w' : World} {A : Option Addr} {n : Nat} {cs : List (Int × Int)} {R : Nat} (h : ArgC w A n cs) (ha : cs = [] ∨ ∃ ad, A = some ad ∧ ad.block ≠ R) (hg : w.grownBy w' (some R)) : ArgC w' A n cs := by
 refine ⟨?_, h.len⟩
 rcases ha with rfl | ⟨ad, rfl, hne⟩
 · exact .inl rfl
 · rcases h.lies with h0 | ⟨ad', e, hb, hc⟩
   · exact .inl h0
   · cases e
     exact .inr ⟨ad, rfl, by have := hg.size; omega, fun j u hu => hg.cell (hc j u hu) (by rw [add_block]; intro e; injection e with e; exact hne e)⟩
theorem grown_stored5 {w0 w : World} {R : Nat} (h : w0.grownBy w (some R)) (a b c d e : Value) : w0.grownBy (stored5 w R a b c d e) (some R) :=
 grown_trans (grown_trans (grown_trans (grown_trans (grown_trans h (grown_set _ R rfl a)) (grown_set _ R rfl b)) (grown_set _ R rfl c)) (grown_set _ R rfl d)) (grown_set _ R rfl e)
def andR (W : Nat) (ws xs : List Nat) : List Nat := Bs.ofP W (fun i => Bs.bit ws i && Bs.bit xs i) W
theorem fit_andR (W : Nat) (ws xs : List Nat) : Bs.Fit W (andR W ws xs) := Bs.fit_ofP _ _ _ (Nat.le_refl _)
theorem mixR_and {W : Nat} {ws xs : List Nat} (hW : W ≤ 256) (h1 : Bs.Fit W ws) (h2 : Bs.Fit W xs) : mixR (flag false false true) W ws W xs = ((W : Int), andR W ws xs, 0) := by
 rw [mixR_ok _ hW h1 h2]
 congr 2
 refine Bs.ofP_congr fun i _ => ?_
 cases Bs.bit ws i <;> cases Bs.bit xs i <;> rfl
def cnR (W : Nat) (gs ks : List Nat) (cs : List (Int × Int)) : Int × List Nat × List Nat × List (Int × Int) × Int :=
 if (ord (cs.filter (restB W gs))).length ≤ 64 then (W, gs, killC W gs ks cs, ord (cs.filter (restB W gs)), 0) else (0, [], [], [], 7)
theorem RetCanon.val {w w' : World} {W : Nat} {gs ks : List Nat} {cs : List (Int × Int)} {e : Ending} (hh : RetCanon w W gs ks cs e w') : RetR w (cnR W gs ks cs) e w' := by
 unfold RetCanon at hh
 unfold cnR
 by_cases h : (ord (cs.filter (restB W gs))).length ≤ 64
 · rw [if_pos h] at hh ⊢; exact hh
 · rw [if_neg h] at hh ⊢; exact hh
def joinR (W : Int) (gs : List Nat) (V : Int) (ks : List Nat) (cs : List (Int × Int)) (W' : Int) (gs' : List Nat) (V' : Int) (ks' : List Nat) (cs' : List (Int × Int)) : Int × List Nat × List Nat × List (Int × Int) × Int :=
 if validT W gs V ks cs = false ∨ validT W' gs' V' ks' cs' = false then (0, [], [], [], 1)
 else if W ≠ W' then (0, [], [], [], 2)
 else cnR W.toNat (orR W.toNat gs gs') (andR W.toNat ks ks') (cs ++ cs')
def Three (w : World) (W V : Int) (A B C : Option Addr) (n c m d k q : Nat) (W' V' : Int) (A' B' C' : Option Addr) (n' c' m' d' k' q' : Nat) (wr : World) : Prop :=
 Fb wr w.heap.size #[.int .i64 W, .slice A n c, .int .i64 V, .slice B m d, .slice C k q] 61 ∧ Fb wr (w.heap.size + 1) #[.int .i64 W', .slice A' n' c', .int .i64 V', .slice B' m' d', .slice C' k' q'] 61 ∧
  Fb wr (w.heap.size + 2) #[.int .i64 0, .slice none 0 0, .int .i64 0, .slice none 0 0, .slice none 0 0] 61 ∧ Below w.heap.size w wr
section
variable {w : World} {W V : Int} {A B C : Option Addr} {n c m d k q : Nat} {W' V' : Int} {A' B' C' : Option Addr} {n' c' m' d' k' q' : Nat} {wr w' : World}
theorem Three.start (w : World) (W V : Int) (A B C : Option Addr) (n c m d k q : Nat) (W' V' : Int) (A' B' C' : Option Addr) (n' c' m' d' k' q' : Nat) :
 Three w W V A B C n c m d k q W' V' A' B' C' n' c' m' d' k' q' (((w.alloc (.cells #[.int .i64 W, .slice A n c, .int .i64 V, .slice B m d, .slice C k q] 61)).alloc (.cells #[.int .i64 W', .slice A' n' c', .int .i64 V', .slice B' m' d', .slice C' k' q'] 61)).alloc (.cells #[.int .i64 0, .slice none 0 0, .int .i64 0, .slice none 0 0, .slice none 0 0] 61)) := by
 have h := TwoT.start w W V A B C n c m d k q W' V' A' B' C' n' c' m' d' k' q'
 have hS := Fb.new ((w.alloc (.cells #[.int .i64 W, .slice A n c, .int .i64 V, .slice B m d, .slice C k q] 61)).alloc (.cells #[.int .i64 W', .slice A' n' c', .int .i64 V', .slice B' m' d', .slice C' k' q'] 61)) #[.int .i64 0, .slice none 0 0, .int .i64 0, .slice none 0 0, .slice none 0 0] 61
 simp only [World.size_alloc] at hS
 exact ⟨h.1.alloc _, h.2.1.alloc _, hS, h.2.2.alloc (by simp; omega) _⟩
theorem Three.below (h : Three w W V A B C n c m d k q W' V' A' B' C' n' c' m' d' k' q' wr) (hb : Below wr.heap.size wr w') : Three w W V A B C n c m d k q W' V' A' B' C' n' c' m' d' k' q' w' :=
 ⟨h.1.below hb h.1.lt, h.2.1.below hb h.2.1.lt, h.2.2.1.below hb h.2.2.1.lt, h.2.2.2.trans (hb.mono h.2.2.2.size)⟩
end
theorem grown_set5 {w0 w : World} {R : Nat} (h : w0.grownBy w (some R)) (a b c d e : Value) : w0.grownBy (((((w.setCell ⟨R, 0, none⟩ a).setCell ⟨R, 1, none⟩ b).setCell ⟨R, 2, none⟩ c).setCell ⟨R, 3, none⟩ d).setCell ⟨R, 4, none⟩ e) (some R) :=
 grown_stored5 h a b c d e
theorem fit_of_valid' {W : Nat} {w : World} {A : Option Addr} {n : Nat} {ws : List Nat} (h : Bs.validB W ws = true) (ha : Arg w A n ws) : Bs.Fit W ws := by
 have := Bs.fit_of_valid h ha.ok; rwa [Int.toNat_natCast] at this
def chnP (V : Int) (kg : List Nat) (csg : List (Int × Int)) (p : Int × Int) (i : Nat) : List (Int × Int) :=
 (if Bs.hasB V kg p.2 then [] else [p]) ++ ((csg.take i).filter fun d => decide (p.2 = d.1)).map fun d => (p.1, d.2)
def chnF (V : Int) (kg : List Nat) (csf csg : List (Int × Int)) (j : Nat) : List (Int × Int) := (csf.take j).flatMap fun p => chnP V kg csg p csg.length
def chnL (V : Int) (kf : List Nat) (V' : Int) (kg : List Nat) (csf csg : List (Int × Int)) : List (Int × Int) :=
 chnF V' kg csf csg csf.length ++ csg.filter fun d => !Bs.hasB V kf d.1
theorem chnP_zero (V : Int) (kg : List Nat) (csg : List (Int × Int)) (p : Int × Int) : chnP V kg csg p 0 = if Bs.hasB V kg p.2 then [] else [p] := by unfold chnP; simp
theorem chnP_yes {V : Int} {kg : List Nat} {csg : List (Int × Int)} {p d : Int × Int} {i : Nat} (h : csg.take (i + 1) = csg.take i ++ [d]) (hd : p.2 = d.1) : chnP V kg csg p (i + 1) = chnP V kg csg p i ++ [(p.1, d.2)] := by
 unfold chnP; rw [h, List.filter_append, List.map_append, List.append_assoc]; simp [hd]
theorem chnP_no {V : Int} {kg : List Nat} {csg : List (Int × Int)} {p d : Int × Int} {i : Nat} (h : csg.take (i + 1) = csg.take i ++ [d]) (hd : p.2 ≠ d.1) : chnP V kg csg p (i + 1) = chnP V kg csg p i := by
 unfold chnP; rw [h, List.filter_append, List.map_append]; simp [hd]
theorem chnP_len (V : Int) (kg : List Nat) (csg : List (Int × Int)) (p : Int × Int) (i : Nat) : (chnP V kg csg p i).length ≤ csg.length + 1 := by
 unfold chnP
 rw [List.length_append, List.length_map]
 have h1 := List.length_filter_le (fun d => decide (p.2 = d.1)) (csg.take i)
 rw [List.length_take] at h1
 split <;> simp <;> omega
theorem chnF_snoc {V : Int} {kg : List Nat} {csf csg : List (Int × Int)} {p : Int × Int} {j : Nat} (h : csf.take (j + 1) = csf.take j ++ [p]) : chnF V kg csf csg (j + 1) = chnF V kg csf csg j ++ chnP V kg csg p csg.length := by
 unfold chnF; rw [h, List.flatMap_append]; simp
theorem chnF_len (V : Int) (kg : List Nat) (csf csg : List (Int × Int)) (j : Nat) : (chnF V kg csf csg j).length ≤ j * (csg.length + 1) := by
 induction j with
 | zero => simp [chnF]
 | succ j ih =>
   by_cases h : j < csf.length
   · rw [chnF_snoc (take_snoc csf j h), List.length_append, Nat.succ_mul]
     have := chnP_len V kg csg csf[j] csg.length
     omega
   · have e : chnF V kg csf csg (j + 1) = chnF V kg csf csg j := by
      unfold chnF
      rw [List.take_of_length_le (by omega), List.take_of_length_le (by omega)]
     rw [e, Nat.succ_mul]; omega
def Chaining (w : World) (W V : Int) (A B C : Option Addr) (n c m d k q : Nat) (W' V' : Int) (A' B' C' : Option Addr) (n' c' m' d' k' q' : Nat) (v : Value) (rs : List (Int × Int)) (wr : World) : Prop :=
 TwoT w W V A B C n c m d k q W' V' A' B' C' n' c' m' d' k' q' wr ∧ Cops wr (w.heap.size + 2) v rs ∧ w.heap.size + 2 ≤ wr.heap.size
section
variable {w : World} {W V : Int} {A B C : Option Addr} {n c m d k q : Nat} {W' V' : Int} {A' B' C' : Option Addr} {n' c' m' d' k' q' : Nat} {v : Value} {rs : List (Int × Int)} {wr w' : World}
theorem Chaining.below (h : Chaining w W V A B C n c m d k q W' V' A' B' C' n' c' m' d' k' q' v rs wr) (hb : Below wr.heap.size wr w') : Chaining w W V A B C n c m d k q W' V' A' B' C' n' c' m' d' k' q' v rs w' :=
 ⟨h.1.below hb, own_below h.2.1 hb, by have := hb.size; have := h.2.2; omega⟩
theorem Chaining.row {v' : Value} {rs' : List (Int × Int)} (h : Chaining w W V A B C n c m d k q W' V' A' B' C' n' c' m' d' k' q' v rs wr) (hg : wr.grownBy w' v.ownBlock) (hc : Cops w' (w.heap.size + 2) v' rs') :
 Chaining w W V A B C n c m d k q W' V' A' B' C' n' c' m' d' k' q' v' rs' w' := by
 have ne : ∀ b, b < w.heap.size + 2 → some b ≠ v.ownBlock := fun b hb e => by have := own_base h.2.1 b e.symm; omega
 exact ⟨⟨h.1.1.grown hg (ne _ (by omega)), h.1.2.1.grown hg (ne _ (by omega)), h.1.2.2.grown hg h.1.2.2.size (fun b e => by have := own_base h.2.1 b e; omega)⟩, hc, by have := hg.size; have := h.2.2; omega⟩
end
theorem Chaining.push {w : World} {W V : Int} {A B C : Option Addr} {n c m d k q : Nat} {W' V' : Int} {A' B' C' : Option Addr} {n' c' m' d' k' q' : Nat} {v : Value} {rs : List (Int × Int)} {wr w' : World} {o : Obj} {g cap : Nat} {x y : Int}
 (h : Chaining w W V A B C n c m d k q W' V' A' B' C' n' c' m' d' k' q' v rs wr) (hown : w'.ownsRow (w.heap.size + 2) 58 2 (.slice (some ⟨g, 0, none⟩) (rs.length + 1) cap) (rs.length + 1) (pairs rs ++ [.int .i64 x, .int .i64 y])) (hg : (wr.alloc o).grownBy w' v.ownBlock) :
 Chaining w W V A B C n c m d k q W' V' A' B' C' n' c' m' d' k' q' (.slice (some ⟨g, 0, none⟩) (rs.length + 1) cap) (rs ++ [(x, y)]) w' :=
 (h.below ((Below.refl _ _).alloc (Nat.le_refl _) o)).row hg (by unfold Cops; rw [pairs_snoc, List.length_append]; exact hown)
theorem one_pair (a b : Int) : ∀ u ∈ [Value.int .i64 a, Value.int .i64 b], u.oneCell' = true := by
 intro u hu; simp at hu; rcases hu with rfl | rfl <;> rfl
set_option maxHeartbeats 3200000 in
theorem chain_any (W V : Int) (A B C : Option Addr) (n c m d k q : Nat) (gs ks : List Nat) (cs : List (Int × Int)) (W' V' : Int) (A' B' C' : Option Addr) (n' c' m' d' k' q' : Nat) (gs' ks' : List Nat) (cs' : List (Int × Int)) (w : World)
 (hF : FArg w A n B m C k gs ks cs) (hG : FArg w A' n' B' m' C' k' gs' ks' cs') (hk : k ≤ 64) (hk' : k' ≤ 64) :
 Calls Tryz.prog 163 #[.agg #[.int .i64 W, .slice A n c, .int .i64 V, .slice B m d, .slice C k q], .agg #[.int .i64 W', .slice A' n' c', .int .i64 V', .slice B' m' d', .slice C' k' q']] w
  fun e w' => ∃ Co qo, e = .returned (.slice Co (chnL V ks V' ks' cs cs').length qo) ∧ ArgC w' Co (chnL V ks V' ks' cs cs').length (chnL V ks V' ks' cs cs') ∧ Below w.heap.size w w' := by
 obtain ⟨i0, hi, hz0, hz1, hz2⟩ := info_parts info35
 have Hi := hid hi; have Hz0 := hid hz0; have Hz1 := hid hz1; have Hz2 := hid hz2
 have HF := hid hF; have HG := hid hG
 have hst := TwoT.start w W V A B C n c m d k q W' V' A' B' C' n' c' m' d' k' q'
 have Hst := hid (show Chaining w W V A B C n c m d k q W' V' A' B' C' n' c' m' d' k' q' (.slice none 0 0) (chnF V' ks' cs cs' 0) _ from ⟨hst, World.ownsRow_nil _ _ _ _, by simp⟩)
 clear hi hz0 hz1 hz2 hF hG hst
 go_enter Tryz.func163, Tryz.ntmps163
 go_wp2_with fail
 generalize (w.alloc (.cells #[.int .i64 W, .slice A n c, .int .i64 V, .slice B m d, .slice C k q] 61)).alloc (.cells #[.int .i64 W', .slice A' n' c', .int .i64 V', .slice B' m' d', .slice C' k' q'] 61) = w1 at *
 go_loopw [5, 7, 9, 15, 32] (fun v _ _ i _ wr => ∃ j : Nat, j ≤ k ∧ i = .int .i64 j ∧ Hid (Chaining w W V A B C n c m d k q W' V' A' B' C' n' c' m' d' k' q' v (chnF V' ks' cs cs' j) wr)) (fun _ _ _ i _ _ => k - (intOf i).toNat)
 case atStart => exact ⟨0, by omega, rfl, Hst.out⟩
 case round =>
  obtain ⟨j, hj, rfl, hG1⟩ := hrel
  clear Hst
  by_cases hlt : j < k
  · have hjl : j < cs.length := by rw [HF.out.cops.len]; exact hlt
    have hget : cs[j]? = some cs[j] := List.getElem?_eq_getElem _
    have hsn := take_snoc cs j hjl
    generalize cs[j] = p at hget hsn
    obtain ⟨p1, p2⟩ := p
    obtain ⟨ad, rfl, had, g1, g2⟩ := (HF.out.cops.below hG1.out.1.2.2).cell hget
    have Hsn := hid hsn
    clear hget hsn
    have hlF : (chnF V' ks' cs cs' j).length ≤ 4160 := by
     have h1 := chnF_len V' ks' cs cs' j
     have h2 : j * (cs'.length + 1) ≤ 64 * 65 := Nat.mul_le_mul (by omega) (by have := HG.out.cops.len; omega)
     omega
    have hlP : ∀ i, (chnP V' ks' cs' (p1, p2) i).length ≤ 65 := fun i => by have h1 := chnP_len V' ks' cs' (p1, p2) i; have := HG.out.cops.len; omega
    have HlF := hid hlF; have HlP := hid hlP
    have hob : ∀ b, u5.ownBlock = some b → b < wr.heap.size := fun b hb => (World.ownsRow.lt hG1.out.2.1 b hb).2
    have Hob := hid hob
    have H5 := hid (hG1.out.below ((Below.refl _ _).alloc (Nat.le_refl _) (.cells #[.int .i64 p1, .int .i64 p2] 58)))
    have Hbx := hid (Fb.new wr #[.int .i64 p1, .int .i64 p2] 58)
    obtain ⟨b0, b1⟩ := Hbx.out.two
    obtain ⟨s0, s1, s2, s3, s4⟩ := H5.out.1.2.1.five
    clear hlF hlP hob
    go_wp2_with fail
    clear g1 g2
    generalize hgv : wr.heap.size = gv at *
    generalize wr.alloc (.cells #[.int .i64 p1, .int .i64 p2] 58) = wv at *
    have Hgv := hid hgv
    clear hgv
    refine (devHas_any V' B' m' d' ks' p2 _ (HG.out.kill.below H5.out.1.2.2)).mono ?_
    rintro e w6 ⟨rfl, hb6⟩
    have H6 := hid (H5.out.below hb6)
    have HB := hid (Hbx.out.below hb6 Hbx.out.lt)
    clear s0 s1 s2 s3 s4 b0 b1 hb6 Hbx H5
    obtain ⟨b0, b1⟩ := HB.out.two
    have hBl := HB.out.lt
    obtain ⟨r, hr⟩ : ∃ r, Bs.hasB V' ks' p2 = r := ⟨_, rfl⟩
    rw [hr]
    cases r with
    | true =>
      have hz0 : chnP V' ks' cs' (p1, p2) 0 = [] := by rw [chnP_zero]; simp [hr]
      have HJ := hid (show Chaining w W V A B (some ad) n c m d k q W' V' A' B' C' n' c' m' d' k' q' u5 (chnF V' ks' cs cs' j ++ chnP V' ks' cs' (p1, p2) 0) w6 from by rw [hz0, List.append_nil]; exact H6.out)
      have HN := hid (show u5.ownBlock ≠ some gv from fun e => by have := Hob.out gv e; omega)
      clear hz0 hr
      obtain ⟨s0, s1, s2, s3, s4⟩ := H6.out.1.2.1.five
      go_wp2_with fail
      clear s0 s1 s2 s3 s4 b0 b1 H6
      go_loopw [5, 9, 32] (fun v _ i wr => ∃ l : Nat, l ≤ k' ∧ i = .int .i64 l ∧ Hid (Chaining w W V A B (some ad) n c m d k q W' V' A' B' C' n' c' m' d' k' q' v (chnF V' ks' cs cs' j ++ chnP V' ks' cs' (p1, p2) l) wr ∧ Fb wr gv #[.int .i64 p1, .int .i64 p2] 58 ∧ v.ownBlock ≠ some gv)) (fun _ _ i _ => k' - (intOf i).toNat)
      case atStart => exact ⟨0, by omega, rfl, HJ.out, HB.out, HN.out⟩
      case round =>
       clear HJ HB HN
       obtain ⟨l, hl, rfl, hK⟩ := hrel
       by_cases hll : l < k'
       · have hll2 : l < cs'.length := by rw [HG.out.cops.len]; exact hll
         have hget2 : cs'[l]? = some cs'[l] := List.getElem?_eq_getElem _
         have hsn2 := take_snoc cs' l hll2
         generalize cs'[l] = dd at hget2 hsn2
         obtain ⟨d1, d2⟩ := dd
         obtain ⟨ad2, rfl, had2, g1, g2⟩ := (HG.out.cops.below hK.out.1.1.2.2).cell hget2
         have Hsn2 := hid hsn2
         have hlen : (chnF V' ks' cs cs' j ++ chnP V' ks' cs' (p1, p2) l).length ≤ 4300 := by
          rw [List.length_append]; have := HlF.out; have := HlP.out l; omega
         clear hget2 hsn2
         have HK := hid (hK.out.1.below ((Below.refl _ _).alloc (Nat.le_refl _) (.cells #[.int .i64 d1, .int .i64 d2] 58)))
         have HB2 := hid (hK.out.2.1.alloc (.cells #[.int .i64 d1, .int .i64 d2] 58))
         have HN2 := hid hK.out.2.2
         have HD := hid (Fb.new wr #[.int .i64 d1, .int .i64 d2] 58)
         obtain ⟨b0, b1⟩ := HB2.out.two
         obtain ⟨e0, e1⟩ := HD.out.two
         have hBl2 := HB2.out.lt
         by_cases he : p2 = d1
         · have tt : (p2 == d1) = true := by simp [he]
           have Hst2 := hid (show chnF V' ks' cs cs' j ++ chnP V' ks' cs' (p1, p2) (l + 1) = (chnF V' ks' cs cs' j ++ chnP V' ks' cs' (p1, p2) l) ++ [(p1, d2)] by rw [chnP_yes Hsn2.out he, List.append_assoc])
           clear he
           generalize chnF V' ks' cs cs' j ++ chnP V' ks' cs' (p1, p2) l = rs at *
           go_upto_region 10 with fail
           clear g1 g2
           generalize hgw : wr.heap.size = gw at *
           generalize wr.alloc (.cells #[.int .i64 d1, .int .i64 d2] 58) = wv2 at *
           clear hgw
           go_wp2_with ((
            at_builtin
            refine wpList_append_lies _ rfl _ _ 59 rfl (w.heap.size + 2) 58 i0 _ 2 16 Tryz.underlying59 Hi.out Hz0.out Hz1.out Hz2.out rfl (by decide) u5 rs.length (pairs rs) rfl (World.ownsRow.alloc HK.out.2.1 _) ⟨wv2.heap.size, 0, none⟩ 1 1 [.int .i64 p1, .int .i64 d2] rfl rfl (two_new _ _ _ _) (one_pair _ _) (by omega) (by unfold maxLen; omega) (by omega) (by have := HK.out.2.2; rw [World.size_alloc]; omega) _ rfl ?_
            intro g7 cap7 w7 hown7 hgr7 hat7 hlt7
            have H7 := hid (HK.out.push hown7 hgr7)
            have HB7 := hid ((HB2.out.alloc (.cells #[.int .i64 p1, .int .i64 d2] 58)).grown hgr7 (Ne.symm HN2.out))
            have HN7 := hid (show (Value.slice (some ⟨g7, 0, none⟩) (rs.length + 1) cap7).ownBlock ≠ some gv from fun e => by
             have e' : g7 = gv := by simpa [Value.ownBlock] using e
             rcases hat7 with h | h
             · exact HN2.out (by rw [h, e'])
             · rw [World.size_alloc] at h; omega)
            clear hown7 hgr7 hat7 hlt7))
           go_roundw
           case rel => exact ⟨l + 1, by omega, by go_num, by rw [Hst2.out]; exact hid ⟨H7.out, HB7.out, HN7.out⟩⟩
           case measure => simp [intOf]; omega
         · have tt : (p2 == d1) = false := by simp [he]
           have Hst2 := hid (show chnF V' ks' cs cs' j ++ chnP V' ks' cs' (p1, p2) (l + 1) = chnF V' ks' cs cs' j ++ chnP V' ks' cs' (p1, p2) l by rw [chnP_no Hsn2.out he])
           clear he
           go_wp2_with fail
           go_roundw
           case rel => exact ⟨l + 1, by omega, by go_num, by rw [Hst2.out]; exact hid ⟨HK.out, HB2.out, HN2.out⟩⟩
           case measure => simp [intOf]; omega
       · have hlk : k' = l := by omega
         subst hlk
         have Hst3 := hid (show chnF V' ks' cs cs' (j + 1) = chnF V' ks' cs cs' j ++ chnP V' ks' cs' (p1, p2) k' by rw [chnF_snoc Hsn.out, HG.out.cops.len])
         have HK := hid hK.out.1
         clear hK
         go_wp2_with fail
         go_roundw
         case rel => exact ⟨j + 1, by omega, by go_num, by rw [Hst3.out]; exact HK⟩
         case measure => simp [intOf]; omega
    | false =>
      have hz0 : chnP V' ks' cs' (p1, p2) 0 = [(p1, p2)] := by rw [chnP_zero]; simp [hr]
      have hlF := HlF.out
      have Hz := hid hz0
      clear hz0 hr
      obtain ⟨s0, s1, s2, s3, s4⟩ := H6.out.1.2.1.five
      generalize hFj : chnF V' ks' cs cs' j = rs at H6 hlF
      have HFj := hid hFj
      clear hFj
      go_upto_region 7 with (
       at_builtin
       refine wpList_append_lies _ rfl _ _ 59 rfl (w.heap.size + 2) 58 i0 _ 2 16 Tryz.underlying59 Hi.out Hz0.out Hz1.out Hz2.out rfl (by decide) u5 rs.length (pairs rs) rfl (World.ownsRow.alloc H6.out.2.1 _) ⟨w6.heap.size, 0, none⟩ 1 1 [.int .i64 p1, .int .i64 p2] rfl rfl (two_new _ _ _ _) (one_pair _ _) (by omega) (by unfold maxLen; omega) (by omega) (by have := H6.out.2.2; rw [World.size_alloc]; omega) _ rfl ?_
       intro g7 cap7 w7 hown7 hgr7 hat7 hlt7
       have HJ := hid (show Chaining w W V A B (some ad) n c m d k q W' V' A' B' C' n' c' m' d' k' q' (.slice (some ⟨g7, 0, none⟩) (rs.length + 1) cap7) (chnF V' ks' cs cs' j ++ chnP V' ks' cs' (p1, p2) 0) w7 from by rw [Hz.out, HFj.out]; exact H6.out.push hown7 hgr7)
       have HB := hid ((HB.out.alloc (.cells #[.int .i64 p1, .int .i64 p2] 58)).grown hgr7 (fun e => by have := Hob.out gv e.symm; omega))
       have HN := hid (show (Value.slice (some ⟨g7, 0, none⟩) (rs.length + 1) cap7).ownBlock ≠ some gv from fun e => by
        have e' : g7 = gv := by simpa [Value.ownBlock] using e
        rcases hat7 with h | h
        · have := Hob.out gv (by rw [h, e']); omega
        · rw [World.size_alloc] at h; omega)
       clear hown7 hgr7 hat7 hlt7)
      obtain ⟨x0, x1, x2, x3, x4⟩ := HJ.out.1.2.1.five
      go_wp2_with fail
      clear s0 s1 s2 s3 s4 b0 b1 H6 x0 x1 x2 x3 x4
      go_loopw [5, 9, 32] (fun v _ i wr => ∃ l : Nat, l ≤ k' ∧ i = .int .i64 l ∧ Hid (Chaining w W V A B (some ad) n c m d k q W' V' A' B' C' n' c' m' d' k' q' v (chnF V' ks' cs cs' j ++ chnP V' ks' cs' (p1, p2) l) wr ∧ Fb wr gv #[.int .i64 p1, .int .i64 p2] 58 ∧ v.ownBlock ≠ some gv)) (fun _ _ i _ => k' - (intOf i).toNat)
      case atStart => exact ⟨0, by omega, rfl, HJ.out, HB.out, HN.out⟩
      case round =>
       clear HJ HB HN
       obtain ⟨l, hl, rfl, hK⟩ := hrel
       by_cases hll : l < k'
       · have hll2 : l < cs'.length := by rw [HG.out.cops.len]; exact hll
         have hget2 : cs'[l]? = some cs'[l] := List.getElem?_eq_getElem _
         have hsn2 := take_snoc cs' l hll2
         generalize cs'[l] = dd at hget2 hsn2
         obtain ⟨d1, d2⟩ := dd
         obtain ⟨ad2, rfl, had2, g1, g2⟩ := (HG.out.cops.below hK.out.1.1.2.2).cell hget2
         have Hsn2 := hid hsn2
         have hlen : (chnF V' ks' cs cs' j ++ chnP V' ks' cs' (p1, p2) l).length ≤ 4300 := by
          rw [List.length_append]; have := HlF.out; have := HlP.out l; omega
         clear hget2 hsn2
         have HK := hid (hK.out.1.below ((Below.refl _ _).alloc (Nat.le_refl _) (.cells #[.int .i64 d1, .int .i64 d2] 58)))
         have HB2 := hid (hK.out.2.1.alloc (.cells #[.int .i64 d1, .int .i64 d2] 58))
         have HN2 := hid hK.out.2.2
         have HD := hid (Fb.new wr #[.int .i64 d1, .int .i64 d2] 58)
         obtain ⟨b0, b1⟩ := HB2.out.two
         obtain ⟨e0, e1⟩ := HD.out.two
         have hBl2 := HB2.out.lt
         by_cases he : p2 = d1
         · have tt : (p2 == d1) = true := by simp [he]
           have Hst2 := hid (show chnF V' ks' cs cs' j ++ chnP V' ks' cs' (p1, p2) (l + 1) = (chnF V' ks' cs cs' j ++ chnP V' ks' cs' (p1, p2) l) ++ [(p1, d2)] by rw [chnP_yes Hsn2.out he, List.append_assoc])
           clear he
           generalize chnF V' ks' cs cs' j ++ chnP V' ks' cs' (p1, p2) l = rs at *
           go_upto_region 10 with fail
           clear g1 g2
           generalize hgw : wr.heap.size = gw at *
           generalize wr.alloc (.cells #[.int .i64 d1, .int .i64 d2] 58) = wv2 at *
           clear hgw
           go_wp2_with ((
            at_builtin
            refine wpList_append_lies _ rfl _ _ 59 rfl (w.heap.size + 2) 58 i0 _ 2 16 Tryz.underlying59 Hi.out Hz0.out Hz1.out Hz2.out rfl (by decide) u5 rs.length (pairs rs) rfl (World.ownsRow.alloc HK.out.2.1 _) ⟨wv2.heap.size, 0, none⟩ 1 1 [.int .i64 p1, .int .i64 d2] rfl rfl (two_new _ _ _ _) (one_pair _ _) (by omega) (by unfold maxLen; omega) (by omega) (by have := HK.out.2.2; rw [World.size_alloc]; omega) _ rfl ?_
            intro g7 cap7 w7 hown7 hgr7 hat7 hlt7
            have H7 := hid (HK.out.push hown7 hgr7)
            have HB7 := hid ((HB2.out.alloc (.cells #[.int .i64 p1, .int .i64 d2] 58)).grown hgr7 (Ne.symm HN2.out))
            have HN7 := hid (show (Value.slice (some ⟨g7, 0, none⟩) (rs.length + 1) cap7).ownBlock ≠ some gv from fun e => by
             have e' : g7 = gv := by simpa [Value.ownBlock] using e
             rcases hat7 with h | h
             · exact HN2.out (by rw [h, e'])
             · rw [World.size_alloc] at h; omega)
            clear hown7 hgr7 hat7 hlt7))
           go_roundw
           case rel => exact ⟨l + 1, by omega, by go_num, by rw [Hst2.out]; exact hid ⟨H7.out, HB7.out, HN7.out⟩⟩
           case measure => simp [intOf]; omega
         · have tt : (p2 == d1) = false := by simp [he]
           have Hst2 := hid (show chnF V' ks' cs cs' j ++ chnP V' ks' cs' (p1, p2) (l + 1) = chnF V' ks' cs cs' j ++ chnP V' ks' cs' (p1, p2) l by rw [chnP_no Hsn2.out he])
           clear he
           go_wp2_with fail
           go_roundw
           case rel => exact ⟨l + 1, by omega, by go_num, by rw [Hst2.out]; exact hid ⟨HK.out, HB2.out, HN2.out⟩⟩
           case measure => simp [intOf]; omega
       · have hlk : k' = l := by omega
         subst hlk
         have Hst3 := hid (show chnF V' ks' cs cs' (j + 1) = chnF V' ks' cs cs' j ++ chnP V' ks' cs' (p1, p2) k' by rw [chnF_snoc Hsn.out, HG.out.cops.len])
         have HK := hid hK.out.1
         clear hK
         go_wp2_with fail
         go_roundw
         case rel => exact ⟨j + 1, by omega, by go_num, by rw [Hst3.out]; exact HK⟩
         case measure => simp [intOf]; omega
  · have hjk : k = j := by omega
    subst hjk
    have hall : chnF V' ks' cs cs' k = chnF V' ks' cs cs' cs.length := by rw [HF.out.cops.len]
    rw [hall] at hG1
    clear hall
    have hlF : (chnF V' ks' cs cs' cs.length).length ≤ 4160 := by
     have h1 := chnF_len V' ks' cs cs' cs.length
     have h2 : cs.length * (cs'.length + 1) ≤ 64 * 65 := Nat.mul_le_mul (by have := HF.out.cops.len; omega) (by have := HG.out.cops.len; omega)
     omega
    have hLL : chnL V ks V' ks' cs cs' = chnF V' ks' cs cs' cs.length ++ cs'.filter fun d => !Bs.hasB V ks d.1 := rfl
    have HLL := hid hLL
    clear hLL
    generalize chnF V' ks' cs cs' cs.length = rs0 at *
    obtain ⟨s0, s1, s2, s3, s4⟩ := hG1.out.1.2.1.five
    have HL := hid (show Chaining w W V A B C n c m d k q W' V' A' B' C' n' c' m' d' k' q' u5 (rs0 ++ (cs'.take 0).filter fun d => !Bs.hasB V ks d.1) wr from by simpa using hG1.out)
    clear hG1
    go_wp2_with fail
    clear s0 s1 s2 s3 s4
    go_loopw [5, 11, 54] (fun v _ i wr => ∃ l : Nat, l ≤ k' ∧ i = .int .i64 l ∧ Hid (Chaining w W V A B C n c m d k q W' V' A' B' C' n' c' m' d' k' q' v (rs0 ++ (cs'.take l).filter fun d => !Bs.hasB V ks d.1) wr)) (fun _ _ i _ => k' - (intOf i).toNat)
    case atStart => exact ⟨0, by omega, rfl, HL.out⟩
    case round =>
     clear HL
     obtain ⟨l, hl, rfl, hK⟩ := hrel
     by_cases hll : l < k'
     · have hll2 : l < cs'.length := by rw [HG.out.cops.len]; exact hll
       have hget2 : cs'[l]? = some cs'[l] := List.getElem?_eq_getElem _
       have hsn2 := take_snoc cs' l hll2
       generalize cs'[l] = dd at hget2 hsn2
       obtain ⟨d1, d2⟩ := dd
       obtain ⟨ad2, rfl, had2, g1, g2⟩ := (HG.out.cops.below hK.out.1.2.2).cell hget2
       have Hsn2 := hid hsn2
       have hlen : (rs0 ++ (cs'.take l).filter fun d => !Bs.hasB V ks d.1).length ≤ 4300 := by
        rw [List.length_append]
        have h1 := List.length_filter_le (fun d => !Bs.hasB V ks d.1) (cs'.take l)
        rw [List.length_take] at h1; omega
       clear hget2 hsn2
       have HK := hid (hK.out.below ((Below.refl _ _).alloc (Nat.le_refl _) (.cells #[.int .i64 d1, .int .i64 d2] 58)))
       have HD := hid (Fb.new wr #[.int .i64 d1, .int .i64 d2] 58)
       obtain ⟨e0, e1⟩ := HD.out.two
       obtain ⟨t0, t1, t2, t3, t4⟩ := HK.out.1.1.five
       go_wp2_with fail
       clear g1 g2
       generalize wr.heap.size = gw at *
       generalize wr.alloc (.cells #[.int .i64 d1, .int .i64 d2] 58) = wv2 at *
       refine (devHas_any V B m d ks d1 _ (HF.out.kill.below HK.out.1.2.2)).mono ?_
       rintro e w6 ⟨rfl, hb6⟩
       have H6 := hid (HK.out.below hb6)
       have HD6 := hid (HD.out.below hb6 HD.out.lt)
       clear e0 e1 t0 t1 t2 t3 t4 hb6
       obtain ⟨e0, e1⟩ := HD6.out.two
       obtain ⟨r, hr⟩ : ∃ r, Bs.hasB V ks d1 = r := ⟨_, rfl⟩
       rw [hr]
       cases r with
       | true =>
         have Hst2 := hid (show (rs0 ++ (cs'.take (l + 1)).filter fun d => !Bs.hasB V ks d.1) = rs0 ++ (cs'.take l).filter fun d => !Bs.hasB V ks d.1 by rw [Hsn2.out, List.filter_append]; simp [hr])
         clear hr
         go_wp2_with fail
         go_roundw
         case rel => exact ⟨l + 1, by omega, by go_num, by rw [Hst2.out]; exact H6⟩
         case measure => simp [intOf]; omega
       | false =>
         have Hst2 := hid (show (rs0 ++ (cs'.take (l + 1)).filter fun d => !Bs.hasB V ks d.1) = (rs0 ++ (cs'.take l).filter fun d => !Bs.hasB V ks d.1) ++ [(d1, d2)] by rw [Hsn2.out, List.filter_append, List.append_assoc]; simp [hr])
         clear hr
         generalize (rs0 ++ (cs'.take l).filter fun d => !Bs.hasB V ks d.1) = rs at *
         go_wp2_with ((
          at_builtin
          refine wpList_append_lies _ rfl _ _ 59 rfl (w.heap.size + 2) 58 i0 _ 2 16 Tryz.underlying59 Hi.out Hz0.out Hz1.out Hz2.out rfl (by decide) u5 rs.length (pairs rs) rfl (World.ownsRow.alloc H6.out.2.1 _) ⟨w6.heap.size, 0, none⟩ 1 1 [.int .i64 d1, .int .i64 d2] rfl rfl (two_new _ _ _ _) (one_pair _ _) (by omega) (by unfold maxLen; omega) (by omega) (by have := H6.out.2.2; rw [World.size_alloc]; omega) _ rfl ?_
          intro g7 cap7 w7 hown7 hgr7 hat7 hlt7
          have H7 := hid (H6.out.push hown7 hgr7)
          clear hown7 hgr7 hat7 hlt7))
         go_roundw
         case rel => exact ⟨l + 1, by omega, by go_num, by rw [Hst2.out]; exact H7⟩
         case measure => simp [intOf]; omega
     · have hlk : k' = l := by omega
       subst hlk
       have hall : cs'.take k' = cs' := List.take_of_length_le (by rw [HG.out.cops.len]; omega)
       rw [hall, ← HLL.out] at hK
       obtain ⟨Co, qo, rfl⟩ : ∃ Co qo, u5 = .slice Co (chnL V ks V' ks' cs cs').length qo := by
        rcases hK.out.2.1.2 with ⟨e1, e2⟩ | ⟨g, cap, cur, e1, _⟩
        · exact ⟨none, 0, by rw [e1, e2]⟩
        · exact ⟨_, cap, e1⟩
       have HK := hid hK.out
       clear hK hall
       go_wp2_with fail
       go_ret
       exact ⟨Co, qo, rfl, ⟨own_at HK.out.2.1, rfl⟩, HK.out.1.2.2⟩
theorem FArg.skip {w w' : World} {A B C : Option Addr} {n m k R : Nat} {gs ks : List Nat} {cs : List (Int × Int)} (h : FArg w A n B m C k gs ks cs) (h1 : gs = [] ∨ ∃ ad, A = some ad ∧ ad.block ≠ R) (h2 : ks = [] ∨ ∃ ad, B = some ad ∧ ad.block ≠ R) (h3 : cs = [] ∨ ∃ ad, C = some ad ∧ ad.block ≠ R) (hg : w.grownBy w' (some R)) : FArg w' A n B m C k gs ks cs :=
 ⟨h.gen.skip h1 hg, h.kill.skip h2 hg, h.cops.skip h3 hg⟩
theorem inW_pair {W : Int} {p : Int × Int} : inW W p = true ↔ (0 ≤ p.1 ∧ p.1 < W) ∧ 0 ≤ p.2 ∧ p.2 < W := by
 unfold inW; simp only [Bool.and_eq_true, decide_eq_true_eq]; omega
theorem chnL_inW {W V V' : Int} {ks ks' : List Nat} {cs cs' : List (Int × Int)} (h : ∀ p ∈ cs, inW W p = true) (h' : ∀ p ∈ cs', inW W p = true) : ∀ p ∈ chnL V ks V' ks' cs cs', inW W p = true := by
 intro p hp
 unfold chnL at hp
 rcases List.mem_append.1 hp with hp | hp
 · unfold chnF at hp
   obtain ⟨q, hq, hp⟩ := List.mem_flatMap.1 hp
   have hq' := inW_pair.1 (h q (List.mem_of_mem_take hq))
   unfold chnP at hp
   rcases List.mem_append.1 hp with hp | hp
   · split at hp
     · cases hp
     · rw [List.mem_singleton.1 hp]; exact inW_pair.2 hq'
   · obtain ⟨d, hd, rfl⟩ := List.mem_map.1 hp
     have hd' := inW_pair.1 (h' d (List.mem_of_mem_take (List.mem_filter.1 hd).1))
     exact inW_pair.2 ⟨hq'.1, hd'.2⟩
 · exact h' p (List.mem_filter.1 hp).1
theorem chnL_len {V V' : Int} {ks ks' : List Nat} {cs cs' : List (Int × Int)} (h : cs.length ≤ 64) (h' : cs'.length ≤ 64) : (chnL V ks V' ks' cs cs').length ≤ 5000 := by
 unfold chnL
 rw [List.length_append]
 have h1 := chnF_len V' ks' cs cs' cs.length
 have h2 : cs.length * (cs'.length + 1) ≤ 64 * 65 := Nat.mul_le_mul h (by omega)
 have h3 := List.length_filter_le (fun d : Int × Int => !Bs.hasB V ks d.1) cs'
 omega
def composeR (W : Int) (gs : List Nat) (V : Int) (ks : List Nat) (cs : List (Int × Int)) (W' : Int) (gs' : List Nat) (V' : Int) (ks' : List Nat) (cs' : List (Int × Int)) : Int × List Nat × List Nat × List (Int × Int) × Int :=
 if validT W gs V ks cs = false ∨ validT W' gs' V' ks' cs' = false then (0, [], [], [], 1)
 else if W ≠ W' then (0, [], [], [], 2)
 else cnR W.toNat (valR gs' gs (folB W ks' cs') W.toNat) (orR W.toNat ks ks') (chnL V ks V' ks' cs cs')
def lstI (W : Nat) (gs : List Nat) (f : Int → Int → Bool) : Nat → List Nat
 | 0 => gs
 | j + 1 => valR gs (lstI W gs f j) f W
def lst (W : Nat) (gs : List Nat) (f : Int → Int → Bool) : List Nat := lstI W gs f W
def cnt (W : Nat) (ws : List Nat) : Nat := ((List.range W).filter (Bs.bit ws)).length
theorem cnt_le (W : Nat) (ws : List Nat) : cnt W ws ≤ W := by
 unfold cnt
 have := List.length_filter_le (Bs.bit ws) (List.range W)
 rwa [List.length_range] at this
theorem filter_le {α : Type} {p q : α → Bool} (h : ∀ x, p x = true → q x = true) (l : List α) : (l.filter p).length ≤ (l.filter q).length := by
 induction l with
 | nil => simp
 | cons a l ih =>
   cases hp : p a with
   | true => simp [hp, h a hp, ih]
   | false => cases hq : q a <;> simp [hp, hq] <;> omega
theorem filter_lt {α : Type} {p q : α → Bool} (h : ∀ x, p x = true → q x = true) {x : α} (hq : q x = true) (hp : p x = false) {l : List α} (hx : x ∈ l) : (l.filter p).length < (l.filter q).length := by
 induction l with
 | nil => cases hx
 | cons a l ih =>
   rcases List.mem_cons.1 hx with rfl | hx
   · have := filter_le h l
     simp [hp, hq]; omega
   · have := ih hx
     cases hpa : p a with
     | true => simp [hpa, h a hpa, this]
     | false => cases hqa : q a <;> simp [hpa, hqa] <;> omega
theorem cnt_lt {W : Nat} {a b : List Nat} (ha : Bs.Fit W a) (hb : Bs.Fit W b) (h : ∀ i, Bs.bit a i = true → Bs.bit b i = true) (hne : b ≠ a) : cnt W a < cnt W b := by
 have : ∃ i, i < W ∧ Bs.bit a i ≠ Bs.bit b i := by
  refine Classical.byContradiction fun hn => hne (Bs.ext hb ha fun i hi => ?_)
  exact Classical.byContradiction fun h2 => hn ⟨i, hi, fun e => h2 e.symm⟩
 obtain ⟨i, hi, hd⟩ := this
 have h1 : Bs.bit a i = false := by
  cases e : Bs.bit a i with
  | false => rfl
  | true => exact absurd (e.trans (h i e).symm) hd
 have h2 : Bs.bit b i = true := by
  cases e : Bs.bit b i with
  | true => rfl
  | false => exact absurd (h1.trans e.symm) hd
 exact filter_lt h h2 h1 (List.mem_range.2 hi)
theorem valR_mono {gs ss ts : List Nat} {f : Int → Int → Bool} {W : Nat} (h : ∀ i, Bs.bit ss i = true → Bs.bit ts i = true) (i : Nat) (hi : Bs.bit (valR gs ss f W) i = true) : Bs.bit (valR gs ts f W) i = true := by
 rw [bit_valR] at hi ⊢
 simp only [Bool.and_eq_true, Bool.or_eq_true, List.any_eq_true, decide_eq_true_eq] at hi ⊢
 obtain ⟨h1, h2⟩ := hi
 refine ⟨h1, h2.imp id ?_⟩
 rintro ⟨x, hx, h3, h4⟩
 exact ⟨x, hx, h x h3, h4⟩
theorem fit_lstI {W : Nat} {gs : List Nat} (hg : Bs.Fit W gs) (f : Int → Int → Bool) : ∀ j, Bs.Fit W (lstI W gs f j)
 | 0 => hg
 | _ + 1 => fit_valR _ _ _ _
theorem lstI_mono {W : Nat} {gs : List Nat} (hg : Bs.Fit W gs) (f : Int → Int → Bool) (j : Nat) : ∀ i, Bs.bit (lstI W gs f j) i = true → Bs.bit (lstI W gs f (j + 1)) i = true := by
 induction j with
 | zero =>
   intro i hi
   show Bs.bit (valR gs gs f W) i = true
   rw [bit_valR]
   have hlt : i < W := by
    refine Classical.byContradiction fun hn => ?_
    have := hg.hi i (by omega)
    rw [show Bs.bit gs i = true from hi] at this
    cases this
   simp [hlt, show Bs.bit gs i = true from hi]
 | succ j ih => intro i hi; exact valR_mono ih i hi
theorem lstI_grow {W : Nat} {gs : List Nat} (hg : Bs.Fit W gs) (f : Int → Int → Bool) {j : Nat} (h : ∀ i, i < j → lstI W gs f (i + 1) ≠ lstI W gs f i) : j ≤ cnt W (lstI W gs f j) := by
 induction j with
 | zero => omega
 | succ j ih =>
   have h1 := ih fun i hi => h i (by omega)
   have h2 := cnt_lt (fit_lstI hg f j) (fit_lstI hg f (j + 1)) (lstI_mono hg f j) (h j (by omega))
   omega
theorem lstI_stay {W : Nat} {gs : List Nat} {f : Int → Int → Bool} {j : Nat} (h : lstI W gs f (j + 1) = lstI W gs f j) (n : Nat) : lstI W gs f (j + n) = lstI W gs f j := by
 induction n with
 | zero => rfl
 | succ n ih =>
   show valR gs (lstI W gs f (j + n)) f W = _
   rw [ih]; exact h
theorem lst_of {W : Nat} {gs : List Nat} (hg : Bs.Fit W gs) {f : Int → Int → Bool} {j : Nat} (h : ∀ i, i < j → lstI W gs f (i + 1) ≠ lstI W gs f i) (he : lstI W gs f (j + 1) = lstI W gs f j) : lstI W gs f j = lst W gs f := by
 have h1 := lstI_grow hg f h
 have h2 := cnt_le W (lstI W gs f j)
 have h3 := lstI_stay he (W - j)
 rw [show j + (W - j) = W by omega] at h3
 exact h3.symm
theorem lst_fix {W : Nat} {gs : List Nat} (hg : Bs.Fit W gs) (f : Int → Int → Bool) : valR gs (lst W gs f) f W = lst W gs f := by
 have : ∃ j, j ≤ W ∧ lstI W gs f (j + 1) = lstI W gs f j := by
  refine Classical.byContradiction fun hn => ?_
  have h1 := lstI_grow hg f (j := W + 1) fun i hi e => hn ⟨i, by omega, e⟩
  have h2 := cnt_le W (lstI W gs f (W + 1))
  omega
 obtain ⟨j, hj, he⟩ := this
 have h3 := lstI_stay he (W - j)
 rw [show j + (W - j) = W by omega] at h3
 show valR gs (lstI W gs f W) f W = lstI W gs f W
 rw [h3]; exact he
theorem lst_least {W : Nat} {gs : List Nat} {f : Int → Int → Bool} {ss : List Nat} (h0 : ∀ i, Bs.bit gs i = true → Bs.bit ss i = true) (h : ∀ i, Bs.bit (valR gs ss f W) i = true → Bs.bit ss i = true) : ∀ i, Bs.bit (lst W gs f) i = true → Bs.bit ss i = true := by
 have key : ∀ j i, Bs.bit (lstI W gs f j) i = true → Bs.bit ss i = true := by
  intro j
  induction j with
  | zero => exact h0
  | succ j ih => intro i hi; exact h i (valR_mono ih i hi)
 exact key W
theorem fit_lst {W : Nat} {gs : List Nat} (hg : Bs.Fit W gs) (f : Int → Int → Bool) : Bs.Fit W (lst W gs f) := fit_lstI hg f W
noncomputable def leastN (P : Nat → Prop) : Nat := Classical.epsilon fun m => P m ∧ ∀ k, P k → m ≤ k
theorem leastN_spec {P : Nat → Prop} (h : ∃ m, P m) : P (leastN P) ∧ ∀ k, P k → leastN P ≤ k := by
 have : ∃ m, P m ∧ ∀ k, P k → m ≤ k := by
  obtain ⟨m, hm⟩ := h
  induction m using Nat.strongRecOn with
  | ind m ih =>
    by_cases hk : ∃ k, P k ∧ k < m
    · obtain ⟨k, h1, h2⟩ := hk; exact ih k h2 h1
    · exact ⟨m, hm, fun k h1 => Nat.le_of_not_lt fun h2 => hk ⟨k, h1, h2⟩⟩
 exact Classical.epsilon_spec this
def Least (w : World) (v : Nat) (A B C : Option Addr) (n c m d k q : Nat) (ls : List Nat) (wr : World) : Prop :=
 Fb wr w.heap.size #[.int .i64 v, .slice A n c, .int .i64 v, .slice B m d, .slice C k q] 61 ∧ Box wr (w.heap.size + 1) 0 none 0 0 ∧ (∃ D x y, Box wr (w.heap.size + 2) v D x y ∧ Arg wr D x ls) ∧ Below w.heap.size w wr
theorem Least.start (w : World) (v : Nat) (A B C : Option Addr) (n c m d k q : Nat) {gs : List Nat} (h : Arg w A n gs) :
 Least w v A B C n c m d k q gs (((w.alloc (.cells #[.int .i64 v, .slice A n c, .int .i64 v, .slice B m d, .slice C k q] 61)).alloc (.cells #[.int .i64 0, .slice none 0 0] 49)).alloc (.cells #[.int .i64 v, .slice A n c] 49)) := by
 have h1 := Fb.new w #[.int .i64 v, .slice A n c, .int .i64 v, .slice B m d, .slice C k q] 61
 have h2 := Box.new (w.alloc (.cells #[.int .i64 v, .slice A n c, .int .i64 v, .slice B m d, .slice C k q] 61)) 0 none 0 0
 have h3 := Box.new ((w.alloc (.cells #[.int .i64 v, .slice A n c, .int .i64 v, .slice B m d, .slice C k q] 61)).alloc (.cells #[.int .i64 0, .slice none 0 0] 49)) v A n c
 simp only [World.size_alloc] at h2 h3
 refine ⟨(h1.alloc _).alloc _, h2.alloc _, ⟨A, n, c, h3, ((h.alloc _).alloc _).alloc _⟩, ?_⟩
 exact (((Below.refl _ _).alloc (Nat.le_refl _) _).alloc (by simp) _).alloc (by simp; omega) _
theorem Least.below {w : World} {v : Nat} {A B C : Option Addr} {n c m d k q : Nat} {ls : List Nat} {wr w' : World} (h : Least w v A B C n c m d k q ls wr) (hb : Below wr.heap.size wr w') : Least w v A B C n c m d k q ls w' := by
 obtain ⟨h1, h2, ⟨D, x, y, h3, h4⟩, h5⟩ := h
 exact ⟨h1.below hb h1.lt, h2.below hb h2.lt, ⟨D, x, y, h3.below hb h3.lt, h4.below hb⟩, h5.trans (hb.mono h5.size)⟩
theorem Least.store {w : World} {v : Nat} {A B C : Option Addr} {n c m d k q : Nat} {ls ns : List Nat} {wr : World} {E : Option Addr} {x y : Nat} (h : Least w v A B C n c m d k q ls wr) (ha : Arg wr E x ns) :
 Least w v A B C n c m d k q ns ((wr.setCell ⟨w.heap.size + 2, 0, none⟩ (.int .i64 v)).setCell ⟨w.heap.size + 2, 1, none⟩ (.slice E x y)) := by
 obtain ⟨h1, h2, ⟨D, x', y', h3, h4⟩, h5⟩ := h
 refine ⟨(h1.far (p := ⟨w.heap.size + 2, 0, none⟩) (by simp) _).far (p := ⟨w.heap.size + 2, 1, none⟩) (by simp) _, (h2.far (p := ⟨w.heap.size + 2, 0, none⟩) (by simp) _).far (p := ⟨w.heap.size + 2, 1, none⟩) (by simp) _, ⟨E, x, y, h3.set _ _ _ _, h3.store ha _ _⟩, ?_⟩
 exact (h5.setCell (by simp) _).setCell (by simp) _
def LInv (w : World) (v : Nat) (A B C : Option Addr) (n c m d k q : Nat) (gs : List Nat) (f : Int → Int → Bool) (wr : World) (j : Nat) : Prop :=
 (∀ i, i < j → lstI v gs f (i + 1) ≠ lstI v gs f i) ∧ Least w v A B C n c m d k q (lstI v gs f j) wr
noncomputable def lm (w : World) (v : Nat) (A B C : Option Addr) (n c m d k q : Nat) (gs : List Nat) (f : Int → Int → Bool) (wr : World) : Nat :=
 leastN fun l => ∃ j, l + j = v ∧ LInv w v A B C n c m d k q gs f wr j
section
variable {w : World} {v : Nat} {A B C : Option Addr} {n c m d k q : Nat} {gs : List Nat} {f : Int → Int → Bool} {wr : World} {j : Nat}
theorem LInv.le (hg : Bs.Fit v gs) (h : LInv w v A B C n c m d k q gs f wr j) : j ≤ v := Nat.le_trans (lstI_grow hg f h.1) (cnt_le _ _)
theorem LInv.pick (hg : Bs.Fit v gs) (h : LInv w v A B C n c m d k q gs f wr j) : ∃ j, LInv w v A B C n c m d k q gs f wr j ∧ lm w v A B C n c m d k q gs f wr + j = v := by
 obtain ⟨j', h1, h2⟩ := (leastN_spec (P := fun l => ∃ j, l + j = v ∧ LInv w v A B C n c m d k q gs f wr j) ⟨v - j, j, by have := h.le hg; omega, h⟩).1
 exact ⟨j', h2, h1⟩
theorem LInv.lm_le (hg : Bs.Fit v gs) (h : LInv w v A B C n c m d k q gs f wr j) : lm w v A B C n c m d k q gs f wr + j ≤ v := by
 have hj := h.le hg
 have := (leastN_spec (P := fun l => ∃ j, l + j = v ∧ LInv w v A B C n c m d k q gs f wr j) ⟨v - j, j, by omega, h⟩).2 (v - j) ⟨j, by omega, h⟩
 have e : lm w v A B C n c m d k q gs f wr ≤ v - j := this
 omega
end
set_option maxHeartbeats 1600000 in
theorem devLeast_any (v : Nat) (A B C : Option Addr) (n c m d k q : Nat) (gs ks : List Nat) (cs : List (Int × Int)) (w : World) (hF : FArg w A n B m C k gs ks cs) (hv : validT v gs v ks cs = true) :
 Calls Tryz.prog 157 #[.agg #[.int .i64 v, .slice A n c, .int .i64 v, .slice B m d, .slice C k q]] w
  fun e w' => ∃ Ao no co, e = .returned (.agg #[.int .i64 v, .slice Ao no co]) ∧ Arg w' Ao no (lst v gs (folB v ks cs)) ∧ Below w.heap.size w w' := by
 obtain ⟨h1, h2, h3, h4, h5⟩ := validT_iff hv
 have hfg := fit_of_valid' h1 hF.gen
 have hv256 : v ≤ 256 := by have := (Bs.validB_iff.1 h1).2.1; omega
 have HF := hid hF; have Hfg := hid hfg
 have Hval := hid (fun ss (hs : Bs.Fit v ss) => show applyR v gs v ks cs v ss = ((v : Int), valR gs ss (folB v ks cs) v, 0) by unfold applyR; rw [if_neg (by simp [hv, Bs.valid_of_fit hs hv256]), if_neg (by simp), Int.toNat_natCast])
 have Heq := hid (fun xs ss (hx : Bs.Fit v xs) (hs : Bs.Fit v ss) => show equalB v xs v ss = decide (xs = ss) by unfold equalB sameB; rw [Bs.valid_of_fit hx hv256, Bs.valid_of_fit hs hv256]; simp)
 have Hst := hid (Least.start w v A B C n c m d k q hF.gen)
 clear h1 h2 h3 h4 h5 hfg hF
 generalize folB v ks cs = f at *
 go_enter Tryz.func157, Tryz.ntmps157
 go_wp2_with fail
 generalize ((w.alloc (.cells #[.int .i64 v, .slice A n c, .int .i64 v, .slice B m d, .slice C k q] 61)).alloc (.cells #[.int .i64 0, .slice none 0 0] 49)).alloc (.cells #[.int .i64 v, .slice A n c] 49) = w1 at *
 go_loopw [4, 5] (fun _ _ wr => ∃ j : Nat, Hid (LInv w v A B C n c m d k q gs f wr j)) (fun _ _ wr => lm w v A B C n c m d k q gs f wr)
 case atStart => exact ⟨0, hid ⟨fun i hi => by omega, Hst.out⟩⟩
 case round =>
  obtain ⟨j0, hG0⟩ := hrel
  obtain ⟨j, hG, hm⟩ := hG0.out.pick Hfg.out
  have Hm := hid hm; have Hne := hid hG.1
  have hL := hG.2
  clear hG0 hG hm Hst
  obtain ⟨D, x, y, hBx, hD⟩ := hL.2.2.1
  have HL := hid hL; have HBx := hid hBx; have HD := hid hD
  obtain ⟨t0, t1, t2, t3, t4⟩ := HL.out.1.five
  obtain ⟨s0, s1⟩ := And.intro HBx.out.c0 HBx.out.c1
  clear hL hBx hD
  go_wp2_with fail
  refine (devApply_any v v v A B C D n c m d k q x y gs ks (lstI v gs f j) cs _ (HF.out.gen.below HL.out.2.2.2) (HF.out.kill.below HL.out.2.2.2) (HF.out.cops.below HL.out.2.2.2) HD.out).mono ?_
  rw [Hval.out _ (fit_lstI Hfg.out f j)]
  rintro e w2 ⟨A2, n2, c2, rfl, ha2, hb2⟩
  have ha2' : Arg w2 A2 n2 (lstI v gs f (j + 1)) := ha2
  have hb2' := (Below.mono hb2 (Nat.le_refl _)).alloc hb2.size (.cells #[.int .i64 v, .slice A2 n2 c2] 49)
  have H2 := hid (HL.out.below hb2')
  have HBx2 := hid (HBx.out.below hb2' HBx.out.lt)
  have HD2 := hid (HD.out.below hb2')
  have HA2 := hid (ha2'.alloc (.cells #[.int .i64 v, .slice A2 n2 c2] 49))
  have HN := hid (Box.new w2 v A2 n2 c2)
  clear ha2 ha2' hb2 hb2' t0 t1 t2 t3 t4 s0 s1
  obtain ⟨s0, s1⟩ := And.intro HBx2.out.c0 HBx2.out.c1
  obtain ⟨p0, p1⟩ := And.intro HN.out.c0 HN.out.c1
  have hz1 := HN.out.lt
  have hn2 : n2 ≤ maxLen := by
   have e1 := HA2.out.len
   have e2 := (fit_lstI Hfg.out f (j + 1)).len
   have e3 : Bs.nw v ≤ v + 63 := by unfold Bs.nw; omega
   unfold maxLen; omega
  go_wp2_with fail
  generalize w2.alloc (.cells #[.int .i64 v, .slice A2 n2 c2] 49) = w3 at *
  generalize w2.heap.size = b3 at *
  refine (devEqual_any v v A2 D n2 c2 x y (lstI v gs f (j + 1)) (lstI v gs f j) _ HA2.out HD2.out hn2).mono ?_
  rw [Heq.out _ _ (fit_lstI Hfg.out f (j + 1)) (fit_lstI Hfg.out f j)]
  rintro e w4 ⟨rfl, hb4⟩
  have H4 := hid (H2.out.below hb4)
  have HBx4 := hid (HBx2.out.below hb4 HBx2.out.lt)
  have HD4 := hid (HD2.out.below hb4)
  have HA4 := hid (HA2.out.below hb4)
  have HN4 := hid (HN.out.below hb4 HN.out.lt)
  clear s0 s1 p0 p1 hz1 hb4 hn2 H2 HBx2 HD2 HA2 HN HL HBx HD
  obtain ⟨s0, s1⟩ := And.intro HBx4.out.c0 HBx4.out.c1
  obtain ⟨p0, p1⟩ := And.intro HN4.out.c0 HN4.out.c1
  by_cases he : lstI v gs f (j + 1) = lstI v gs f j
  · have hres := lst_of Hfg.out Hne.out he
    rw [decide_eq_true he]
    rw [hres] at HD4
    clear he hres
    obtain ⟨r0, r1⟩ := And.intro H4.out.2.1.c0 H4.out.2.1.c1
    have f0 := H4.out.2.1.f 0
    have f1 := H4.out.2.1.f 1
    have hlR := H4.out.2.1.lt
    have Fin := hid (And.intro (H4.out.2.1.store HD4.out (.int .i64 v) (.slice D x y)) ((H4.out.2.2.2.setCell (p := ⟨w.heap.size + 1, 0, none⟩) (by simp) (.int .i64 v)).setCell (p := ⟨w.heap.size + 1, 1, none⟩) (by simp) (.slice D x y)))
    go_wp2_with fail
    refine bodyPost_ret (v := .agg #[.int .i64 v, .slice D x y]) (by simp [results, Tryz.results157, go_sem, r0, r1]) rfl ?_
    exact ⟨D, x, y, rfl, Fin.out.1, Fin.out.2⟩
  · rw [decide_eq_false he]
    have f0 := HBx4.out.f 0
    have f1 := HBx4.out.f 1
    have hlR := HBx4.out.lt
    have Hnew := hid (show LInv w v A B C n c m d k q gs f ((w4.setCell ⟨w.heap.size + 2, 0, none⟩ (.int .i64 v)).setCell ⟨w.heap.size + 2, 1, none⟩ (.slice A2 n2 c2)) (j + 1) from
     ⟨fun i hi => (Nat.lt_succ_iff_lt_or_eq.1 hi).elim (Hne.out i) (fun e => by subst e; exact he), H4.out.store HA4.out⟩)
    clear he
    go_wp2_with fail
    go_roundw
    case rel => exact ⟨j + 1, Hnew⟩
    case measure =>
     have e1 := Hnew.out.lm_le Hfg.out
     have e2 := Hm.out
     have key : lm w v A B C n c m d k q gs f ((w4.setCell ⟨w.heap.size + 2, 0, none⟩ (.int .i64 v)).setCell ⟨w.heap.size + 2, 1, none⟩ (.slice A2 n2 c2)) < lm w v A B C n c m d k q gs f wr := by omega
     exact key
structure SqI (v : Nat) (G : List Nat) (cs : List (Int × Int)) : Prop where
 fit : Bs.Fit v G
 wid : v ≤ 256
 asc : Asc cs
 inw : ∀ p ∈ cs, inW v p = true
 out : ∀ p ∈ cs, Bs.hasB v G p.1 = false ∧ Bs.hasB v G p.2 = false ∧ p.1 ≠ p.2
def sqC (v : Nat) (G : List Nat) (cs : List (Int × Int)) : List (Int × Int) := ord ((chnL v G v G cs cs).filter (restB v G))
theorem mem_sqC {v : Nat} {G : List Nat} {cs : List (Int × Int)} {x : Int × Int} : x ∈ sqC v G cs ↔ x ∈ chnL v G v G cs cs ∧ restB v G x = true := by
 unfold sqC; rw [(ord_spec _).1, List.mem_filter]
theorem chnL_ends {V V' : Int} {ks ks' : List Nat} {cs : List (Int × Int)} {x : Int × Int} (h : x ∈ chnL V ks V' ks' cs cs) : ∃ p ∈ cs, ∃ d ∈ cs, x.1 = p.1 ∧ x.2 = d.2 := by
 unfold chnL at h
 rcases List.mem_append.1 h with h | h
 · unfold chnF at h
   obtain ⟨p, hp, h⟩ := List.mem_flatMap.1 h
   have hp' := List.mem_of_mem_take hp
   unfold chnP at h
   rcases List.mem_append.1 h with h | h
   · split at h
     · cases h
     · rw [List.mem_singleton.1 h]; exact ⟨p, hp', p, hp', rfl, rfl⟩
   · obtain ⟨d, hd, rfl⟩ := List.mem_map.1 h
     exact ⟨p, hp', d, List.mem_of_mem_take (List.mem_filter.1 hd).1, rfl, rfl⟩
 · have := (List.mem_filter.1 h).1
   exact ⟨x, this, x, this, rfl, rfl⟩
section
variable {v : Nat} {G : List Nat} {cs : List (Int × Int)}
theorem SqI.sub (h : SqI v G cs) : ∀ p ∈ cs, p ∈ sqC v G cs := by
 intro p hp
 obtain ⟨h1, h2, h3⟩ := h.out p hp
 refine mem_sqC.2 ⟨?_, by unfold restB; simp [h2, h3]⟩
 unfold chnL
 exact List.mem_append.2 (.inr (List.mem_filter.2 ⟨hp, by simp [h1]⟩))
theorem SqI.next (h : SqI v G cs) : SqI v G (sqC v G cs) := by
 refine ⟨h.fit, h.wid, (ord_spec _).2, fun p hp => chnL_inW h.inw h.inw p (mem_sqC.1 hp).1, fun p hp => ?_⟩
 obtain ⟨h1, h2⟩ := mem_sqC.1 hp
 obtain ⟨a, ha, d, hd, e1, e2⟩ := chnL_ends h1
 unfold restB at h2
 simp only [Bool.and_eq_true, decide_eq_true_eq] at h2
 exact ⟨by rw [e1]; exact (h.out a ha).1, by rw [e2]; exact (h.out d hd).2.1, h2.1⟩
theorem SqI.more (h : SqI v G cs) (hne : sqC v G cs ≠ cs) : cs.length < (sqC v G cs).length := by
 have hasc := h.next.asc
 have e1 : cs = (sqC v G cs).filter fun x => decide (x ∈ cs) := by
  refine asc_unique h.asc (hasc.filter _) fun x => ?_
  rw [List.mem_filter]
  exact ⟨fun hx => ⟨h.sub x hx, by simpa using hx⟩, fun hx => by simpa using hx.2⟩
 have : ∃ x, x ∈ sqC v G cs ∧ x ∉ cs := by
  refine Classical.byContradiction fun hn => hne (asc_unique hasc h.asc fun x => ⟨fun hx => Classical.byContradiction fun h2 => hn ⟨x, hx, h2⟩, h.sub x⟩)
 obtain ⟨x, hx, hnx⟩ := this
 have h2 := filter_lt (p := fun x => decide (x ∈ cs)) (q := fun _ => true) (fun _ _ => rfl) (x := x) rfl (by simpa using hnx) hx
 rw [← e1, List.filter_eq_self.2 (fun _ _ => rfl)] at h2
 exact h2
theorem SqI.valid (h : SqI v G cs) (hl : cs.length ≤ 64) : validT v G v G cs = true := by
 unfold validT
 simp only [Bool.and_eq_true, decide_eq_true_eq, List.all_eq_true, List.mem_range]
 refine ⟨⟨⟨⟨Bs.valid_of_fit h.fit h.wid, Bs.valid_of_fit h.fit h.wid⟩, trivial⟩, hl⟩, fun i hi => ?_⟩
 unfold okAt
 have g : ∀ j, (hj : j < cs.length) → cs.getD j (0, 0) = cs[j] := fun j hj => by rw [List.getD_eq_getElem?_getD, List.getElem?_eq_getElem hj]; rfl
 rw [g i hi, h.inw _ (List.getElem_mem hi)]
 by_cases h0 : i = 0
 · simp [h0]
 · have hj : i - 1 < cs.length := by omega
   rw [g (i - 1) hj]
   have := List.pairwise_iff_getElem.1 h.asc (i - 1) i hj hi (by omega)
   simp [this]
theorem SqI.gen (h : SqI v G cs) : valR G G (folB v G cs) v = G := by
 refine Bs.ext (fit_valR _ _ _ _) h.fit fun i hi => ?_
 rw [bit_valR]
 have : (List.range v).any (fun x => Bs.bit G x && folB v G cs x i) = false := by
  rw [List.any_eq_false]
  intro x _ hx
  simp only [Bool.and_eq_true] at hx
  have hb := Bs.hasB_nat h.fit h.wid (b := x)
  rw [hx.1] at hb
  have hf := hx.2
  unfold folB at hf
  rw [hb] at hf
  simp at hf
  have := (h.out _ hf).1
  rw [hb] at this; cases this
 rw [this]; simp [hi]
theorem SqI.kill (h : SqI v G cs) : orR v G G = G := by
 refine Bs.ext (fit_orR _ _ _) h.fit fun i hi => ?_
 unfold orR
 rw [Bs.bit_ofP _ _ _ (Nat.le_refl _)]; simp [hi]
theorem killC_self {v : Nat} {G : List Nat} (h : Bs.Fit v G) (ks : List Nat) (hk : ∀ i, Bs.bit ks i = true → Bs.bit G i = true) (L : List (Int × Int)) : killC v G ks L = G := by
 unfold killC
 refine Bs.ext (Bs.fit_ofP _ _ _ (Nat.le_refl _)) h fun i hi => ?_
 rw [Bs.bit_ofP _ _ _ (Nat.le_refl _)]
 simp only [hi, decide_true, Bool.true_and]
 cases hb : Bs.bit ks i with
 | false => simp
 | true => simp [hk i hb]
theorem SqI.compose (h : SqI v G cs) (hl : cs.length ≤ 64) : composeR v G v G cs v G v G cs = if (sqC v G cs).length ≤ 64 then ((v : Int), G, G, sqC v G cs, 0) else (0, [], [], [], 7) := by
 unfold composeR
 rw [if_neg (by simp [h.valid hl]), if_neg (by simp), Int.toNat_natCast, h.gen, h.kill]
 unfold cnR
 rw [killC_self h.fit G (fun _ x => x)]
 rfl
end
def sqN (v : Nat) (G : List Nat) : Nat → List (Int × Int) → Int × List Nat × List Nat × List (Int × Int) × Int
 | 0, cs => (v, G, G, cs, 0)
 | N + 1, cs => if 64 < (sqC v G cs).length then (0, [], [], [], 7) else if sqC v G cs = cs then (v, G, G, cs, 0) else sqN v G N (sqC v G cs)
end Go.Proofs.YtopkmeceakjocaaGreat
namespace Go.Proofs.YtopkmeceakjocaaGreat
set_option maxRecDepth 20000
theorem fit_killC (v : Nat) (gs ks : List Nat) (cs : List (Int × Int)) : Bs.Fit v (killC v gs ks cs) := Bs.fit_ofP _ _ _ (Nat.le_refl _)
theorem mem_rest {v : Nat} {gs : List Nat} {cs : List (Int × Int)} {x : Int × Int} : x ∈ ord (cs.filter (restB v gs)) ↔ x ∈ cs ∧ restB v gs x = true := by
 rw [(ord_spec _).1, List.mem_filter]
theorem can_follows {v : Nat} (hv : v ≤ 256) {gs ks : List Nat} (hg : Bs.Fit v gs) (hk : Bs.Fit v ks) (cs : List (Int × Int)) {x i : Nat} (hi : i < v) (hn : Bs.bit gs i = false) :
 folB v (killC v gs ks cs) (ord (cs.filter (restB v gs))) x i = folB v ks cs x i := by
 have e1 := Bs.hasB_nat hg hv (b := i)
 unfold folB
 by_cases hx : x = i
 · subst hx
   have e2 := Bs.hasB_nat (fit_killC v gs ks cs) hv (b := x)
   have e3 := Bs.hasB_nat hk hv (b := x)
   have e4 : decide (((x : Int), (x : Int)) ∈ ord (cs.filter (restB v gs))) = false := by
    simp only [decide_eq_false_iff_not]
    intro h
    have := (mem_rest.1 h).2
    unfold restB at this
    simp at this
   rw [e2, e3, e4]
   unfold killC
   rw [Bs.bit_ofP _ _ _ (Nat.le_refl _), hn]
   simp only [hi, decide_true, Bool.true_and, Bool.or_false]
   cases Bs.bit ks x <;> cases decide (((x : Int), (x : Int)) ∈ cs) <;> rfl
 · have hx' : (x : Int) ≠ (i : Int) := by omega
   have e4 : decide (((x : Int), (i : Int)) ∈ ord (cs.filter (restB v gs))) = decide (((x : Int), (i : Int)) ∈ cs) := by
    apply Bool.eq_iff_iff.2
    simp only [decide_eq_true_eq]
    rw [mem_rest]
    refine ⟨fun h => h.1, fun h => ⟨h, ?_⟩⟩
    unfold restB
    simp [e1, hn]; omega
   rw [e4]
   simp [hx']
theorem can_value {v : Nat} (hv : v ≤ 256) {gs ks : List Nat} (hg : Bs.Fit v gs) (hk : Bs.Fit v ks) (cs : List (Int × Int)) (ss : List Nat) :
 valR gs ss (folB v (killC v gs ks cs) (ord (cs.filter (restB v gs)))) v = valR gs ss (folB v ks cs) v := by
 refine Bs.ext (fit_valR _ _ _ _) (fit_valR _ _ _ _) fun i hi => ?_
 rw [bit_valR, bit_valR]
 cases hb : Bs.bit gs i with
 | true => simp
 | false =>
   congr 2
   apply congrArg
   funext x
   rw [can_follows hv hg hk cs hi hb]
theorem can_valid {v : Nat} (hv : v ≤ 256) {gs : List Nat} (hg : Bs.Fit v gs) (ks : List Nat) {cs : List (Int × Int)} (hin : ∀ p ∈ cs, inW v p = true) (hl : (ord (cs.filter (restB v gs))).length ≤ 64) :
 validT v gs v (killC v gs ks cs) (ord (cs.filter (restB v gs))) = true := by
 unfold validT
 simp only [Bool.and_eq_true, decide_eq_true_eq, List.all_eq_true, List.mem_range]
 refine ⟨⟨⟨⟨Bs.valid_of_fit hg hv, Bs.valid_of_fit (fit_killC _ _ _ _) hv⟩, trivial⟩, hl⟩, fun i hi => ?_⟩
 have hasc := (ord_spec (cs.filter (restB v gs))).2
 have hin2 : ∀ p ∈ ord (cs.filter (restB v gs)), inW v p = true := fun p hp => hin p (mem_rest.1 hp).1
 generalize ord (cs.filter (restB v gs)) = ds at *
 unfold okAt
 have g : ∀ j, (hj : j < ds.length) → ds.getD j (0, 0) = ds[j] := fun j hj => by rw [List.getD_eq_getElem?_getD, List.getElem?_eq_getElem hj]; rfl
 rw [g i hi, hin2 _ (List.getElem_mem hi)]
 by_cases h0 : i = 0
 · simp [h0]
 · have hj : i - 1 < ds.length := by omega
   rw [g (i - 1) hj]
   have := List.pairwise_iff_getElem.1 hasc (i - 1) i hj hi (by omega)
   simp [this]
theorem can_twice {v : Nat} {gs ks : List Nat} (cs : List (Int × Int)) :
 ord ((ord (cs.filter (restB v gs))).filter (restB v gs)) = ord (cs.filter (restB v gs)) ∧ killC v gs (killC v gs ks cs) (ord (cs.filter (restB v gs))) = killC v gs ks cs := by
 constructor
 · refine asc_unique (ord_spec _).2 (ord_spec _).2 fun x => ?_
   rw [mem_rest, mem_rest]
   exact ⟨fun h => h.1, fun h => ⟨h, h.2⟩⟩
 · refine Bs.ext (fit_killC _ _ _ _) (fit_killC _ _ _ _) fun i hi => ?_
   have e : ((i : Int), (i : Int)) ∉ ord (cs.filter (restB v gs)) := fun h => by
    have := (mem_rest.1 h).2
    unfold restB at this
    simp at this
   have e' : decide (((i : Int), (i : Int)) ∈ ord (cs.filter (restB v gs))) = false := by simpa using e
   unfold killC at e' ⊢
   rw [Bs.bit_ofP _ _ _ (Nat.le_refl _), Bs.bit_ofP _ _ _ (Nat.le_refl _)]
   simp only [hi, decide_true, Bool.true_and, e', Bool.not_false, Bool.and_true]
   cases Bs.bit gs i <;> simp
theorem folB_iff {V : Int} {ks : List Nat} {cs : List (Int × Int)} {a b : Int} : folB V ks cs a b = true ↔ ((a = b ∧ Bs.hasB V ks a = false) ∨ (a, b) ∈ cs) := by
 unfold folB
 simp only [Bool.or_eq_true, Bool.and_eq_true, decide_eq_true_eq, Bool.not_eq_true']
theorem join_follows {v : Nat} (hv : v ≤ 256) {ks ks' : List Nat} (hk : Bs.Fit v ks) (hk' : Bs.Fit v ks') {cs cs' : List (Int × Int)} {x : Nat} {i : Int} (hx : x < v) :
 folB v (andR v ks ks') (cs ++ cs') x i = true ↔ (folB v ks cs x i = true ∨ folB v ks' cs' x i = true) := by
 rw [folB_iff, folB_iff, folB_iff, List.mem_append, Bs.hasB_nat hk hv, Bs.hasB_nat hk' hv, Bs.hasB_nat (fit_andR _ _ _) hv]
 have e : Bs.bit (andR v ks ks') x = (Bs.bit ks x && Bs.bit ks' x) := by
  unfold andR; rw [Bs.bit_ofP _ _ _ (Nat.le_refl _)]; simp [hx]
 rw [e]
 cases Bs.bit ks x <;> cases Bs.bit ks' x <;> simp <;> grind
theorem join_value {v : Nat} (hv : v ≤ 256) {gs gs' ks ks' : List Nat} (hk : Bs.Fit v ks) (hk' : Bs.Fit v ks') (cs cs' : List (Int × Int)) (ss : List Nat) :
 valR (orR v gs gs') ss (folB v (andR v ks ks') (cs ++ cs')) v = orR v (valR gs ss (folB v ks cs) v) (valR gs' ss (folB v ks' cs') v) := by
 refine Bs.ext (fit_valR _ _ _ _) (fit_orR _ _ _) fun i hi => ?_
 apply Bool.eq_iff_iff.2
 rw [bit_valR_iff hi, bit_orR_iff hi, bit_orR_iff hi, bit_valR_iff hi, bit_valR_iff hi]
 constructor
 · rintro ((h | h) | ⟨x, hx, h1, h2⟩)
   · exact .inl (.inl h)
   · exact .inr (.inl h)
   · rcases (join_follows hv hk hk' hx).1 h2 with h3 | h3
     · exact .inl (.inr ⟨x, hx, h1, h3⟩)
     · exact .inr (.inr ⟨x, hx, h1, h3⟩)
 · rintro ((h | ⟨x, hx, h1, h2⟩) | (h | ⟨x, hx, h1, h2⟩))
   · exact .inl (.inl h)
   · exact .inr ⟨x, hx, h1, (join_follows hv hk hk' hx).2 (.inl h2)⟩
   · exact .inl (.inr h)
   · exact .inr ⟨x, hx, h1, (join_follows hv hk hk' hx).2 (.inr h2)⟩
theorem mem_chnL {V V' : Int} {ks ks' : List Nat} {cs cs' : List (Int × Int)} {a b : Int} : (a, b) ∈ chnL V ks V' ks' cs cs' ↔
 (((a, b) ∈ cs ∧ Bs.hasB V' ks' b = false) ∨ (∃ y, (a, y) ∈ cs ∧ (y, b) ∈ cs') ∨ ((a, b) ∈ cs' ∧ Bs.hasB V ks a = false)) := by
 unfold chnL chnF
 rw [List.mem_append, List.mem_flatMap, List.mem_filter, List.take_length]
 constructor
 · rintro (⟨p, hp, h⟩ | ⟨h1, h2⟩)
   · unfold chnP at h
     rw [List.take_length] at h
     rcases List.mem_append.1 h with h | h
     · by_cases hb : Bs.hasB V' ks' p.2 = true
       · rw [if_pos hb] at h; cases h
       · rw [if_neg hb] at h
         have e := List.mem_singleton.1 h
         subst e
         exact .inl ⟨hp, by simpa using hb⟩
     · obtain ⟨d, hd, e⟩ := List.mem_map.1 h
       obtain ⟨hd1, hd2⟩ := List.mem_filter.1 hd
       have hd3 : p.2 = d.1 := by simpa using hd2
       have e1 : p.1 = a := congrArg Prod.fst e
       have e2 : d.2 = b := congrArg Prod.snd e
       subst e1; subst e2
       exact .inr (.inl ⟨p.2, hp, by rw [hd3]; exact hd1⟩)
   · exact .inr (.inr ⟨h1, by simpa using h2⟩)
 · rintro (⟨h1, h2⟩ | ⟨y, h1, h2⟩ | ⟨h1, h2⟩)
   · refine .inl ⟨(a, b), h1, ?_⟩
     unfold chnP
     exact List.mem_append.2 (.inl (by simp [h2]))
   · refine .inl ⟨(a, y), h1, ?_⟩
     unfold chnP
     rw [List.take_length]
     exact List.mem_append.2 (.inr (List.mem_map.2 ⟨(y, b), List.mem_filter.2 ⟨h2, by simp⟩, rfl⟩))
   · exact .inr ⟨h1, by simp [h2]⟩
theorem chain_follows {v : Nat} (hv : v ≤ 256) {ks ks' : List Nat} (hk : Bs.Fit v ks) (hk' : Bs.Fit v ks') {cs cs' : List (Int × Int)} (hin : ∀ p ∈ cs, inW v p = true) {x i : Nat} (hx : x < v) (hi : i < v) :
 folB v (orR v ks ks') (chnL v ks v ks' cs cs') x i = true ↔ ∃ y, y < v ∧ folB v ks cs x y = true ∧ folB v ks' cs' y i = true := by
 rw [folB_iff, mem_chnL]
 have e : Bs.hasB v (orR v ks ks') x = (Bs.bit ks x || Bs.bit ks' x) := by
  rw [Bs.hasB_nat (fit_orR _ _ _) hv]
  unfold orR; rw [Bs.bit_ofP _ _ _ (Nat.le_refl _)]; simp [hx]
 rw [e]
 constructor
 · rintro (⟨h1, h2⟩ | ⟨h1, h2⟩ | ⟨y, h1, h2⟩ | ⟨h1, h2⟩)
   · have hxi : x = i := by omega
     subst hxi
     simp only [Bool.or_eq_false_iff] at h2
     exact ⟨x, hx, folB_iff.2 (.inl ⟨rfl, by rw [Bs.hasB_nat hk hv]; exact h2.1⟩), folB_iff.2 (.inl ⟨rfl, by rw [Bs.hasB_nat hk' hv]; exact h2.2⟩)⟩
   · exact ⟨i, hi, folB_iff.2 (.inr h1), folB_iff.2 (.inl ⟨rfl, h2⟩)⟩
   · have hw := inW_pair.1 (hin _ h1)
     simp only at hw
     obtain ⟨z, rfl⟩ := Int.eq_ofNat_of_zero_le hw.2.1
     exact ⟨z, by omega, folB_iff.2 (.inr h1), folB_iff.2 (.inr h2)⟩
   · exact ⟨x, hx, folB_iff.2 (.inl ⟨rfl, h2⟩), folB_iff.2 (.inr h1)⟩
 · rintro ⟨y, hy, h1, h2⟩
   rcases folB_iff.1 h1 with ⟨h3, h4⟩ | h3 <;> rcases folB_iff.1 h2 with ⟨h5, h6⟩ | h5
   · have e1 : x = y := by omega
     have e2 : y = i := by omega
     subst e1; subst e2
     rw [Bs.hasB_nat hk hv] at h4
     rw [Bs.hasB_nat hk' hv] at h6
     exact .inl ⟨rfl, by rw [h4, h6]; rfl⟩
   · have e1 : x = y := by omega
     subst e1
     exact .inr (.inr (.inr ⟨h5, h4⟩))
   · have e2 : y = i := by omega
     subst e2
     exact .inr (.inl ⟨h3, h6⟩)
   · exact .inr (.inr (.inl ⟨y, h3, h5⟩))
theorem compose_value {v : Nat} (hv : v ≤ 256) {gs gs' ks ks' : List Nat} (hk : Bs.Fit v ks) (hk' : Bs.Fit v ks') {cs cs' : List (Int × Int)} (hin : ∀ p ∈ cs, inW v p = true) (ss : List Nat) :
 valR (valR gs' gs (folB v ks' cs') v) ss (folB v (orR v ks ks') (chnL v ks v ks' cs cs')) v = valR gs' (valR gs ss (folB v ks cs) v) (folB v ks' cs') v := by
 refine Bs.ext (fit_valR _ _ _ _) (fit_valR _ _ _ _) fun i hi => ?_
 apply Bool.eq_iff_iff.2
 rw [bit_valR_iff hi, bit_valR_iff hi, bit_valR_iff hi]
 constructor
 · rintro ((h | ⟨y, hy, h1, h2⟩) | ⟨x, hx, h1, h2⟩)
   · exact .inl h
   · exact .inr ⟨y, hy, (bit_valR_iff hy).2 (.inl h1), h2⟩
   · obtain ⟨y, hy, h3, h4⟩ := (chain_follows hv hk hk' hin hx hi).1 h2
     exact .inr ⟨y, hy, (bit_valR_iff hy).2 (.inr ⟨x, hx, h1, h3⟩), h4⟩
 · rintro (h | ⟨y, hy, h1, h2⟩)
   · exact .inl (.inl h)
   · rcases (bit_valR_iff hy).1 h1 with h3 | ⟨x, hx, h3, h4⟩
     · exact .inl (.inr ⟨y, hy, h3, h2⟩)
     · exact .inr ⟨x, hx, h3, (chain_follows hv hk hk' hin hx hi).2 ⟨y, hy, h4, h2⟩⟩
end Go.Proofs.YtopkmeceakjocaaGreat
namespace Go.Proofs.YtopkmeceakjocaaGreat
set_option maxRecDepth 20000
open Go.ChangeShapes Go.WideShapes Go.ChangeAt Go.RowKit
theorem fit_max {v : Nat} {ws : List Nat} {n : Nat} (h : Bs.Fit v ws) (hv : v ≤ 256) (hl : ws.length = n) : n ≤ maxLen := by
 have e2 := h.len
 have e3 : Bs.nw v ≤ v + 63 := by unfold Bs.nw; omega
 unfold maxLen; omega
theorem sqN_succ (v : Nat) (G : List Nat) (N : Nat) (cs : List (Int × Int)) : sqN v G (N + 1) cs = if 64 < (sqC v G cs).length then (0, [], [], [], 7) else if sqC v G cs = cs then ((v : Int), G, G, cs, 0) else sqN v G N (sqC v G cs) := rfl
def strG (v : Nat) (gs ks : List Nat) (cs : List (Int × Int)) : List Nat := lst v gs (folB v ks cs)
def strC (v : Nat) (gs ks : List Nat) (cs : List (Int × Int)) : List (Int × Int) := ord (cs.filter (restB v (strG v gs ks cs)))
def starR (W : Int) (gs : List Nat) (V : Int) (ks : List Nat) (cs : List (Int × Int)) : Int × List Nat × List Nat × List (Int × Int) × Int :=
 if validT W gs V ks cs = false then (0, [], [], [], 1) else sqN W.toNat (strG W.toNat gs ks cs) 65 (strC W.toNat gs ks cs)
theorem ord_len (cs : List (Int × Int)) : (ord cs).length ≤ cs.length := by
 have h1 := cpt_len (srt cs)
 rw [srt_len] at h1; exact h1
section
variable {v : Nat} {gs ks : List Nat} {cs : List (Int × Int)}
theorem str_start (hg : Bs.Fit v gs) (hv : v ≤ 256) (hin : ∀ p ∈ cs, inW v p = true) : SqI v (strG v gs ks cs) (strC v gs ks cs) := by
 have hf : Bs.Fit v (strG v gs ks cs) := fit_lst hg _
 refine ⟨hf, hv, (ord_spec _).2, fun p hp => hin p (List.mem_filter.1 ((ord_spec _).1 p |>.1 hp)).1, fun p hp => ?_⟩
 obtain ⟨h1, h2⟩ := List.mem_filter.1 ((ord_spec _).1 p |>.1 hp)
 unfold restB at h2
 simp only [Bool.and_eq_true, decide_eq_true_eq, Bool.not_eq_true'] at h2
 refine ⟨?_, h2.2, h2.1⟩
 obtain ⟨a, b⟩ := p
 have hw := inW_pair.1 (hin _ h1)
 simp only at hw h2 ⊢
 obtain ⟨x, rfl⟩ := Int.eq_ofNat_of_zero_le hw.1.1
 obtain ⟨y, rfl⟩ := Int.eq_ofNat_of_zero_le hw.2.1
 have e1 := Bs.hasB_nat hf hv (b := x)
 have e2 := Bs.hasB_nat hf hv (b := y)
 rw [e1]
 cases hb : Bs.bit (strG v gs ks cs) x with
 | false => rfl
 | true =>
   have h3 := h2.2
   rw [e2] at h3
   have h4 : Bs.bit (valR gs (strG v gs ks cs) (folB v ks cs) v) y = true := by
    rw [bit_valR]
    have hy : y < v := by omega
    have hx : x < v := by omega
    simp only [hy, decide_true, Bool.true_and, Bool.or_eq_true, List.any_eq_true, List.mem_range, Bool.and_eq_true]
    exact .inr ⟨x, hx, hb, by unfold folB; simp [h1]⟩
   have h5 : valR gs (strG v gs ks cs) (folB v ks cs) v = strG v gs ks cs := lst_fix hg _
   rw [h5, h3] at h4
   cases h4
theorem str_canon (hg : Bs.Fit v gs) (hl : cs.length ≤ 64) : cnR v (strG v gs ks cs) (Bs.emp v) cs = ((v : Int), strG v gs ks cs, strG v gs ks cs, strC v gs ks cs, 0) := by
 have h1 : (strC v gs ks cs).length ≤ 64 := by
  have h2 := ord_len (cs.filter (restB v (strG v gs ks cs)))
  have h3 := List.length_filter_le (restB v (strG v gs ks cs)) cs
  unfold strC; omega
 unfold cnR
 rw [if_pos (show (ord (cs.filter (restB v (strG v gs ks cs)))).length ≤ 64 from h1), killC_self (show Bs.Fit v (strG v gs ks cs) from fit_lst hg _) (Bs.emp v) (fun i hi => by rw [Bs.bit_emp] at hi; cases hi)]
 rfl
theorem str_len (hl : cs.length ≤ 64) : (strC v gs ks cs).length ≤ 64 := by
 have h2 := ord_len (cs.filter (restB v (strG v gs ks cs)))
 have h3 := List.length_filter_le (restB v (strG v gs ks cs)) cs
 unfold strC; omega
end
def Fresh5 (W w : World) (b : Nat) : Prop := Fb w b #[.int .i64 0, .slice none 0 0, .int .i64 0, .slice none 0 0, .slice none 0 0] 61 ∧ W.heap.size ≤ b
theorem Fresh5.mk {W w0 w1 : World} (h0 : Below W.heap.size W w0) (hb : Below (w0.alloc (.cells #[.int .i64 0, .slice none 0 0, .int .i64 0, .slice none 0 0, .slice none 0 0] 61)).heap.size (w0.alloc (.cells #[.int .i64 0, .slice none 0 0, .int .i64 0, .slice none 0 0, .slice none 0 0] 61)) w1) : Fresh5 W w1 w0.heap.size :=
 ⟨(Fb.new w0 _ 61).below hb (by simp), h0.size⟩
theorem Fresh5.mkD {w0 w1 : World} (hb : Below (w0.alloc (.cells #[.int .i64 0, .slice none 0 0, .int .i64 0, .slice none 0 0, .slice none 0 0] 61)).drew.heap.size (w0.alloc (.cells #[.int .i64 0, .slice none 0 0, .int .i64 0, .slice none 0 0, .slice none 0 0] 61)).drew w1) : Fresh5 w0 w1 w0.heap.size :=
 ⟨(show Fb (w0.alloc (.cells #[.int .i64 0, .slice none 0 0, .int .i64 0, .slice none 0 0, .slice none 0 0] 61)).drew w0.heap.size _ 61 from Fb.new w0 _ 61).below hb (by show w0.heap.size < (w0.alloc _).heap.size; simp), Nat.le_refl _⟩
theorem Fresh5.below {W w w1 : World} {b : Nat} (h : Fresh5 W w b) (hb : Below w.heap.size w w1) : Fresh5 W w1 b := ⟨h.1.below hb h.1.lt, h.2⟩
theorem Fresh5.stored {W w : World} {b : Nat} (h : Fresh5 W w b) (hb : Below W.heap.size W w) (a c d e f : Value) : Below W.heap.size W (((((w.setCell ⟨b, 0, none⟩ a).setCell ⟨b, 1, none⟩ c).setCell ⟨b, 2, none⟩ d).setCell ⟨b, 3, none⟩ e).setCell ⟨b, 4, none⟩ f) :=
 below_stored5 hb h.2 _ _ _ _ _
theorem Fb.set5 {w : World} {g t : Nat} {a b c d e : Value} (h : Fb w g #[a, b, c, d, e] t) (a' b' c' d' e' : Value) : Fb (((((w.setCell ⟨g, 0, none⟩ a').setCell ⟨g, 1, none⟩ b').setCell ⟨g, 2, none⟩ c').setCell ⟨g, 3, none⟩ d').setCell ⟨g, 4, none⟩ e') g #[a', b', c', d', e'] t := by
 unfold Fb at h ⊢
 simp [World.setCell, h, Array.getElem?_modify]
def StarAt (w5 : World) (v : Nat) (gs ks : List Nat) (cs : List (Int × Int)) (wc : World) (b : Nat) (A : Option Addr) (n c : Nat) (B : Option Addr) (m d : Nat) (C : Option Addr) (q : Nat) : Prop :=
 Fb wc b #[.int .i64 v, .slice A n c, .int .i64 v, .slice B m d, .slice C cs.length q] 61 ∧ FArg wc A n B m C cs.length gs ks cs ∧ Below w5.heap.size w5 wc
section
variable {w5 : World} {v : Nat} {gs ks : List Nat} {cs : List (Int × Int)} {wn : World} {A : Option Addr} {n c : Nat} {B : Option Addr} {m d : Nat} {C : Option Addr} {q : Nat}
theorem StarAt.fresh {b : Nat} (hx : Fresh5 w5 wn b) (hA : Arg wn A n gs) (hB : Arg wn B m ks) (hC : ArgC wn C cs.length cs) (hb : Below w5.heap.size w5 wn) :
 StarAt w5 v gs ks cs (((((wn.setCell ⟨b, 0, none⟩ (.int .i64 v)).setCell ⟨b, 1, none⟩ (.slice A n c)).setCell ⟨b, 2, none⟩ (.int .i64 v)).setCell ⟨b, 3, none⟩ (.slice B m d)).setCell ⟨b, 4, none⟩ (.slice C cs.length q)) b A n c B m d C q :=
 ⟨hx.1.set5 _ _ _ _ _, ⟨hA.stored5 (hA.apart hx.1 zero5) _ _ _ _ _, hB.stored5 (hB.apart hx.1 zero5) _ _ _ _ _, hC.stored5 (hC.apart hx.1 zero5c) _ _ _ _ _⟩, hx.stored hb _ _ _ _ _⟩
theorem StarAt.new (hA : Arg wn A n gs) (hB : Arg wn B m ks) (hC : ArgC wn C cs.length cs) (hb : Below w5.heap.size w5 wn) :
 StarAt w5 v gs ks cs (wn.alloc (.cells #[.int .i64 v, .slice A n c, .int .i64 v, .slice B m d, .slice C cs.length q] 61)) wn.heap.size A n c B m d C q :=
 ⟨Fb.new _ _ _, FArg.alloc ⟨hA, hB, hC⟩ _, hb.alloc hb.size _⟩
end
end Go.Proofs.YtopkmeceakjocaaGreat
