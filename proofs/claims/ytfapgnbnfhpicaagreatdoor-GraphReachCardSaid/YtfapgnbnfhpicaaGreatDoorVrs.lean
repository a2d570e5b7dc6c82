/- The package's Defines, occurrences and Variables. -/
import Derived.Test.YtfapgnbnfhpicaaGreatDoorSzs
import Derived.Test.YtfapgnbnfhpicaaGreatDoorMst
import Derived.Test.YtfapgnbnfhpicaaGreatDoorLns
import Derived.Deep.AppendLies
namespace Go.Proofs.YtfapgnbnfhpicaaGreatDoor
set_option maxRecDepth 20000
set_option linter.unusedVariables false
set_option linter.unusedSimpArgs false
open Go.ChangeShapes Go.WideShapes Go.ChangeAt Go.RowKit

def defB (o : Int) : Bool := o == 1 || (o == 4 || o == 6)
set_option maxHeartbeats 1600000 in
theorem defines_any (o : Int) (d : ByteArray) (A : Option Addr) (n c : Nat) (B : Option Addr) (m c2 : Nat) (w : World) :
    Calls Tryz.prog 92 #[.agg #[.int .i64 o, .string d, .slice A n c, .slice B m c2]] w fun e w' => e = .returned (.bool (defB o)) ∧ Below w.heap.size w w' := by
  have HB := hid ((Below.refl w.heap.size w).alloc (Nat.le_refl _) (.cells #[.int .i64 o, .string d, .slice A n c, .slice B m c2] 68))
  unfold defB
  cases h1 : (o == 1) with
  | true =>
    go_enter Tryz.func92, Tryz.ntmps92
    go_wp2
    go_ret
    exact ⟨rfl, HB.out⟩
  | false =>
    cases h2 : (o == 4) with
    | true =>
      go_enter Tryz.func92, Tryz.ntmps92
      go_wp2
      go_ret
      exact ⟨rfl, HB.out⟩
    | false =>
      cases h3 : (o == 6) with
      | true =>
        go_enter Tryz.func92, Tryz.ntmps92
        go_wp2
        go_ret
        exact ⟨rfl, HB.out⟩
      | false =>
        go_enter Tryz.func92, Tryz.ntmps92
        go_wp2
        go_ret
        exact ⟨rfl, HB.out⟩
/-- The variables of a statement in the order of its text. -/
def occP (t : Stm) : List ByteArray := if defB t.op then t.d :: t.us else t.us
def RetO (w : World) (ex : List (Option Nat)) (L : List ByteArray) (e : Ending) (w' : World) : Prop :=
  ∃ (A : Option Addr) (n c : Nat), e = .returned (.slice A n c) ∧ SSafe w' ex A n L ∧ Below w.heap.size w w'
theorem one_strs (l : List ByteArray) : ∀ u ∈ l.map Value.string, u.oneCell' = true := by
  intro u hu
  obtain ⟨x, _, rfl⟩ := List.mem_map.1 hu
  rfl
set_option maxHeartbeats 3200000 in
theorem occ_any (x : SH) (ex : List (Option Nat)) (w : World) (h : SHok w ex x) (hn4 : x.n ≤ 4) (hex : ∀ k, some k ∈ ex → k < w.heap.size) :
    Calls Tryz.prog 120 #[.agg #[.int .i64 x.t.op, .string x.t.d, .slice x.A x.n x.c, .slice x.B x.m x.c2]] w (RetO w ex (occP x.t)) := by
  obtain ⟨A, n, c, B, m, c2, ⟨o, d, us, ts⟩⟩ := x
  obtain ⟨i0, hi, hz0, hz1, hz2⟩ := info_parts info9
  have Hi := hid hi; have Hz0 := hid hz0; have Hz1 := hid hz1; have Hz2 := hid hz2
  clear hi hz0 hz1 hz2
  have hb0 := (Below.refl w.heap.size w).alloc (Nat.le_refl _) (.cells #[.int .i64 o, .string d, .slice A n c, .slice B m c2] 68)
  have HS := hid (h.uses.go (Go2.below hb0))
  have HB0 := hid hb0
  have HG0 := hid (Fb.new w #[.int .i64 o, .string d, .slice A n c, .slice B m c2] 68)
  have Hd := hid (show d.size ≤ 1000 from h.small)
  have Hsz := hid (show w.heap.size ≤ (w.alloc (.cells #[.int .i64 o, .string d, .slice A n c, .slice B m c2] 68)).heap.size by rw [World.size_alloc]; omega)
  have Hex := hid hex
  simp only at hn4
  clear hb0 h hex
  go_enter Tryz.func120, Tryz.ntmps120
  go_wp2_with fail
  generalize w.alloc (.cells #[.int .i64 o, .string d, .slice A n c, .slice B m c2] 68) = w0 at *
  refine (defines_any o d A n c B m c2 _).mono ?_
  rintro e w1 ⟨rfl, hb1⟩
  have HS1 := hid (HS.out.go (Go2.below hb1))
  have HB1 := hid (below_step HB0.out hb1)
  have HG1 := hid (HG0.out.below hb1 HG0.out.lt)
  have Hsz1 := hid (Nat.le_trans Hsz.out hb1.size)
  clear hb1 HS HB0 HG0 Hsz
  obtain ⟨g0, g1, g2, g3⟩ := Fb.four HG1.out
  cases ho : defB o with
  | false =>
    as_aux_lemma =>
      have Hr := hid (show occP ⟨o, d, us, ts⟩ = us by unfold occP; simp only [ho]; rfl)
      clear ho
      go_wp2_with fail
      go_ret
      rw [Hr.out]
      exact ⟨A, n, c, rfl, HS1.out, HB1.out⟩
  | true =>
    have Hr := hid (show occP ⟨o, d, us, ts⟩ = d :: us by unfold occP; simp only [ho]; rfl)
    clear ho
    have hb2 := (Below.refl w1.heap.size w1).alloc (Nat.le_refl _) (.cells #[.string d] 9)
    have HB2 := hid (below_step HB1.out hb2)
    have HS2 := hid (HS1.out.go (Go2.below hb2))
    have HF2 := hid (Fb.new w1 #[.string d] 9)
    have HO2 := hid (World.ownsRow_lit (base := w1.heap.size) (e := 9) (size := 1) w1 #[.string d] 1 (Nat.le_refl _) (by unfold maxLen; omega) rfl)
    have hlt := HG1.out.lt
    clear hb2
    by_cases h0 : n = 0
    · subst h0
      have Hus := hid (show us = [] from List.length_eq_zero_iff.1 HS1.out.len)
      rcases A with _ | a0
      all_goals
        go_wp2_with fail
        go_ret
        rw [Hr.out, Hus.out]
        refine ⟨_, 1, _, rfl, ⟨EAt.fb HF2.out (fun hm => by have := Hex.out _ hm; have := Hsz1.out; omega) (fun j u hu => by simpa using hu), rfl, by omega, ?_⟩, HB2.out⟩
        intro y hy
        simp at hy
        subst hy
        exact Hd.out
    · obtain ⟨ad, rfl, hs2, hc2⟩ : ∃ ad, A = some ad ∧ Safe (w1.alloc (.cells #[.string d] 9)) ex ad.block ∧ ∀ j u, (us.map Value.string)[j]? = some u → (w1.alloc (.cells #[.string d] 9)).cell? (ad.add j) = some u := by
        rcases HS2.out.lies with h | h
        · have := congrArg List.length h; have h2 := HS2.out.len; simp at this; subst this; simp at h2; omega
        · exact h
      have Hc2 := hid hc2
      have Hul := hid (show (us.map Value.string).length = n * 1 by rw [List.length_map, HS2.out.len]; omega)
      have hpos : 0 < n := by omega
      clear hs2 hc2
      go_wp2_with ((
        at_builtin
        go_must (refine wpList_append_lies _ rfl _ _ 66 rfl w1.heap.size 9 i0 _ 1 16 Tryz.underlying66 Hi.out Hz0.out Hz1.out Hz2.out rfl (by decide) _ 1 [.string d] rfl HO2.out ad n c (us.map Value.string) rfl Hul.out Hc2.out (one_strs us) hpos (by unfold maxLen; omega) (by omega) (by rw [World.size_alloc]; omega) _ rfl ?_)
        intro g5 cap5 w5 hown5 hgr5 hat5 hlt5))
      as_aux_lemma =>
        have hz := Hsz1.out
        have HB5 := hid (HB2.out.grown hgr5 HB2.out.size (fun k hk => by have := (HO2.out.lt k hk).1; omega))
        have HE := hid (EAt.own (ex := ex) hown5 (fun g hg hm => by have := (hown5.lt g hg).1; have := Hex.out _ hm; omega))
        clear hown5 hgr5 hat5 hlt5
        go_wp2_with fail
        go_ret
        rw [Hr.out]
        refine ⟨_, 1 + n, _, rfl, ⟨HE.out, by rw [List.length_cons, HS2.out.len]; omega, by omega, ?_⟩, HB5.out⟩
        intro y hy
        rcases List.mem_cons.1 hy with rfl | hy
        · exact Hd.out
        · exact HS2.out.small y hy
/-- The variables, each where it occurs first. -/
def addV (V : List ByteArray) (x : ByteArray) : List ByteArray := if inB x V then V else V ++ [x]
def varsP (p : List Fnc) : List ByteArray := ((stmtsP p).flatMap occP).foldl addV []
theorem go2_new {w wr : World} {ex : List (Option Nat)} (hb : Below w.heap.size w wr) (hex : ∀ k, some k ∈ ex → w.heap.size ≤ k) : Go2 w [] wr ex :=
  fun k hk => ⟨hb.block k hk.1, Nat.lt_of_lt_of_le hk.1 hb.size, fun h => by have := hex k h; have := hk.1; omega⟩
def exV (b : Nat) (v : Value) : List (Option Nat) := match v.ownBlock with | none => [some b] | some g => [some b, some g]
theorem exV_own {b : Nat} {v : Value} : v.ownBlock = none ∨ v.ownBlock ∈ exV b v := by
  unfold exV; cases v.ownBlock <;> simp
theorem exV_b {b : Nat} {v : Value} : some b ∈ exV b v := by unfold exV; cases v.ownBlock <;> simp
theorem exV_mem {b k : Nat} {v : Value} (h : some k ∈ exV b v) : k = b ∨ v.ownBlock = some k := by
  unfold exV at h
  cases hv : v.ownBlock with
  | none => rw [hv] at h; simp at h; exact .inl h
  | some g => rw [hv] at h; simp at h; rcases h with h | h; exact .inl h; exact .inr (by rw [h])
/-- The set and the list of the variables that were found, beside what is read. -/
structure Vst (w : World) (b : Nat) (v : Value) (m : Nat) (V : List ByteArray) (wr : World) : Prop where
  own : wr.ownsRow (w.heap.size + 2) 9 1 v m (V.map Value.string)
  len : m = V.length
  set : NS wr b V
  bel : Below w.heap.size w wr
  siz : w.heap.size + 2 ≤ wr.heap.size
  isb : b = w.heap.size + 1
  small : ∀ x ∈ V, x.size ≤ 1000
theorem Vst.ex {w wr : World} {b m : Nat} {v : Value} {V : List ByteArray} (h : Vst w b v m V wr) : (∀ k, some k ∈ exV b v → k < wr.heap.size) ∧ (∀ k, some k ∈ exV b v → w.heap.size ≤ k) := by
  constructor
  · intro k hk
    rcases exV_mem hk with rfl | hk
    · exact h.set.lt
    · exact (h.own.lt k hk).2
  · intro k hk
    rcases exV_mem hk with rfl | hk
    · have := h.isb; omega
    · have := (h.own.lt k hk).1; omega
theorem Vst.below {w wr w' : World} {b m : Nat} {v : Value} {V : List ByteArray} (h : Vst w b v m V wr) (hb : Below wr.heap.size wr w') : Vst w b v m V w' :=
  ⟨own_below h.own hb, h.len, h.set.below hb, below_step h.bel hb, Nat.le_trans h.siz hb.size, h.isb, h.small⟩
theorem below_row {w wr w' : World} {row : Option Nat} (h : Below w.heap.size w wr) (hg : wr.grownBy w' row) (hr : ∀ k, row = some k → w.heap.size ≤ k) : Below w.heap.size w w' := h.grown hg h.size hr
/-- What was put into the set but not into the list yet. -/
structure Vmid (w : World) (b : Nat) (v : Value) (m : Nat) (V : List ByteArray) (x : ByteArray) (wr : World) : Prop where
  own : wr.ownsRow (w.heap.size + 2) 9 1 v m (V.map Value.string)
  len : m = V.length
  set : NS wr b (x :: V)
  bel : Below w.heap.size w wr
  siz : w.heap.size + 2 ≤ wr.heap.size
  isb : b = w.heap.size + 1
  small : ∀ x ∈ V, x.size ≤ 1000
theorem Vst.put {w wr w' : World} {b m : Nat} {v : Value} {V : List ByteArray} {x : ByteArray} (h : Vst w b v m V wr) (hn : NS w' b (x :: V)) (hg : wr.grownBy w' (some b)) :
    Vmid w b v m V x w' ∧ Go2 wr (exV b v) w' (exV b v) := by
  have hb := h.isb
  refine ⟨⟨h.own.kept hg (.inr (fun e => by have := (h.own.lt b e).1; omega)), h.len, hn, below_row h.bel hg (fun k hk => by injection hk with hk; omega), Nat.le_trans h.siz hg.size, hb, h.small⟩, Go2.same hg (.inr exV_b)⟩
theorem Vmid.alloc {w wr : World} {b m : Nat} {v : Value} {V : List ByteArray} {x : ByteArray} (h : Vmid w b v m V x wr) (o : Obj) : Vmid w b v m V x (wr.alloc o) := by
  have hb := (Below.refl wr.heap.size wr).alloc (Nat.le_refl _) o
  exact ⟨own_below h.own hb, h.len, h.set.below hb, below_step h.bel hb, Nat.le_trans h.siz hb.size, h.isb, h.small⟩
theorem Vmid.push {w wr w' : World} {b m g cap : Nat} {v : Value} {V : List ByteArray} {x : ByteArray} (h : Vmid w b v m V x wr) (hx : x.size ≤ 1000)
    (hown : w'.ownsRow (w.heap.size + 2) 9 1 (.slice (some ⟨g, 0, none⟩) (m + 1) cap) (m + 1) (V.map Value.string ++ [.string x])) (hg : wr.grownBy w' v.ownBlock) (hat : v.ownBlock = some g ∨ g = wr.heap.size) :
    Vst w b (.slice (some ⟨g, 0, none⟩) (m + 1) cap) (m + 1) (V ++ [x]) w' ∧ Go2 wr (exV b v) w' (exV b (.slice (some ⟨g, 0, none⟩) (m + 1) cap)) := by
  have hb := h.isb
  refine ⟨⟨by rw [List.map_append]; exact hown, by rw [List.length_append, h.len]; rfl, (h.set.kept hg (fun e => by have := (h.own.lt b e.symm).1; omega)).congr (by simp) (fun k => by simp [or_comm]), below_row h.bel hg (fun k hk => by have := (h.own.lt k hk).1; omega), Nat.le_trans h.siz hg.size, hb, fun y hy => (List.mem_append.1 hy).elim (h.small y) (fun hy => by simp at hy; subst hy; exact hx)⟩, ?_⟩
  refine Go2.grown hg exV_own fun k hk hm => ?_
  rcases exV_mem hm with rfl | hm
  · exact exV_b
  · have e : g = k := by simpa [Value.ownBlock] using hm
    subst e
    rcases hat with h1 | h1
    · rcases exV_own (b := b) (v := v) with h2 | h2
      · rw [h2] at h1; cases h1
      · rw [← h1]; exact h2
    · omega
/-- The variables came back, in new memory. -/
def RetV2 (w : World) (V : List ByteArray) (e : Ending) (w' : World) : Prop :=
  ∃ (A : Option Addr) (c : Nat), e = .returned (.slice A V.length c) ∧ SArg w' A V.length V ∧ Below w.heap.size w w' ∧ ∀ ex : List (Option Nat), (∀ k, some k ∈ ex → k < w.heap.size) → EAt w' ex A (V.map Value.string)
def RetV (w : World) (V : List ByteArray) (e : Ending) (w' : World) : Prop :=
  ∃ (A : Option Addr) (c : Nat), e = .returned (.slice A V.length c) ∧ SArg w' A V.length V ∧ Below w.heap.size w w'
theorem add_no {V : List ByteArray} {x : ByteArray} (h : inB x V = true) : addV V x = V := by unfold addV; rw [h]; rfl
theorem add_yes {V : List ByteArray} {x : ByteArray} (h : inB x V = false) : addV V x = V ++ [x] := by unfold addV; rw [h]; rfl
theorem fold_take {l : List ByteArray} {k : Nat} {x : ByteArray} {V0 : List ByteArray} (h : l[k]? = some x) : (l.take (k + 1)).foldl addV V0 = addV ((l.take k).foldl addV V0) x := by
  rw [List.take_add_one, h, List.foldl_append]; rfl
theorem fold_stm {l : List Stm} {k : Nat} {t : Stm} (h : l[k]? = some t) : ((l.take (k + 1)).flatMap occP).foldl addV [] = (occP t).foldl addV (((l.take k).flatMap occP).foldl addV []) := by
  rw [List.take_add_one, h, List.flatMap_append, List.foldl_append]; simp
theorem us_4 {t : Stm} (h : stmB t = true) : t.us.length ≤ 4 := by
  unfold stmB namesB at h
  simp only [Bool.and_eq_true, decide_eq_true_eq] at h
  omega
set_option maxHeartbeats 6400000 in
theorem variables2_any (x : PH) (ex : List (Option Nat)) (w : World) (h : PHok w ex x) (hs : Shp w) :
    Calls Tryz.prog 81 #[.agg #[.slice x.A x.n x.c]] w (RetV2 w (varsP x.p)) := by
  obtain ⟨i0, hi, hz0, hz1, hz2⟩ := info_parts info9
  have Hi := hid hi; have Hz0 := hid hz0; have Hz1 := hid hz1; have Hz2 := hid hz2
  clear hi hz0 hz1 hz2
  have hb0 := (Below.refl w.heap.size w).alloc (Nat.le_refl _) (.cells #[.slice x.A x.n x.c] 44)
  have hb1 : Below w.heap.size w ((w.alloc (.cells #[.slice x.A x.n x.c] 44)).alloc (.map #[] 0)) := hb0.alloc hb0.size _
  have HB1 := hid hb1
  have HS := hid (statements_any x ex w _ h hb1 (hs.keep (hb1.block 1 hs.pos0)))
  have HG := hid ((Fb.new w #[.slice x.A x.n x.c] 44).alloc (.map #[] 0))
  have HN := hid (show NS ((w.alloc (.cells #[.slice x.A x.n x.c] 44)).alloc (.map #[] 0)) (w.heap.size + 1) [] by have := NS.made (w.alloc (.cells #[.slice x.A x.n x.c] 44)); rwa [World.size_alloc] at this)
  have Hsz := hid (show ((w.alloc (.cells #[.slice x.A x.n x.c] 44)).alloc (.map #[] 0)).heap.size = w.heap.size + 2 by rw [World.size_alloc, World.size_alloc])
  clear h hb0 hb1 hs
  obtain ⟨A, n, c, l⟩ := x
  simp only at *
  generalize PH.p ⟨A, n, c, l⟩ = p at *
  have hmm := @run_makeMap Tryz.prog
  go_enter Tryz.func81, Tryz.ntmps81
  go_wp2_with fail
  clear hmm
  generalize (w.alloc (.cells #[.slice A n c] 44)).alloc (.map #[] 0) = w0 at *
  refine HS.out.mono ?_
  rintro e w1 ⟨B, d, L, rfl, hL, hL4, hE, hall, hb1⟩
  have HV := hid (show Vst w (w.heap.size + 1) (.slice none 0 0) 0 [] w1 from ⟨World.ownsRow_nil _ _ _ _, rfl, HN.out.below hb1, below_step HB1.out hb1, by have := Hsz.out; have := hb1.size; omega, rfl, by simp⟩)
  have HE := hid (show EAt w1 (exV (w.heap.size + 1) (.slice none 0 0)) B (L.flatMap shc) from hE _ (fun k hk => by rcases exV_mem hk with rfl | hk; have := Hsz.out; omega; cases hk))
  have Hall := hid hall
  have HL := hid hL
  clear hb1 HS hL hE hall HG HN HB1 Hsz
  go_wp2_with fail
  obtain ⟨b, hb⟩ : ∃ b, w.heap.size + 1 = b := ⟨_, rfl⟩
  rw [hb] at HV HE
  rw [hb]
  clear hb
  go_loopw [3, 6, 8, 13] (fun sv _ _ iv wr => ∃ (k m : Nat) (v : Value) (V : List ByteArray), k ≤ L.length ∧ iv = .int .i64 k ∧ sv = v ∧ m ≤ k * 5 ∧ Hid (V = (((L.map SH.t).take k).flatMap occP).foldl addV []) ∧ Hid (Vst w b v m V wr) ∧ Hid (EAt wr (exV b v) B (L.flatMap shc))) (fun _ _ _ iv _ => L.length - (intOf iv).toNat)
  case atStart => exact ⟨0, 0, _, [], by omega, rfl, rfl, by omega, hid rfl, HV.out, HE.out⟩
  case round =>
    clear HV HE
    obtain ⟨k, m, v, V, hk, rfl, rfl, hm, hVe, hV, hE⟩ := hrel
    by_cases hlt : k < L.length
    · obtain ⟨y, hy, hym⟩ := get_at (rfl : L.length = L.length) hlt
      obtain ⟨ad, hA, had, hc1, hc2, hc3, hc4⟩ := SH.cells hE.out hy
      subst hA
      have hb2 := (Below.refl wr.heap.size wr).alloc (Nat.le_refl _) (.cells #[.int .i64 y.t.op, .string y.t.d, .slice y.A y.n y.c, .slice y.B y.m y.c2] 68)
      have HV2 := hid (hV.out.below hb2)
      have HE2 := hid (hE.out.go (Go2.below hb2))
      have HG2 := hid (Fb.new wr #[.int .i64 y.t.op, .string y.t.d, .slice y.A y.n y.c, .slice y.B y.m y.c2] 68)
      have HY2 := hid ((Hall.out y hym).go (go2_new HV2.out.bel HV2.out.ex.2))
      have Hget := hid (show (L.map SH.t)[k]? = some y.t by rw [List.getElem?_map, hy]; rfl)
      have hyn : y.n ≤ 4 := by
        have h1 : y.t.us.length = y.n := HY2.out.uses.len
        have h2 := us_4 (stmts_ok y.t (by rw [← HL.out]; exact List.mem_map_of_mem hym))
        omega
      have Hfo := hid (fold_stm Hget.out)
      clear hy hym hb2 hV hE
      obtain ⟨g0, g1, g2, g3⟩ := Fb.four HG2.out
      go_wp2_with fail
      refine (occ_any y _ _ HY2.out hyn HV2.out.ex.1).mono ?_
      rintro e w3 ⟨OA, on, oc, rfl, hso, hb3⟩
      have HV3 := hid (HV2.out.below hb3)
      have HE3 := hid (HE2.out.go (Go2.below hb3))
      have HO3 := hid hso
      have HOl := hid hso.len
      have hon : on ≤ 5 := by have h1 := hso.len; have h2 : (occP y.t).length ≤ y.t.us.length + 1 := by { unfold occP; split <;> simp }; have h3 : y.t.us.length = y.n := HY2.out.uses.len; omega
      clear hb3 hso HV2 HE2 HG2 HY2 g0 g1 g2 g3 hc1 hc2 hc3 hc4 had
      generalize occP y.t = O at *
      go_wp2_with fail
      go_loopw [3, 8, 20] (fun sv _ iv wr => ∃ (j m2 : Nat) (v : Value) (V2 : List ByteArray), j ≤ on ∧ iv = .int .i64 j ∧ sv = v ∧ m2 ≤ k * 5 + j ∧ Hid (V2 = (O.take j).foldl addV V) ∧ Hid (Vst w b v m2 V2 wr) ∧ Hid (EAt wr (exV b v) (some ad) (L.flatMap shc)) ∧ Hid (SSafe wr (exV b v) OA on O)) (fun _ _ iv _ => on - (intOf iv).toNat)
      case atStart => exact ⟨0, m, _, V, by omega, rfl, rfl, by omega, hid rfl, HV3.out, HE3.out, HO3.out⟩
      case round =>
        clear HV3 HE3 HO3
        obtain ⟨j, m2, v2, V2, hj, rfl, rfl, hm2, hVe2, hV, hE, hO⟩ := hrel
        by_cases hlt2 : j < on
        · obtain ⟨od, rfl, hod, hoc, hos⟩ := hO.out.arg.cell hlt2
          have Hgo := hid (show O[j]? = some (O.getD j ByteArray.empty) by rw [List.getD_eq_getElem?_getD, List.getElem?_eq_getElem (by have := HOl.out; omega)]; rfl)
          have Hosm := hid (hO.out.small _ (List.mem_of_getElem? Hgo.out))
          generalize O.getD j ByteArray.empty = z at *
          have Hft := hid (fold_take (V0 := V) Hgo.out)
          have hlook := NS.look hV.out.set (show z.size ≤ maxLen by unfold maxLen; omega)
          cases hv : inB z V2 with
          | true =>
            as_aux_lemma =>
              rw [hv] at hlook
              have Hr := hid (show V2 = (O.take (j + 1)).foldl addV V by rw [Hft.out, ← hVe2.out, add_no hv])
              clear hv
              go_wp2_with fail
              go_roundw
              case rel => exact ⟨j + 1, m2, _, V2, by omega, by go_num, rfl, by omega, Hr, hV, hE, hO⟩
              case measure => simp [intOf]; omega
          | false =>
            rw [hv] at hlook
            have Hr := hid (show V2 ++ [z] = (O.take (j + 1)).foldl addV V by rw [Hft.out, ← hVe2.out, add_yes hv])
            have Hvl := hid (show V2.length < maxLen by have := hV.out.len; unfold maxLen; omega)
            clear hv
            as_aux_lemma =>
              go_wp2_with (
                first
                | (at_mapUpdate; go_loud (
                   go_must (refine wp_put rfl _ _ _ rfl b _ rfl hV.out.set Hvl.out z (by unfold maxLen; omega) rfl rfl ?_)
                   intro w5 hn5 hg5
                   have H5 := hid (hV.out.put hn5 hg5)
                   have H6 := hid (H5.out.1.alloc (.cells #[.string z] 9))
                   have HE5 := hid ((hE.out.go H5.out.2).go (Go2.below ((Below.refl w5.heap.size w5).alloc (Nat.le_refl _) (.cells #[.string z] 9))))
                   have HO5 := hid ((hO.out.go H5.out.2).go (Go2.below ((Below.refl w5.heap.size w5).alloc (Nat.le_refl _) (.cells #[.string z] 9))))
                   clear hn5 hg5 hlook))
                | (at_builtin
                   go_must (refine wpList_append_lies _ rfl _ _ 66 rfl (w.heap.size + 2) 9 i0 _ 1 16 Tryz.underlying66 Hi.out Hz0.out Hz1.out Hz2.out rfl (by decide) _ m2 (V2.map Value.string) rfl H6.out.own ⟨w5.heap.size, 0, none⟩ 1 1 [.string z] rfl rfl (one_str _ _ _) (one_strc _) (by omega) (by unfold maxLen; omega) (by omega) H6.out.siz _ rfl ?_)
                   intro g7 cap7 w7 hown7 hgr7 hat7 hlt7
                   have H7 := hid (Vmid.push H6.out Hosm.out hown7 hgr7 hat7)
                   have HE7 := hid (HE5.out.go H7.out.2)
                   have HO7 := hid (HO5.out.go H7.out.2)
                   clear hown7 hgr7 hat7 hlt7))
              go_roundw
              case rel => exact ⟨j + 1, m2 + 1, _, V2 ++ [z], by omega, by go_num, rfl, by omega, Hr, hid H7.out.1, HE7, HO7⟩
              case measure => simp [intOf]; omega
        · as_aux_lemma =>
            obtain rfl : j = on := by omega
            have Hr := hid (show V2 = (((L.map SH.t).take (k + 1)).flatMap occP).foldl addV [] by rw [Hfo.out, ← hVe.out, hVe2.out, List.take_of_length_le (by have := HOl.out; omega)])
            go_wp2_with fail
            go_roundw
            case rel => exact ⟨k + 1, m2, _, V2, by omega, by go_num, rfl, by omega, Hr, hV, hE⟩
            case measure => simp [intOf]; omega
    · as_aux_lemma =>
        obtain rfl : k = L.length := by omega
        have Hr := hid (show V = varsP p by unfold varsP; rw [hVe.out, HL.out, List.take_of_length_le (by rw [← HL.out]; simp)])
        obtain ⟨A2, cc, hvv⟩ := own_any_slice hV.out.own
        subst hvv
        have hml := hV.out.len
        go_wp2_with fail
        go_ret
        rw [← Hr.out]
        subst hml
        exact ⟨A2, cc, rfl, ⟨own_at hV.out.own, rfl, by omega, fun y hy => by have := hV.out.small y hy; omega⟩, hV.out.bel, fun ex hex => EAt.own hV.out.own fun g hg hm => by have := (hV.out.own.lt g hg).1; have := hex g hm; omega⟩
theorem variables_any (x : PH) (ex : List (Option Nat)) (w : World) (h : PHok w ex x) (hs : Shp w) :
    Calls Tryz.prog 81 #[.agg #[.slice x.A x.n x.c]] w (RetV w (varsP x.p)) :=
  (variables2_any x ex w h hs).mono fun _ _ ⟨A, c, h1, h2, h3, _⟩ => ⟨A, c, h1, h2, h3⟩
end Go.Proofs.YtfapgnbnfhpicaaGreatDoor
