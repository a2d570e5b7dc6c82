/- The reference's Lines. -/
import Derived.Test.YtlepcgncphikhaaDoorVlp
import Derived.Deep.AppendLies
namespace Go.Proofs.YtlepcgncphikhaaDoor
set_option maxRecDepth 20000
set_option linter.unusedVariables false
open Go.ChangeShapes Go.WideShapes Go.ChangeAt Go.RowKit

def funcW : ByteArray := ⟨#[102, 117, 110, 99, 32]⟩
def blockW : ByteArray := ⟨#[98, 108, 111, 99, 107, 32]⟩
def endW : ByteArray := ⟨#[101, 110, 100]⟩
def blkL (b : Blk) : List ByteArray := (blockW ++ b.name) :: b.ss.map lineP
def fncL (f : Fnc) : List ByteArray := (funcW ++ f.name) :: (f.bs.flatMap blkL ++ [endW])
/-- P5.3: the lines. -/
def linesP (p : List Fnc) : List ByteArray := p.flatMap fncL
theorem flat_snoc {α β : Type} (f : α → List β) (l : List α) {k : Nat} {x : α} (hx : l[k]? = some x) : (l.take (k + 1)).flatMap f = (l.take k).flatMap f ++ f x := by
  rw [List.take_add_one, List.flatMap_append, hx]; simp
theorem map_snoc' {α β : Type} (f : α → β) (l : List α) {k : Nat} {x : α} (hx : l[k]? = some x) : (l.take (k + 1)).map f = (l.take k).map f ++ [f x] := by
  rw [List.take_add_one, List.map_append, hx]; simp

theorem info9 : (Tryd.prog.info? 9).map (fun i => (i.zero, i.size, i.bytes)) = some (some (.string ⟨#[]⟩), 1, 16) := by kernel_rfl
theorem one_str (w : World) (a : Value) (ty : TypeId) : ∀ j u, [a][j]? = some u → (w.alloc (.cells #[a] ty)).cell? ((⟨w.heap.size, 0, none⟩ : Addr).add j) = some u := by
  intro j u h
  have hb := Fb.new w #[a] ty
  rw [add_of, hb.cell]
  simpa using h
theorem one_strc (x : ByteArray) : ∀ u ∈ [Value.string x], u.oneCell' = true := by intro u hu; simp at hu; subst hu; rfl
/-- A row of strings of the call's own, beside the blocks that it reads. -/
structure Lng (w : World) (A : Option Addr) (n c : Nat) (v : Value) (L : List ByteArray) (wr : World) : Prop where
  fb : Fb wr w.heap.size #[.slice A n c] 34
  own : wr.ownsRow (w.heap.size + 1) 9 1 v L.length (L.map Value.string)
  frame : Below w.heap.size w wr
  small : ∀ x ∈ L, x.size ≤ 100000
theorem Lng.below {w wr w' : World} {A : Option Addr} {n c : Nat} {v : Value} {L : List ByteArray} (h : Lng w A n c v L wr) (hb : Below wr.heap.size wr w') : Lng w A n c v L w' :=
  ⟨h.fb.below hb h.fb.lt, own_below h.own hb, below_step h.frame hb, h.small⟩
theorem Lng.push {w wr w' : World} {A : Option Addr} {n c : Nat} {v : Value} {L : List ByteArray} {x : ByteArray} {g cap : Nat} (h : Lng w A n c v L wr) (o : Obj) (hx : x.size ≤ 100000)
    (hown : w'.ownsRow (w.heap.size + 1) 9 1 (.slice (some ⟨g, 0, none⟩) (L.length + 1) cap) (L.length + 1) (L.map Value.string ++ [.string x])) (hg : (wr.alloc o).grownBy w' v.ownBlock) :
    Lng w A n c (.slice (some ⟨g, 0, none⟩) (L.length + 1) cap) (L ++ [x]) w' := by
  have hz := h.frame.size
  refine ⟨(h.fb.alloc o).grown hg (own_row h.own (by omega)), by rw [List.length_append, List.map_append]; exact hown, ?_, ?_⟩
  · exact (h.frame.alloc hz o).grown hg (by rw [World.size_alloc]; omega) (fun k hk => by have := (h.own.lt k hk).1; omega)
  · intro y hy
    rcases List.mem_append.1 hy with hy | hy
    · exact h.small y hy
    · simp at hy; subst hy; exact hx
theorem fb_ne_own {w : World} {g t base ty size n : Nat} {cs : Array Value} {v : Value} {xs : List Value} (hf : Fb w g cs t) (h : w.ownsRow base ty size v n xs) (ht : t ≠ ty) : some g ≠ v.ownBlock := by
  rcases h.2 with ⟨rfl, _⟩ | ⟨g', cap, cur, rfl, _, hg, _⟩
  · simp [Value.ownBlock]
  · intro e
    simp only [Value.ownBlock, Option.some.injEq] at e
    subst e
    unfold Fb at hf
    rw [hf] at hg
    injection hg with hg
    injection hg with _ hg
    exact ht hg
theorem Lng.fb2 {w wr w' : World} {A : Option Addr} {n c G t : Nat} {cs : Array Value} {v : Value} {L : List ByteArray} (h : Lng w A n c v L wr) (hf : Fb wr G cs t) (ht : t ≠ 9) (o : Obj) (hg : (wr.alloc o).grownBy w' v.ownBlock) : Fb w' G cs t :=
  (hf.alloc o).grown hg (fb_ne_own hf h.own ht)
theorem Lng.word {w wr : World} {A : Option Addr} {n c : Nat} {v : Value} {L : List ByteArray} (h : Lng w A n c v L wr) : ∃ (B : Option Addr) (d : Nat), v = .slice B L.length d ∧ SArg wr B L.length L ∨ 100000 < L.length := by
  obtain ⟨B, d, e⟩ := own_any_slice h.own
  by_cases hl : L.length ≤ 100000
  · exact ⟨B, d, .inl ⟨e, by have := h.own; rw [e] at this; exact own_at this, rfl, hl, h.small⟩⟩
  · exact ⟨B, d, .inr (by omega)⟩
theorem lineP_small {w : World} {ex : List (Option Nat)} {x : SH} (h : SHok w ex x) : (lineP x.t).size ≤ 100000 := by
  have hb : ∀ (l : List ByteArray) (n : Nat), l.length = n → n ≤ 40 → (∀ y ∈ l, y.size ≤ 1000) → (wordsP l).size ≤ 40040 := by
    intro l n hl hn hs
    have h1 := wordsP_size l l.length 1000 (Nat.le_refl _) hs
    rw [List.take_length, hl] at h1
    have : n * (1000 + 1) ≤ 40 * 1001 := Nat.mul_le_mul_right _ hn
    omega
  have hu := hb _ _ h.uses.len h.uses.few h.uses.small
  have ht := hb _ _ h.targets.len h.targets.few h.targets.small
  have hd := h.small
  unfold lineP
  repeat' split
  all_goals (try simp only [ByteArray.size_append])
  · show x.t.d.size + 2 + _ ≤ _; omega
  · show 3 + _ ≤ _; omega
  · show 4 + _ ≤ _; omega
  · show 7 + _ ≤ _; omega
  · show 4 + _ ≤ _; omega
  · show 9 + _ ≤ _; omega
  · show 4 + _ ≤ _; omega
  · show 6 + _ + _ ≤ _; omega
  · show 6 ≤ _; omega
theorem blkL_len {w : World} {ex : List (Option Nat)} (l : List BH) (h : ∀ y ∈ l, BHok w ex y) : (l.flatMap fun y => blkL y.b).length ≤ l.length * 41 := by
  induction l with
  | nil => simp
  | cons y l ih =>
    have h1 := (h y (by simp)).few
    have h2 := (h y (by simp)).len
    have h3 := ih fun z hz => h z (by simp [hz])
    rw [List.flatMap_cons, List.length_append, List.length_cons, Nat.succ_mul]
    have : (blkL y.b).length = y.l.length + 1 := by simp [blkL, BH.b]
    omega
theorem fncL_len {w : World} {ex : List (Option Nat)} (l : List FH) (h : ∀ y ∈ l, FHok w ex y) : (l.flatMap fun y => fncL y.f).length ≤ l.length * 1642 := by
  induction l with
  | nil => simp
  | cons y l ih =>
    have h1 := (h y (by simp)).few
    have h2 := (h y (by simp)).len
    have h3 := ih fun z hz => h z (by simp [hz])
    have h4 := blkL_len y.l (h y (by simp)).all
    rw [List.flatMap_cons, List.length_append, List.length_cons, Nat.succ_mul]
    have : (fncL y.f).length = (y.l.flatMap fun y => blkL y.b).length + 2 := by simp [fncL, FH.f, List.flatMap_map]
    omega
/-- The list of lines came back. -/
def RetL (w : World) (L : List ByteArray) (e : Ending) (w' : World) : Prop :=
  ∃ (A : Option Addr) (c : Nat), e = .returned (.slice A L.length c) ∧ SArg w' A L.length L ∧ Below w.heap.size w w'
/-- .. and its block is new. -/
def RetL2 (w : World) (L : List ByteArray) (e : Ending) (w' : World) : Prop :=
  ∃ (A : Option Addr) (c : Nat), e = .returned (.slice A L.length c) ∧ SArg w' A L.length L ∧ Below w.heap.size w w' ∧ ∀ b, (Value.slice A L.length c).ownBlock = some b → w.heap.size ≤ b

theorem cat_le {a b : ByteArray} {k : Nat} (ha : a.size ≤ 10) (hb : b.size ≤ 1000) : a.size + b.size ≤ 9223372036854775807 ∧ (a ++ b).size ≤ 100000 := by
  rw [ByteArray.size_append]; omega

set_option maxHeartbeats 6400000 in
theorem lines2_any (x : PH) (ex : List (Option Nat)) (w : World) (h : PHok w ex x) :
    Calls Tryd.prog 22 #[.agg #[.slice x.A x.n x.c]] w (RetL2 w (linesP x.p)) := by
  obtain ⟨A, n, c, l⟩ := x
  obtain ⟨i0, hi, hz0, hz1, hz2⟩ := info_parts info9
  have Hi := hid hi; have Hz0 := hid hz0; have Hz1 := hid hz1; have Hz2 := hid hz2
  have HP := hid h
  have hlen : l.length = n := h.len
  have hn40 : n ≤ 40 := h.few
  have Hlen := hid hlen
  have HI := hid (show Lng w A n c (.slice none 0 0) [] (w.alloc (.cells #[.slice A n c] 34)) from
    ⟨Fb.new _ _ _, World.ownsRow_nil _ _ _ _, (Below.refl _ _).alloc (Nat.le_refl _) _, by simp⟩)
  clear h hlen hi hz0 hz1 hz2
  go_enter Tryd.func22, Tryd.ntmps22
  go_wp2_with fail
  generalize w.alloc (.cells #[.slice A n c] 34) = w1 at *
  go_loopw [3, 4, 5, 6, 7] (fun v iv _ _ _ wr => ∃ k : Nat, k ≤ n ∧ iv = .int .i64 k ∧ Hid (Lng w A n c v ((l.take k).flatMap fun y => fncL y.f) wr)) (fun _ iv _ _ _ _ => n - (intOf iv).toNat)
  case atStart => exact ⟨0, by omega, rfl, HI.out⟩
  case round =>
    clear HI
    obtain ⟨k, hk, rfl, hL⟩ := hrel
    have c0 := hL.out.fb.onec
    by_cases hlt : k < n
    · obtain ⟨y, hy, hym⟩ := get_at Hlen.out hlt
      have HPr := hid (HP.out.below hL.out.frame)
      obtain ⟨ad, hA, had, hc1, hc2⟩ := FH.cells HPr.out.lies hy
      have Hy := hid (HPr.out.all y hym)
      have Hget := hid (flat_snoc (fun y => fncL y.f) l hy)
      have hln : ((l.take k).flatMap fun y => fncL y.f).length ≤ 65680 := Nat.le_trans (fncL_len (l.take k) (fun z hz => HPr.out.all z (List.mem_of_mem_take hz))) (Nat.mul_le_mul_right 1642 (show (l.take k).length ≤ 40 by rw [List.length_take]; omega))
      simp only at hA
      subst hA
      have Hget2 := hid hy
      clear hy hym
      obtain ⟨nm, A1, n1, c1, l1⟩ := y
      simp only at hc1 hc2
      have Hl1 := hid (show l1.length = n1 from Hy.out.len)
      have hnm : nm.size ≤ 1000 := Hy.out.small
      have hn1 : n1 ≤ 40 := Hy.out.few
      have hs1 := (cat_le (k := 0) (a := ⟨#[102, 117, 110, 99, 32]⟩) (b := nm) (by decide) hnm).1
      have Hs2 := hid (cat_le (k := 0) (a := ⟨#[102, 117, 110, 99, 32]⟩) (b := nm) (by decide) hnm).2
      generalize hL0 : ((l.take k).flatMap fun y => fncL y.f) = L0 at *
      have HL0 := hid hL0
      clear hL0
      go_wp2_with ((
          at_builtin
          refine wpList_append_lies _ rfl _ _ 42 rfl (w.heap.size + 1) 9 i0 _ 1 16 Tryd.underlying42 Hi.out Hz0.out Hz1.out Hz2.out rfl (by decide) u3 L0.length (L0.map Value.string) rfl (World.ownsRow.alloc hL.out.own _) ⟨wr.heap.size, 0, none⟩ 1 1 [.string (⟨#[102, 117, 110, 99, 32]⟩ ++ nm)] rfl rfl (one_str _ _ _) (one_strc _) (by omega) (by unfold maxLen; omega) (by omega) (by have := hL.out.frame.size; rw [World.size_alloc]; omega) _ rfl ?_
          intro g5 cap5 w5 hown5 hgr5 hat5 hlt5
          have H5 := hid (Lng.push hL.out _ Hs2.out hown5 hgr5)
          clear hown5 hgr5 hat5 hlt5))
      generalize (Value.slice (some ⟨g5, 0, none⟩) (L0.length + 1) cap5) = v5 at *
      clear hL c0 hc1 hc2 hs1 Hs2 HPr Hy
      go_loopw [3, 5, 6, 7] (fun v iv _ _ wr => ∃ k1 : Nat, k1 ≤ n1 ∧ iv = .int .i64 k1 ∧ Hid (Lng w (some ad) n c v (L0 ++ [funcW ++ nm] ++ (l1.take k1).flatMap fun y => blkL y.b) wr)) (fun _ iv _ _ _ => n1 - (intOf iv).toNat)
      case atStart => exact ⟨0, by omega, rfl, by show Lng w (some ad) n c v5 (L0 ++ [funcW ++ nm] ++ []) _; rw [List.append_nil]; exact H5.out⟩
      case round =>
        clear H5
        obtain ⟨k1, hk1, rfl, hL⟩ := hrel
        have c0 := hL.out.fb.onec
        have HPr := hid (HP.out.below hL.out.frame)
        obtain ⟨ad', hA', -, hc1, hc2⟩ := FH.cells HPr.out.lies Hget2.out
        simp only [Option.some.injEq] at hA'
        subst hA'
        simp only at hc1 hc2
        have Hy := hid (HPr.out.all _ (List.mem_of_getElem? Hget2.out))
        by_cases hlt1 : k1 < n1
        · obtain ⟨y, hy, hym⟩ := get_at Hl1.out hlt1
          obtain ⟨ad1, hA, had1, hd1, hd2⟩ := BH.cells Hy.out.lies hy
          have Hy1 := hid (Hy.out.all y hym)
          have Hgetb := hid (flat_snoc (fun y => blkL y.b) l1 hy)
          have hln1 := Nat.le_trans (blkL_len (l1.take k1) (fun z hz => Hy.out.all z (List.mem_of_mem_take hz))) (Nat.mul_le_mul_right 41 (List.length_take_le k1 l1))
          simp only at hA
          subst hA
          have Hget3 := hid hy
          clear hy hym
          obtain ⟨nm2, A2, n2, c2, l2⟩ := y
          simp only at hd1 hd2
          have hnm2 : nm2.size ≤ 1000 := Hy1.out.small
          have hn2 : n2 ≤ 40 := Hy1.out.few
          have Hl2 := hid (show l2.length = n2 from Hy1.out.len)
          have hs1 := (cat_le (k := 0) (a := ⟨#[98, 108, 111, 99, 107, 32]⟩) (b := nm2) (by decide) hnm2).1
          have Hs2 := hid (cat_le (k := 0) (a := ⟨#[98, 108, 111, 99, 107, 32]⟩) (b := nm2) (by decide) hnm2).2
          have hll : (L0 ++ [funcW ++ nm] ++ (l1.take k1).flatMap fun y => blkL y.b).length ≤ 65680 + 1 + 1640 := by
            rw [List.length_append, List.length_append]
            have : k1 * 41 ≤ 40 * 41 := Nat.mul_le_mul_right _ (by omega)
            simp only [List.length_singleton]; omega
          generalize hL1 : (L0 ++ [funcW ++ nm] ++ (l1.take k1).flatMap fun y => blkL y.b) = L1 at *
          have HL1 := hid hL1
          clear hL1
          have HFb := hid (Fb.new wr #[.string nm2, .slice A2 n2 c2] 62)
          have HLb := hid (hL.out.below ((Below.refl _ _).alloc (Nat.le_refl _) (.cells #[.string nm2, .slice A2 n2 c2] 62)))
          have hgl := HFb.out.lt
          have HOne := hid (one_str (wr.alloc (.cells #[.string nm2, .slice A2 n2 c2] 62)) (.string (⟨#[98, 108, 111, 99, 107, 32]⟩ ++ nm2)) 9)
          rw [World.size_alloc] at HOne
          go_wp2_with ((
            at_builtin
            refine wpList_append_lies _ rfl _ _ 42 rfl (w.heap.size + 1) 9 i0 _ 1 16 Tryd.underlying42 Hi.out Hz0.out Hz1.out Hz2.out rfl (by decide) u3 L1.length (L1.map Value.string) rfl (World.ownsRow.alloc HLb.out.own _) ⟨wr.heap.size + 1, 0, none⟩ 1 1 [.string (⟨#[98, 108, 111, 99, 107, 32]⟩ ++ nm2)] rfl rfl HOne.out (one_strc _) (by omega) (by unfold maxLen; omega) (by omega) (by have := HLb.out.frame.size; rw [World.size_alloc]; omega) _ rfl ?_
            intro g5 cap5 w5 hown5 hgr5 hat5 hlt5
            have H5 := hid (Lng.push HLb.out _ Hs2.out hown5 hgr5)
            have HF5 := hid (HLb.out.fb2 HFb.out (by decide) _ hgr5)
            clear hown5 hgr5 hat5 hlt5))
          generalize (Value.slice (some ⟨g5, 0, none⟩) (L1.length + 1) cap5) = v5 at *
          generalize wr.heap.size = G2 at *
          clear hL c0 hc1 hc2 hs1 Hs2 HPr Hy hd1 hd2 HFb HLb Hy1
          go_loopw [3, 7] (fun v iv wr => ∃ k2 : Nat, k2 ≤ n2 ∧ iv = .int .i64 k2 ∧ Hid (Lng w (some ad) n c v (L1 ++ [blockW ++ nm2] ++ (l2.take k2).map fun y => lineP y.t) wr) ∧ Hid (Fb wr G2 #[.string nm2, .slice A2 n2 c2] 62)) (fun _ iv _ => n2 - (intOf iv).toNat)
          case atStart => exact ⟨0, by omega, rfl, by show Lng w (some ad) n c v5 (L1 ++ [blockW ++ nm2] ++ []) _; rw [List.append_nil]; exact H5.out, HF5.out⟩
          case round =>
            clear H5 HF5
            obtain ⟨k2, hk2, rfl, hL, hFb⟩ := hrel
            obtain ⟨b0, b1⟩ := hFb.out.twoc
            by_cases hlt2 : k2 < n2
            · obtain ⟨y, hy, hym⟩ := get_at Hl2.out hlt2
              have HPr := hid (((HP.out.below hL.out.frame).all _ (List.mem_of_getElem? Hget2.out)).all _ (List.mem_of_getElem? Hget3.out))
              obtain ⟨ad2, hA, had2, he1, he2, he3, he4⟩ := SH.cells HPr.out.lies hy
              have Hy2 := hid (HPr.out.all y hym)
              have HS := hid (line_any _ _ _ _ y.c _ _ y.c2 _ _ Hy2.out.arg)
              have Hsm := hid (lineP_small Hy2.out)
              have Hget4 := hid (map_snoc' (fun y => lineP y.t) l2 hy)
              simp only at hA
              subst hA
              clear hy hym HPr Hy2
              obtain ⟨A3, n3, c3, B3, m3, c4, ⟨o3, d3, us3, ts3⟩⟩ := y
              simp only at he1 he2 he3 he4 HS Hsm Hget4
              generalize lineP ⟨o3, d3, us3, ts3⟩ = x3 at *
              have hll : (L1 ++ [blockW ++ nm2] ++ (l2.take k2).map fun y => lineP y.t).length ≤ 67321 + 1 + 40 := by
                rw [List.length_append, List.length_append, List.length_map, List.length_take]
                simp only [List.length_singleton]; omega
              generalize hL2 : (L1 ++ [blockW ++ nm2] ++ (l2.take k2).map fun y => lineP y.t) = L2 at *
              have HL2 := hid hL2
              clear hL2
              go_wp2_with fail
              refine HS.out.mono ?_
              rintro e w4 ⟨rfl, hb4⟩
              have HL4 := hid (hL.out.below hb4)
              have HF4 := hid (hFb.out.below hb4 hFb.out.lt)
              clear hb4 hL hFb HS b0 b1 he1 he2 he3 he4
              go_wp2_with ((
                at_builtin
                refine wpList_append_lies _ rfl _ _ 42 rfl (w.heap.size + 1) 9 i0 _ 1 16 Tryd.underlying42 Hi.out Hz0.out Hz1.out Hz2.out rfl (by decide) u3 L2.length (L2.map Value.string) rfl (World.ownsRow.alloc HL4.out.own _) ⟨w4.heap.size, 0, none⟩ 1 1 [.string x3] rfl rfl (one_str _ _ _) (one_strc _) (by omega) (by unfold maxLen; omega) (by omega) (by have := HL4.out.frame.size; rw [World.size_alloc]; omega) _ rfl ?_
                intro g5 cap5 w5 hown5 hgr5 hat5 hlt5
                have H5 := hid (Lng.push HL4.out _ Hsm.out hown5 hgr5)
                have HF5 := hid (HL4.out.fb2 HF4.out (by decide) _ hgr5)
                clear hown5 hgr5 hat5 hlt5))
              go_roundw
              case rel => exact ⟨k2 + 1, by omega, by go_num, by rw [Hget4.out, ← List.append_assoc, HL2.out]; exact H5, HF5⟩
              case measure => simp [intOf]; omega
            · obtain rfl : k2 = n2 := by omega
              have Hdone := hid (show L0 ++ [funcW ++ nm] ++ (l1.take (k1 + 1)).flatMap (fun y => blkL y.b) = L1 ++ [blockW ++ nm2] ++ (l2.take k2).map fun y => lineP y.t by
                rw [Hgetb.out, ← HL1.out, ← Hl2.out, List.take_length]
                simp [blkL, BH.b, Function.comp_def])
              go_wp2
              go_roundw
              case rel => exact ⟨k1 + 1, by omega, by go_num, by rw [Hdone.out]; exact hL⟩
              case measure => simp [intOf]; omega
        · obtain rfl : k1 = n1 := by omega
          have Hdone := hid (show (l.take (k + 1)).flatMap (fun y => fncL y.f) = (L0 ++ [funcW ++ nm] ++ (l1.take k1).flatMap fun y => blkL y.b) ++ [endW] by
            rw [Hget.out, ← Hl1.out, List.take_length]
            simp [fncL, FH.f, List.flatMap_map])
          have hln1 := Nat.le_trans (blkL_len (l1.take k1) (fun z hz => Hy.out.all z (List.mem_of_mem_take hz))) (Nat.mul_le_mul_right 41 (List.length_take_le k1 l1))
          have hll : (L0 ++ [funcW ++ nm] ++ (l1.take k1).flatMap fun y => blkL y.b).length ≤ 65680 + 1 + 1640 := by
            rw [List.length_append, List.length_append]
            have : k1 * 41 ≤ 40 * 41 := Nat.mul_le_mul_right _ (by omega)
            simp only [List.length_singleton]; omega
          generalize (L0 ++ [funcW ++ nm] ++ (l1.take k1).flatMap fun y => blkL y.b) = L1 at *
          go_wp2_with ((
            at_builtin
            refine wpList_append_lies _ rfl _ _ 42 rfl (w.heap.size + 1) 9 i0 _ 1 16 Tryd.underlying42 Hi.out Hz0.out Hz1.out Hz2.out rfl (by decide) u3 L1.length (L1.map Value.string) rfl (World.ownsRow.alloc hL.out.own _) ⟨wr.heap.size, 0, none⟩ 1 1 [.string ⟨#[101, 110, 100]⟩] rfl rfl (one_str _ _ _) (one_strc _) (by omega) (by unfold maxLen; omega) (by omega) (by have := hL.out.frame.size; rw [World.size_alloc]; omega) _ rfl ?_
            intro g5 cap5 w5 hown5 hgr5 hat5 hlt5
            have H5 := hid (Lng.push hL.out _ (by decide) hown5 hgr5)
            clear hown5 hgr5 hat5 hlt5))
          go_roundw
          case rel => exact ⟨k + 1, by omega, by go_num, by rw [Hdone.out]; exact H5⟩
          case measure => simp [intOf]; omega
    · obtain rfl : k = n := by omega
      have HR := hid (show linesP (PH.p ⟨A, k, c, l⟩) = (l.take k).flatMap fun y => fncL y.f by
        rw [← Hlen.out, List.take_length]
        unfold linesP PH.p; rw [List.flatMap_map])
      have hln : ((l.take k).flatMap fun y => fncL y.f).length ≤ 65680 := Nat.le_trans (fncL_len (l.take k) (fun z hz => (HP.out.below hL.out.frame).all z (List.mem_of_mem_take hz))) (Nat.mul_le_mul_right 1642 (show (l.take k).length ≤ 40 by rw [List.length_take]; omega))
      generalize ((l.take k).flatMap fun y => fncL y.f) = L0 at *
      obtain ⟨B, d, hv⟩ := own_any_slice hL.out.own
      subst hv
      go_wp2
      go_ret
      rw [HR.out]
      exact ⟨B, d, rfl, ⟨own_at hL.out.own, rfl, by omega, hL.out.small⟩, hL.out.frame, fun b hb => by have := (hL.out.own.lt b hb).1; omega⟩
theorem lines_any (x : PH) (ex : List (Option Nat)) (w : World) (h : PHok w ex x) :
    Calls Tryd.prog 22 #[.agg #[.slice x.A x.n x.c]] w (RetL w (linesP x.p)) :=
  (lines2_any x ex w h).mono fun e w' ⟨A, c, h1, h2, h3, _⟩ => ⟨A, c, h1, h2, h3⟩
end Go.Proofs.YtlepcgncphikhaaDoor
