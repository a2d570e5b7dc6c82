/- Merged texts: what YtopkmeceakjocaaGreatEliminationReducesProof leans on. -/
import Derived.WalkKit
import Derived.ProofKit
import Derived.OpenShut
import Derived.Deep.Draws
import Derived.WalkSmall
import Derived.Laws.CopyOwn
import Derived.Laws.MakeOwn
import Derived.Deep.QuietTactic
import Derived.BigQuiet
import Derived.StillTailTactics
import Derived.Deep.Slices
import Derived.Deep.RegionWith
import Derived.Deep.DeepMust
import Derived.IntWalk
import Derived.Deep.DeepCutAuto
import Derived.Deep.RegionLaw
import Derived.Shelf.SlSortCmp.NoneTotal
import Derived.Lib.SlicesCompact
import Derived.Lib.SliceRun
import Derived.Deep.LoopGhost
import Derived.Deep.AppendLies
import Derived.Deep.RegionHeld3
import Derived.Test.YtopkmeceakjocaaGreatRows
import Derived.Test.YtopkmeceakjocaaGreatProg
namespace Bs
def W64 : Nat := 18446744073709551616
theorem W64_eq : W64 = 2 ^ 64 := by decide
def wd (ws : List Nat) (i : Nat) : Nat := ws.getD i 0
def bit (ws : List Nat) (b : Nat) : Bool := (wd ws (b / 64)).testBit (b % 64)
def put (ws : List Nat) (b : Nat) : List Nat := ws.set (b / 64) (wd ws (b / 64) ||| 2 ^ (b % 64))
def nw (w : Nat) : Nat := (w + 63) / 64
def emp (w : Nat) : List Nat := List.replicate (nw w) 0
structure Fit (w : Nat) (ws : List Nat) : Prop where
 len : ws.length = nw w
 ok : ∀ x ∈ ws, x < W64
 hi : ∀ b, w ≤ b → bit ws b = false
theorem wd_lt {ws : List Nat} (h : ∀ x ∈ ws, x < W64) (i : Nat) : wd ws i < W64 := by
 unfold wd
 rw [List.getD_eq_getElem?_getD]
 rcases Nat.lt_or_ge i ws.length with hi | hi
 · rw [List.getElem?_eq_getElem hi]; exact h _ (List.getElem_mem hi)
 · rw [List.getElem?_eq_none hi]; decide
theorem wd_out {ws : List Nat} {i : Nat} (h : ws.length ≤ i) : wd ws i = 0 := by
 unfold wd; rw [List.getD_eq_getElem?_getD, List.getElem?_eq_none h]; rfl
theorem wd_get {ws : List Nat} {i : Nat} (h : i < ws.length) : wd ws i = ws[i] := by
 unfold wd; rw [List.getD_eq_getElem?_getD, List.getElem?_eq_getElem h]; rfl
theorem bit_out {ws : List Nat} {b : Nat} (h : 64 * ws.length ≤ b) : bit ws b = false := by
 unfold bit; rw [wd_out (by omega)]; simp
theorem bit_emp (w b : Nat) : bit (emp w) b = false := by
 unfold bit emp
 have : wd (List.replicate (nw w) 0) (b / 64) = 0 := by
  unfold wd; rw [List.getD_eq_getElem?_getD, List.getElem?_replicate]; split <;> rfl
 rw [this]; simp
theorem fit_emp (w : Nat) : Fit w (emp w) :=
 ⟨by simp [emp], by intro x hx; rw [List.eq_of_mem_replicate hx]; decide, fun b _ => bit_emp w b⟩
theorem length_put (ws : List Nat) (b : Nat) : (put ws b).length = ws.length := by simp [put]
theorem wd_put (ws : List Nat) (b i : Nat) (h : b / 64 < ws.length) : wd (put ws b) i = if i = b / 64 then wd ws (b / 64) ||| 2 ^ (b % 64) else wd ws i := by
 unfold put
 split
 · next e => subst e; unfold wd; simp [h]
 · next e => unfold wd; rw [List.getD_eq_getElem?_getD, List.getElem?_set_ne (by omega), ← List.getD_eq_getElem?_getD]
theorem bit_put (ws : List Nat) (b i : Nat) (h : b / 64 < ws.length) : bit (put ws b) i = (bit ws i || decide (i = b)) := by
 unfold bit
 rw [wd_put ws b _ h]
 by_cases e : i / 64 = b / 64
 · rw [if_pos e, Nat.testBit_or, Nat.testBit_two_pow, e]
   congr 1
   by_cases e2 : i = b
   · subst e2; simp
   · have : b % 64 ≠ i % 64 := by omega
     simp [e2, this]
 · rw [if_neg e]
   have : i ≠ b := by intro h; subst h; exact e rfl
   simp [this]
theorem lt_nw {w b : Nat} (h : b < w) : b / 64 < nw w := by unfold nw; omega
theorem fit_put {w : Nat} {ws : List Nat} (h : Fit w ws) {b : Nat} (hb : b < w) : Fit w (put ws b) := by
 have hl : b / 64 < ws.length := by rw [h.len]; exact lt_nw hb
 refine ⟨by rw [length_put, h.len], ?_, ?_⟩
 · intro x hx
   unfold put at hx
   rcases List.mem_or_eq_of_mem_set hx with hx | hx
   · exact h.ok x hx
   · subst hx
     rw [W64_eq]
     refine Nat.or_lt_two_pow ?_ (Nat.pow_lt_pow_right (by decide) (by omega))
     rw [← W64_eq]; exact wd_lt h.ok _
 · intro i hi
   rw [bit_put ws b i hl, h.hi i hi]
   have : i ≠ b := by omega
   simp [this]
theorem ext {w : Nat} {a b : List Nat} (ha : Fit w a) (hb : Fit w b) (h : ∀ i, i < w → bit a i = bit b i) : a = b := by
 have hl : a.length = b.length := by rw [ha.len, hb.len]
 refine List.ext_getElem hl fun i h1 h2 => ?_
 refine Nat.eq_of_testBit_eq fun j => ?_
 rcases Nat.lt_or_ge j 64 with hj | hj
 · have key : bit a (64 * i + j) = bit b (64 * i + j) := by
    rcases Nat.lt_or_ge (64 * i + j) w with hw | hw
    · exact h _ hw
    · rw [ha.hi _ hw, hb.hi _ hw]
   unfold bit at key
   have e1 : (64 * i + j) / 64 = i := by omega
   have e2 : (64 * i + j) % 64 = j := by omega
   rw [e1, e2, wd_get h1, wd_get h2] at key
   exact key
 · have q : ∀ x, x < W64 → x.testBit j = false := fun x hx =>
    Nat.testBit_lt_two_pow (Nat.lt_of_lt_of_le hx (by rw [W64_eq]; exact Nat.pow_le_pow_right (by decide) hj))
   rw [q _ (ha.ok _ (List.getElem_mem h1)), q _ (hb.ok _ (List.getElem_mem h2))]
def ofP (w : Nat) (p : Nat → Bool) : Nat → List Nat
 | 0 => emp w
 | k + 1 => if p k then put (ofP w p k) k else ofP w p k
theorem fit_ofP (w : Nat) (p : Nat → Bool) (k : Nat) (h : k ≤ w) : Fit w (ofP w p k) := by
 induction k with
 | zero => exact fit_emp w
 | succ k ih =>
   unfold ofP; split
   · exact fit_put (ih (by omega)) (by omega)
   · exact ih (by omega)
theorem bit_ofP (w : Nat) (p : Nat → Bool) (k : Nat) (h : k ≤ w) (i : Nat) : bit (ofP w p k) i = (decide (i < k) && p i) := by
 induction k with
 | zero => simp [ofP, bit_emp]
 | succ k ih =>
   have hf := fit_ofP w p k (by omega)
   unfold ofP; split
   · next hp =>
     rw [bit_put _ _ _ (by rw [hf.len]; exact lt_nw (by omega)), ih (by omega)]
     by_cases e : i = k
     · subst e; simp [hp]
     · have : (i < k + 1) = (i < k) := by apply propext; omega
       simp [e, this]
   · next hp =>
     rw [ih (by omega)]
     by_cases e : i = k
     · subst e; simp [hp]
     · have : (i < k + 1) = (i < k) := by apply propext; omega
       simp [this]
theorem ofP_congr {w : Nat} {p q : Nat → Bool} {k : Nat} (h : ∀ i, i < k → p i = q i) : ofP w p k = ofP w q k := by
 induction k with
 | zero => rfl
 | succ k ih => unfold ofP; rw [h k (by omega), ih fun i hi => h i (by omega)]
theorem put_ofP {w : Nat} (p : Nat → Bool) {b : Nat} (hb : b < w) : put (ofP w p w) b = ofP w (fun i => p i || decide (i = b)) w := by
 have hf := fit_ofP w p w (Nat.le_refl _)
 refine ext (fit_put hf hb) (fit_ofP w _ w (Nat.le_refl _)) fun i hi => ?_
 rw [bit_put _ _ _ (by rw [hf.len]; exact lt_nw hb), bit_ofP w p w (Nat.le_refl _), bit_ofP w _ w (Nat.le_refl _)]
 simp [hi]
theorem ofP_false (w k : Nat) : ofP w (fun _ => false) k = emp w := by
 induction k with
 | zero => rfl
 | succ k ih => unfold ofP; simpa using ih
theorem ofP_bit {w : Nat} {ws : List Nat} (h : Fit w ws) : ofP w (bit ws) w = ws :=
 ext (fit_ofP w _ w (Nat.le_refl _)) h fun i hi => by rw [bit_ofP w _ w (Nat.le_refl _)]; simp [hi]
def validB (W : Int) (ws : List Nat) : Bool :=
 decide (0 ≤ W) && decide (W ≤ 256) && decide (ws.length = nw W.toNat) && (List.range (64 * ws.length)).all fun b => decide (b < W.toNat) || !bit ws b
theorem validB_iff {W : Int} {ws : List Nat} : validB W ws = true ↔ 0 ≤ W ∧ W ≤ 256 ∧ ws.length = nw W.toNat ∧ ∀ b, W.toNat ≤ b → bit ws b = false := by
 unfold validB
 simp only [Bool.and_eq_true, decide_eq_true_eq, List.all_eq_true, List.mem_range, Bool.or_eq_true, Bool.not_eq_true']
 constructor
 · rintro ⟨⟨⟨h1, h2⟩, h3⟩, h4⟩
   refine ⟨h1, h2, h3, fun b hb => ?_⟩
   rcases Nat.lt_or_ge b (64 * ws.length) with h | h
   · rcases h4 b h with h' | h'
     · omega
     · exact h'
   · exact bit_out h
 · rintro ⟨h1, h2, h3, h4⟩
   refine ⟨⟨⟨h1, h2⟩, h3⟩, fun b _ => ?_⟩
   rcases Nat.lt_or_ge b W.toNat with h | h
   · exact .inl h
   · exact .inr (h4 b h)
theorem fit_of_valid {W : Int} {ws : List Nat} (h : validB W ws = true) (ho : ∀ x ∈ ws, x < W64) : Fit W.toNat ws := by
 obtain ⟨_, _, h3, h4⟩ := validB_iff.1 h
 exact ⟨h3, ho, h4⟩
theorem valid_of_fit {w : Nat} {ws : List Nat} (h : Fit w ws) (hw : w ≤ 256) : validB (w : Int) ws = true :=
 validB_iff.2 ⟨by omega, by omega, by simpa using h.len, by simpa using h.hi⟩
def hasB (W : Int) (ws : List Nat) (b : Int) : Bool := validB W ws && decide (0 ≤ b) && decide (b < W) && bit ws b.toNat
theorem hasB_nat {w : Nat} {ws : List Nat} (h : Fit w ws) (hw : w ≤ 256) (b : Nat) : hasB w ws b = bit ws b := by
 unfold hasB
 rw [valid_of_fit h hw]
 by_cases hb : b < w
 · have h1 : (0 : Int) ≤ b := by omega
   have h2 : (b : Int) < w := by omega
   simp [h2]
 · have h2 : ¬ (b : Int) < w := by omega
   simp [h2, h.hi b (by omega)]
theorem testBit_shift (x j : Nat) : (decide (x / 2 ^ j % 2 = 1)) = x.testBit j := by
 rw [Nat.testBit_eq_decide_div_mod_eq]
end Bs
namespace Go.Proofs.YtopkmeceakjocaaGreat
open Go.ChangeShapes Go.WideShapes Go.ChangeAt Go.RowKit
theorem hid {p : Prop} (h : p) : Hid p := h
theorem ret_int {k : IntKind} {a b : Int} (h : a = b) : Ending.returned (.int k a) = .returned (.int k b) := by rw [h]
theorem ret_bool {a b : Bool} (h : a = b) : Ending.returned (.bool a) = .returned (.bool b) := by rw [h]
theorem add_block (a : Addr) (n : Nat) : (a.add n).block = a.block := by unfold Addr.add; split <;> rfl
def At (w : World) (B : Nat) (A : Option Addr) (xs : List Value) : Prop :=
 xs = [] ∨ ∃ ad, A = some ad ∧ ad.block < B ∧ ∀ j u, xs[j]? = some u → w.cell? (ad.add j) = some u
section
variable {w w' : World} {B B' : Nat} {A : Option Addr} {xs : List Value}
theorem At.nil : At w B A [] := .inl rfl
theorem At.cell {j : Nat} {u : Value} (h : At w B A xs) (hj : xs[j]? = some u) : ∃ ad, A = some ad ∧ ad.block < B ∧ w.cell? (ad.add j) = some u := by
 rcases h with rfl | ⟨ad, e, hb, hc⟩
 · simp at hj
 · exact ⟨ad, e, hb, hc j u hj⟩
theorem At.keep (h : At w B A xs) (hk : ∀ p : Addr, p.block < B → w'.cell? p = w.cell? p) (hB : B ≤ B') : At w' B' A xs := by
 rcases h with rfl | ⟨ad, e, hb, hc⟩
 · exact .inl rfl
 · exact .inr ⟨ad, e, by omega, fun j u hu => (hk _ (by rw [add_block]; exact hb)).trans (hc j u hu)⟩
theorem At.below (h : At w B A xs) (hb : Below B w w') (hB : B ≤ B') : At w' B' A xs := h.keep (fun _ hp => hb.cell hp) hB
theorem At.more (h : At w B A xs) (hB : B ≤ B') : At w B' A xs := h.keep (fun _ _ => rfl) hB
end
def u64 (x : Nat) : Value := .int .u64 x
def words (ws : List Nat) : List Value := ws.map u64
theorem words_get {ws : List Nat} {i : Nat} (h : i < ws.length) : (words ws)[i]? = some (.int .u64 (Bs.wd ws i)) := by
 unfold words; rw [List.getElem?_map, List.getElem?_eq_getElem h, Bs.wd_get h]; rfl
theorem test_bit (x j : Nat) (hx : x < Bs.W64) : (bits BinOp.and IntKind.u64 ((x : Int) / 2 ^ j) 1 == 1) = x.testBit j := by
 have hx' : x < 18446744073709551616 := hx
 have e : ((x : Int) / 2 ^ j) = ((x / 2 ^ j : Nat) : Int) := by simp
 have hle : x / 2 ^ j ≤ x := Nat.div_le_self _ _
 rw [e]
 generalize hq : x / 2 ^ j = q at hle
 rw [and_one_u64 _ (by omega) (by omega), ← Bs.testBit_shift, hq]
 have e2 : (q : Int) % 2 = ((q % 2 : Nat) : Int) := by simp
 rw [e2]
 by_cases h : q % 2 = 1
 · rw [h]; rfl
 · have h0 : q % 2 = 0 := by omega
   rw [h0]; rfl
theorem test_bit_of {ws : List Nat} (hok : ∀ x ∈ ws, x < Bs.W64) (k : Nat) :
 (bits BinOp.and IntKind.u64 ((Bs.wd ws (k / 64) : Int) / 2 ^ (k % 64)) 1 == 1) = Bs.bit ws k := test_bit _ _ (Bs.wd_lt hok _)
structure Arg (w : World) (A : Option Addr) (n : Nat) (ws : List Nat) : Prop where
 lies : At w w.heap.size A (words ws)
 len : ws.length = n
 ok : ∀ x ∈ ws, x < Bs.W64
theorem Arg.below {w w' : World} {A : Option Addr} {n : Nat} {ws : List Nat} (h : Arg w A n ws) (hb : Below w.heap.size w w') : Arg w' A n ws :=
 ⟨h.lies.below hb hb.size, h.len, h.ok⟩
theorem Arg.alloc {w : World} {A : Option Addr} {n : Nat} {ws : List Nat} (h : Arg w A n ws) (o : Obj) : Arg (w.alloc o) A n ws :=
 h.below ((Below.refl _ _).alloc (Nat.le_refl _) o)
theorem Arg.nil (w : World) (A : Option Addr) : Arg w A 0 [] := ⟨At.nil, rfl, fun _ h => by simp at h⟩
def Row (w : World) (g : Nat) (ws : List Nat) : Prop := w.heap[g]? = some (.cells (words ws).toArray 106 (0, 0))
theorem Row.lt {w : World} {g : Nat} {ws : List Nat} (h : Row w g ws) : g < w.heap.size := by
 rcases Nat.lt_or_ge g w.heap.size with hlt | hge
 · exact hlt
 · unfold Row at h; rw [Array.getElem?_eq_none hge] at h; cases h
theorem add_of (g j : Nat) : (⟨g, 0, none⟩ : Addr).add j = ⟨g, j, none⟩ := by
 unfold Addr.add
 by_cases h : j = 0
 · subst h; rfl
 · simp [h]
theorem Row.cell {w : World} {g : Nat} {ws : List Nat} (h : Row w g ws) (j : Nat) : w.cell? ⟨g, j, none⟩ = (words ws)[j]? := by
 unfold Row at h
 simp [World.cell?, h]
theorem Row.frozen {w : World} {g : Nat} {ws : List Nat} (h : Row w g ws) (j : Nat) : w.frozen? ⟨g, j, none⟩ = false := by
 unfold Row at h
 simp [World.frozen?, h]
theorem Row.arg {w : World} {g : Nat} {ws : List Nat} (h : Row w g ws) (ok : ∀ x ∈ ws, x < Bs.W64) : Arg w (some ⟨g, 0, none⟩) ws.length ws :=
 ⟨.inr ⟨_, rfl, h.lt, fun j u hu => by rw [add_of, h.cell]; exact hu⟩, rfl, ok⟩
theorem Row.below {w w' : World} {B g : Nat} {ws : List Nat} (h : Row w g ws) (hb : Below B w w') (hg : g < B) : Row w' g ws := (hb.block g hg).trans h
theorem Row.alloc {w : World} {g : Nat} {ws : List Nat} (h : Row w g ws) (o : Obj) : Row (w.alloc o) g ws := (Below.heap_alloc w o g h.lt).trans h
theorem Row.far {w : World} {g : Nat} {ws : List Nat} (h : Row w g ws) {p : Addr} (hp : g ≠ p.block) (u : Value) : Row (w.setCell p u) g ws := (Below.heap_setCell w p u g hp).trans h
theorem Row.set {w : World} {g : Nat} {ws : List Nat} (h : Row w g ws) (j x : Nat) : Row (w.setCell ⟨g, j, none⟩ (.int .u64 x)) g (ws.set j x) := by
 unfold Row at h ⊢
 simp [World.setCell, Array.getElem?_modify, h, words, u64]
def NewSet (w : World) (W : Int) (ws : List Nat) (e : Ending) (w' : World) : Prop :=
 ∃ g : Nat, e = .returned (.agg #[.int .i64 W, .slice (some ⟨g, 0, none⟩) ws.length ws.length]) ∧ w.heap.size ≤ g ∧ Row w' g ws ∧ Below w.heap.size w w'
def RetSet (w : World) (W : Int) (ws : List Nat) (e : Ending) (w' : World) : Prop :=
 ∃ (A : Option Addr) (n c : Nat), e = .returned (.agg #[.int .i64 W, .slice A n c]) ∧ Arg w' A n ws ∧ Below w.heap.size w w'
theorem info62 : (Tryz.prog.info? 106).map (fun i => (i.zero, i.size, i.bytes)) = some (some (.int .u64 0), 1, 8) := by kernel_rfl
theorem zeros_words (n : Nat) : madeCells #[.int .u64 0] n = (words (List.replicate n 0)).toArray := by
 apply Array.toList_inj.1
 rw [toList_madeCells_one]
 simp [words, u64]
theorem bcell {W w1 : World} (hb : Below W.heap.size W w1) : (∀ b o, b < W.heap.size → w1.cell? ⟨b, o, none⟩ = W.cell? ⟨b, o, none⟩) ∧ (∀ b o, b < W.heap.size → w1.frozen? ⟨b, o, none⟩ = W.frozen? ⟨b, o, none⟩) :=
 ⟨fun b o h => hb.cell (p := ⟨b, o, none⟩) h, fun b o h => hb.frozen (p := ⟨b, o, none⟩) h⟩
theorem refValid_in (W : Nat) (A : Option Addr) (n c : Nat) (ws : List Nat) (w : World) (hA0 : At w w.heap.size A (words ws)) (hok0 : ∀ x ∈ ws, x < Bs.W64) (hn0 : ws.length = n)
 (h0 : W ≤ 256) (hl0 : n = Bs.nw W) :
 Calls Tryz.prog 51 #[.agg #[.int .i64 W, .slice A n c]] w fun e w' => e = .returned (.bool (Bs.validB W ws)) ∧ Below w.heap.size w w' := by
 have t1 : decide ((W : Int) < 0) = false := by simp
 have t2 : decide (256 < (W : Int)) = false := by simp; omega
 have t3 : ((n : Int) != ((W : Int) + 63) / 64) = false := by rw [hl0]; unfold Bs.nw; simp
 have h5 : n ≤ 5 := by rw [hl0]; unfold Bs.nw; omega
 have h6 : (W : Int) ≤ 64 * (n : Int) := by rw [hl0]; unfold Bs.nw; omega
 have hA := hid hA0
 have hn := hid hn0
 have hl := hid hl0
 have hok := hid hok0
 clear hA0 hn0 hl0 hok0
 go_enter Tryz.func51, Tryz.ntmps51
 go_wp2
 clear t1 t2 t3
 go_loop [3] (fun b => ∃ k : Nat, W ≤ k ∧ k ≤ 64 * n ∧ b = .int .i64 k ∧ Hid (∀ i, W ≤ i → i < k → Bs.bit ws i = false)) (fun b => 64 * n - (intOf b).toNat)
 case atStart => exact ⟨W, by omega, by omega, rfl, fun i h1 h2 => by omega⟩
 case round =>
  obtain ⟨k, hk1, hk2, rfl, hb⟩ := hrel
  by_cases hlt : k < 64 * n
  · have hg : (words ws)[k / 64]? = some (.int .u64 (Bs.wd ws (k / 64))) := words_get (by have := hn.out; omega)
    obtain ⟨ad, rfl, had, hcell⟩ := hA.out.cell hg
    have hx : k / 64 < n := by omega
    clear hg
    have hcell2 : (w.alloc (Obj.cells #[Value.int IntKind.i64 ↑W, Value.slice (some ad) n c] 49)).cell? (ad.add (k / 64)) = some (.int .u64 (Bs.wd ws (k / 64))) := by
     rw [World.cell?_alloc_lt _ _ _ (by rw [add_block]; exact had)]; exact hcell
    clear hcell
    have hbit := test_bit_of hok.out k
    cases hv : Bs.bit ws k with
    | true =>
      rw [hv] at hbit
      have Hv := hid hv
      clear hv
      go_wp2
      go_ret
      refine ⟨ret_bool ?_, (Below.refl _ _).alloc (Nat.le_refl _) _⟩
      cases hq : Bs.validB W ws with
      | false => rfl
      | true =>
        obtain ⟨_, _, _, h4⟩ := Bs.validB_iff.1 hq
        have := h4 k (by omega)
        rw [Hv.out] at this; exact this.symm
    | false =>
      rw [hv] at hbit
      have Hv := hid hv
      clear hv
      go_wp2
      go_round
      case rel =>
       refine ⟨k + 1, by omega, by omega, by go_num, fun i h1 h2 => ?_⟩
       by_cases e : i = k
       · rw [e]; exact Hv.out
       · exact hb.out i h1 (by omega)
      case measure => simp [intOf]; omega
  · go_wp2
    go_ret
    refine ⟨ret_bool ?_, (Below.refl _ _).alloc (Nat.le_refl _) _⟩
    refine (Bs.validB_iff.2 ⟨by omega, by omega, by rw [hn.out]; simpa using hl.out, fun b hb' => ?_⟩).symm
    rcases Nat.lt_or_ge b k with h | h
    · exact hb.out b (by omega) h
    · exact Bs.bit_out (by have := hn.out; omega)
theorem refValid_out (W : Int) (A : Option Addr) (n c : Nat) (ws : List Nat) (w : World) (hn0 : ws.length = n)
 (hno : W < 0 ∨ 256 < W ∨ n ≠ Bs.nw W.toNat) :
 Calls Tryz.prog 51 #[.agg #[.int .i64 W, .slice A n c]] w fun e w' => e = .returned (.bool (Bs.validB W ws)) ∧ Below w.heap.size w w' := by
 have hv : Hid (false = Bs.validB W ws) := by
  cases hq : Bs.validB W ws with
  | false => exact hid rfl
  | true =>
    obtain ⟨h1, h2, h3, _⟩ := Bs.validB_iff.1 hq
    rw [hn0] at h3
    omega
 clear hn0
 by_cases h1 : W < 0
 · go_enter Tryz.func51, Tryz.ntmps51
   go_wp2
   go_ret
   exact ⟨ret_bool hv.out, (Below.refl _ _).alloc (Nat.le_refl _) _⟩
 · by_cases h2 : 256 < W
   · go_enter Tryz.func51, Tryz.ntmps51
     go_wp2
     go_ret
     exact ⟨ret_bool hv.out, (Below.refl _ _).alloc (Nat.le_refl _) _⟩
   · have t3 : ((n : Int) != (W + 63) / 64) = true := by
      have : (n : Int) ≠ (W + 63) / 64 := by unfold Bs.nw at hno; omega
      simpa using this
     clear hno
     go_enter Tryz.func51, Tryz.ntmps51
     go_wp2
     go_ret
     exact ⟨ret_bool hv.out, (Below.refl _ _).alloc (Nat.le_refl _) _⟩
theorem refValid_any (W : Int) (A : Option Addr) (n c : Nat) (ws : List Nat) (w : World) (hA : At w w.heap.size A (words ws)) (hok : ∀ x ∈ ws, x < Bs.W64) (hn : ws.length = n) :
 Calls Tryz.prog 51 #[.agg #[.int .i64 W, .slice A n c]] w fun e w' => e = .returned (.bool (Bs.validB W ws)) ∧ Below w.heap.size w w' := by
 by_cases h : W < 0 ∨ 256 < W ∨ n ≠ Bs.nw W.toNat
 · exact refValid_out W A n c ws w hn h
 · obtain ⟨m, rfl⟩ := Int.eq_ofNat_of_zero_le (a := W) (by omega)
   exact refValid_in m A n c ws w hA hok hn (by omega) (by simp at h; omega)
def pairs (cs : List (Int × Int)) : List Value := cs.flatMap fun p => [.int .i64 p.1, .int .i64 p.2]
theorem pairs_length (cs : List (Int × Int)) : (pairs cs).length = 2 * cs.length := by
 unfold pairs
 induction cs with
 | nil => rfl
 | cons p cs ih => simp only [List.flatMap_cons, List.length_append, List.length_cons, List.length_nil, ih]; omega
theorem pairs_get {cs : List (Int × Int)} {i : Nat} {p : Int × Int} (h : cs[i]? = some p) :
 (pairs cs)[i * 2]? = some (.int .i64 p.1) ∧ (pairs cs)[i * 2 + 1]? = some (.int .i64 p.2) := by
 induction cs generalizing i with
 | nil => simp at h
 | cons q cs ih =>
   have e : pairs (q :: cs) = .int .i64 q.1 :: .int .i64 q.2 :: pairs cs := by simp [pairs]
   cases i with
   | zero =>
     simp only [List.getElem?_cons_zero, Option.some.injEq] at h
     subst h; rw [e]; exact ⟨rfl, rfl⟩
   | succ i =>
     obtain ⟨h1, h2⟩ := ih (by simpa using h)
     rw [e, show (i + 1) * 2 = i * 2 + 1 + 1 from by omega]
     exact ⟨by simpa using h1, by simpa using h2⟩
structure ArgC (w : World) (A : Option Addr) (n : Nat) (cs : List (Int × Int)) : Prop where
 lies : At w w.heap.size A (pairs cs)
 len : cs.length = n
theorem ArgC.below {w w' : World} {A : Option Addr} {n : Nat} {cs : List (Int × Int)} (h : ArgC w A n cs) (hb : Below w.heap.size w w') : ArgC w' A n cs :=
 ⟨h.lies.below hb hb.size, h.len⟩
theorem ArgC.cell {w : World} {A : Option Addr} {n : Nat} {cs : List (Int × Int)} (h : ArgC w A n cs) {i : Nat} {p : Int × Int} (hi : cs[i]? = some p) :
 ∃ ad, A = some ad ∧ ad.block < w.heap.size ∧ w.cell? (ad.add (i * 2)) = some (.int .i64 p.1) ∧ w.cell? ⟨(ad.add (i * 2)).block, (ad.add (i * 2)).off + 1, none⟩ = some (.int .i64 p.2) := by
 obtain ⟨h1, h2⟩ := pairs_get hi
 obtain ⟨ad, e, hb, hc⟩ := h.lies.cell h1
 obtain ⟨ad2, e2, _, hc2⟩ := h.lies.cell h2
 rw [e] at e2; cases e2
 exact ⟨ad, e, hb, hc, by rw [show (⟨(ad.add (i * 2)).block, (ad.add (i * 2)).off + 1, none⟩ : Addr) = (ad.add (i * 2)).add 1 from rfl, Go.Deep.add_add]; exact hc2⟩
def beforeB (p q : Int × Int) : Bool := decide (p.1 < q.1) || decide (p.1 = q.1) && decide (p.2 < q.2)
set_option linter.unusedSimpArgs false in
theorem refBefore_any (p1 p2 q1 q2 : Int) (w : World) :
 Calls Tryz.prog 112 #[.agg #[.int .i64 p1, .int .i64 p2], .agg #[.int .i64 q1, .int .i64 q2]] w fun e w' => e = .returned (.bool (beforeB (p1, p2) (q1, q2))) ∧ Below w.heap.size w w' := by
 have hx := ((Below.refl w.heap.size w).alloc (Nat.le_refl _) (.cells #[.int .i64 p1, .int .i64 p2] 58)).alloc (by simp) (.cells #[.int .i64 q1, .int .i64 q2] 58)
 have Hx := hid hx
 clear hx
 have e0 : beforeB (p1, p2) (q1, q2) = (decide (p1 < q1) || decide (p1 = q1) && decide (p2 < q2)) := rfl
 rw [e0]
 by_cases h1 : p1 < q1
 · go_enter Tryz.func112, Tryz.ntmps112
   go_wp2
   go_ret
   exact ⟨ret_bool (by simp [h1]), Hx.out⟩
 · by_cases h2 : p1 = q1
   · subst h2
     by_cases h3 : p2 < q2
     · go_enter Tryz.func112, Tryz.ntmps112
       go_wp2
       go_ret
       exact ⟨ret_bool (by simp [h3]), Hx.out⟩
     · go_enter Tryz.func112, Tryz.ntmps112
       go_wp2
       go_ret
       exact ⟨ret_bool (by simp [h3]), Hx.out⟩
   · go_enter Tryz.func112, Tryz.ntmps112
     go_wp2
     go_ret
     exact ⟨ret_bool (by simp [h1, h2]), Hx.out⟩
def folB (V : Int) (ks : List Nat) (cs : List (Int × Int)) (a b : Int) : Bool := decide (a = b) && !Bs.hasB V ks a || decide ((a, b) ∈ cs)
def md (v n : Int) : Int := IntKind.u64.wrap v % n
theorem md_lo (v n : Int) (h : 1 ≤ n) : 0 ≤ md v n := Int.emod_nonneg _ (by omega)
theorem md_hi (v n : Int) (h : 1 ≤ n) : md v n < n := Int.emod_lt_of_pos _ (by omega)
theorem mod_any (v n : Int) (w : World) (h1 : 1 ≤ n) (h2 : n ≤ 1000000) :
 Calls Tryz.prog 42 #[.int .i64 v, .int .i64 n] w fun e w' => e = .returned (.int .i64 (md v n)) ∧ w = w' := by
 have hw : 0 ≤ IntKind.u64.wrap v := by rw [IntKind.wrap_u64]; omega
 have e2 := md_lo v n h1
 have e3 := md_hi v n h1
 unfold md at *
 generalize hu : IntKind.u64.wrap v = u at *
 have Hu := hid hu
 clear hu
 have e1 : u.tmod n = u % n := Int.tmod_eq_emod_of_nonneg hw
 have E1 := hid e1
 clear e1
 go_enter Tryz.func42, Tryz.ntmps42
 go_wp2
 go_ret
 refine ⟨ret_int ?_, rfl⟩
 show wrap64 ((IntKind.u64.wrap v).tmod n) = _
 rw [Hu.out, E1.out]
 exact IntWalk.wrap64_in _ ⟨by omega, by omega⟩
theorem quiet_same {P : Program} {f : FuncId} {args : Array Value} {w : World} {n : Nat} {v : Value}
 (h : Calls P f args (w.drewN n) fun e w' => e = .returned v ∧ w.drewN n = w') : Calls P f args (w.drewN n) fun e w' => e = .returned v ∧ ∃ m, w' = w.drewN m :=
 h.mono fun _ _ ⟨he, hw⟩ => ⟨he, n, hw.symm⟩
def ints (zs : List Int) : List Value := zs.map (.int .i64)
theorem ints_get {zs : List Int} {i : Nat} (h : i < zs.length) : (ints zs)[i]? = some (.int .i64 (zs.getD i 0)) := by
 unfold ints; rw [List.getElem?_map, List.getElem?_eq_getElem h, List.getD_eq_getElem?_getD, List.getElem?_eq_getElem h]; rfl
def TapeAt (w : World) (T : Nat) (A : Option Addr) (n c k : Nat) (zs : List Int) : Prop :=
 w.heap[T]? = some (.cells #[.slice A n c, .int .i64 k] 80 (0, 0)) ∧ zs.length = n ∧ n ≤ maxLen ∧ k ≤ n ∧ At w T A (ints zs)
def Tape (w : World) (T : Nat) : Prop := ∃ A n c k zs, TapeAt w T A n c k zs
theorem Tape.lt {w : World} {T : Nat} (h : Tape w T) : T < w.heap.size := by
 obtain ⟨A, n, c, k, zs, h, _⟩ := h
 rcases Nat.lt_or_ge T w.heap.size with hlt | hge
 · exact hlt
 · rw [Array.getElem?_eq_none hge] at h; cases h
theorem Tape.keep {w w' : World} {T : Nat} (h : Tape w T) (hb : ∀ k, k ≤ T → w'.heap[k]? = w.heap[k]?) : Tape w' T := by
 obtain ⟨A, n, c, k, zs, h1, h2, h3, h4, h5⟩ := h
 exact ⟨A, n, c, k, zs, (hb T (Nat.le_refl _)).trans h1, h2, h3, h4, h5.keep (fun p hp => World.cell?_of_block (hb _ (by omega))) (Nat.le_refl _)⟩
theorem Tape.below {w w' : World} {T B : Nat} (h : Tape w T) (hb : Below B w w') (hB : T < B) : Tape w' T := h.keep fun k hk => hb.block k (by omega)
def Nxt (w : World) (T : Nat) (n : Int) (e : Ending) (w' : World) : Prop :=
 ∃ r : Int, e = .returned (.int .i64 r) ∧ 0 ≤ r ∧ (r < n ∨ r = 0) ∧ Tape w' T ∧ w.grownBy w' (some T) ∧ w'.heap.size = w.heap.size
theorem Tape.drewN {w : World} {T : Nat} (h : Tape w T) (m : Nat) : Tape (w.drewN m) T := h.keep fun _ _ => rfl
theorem grown_drewN (w : World) (m : Nat) (row : Option Nat) : w.grownBy (w.drewN m) row := ⟨rfl, rfl, rfl, Nat.le_refl _, fun _ _ _ => rfl⟩
theorem grown_set (w : World) (T : Nat) {p : Addr} (hp : p.block = T) (u : Value) : w.grownBy (w.setCell p u) (some T) :=
 ⟨rfl, rfl, rfl, by simp [World.setCell], fun i _ hne => Below.heap_setCell w p u i (by rintro rfl; exact hne (by rw [hp]))⟩
theorem grown_trans {a b c : World} {row : Option Nat} (h : a.grownBy b row) (k : b.grownBy c row) : a.grownBy c row :=
 ⟨k.os.trans h.os, k.tape.trans h.tape, k.output.trans h.output, Nat.le_trans h.size k.size, fun i hi hne => (k.block i (Nat.lt_of_lt_of_le hi h.size) hne).trans (h.block i hi hne)⟩
theorem next_no (T : Nat) (n : Int) (w : World) (ht : Tape w T) (h1 : n ≤ 1) :
 Calls Tryz.prog 11 #[.pointer (some ⟨T, 0, none⟩), .int .i64 n] w (Nxt w T n) := by
 have Ht := hid ht
 clear ht
 go_enter Tryz.func11, Tryz.ntmps11
 go_wp2_with fail
 go_quiet (fail)
 go_wp2
 go_ret
 exact ⟨0, rfl, by omega, .inr rfl, Ht.out.drewN _, grown_drewN _ _ _, rfl⟩
theorem next_end (T : Nat) (n : Int) (A : Option Addr) (m c : Nat) (zs : List Int) (w : World) (ht : TapeAt w T A m c m zs) (h1 : 1 < n) :
 Calls Tryz.prog 11 #[.pointer (some ⟨T, 0, none⟩), .int .i64 n] w (Nxt w T n) := by
 have hc0 : w.cell? ⟨T, 0, none⟩ = some (.slice A m c) := by simp [World.cell?, ht.1]
 have hc1 : w.cell? ⟨T, 1, none⟩ = some (.int .i64 m) := by simp [World.cell?, ht.1]
 have Ht := hid ht
 clear ht
 have hd : decide (n ≤ 1) = false := by simp; omega
 have hge : decide ((m : Int) ≤ (m : Int)) = true := by simp
 go_enter Tryz.func11, Tryz.ntmps11
 go_wp2_with fail
 go_quiet (fail)
 go_wp2
 go_ret
 exact ⟨0, rfl, by omega, .inr rfl, Tape.drewN ⟨_, _, _, _, _, Ht.out⟩ _, grown_drewN _ _ _, rfl⟩
theorem next_more (T : Nat) (n : Int) (A : Option Addr) (m c k : Nat) (zs : List Int) (w : World) (ht : TapeAt w T A m c k zs) (h1 : 1 < n) (h2 : n ≤ 1000000) (hk : k < m) :
 Calls Tryz.prog 11 #[.pointer (some ⟨T, 0, none⟩), .int .i64 n] w (Nxt w T n) := by
 obtain ⟨hT, hz, hm, hkm, hA⟩ := ht
 have hc0 : w.cell? ⟨T, 0, none⟩ = some (.slice A m c) := by simp [World.cell?, hT]
 have hc1 : w.cell? ⟨T, 1, none⟩ = some (.int .i64 k) := by simp [World.cell?, hT]
 have hf1 : w.frozen? ⟨T, 1, none⟩ = false := by simp [World.frozen?, hT]
 obtain ⟨ad, rfl, had, hcell⟩ := hA.cell (ints_get (by rw [hz]; exact hk))
 have hne : ad.block ≠ T := by omega
 have hcell1 : (w.setCell ⟨T, 1, none⟩ (.int .i64 ((k : Int) + 1))).cell? (ad.add k) = some (.int .i64 (zs.getD k 0)) := by
  rw [World.cell?_setCell_other _ _ _ _ (by intro h; apply hne; rw [← add_block ad k, ← h])]; exact hcell
 generalize zs.getD k 0 = v at hcell hcell1
 have hcell2 : ∀ q : Nat, ((w.drewN q).setCell ⟨T, 1, none⟩ (.int .i64 ((k : Int) + 1))).cell? (ad.add k) = some (.int .i64 v) := fun q => hcell1
 clear hcell1
 have h3 := md_lo v n (by omega)
 have h4 := md_hi v n (by omega)
 unfold maxLen at hm
 have HT := hid hT
 have HA := hid hA
 have Hz := hid hz
 clear hT hA hz hcell
 have hd : decide (n ≤ 1) = false := by simp; omega
 have hge : decide (m ≤ k) = false := by simp; omega
 go_enter Tryz.func11, Tryz.ntmps11
 go_wp2_with fail
 go_quiet (fail)
 go_wp2_with fail
 have hwr : IntKind.i64.wrap (k : Int) = k := IntWalk.i64_in _ (by omega)
 have hk0 : (0 : Int) ≤ k := by omega
 have hkn : (k : Int).toNat = k := by omega
 go_quiet ((go_at_call 42; first | exact quiet_same (mod_any _ _ _ (by omega) (by omega)) | exact quiet_add (mod_any _ _ _ (by omega) (by omega))))
 go_wp2
 go_ret
 refine ⟨md v n, rfl, h3, .inl h4, ⟨some ad, m, c, k + 1, zs, ?_, Hz.out, by unfold maxLen; omega, by omega, ?_⟩, ?_, by simp [World.setCell]⟩
 · have := HT.out
   simp [World.setCell, Array.getElem?_modify, this]
 · exact HA.out.keep (fun p hp => World.cell?_setCell_other _ _ _ _ (by rintro rfl; simp at hp)) (Nat.le_refl _)
 · exact grown_trans (grown_trans (grown_drewN _ _ _) (grown_set _ T rfl _)) (grown_drewN _ _ _)
theorem next_any (T : Nat) (n : Int) (w : World) (ht : Tape w T) (h2 : n ≤ 1000000) :
 Calls Tryz.prog 11 #[.pointer (some ⟨T, 0, none⟩), .int .i64 n] w (Nxt w T n) := by
 by_cases h1 : n ≤ 1
 · exact next_no T n w ht h1
 · obtain ⟨A, m, c, k, zs, h⟩ := ht
   by_cases hk : k < m
   · exact next_more T n A m c k zs w h (by omega) h2 hk
   · have : k = m := by have := h.2.2.2.1; omega
     subst this
     exact next_end T n A k c zs w h (by omega)
theorem run_words (W : Nat) (hW : W ≤ 100000) (w : World) :
 (Instr.makeSlice 47 (.int .i64 (((W : Int) + 63) / 64)) (.int .i64 (((W : Int) + 63) / 64))).run Tryz.prog w = .ok (.slice (some ⟨w.heap.size, 0, none⟩) (Bs.nw W) (Bs.nw W)) (w.alloc (.cells (words (Bs.emp W)).toArray 106)) := by
 obtain ⟨i, hi, hz0, hz1, hz2⟩ := info_parts info62
 have e : ((W : Int) + 63) / 64 = ((Bs.nw W : Nat) : Int) := by unfold Bs.nw; simp
 have hle : Bs.nw W ≤ 100000 := by unfold Bs.nw; omega
 rw [e]
 have h := run_make (P := Tryz.prog) w 47 106 i (.int .u64 0) Tryz.underlying47 hi hz0 .i64 .i64 (Bs.nw W) (Bs.nw W) (by omega) (by omega) (by rw [hz2]; omega) (by omega)
 rw [h, hz1]
 simp only [Int.toNat_natCast, Nat.mul_one]
 have e2 : madeCells (Value.int IntKind.u64 0).cells (Bs.nw W) = (words (Bs.emp W)).toArray := by
  unfold Bs.emp; rw [← zeros_words]; rfl
 rw [e2]
theorem refEmpty_any (W : Nat) (w : World) (hW : W ≤ 100000) :
 Calls Tryz.prog 25 #[.int .i64 W] w (NewSet w W (Bs.emp W)) := by
 have hm := run_words W hW
 go_enter Tryz.func25, Tryz.ntmps25
 go_wp2
 refine bodyPost_ret (v := .agg #[.int .i64 W, .slice (some ⟨w.heap.size + 1, 0, none⟩) (Bs.nw W) (Bs.nw W)]) (by simp [results, Tryz.results25, go_sem]) rfl ⟨w.heap.size + 1, ?_, by omega, ?_, ?_⟩
 · simp [Bs.emp]
 · have h := heap_alloc_new (w.alloc (Obj.cells #[Value.int IntKind.i64 ↑W, Value.slice (some { block := w.heap.size + 1, off := 0 }) (Bs.nw W) (Bs.nw W)] 49)) (Obj.cells (words (Bs.emp W)).toArray 106)
   rw [World.size_alloc] at h
   exact h
 · exact ((Below.refl _ _).alloc (Nat.le_refl _) _).alloc (by simp) _
theorem len_emp (W : Nat) : (Bs.emp W).length = Bs.nw W := by simp [Bs.emp]
theorem words_len (ws : List Nat) : (words ws).length = ws.length := by simp [words]
theorem words_one (ws : List Nat) : ∀ v ∈ words ws, v.oneCell' = true := by
 intro v hv
 unfold words at hv
 obtain ⟨x, _, rfl⟩ := List.mem_map.1 hv
 rfl
theorem info62_one : (Tryz.prog.info? 106).map (·.size) = some 1 := by kernel_rfl
theorem or_bit (x j : Nat) (hx : x < Bs.W64) (hj : j < 64) : bits BinOp.or IntKind.u64 (x : Int) (IntKind.u64.wrap (2 ^ j)) = ((x ||| 2 ^ j : Nat) : Int) := by
 have hp : 2 ^ j < 18446744073709551616 := by
  have : (2 : Nat) ^ j < 2 ^ 64 := Nat.pow_lt_pow_right (by decide) hj
  simpa using this
 have e : IntKind.u64.wrap (2 ^ j) = ((2 ^ j : Nat) : Int) := by
  rw [show ((2 : Int) ^ j) = ((2 ^ j : Nat) : Int) from by simp]
  generalize 2 ^ j = p at hp
  exact IntWalk.u64_in _ (by omega)
 rw [e]
 exact u64_or_nat x (2 ^ j) hx hp
theorem copy_words {w : World} {ops : Array Oper} {rest : List Oper} {o : Oper} {a : Act} {Q : Exit → Act → World → Prop} (hgd : o.guard = none) (d s : Operand)
 (ho : o.op = .call { callee := .builtin .copy, args := #[d, s], argTypes := #[47, 47] })
 (g n c : Nat) (ad : Addr) (hd : a.eval d = .slice (some ⟨g, 0, none⟩) n n) (hs : a.eval s = .slice (some ad) n c)
 (old ws : List Nat) (hr : Row w g old) (hold : old.length = n) (hA : At w w.heap.size (some ad) (words ws)) (hn : ws.length = n)
 (h : ∀ w2, Hid (Row w2 g ws) → Hid (w.grownBy w2 (some g)) → w2.heap.size = w.heap.size → wpList Tryz.prog ops Q rest (a.put o.dst (goInt (words ws).length)) w2) :
 wpList Tryz.prog ops Q (o :: rest) a w := by
 refine wpList_copy_own hgd d s 47 47 ho 106 Tryz.underlying47 info62_one g 0 n n ad n c hd hs (words old).toArray 106 hr (words ws) (by rw [words_len, hn]; simp) ?_ (by simp [words_len, hn, hold]) (words_one ws) ?_
 · intro j v hv
   obtain ⟨ad', e, _, hc⟩ := hA.cell hv
   injection e with e; subst e; exact hc
 · have e : (((words old).toArray.toList.take 0 ++ (words ws ++ (words old).toArray.toList.drop (0 + (words ws).length))).toArray) = (words ws).toArray := by
    simp [hn, hold, words]
   rw [e]
   refine h _ ?_ ?_ ?_
   · exact hid (setRow_heap w g _ _ 106 _ hr)
   · exact hid ⟨rfl, rfl, rfl, by simp [World.setRow], fun k _ hk => setRow_other w g k _ (by intro h; subst h; exact hk rfl)⟩
   · simp [World.setRow]
theorem refPut_any (W : Nat) (A : Option Addr) (n c : Nat) (ws : List Nat) (b : Nat) (w : World) (hA : Arg w A n ws) (hW : W ≤ 100000) (hl : ws.length = Bs.nw W) (hb : b < W) :
 Calls Tryz.prog 62 #[.agg #[.int .i64 W, .slice A n c], .int .i64 b] w (NewSet w W (Bs.put ws b)) := by
 have hq : b / 64 < ws.length := by rw [hl]; exact Bs.lt_nw hb
 obtain ⟨ad, rfl, had, hh⟩ := hA.lies.cell (words_get hq)
 clear hh
 have hlen := hA.len
 have hqn : b / 64 < Bs.nw W := Bs.lt_nw hb
 have HA := hid hA
 have Hl := hid hl
 rw [hl] at hlen
 subst hlen
 clear hA hl hq
 go_enter Tryz.func62, Tryz.ntmps62
 go_wp2_with (first
  | (go_at_call 25; refine (refEmpty_any W _ hW).mono ?_; rintro e w1 ⟨g, rfl, hg, hr, hbl⟩; obtain ⟨hc, hf⟩ := bcell hbl; rw [len_emp]; have hz : w.heap.size + 1 < w1.heap.size := (by have := hbl.size; simp at this; omega); have hz0 : w.heap.size < w1.heap.size := (by omega); have hgl := hr.lt; have Hr := hid hr; have Hbl := hid hbl; clear hr hbl)
  | (with_reducible refine copy_words rfl (.tmp 10) (.tmp 12) rfl _ _ _ _ rfl rfl (Bs.emp W) ws (Hr.out.alloc _) (len_emp W) (((HA.out.alloc _).alloc _).below Hbl.out |>.alloc _).lies Hl.out ?_
     intro w2 hr2 hg2 hs2
     simp only [World.size_alloc] at hg
     have x1 : w2.cell? ⟨w1.heap.size, 1, none⟩ = some (.slice (some ⟨g, 0, none⟩) (Bs.nw W) (Bs.nw W)) := hg2.out.cell (by go_simp) (by simp; omega)
     have x0 : w2.cell? ⟨w1.heap.size, 0, none⟩ = some (.int .i64 W) := hg2.out.cell (by go_simp) (by simp; omega)
     have cg : w2.cell? ⟨g, b / 64, none⟩ = some (.int .u64 (Bs.wd ws (b / 64))) := by rw [hr2.out.cell]; exact words_get (by rw [Hl.out]; exact hqn)
     have fg : w2.frozen? ⟨g, b / 64, none⟩ = false := hr2.out.frozen _
     have r0 : w2.cell? ⟨w.heap.size + 1, 0, none⟩ = some (.int .i64 0) := hg2.out.cell (by go_simp) (by simp; omega)
     have r1 : w2.cell? ⟨w.heap.size + 1, 1, none⟩ = some (.slice none 0 0) := hg2.out.cell (by go_simp) (by simp; omega)
     have q0 : w2.frozen? ⟨w.heap.size + 1, 0, none⟩ = false := (World.frozen?_of_block (hg2.out.block _ (by simp; omega) (by simp; omega))).trans (by go_simp)
     have q1 : w2.frozen? ⟨w.heap.size + 1, 1, none⟩ = false := (World.frozen?_of_block (hg2.out.block _ (by simp; omega) (by simp; omega))).trans (by go_simp)
     have hne : w.heap.size + 1 < g := (by omega)
     clear hc hf
     generalize hws : Bs.wd ws (b / 64) = x at cg
     have Hws := hid hws
     clear hws))
 refine bodyPost_ret (v := .agg #[.int .i64 W, .slice (some ⟨g, 0, none⟩) (Bs.nw W) (Bs.nw W)]) (by simp [results, Tryz.results62, go_sem, r0, r1]) rfl ⟨g, ?_, by omega, ?_, ?_⟩
 · rw [Bs.length_put, Hl.out]
 · rw [or_bit x (b % 64) (by rw [← Hws.out]; exact Bs.wd_lt HA.out.ok _) (by omega)]
   have hs := hr2.out.set (b / 64) (x ||| 2 ^ (b % 64))
   rw [← Hws.out] at hs ⊢
   exact (hs.far (by simp; omega) _).far (by simp; omega) _
 · have h1 : Below w.heap.size w w1 := (((Below.refl _ _).alloc (Nat.le_refl _) _).alloc (by simp) _).trans (Hbl.out.mono (by simp; omega))
   have h2 : Below w.heap.size w w2 := (h1.alloc (by omega) _).grown hg2.out (by simp; omega) (by intro k hk; injection hk with hk; omega)
   exact ((h2.setCell (by simp; omega) _).setCell (by simp) _).setCell (by simp) _
def Box (w : World) (b : Nat) (W : Int) (A : Option Addr) (n c : Nat) : Prop := w.heap[b]? = some (.cells #[.int .i64 W, .slice A n c] 49 (0, 0))
section
variable {w w' : World} {b : Nat} {W : Int} {A : Option Addr} {n c : Nat}
theorem Box.lt (h : Box w b W A n c) : b < w.heap.size := by
 rcases Nat.lt_or_ge b w.heap.size with hlt | hge
 · exact hlt
 · unfold Box at h; rw [Array.getElem?_eq_none hge] at h; cases h
theorem Box.c0 (h : Box w b W A n c) : w.cell? ⟨b, 0, none⟩ = some (.int .i64 W) := by unfold Box at h; simp [World.cell?, h]
theorem Box.c1 (h : Box w b W A n c) : w.cell? ⟨b, 1, none⟩ = some (.slice A n c) := by unfold Box at h; simp [World.cell?, h]
theorem Box.f (h : Box w b W A n c) (j : Nat) : w.frozen? ⟨b, j, none⟩ = false := by unfold Box at h; simp [World.frozen?, h]
theorem Box.below {B : Nat} (h : Box w b W A n c) (hb : Below B w w') (hB : b < B) : Box w' b W A n c := (hb.block b hB).trans h
theorem Box.grown {row : Option Nat} (h : Box w b W A n c) (hb : w.grownBy w' row) (hne : some b ≠ row) : Box w' b W A n c := (hb.block b h.lt hne).trans h
theorem Box.new (w : World) (W : Int) (A : Option Addr) (n c : Nat) : Box (w.alloc (.cells #[.int .i64 W, .slice A n c] 49)) w.heap.size W A n c := heap_alloc_new w _
theorem Box.alloc (h : Box w b W A n c) (o : Obj) : Box (w.alloc o) b W A n c := (Below.heap_alloc w o b h.lt).trans h
theorem Box.far (h : Box w b W A n c) {p : Addr} (hp : b ≠ p.block) (u : Value) : Box (w.setCell p u) b W A n c := (Below.heap_setCell w p u b hp).trans h
theorem Box.set (h : Box w b W A n c) (V : Int) (B : Option Addr) (m d : Nat) : Box ((w.setCell ⟨b, 0, none⟩ (.int .i64 V)).setCell ⟨b, 1, none⟩ (.slice B m d)) b V B m d := by
 unfold Box at h ⊢
 simp [World.setCell, Array.getElem?_modify, h]
theorem Box.row_ne {g : Nat} {ws : List Nat} (h : Box w b W A n c) (hr : Row w g ws) : g ≠ b := by
 rintro rfl
 unfold Box at h; unfold Row at hr
 rw [h] at hr
 injection hr with hr
 injection hr with _ hr
 cases hr
end
theorem grown_of_below {w w' : World} (h : Below w.heap.size w w') (row : Option Nat) : w.grownBy w' row := ⟨h.os, h.tape, h.output, h.size, fun i hi _ => h.block i hi⟩
theorem grown_set_new {a w : World} {T : Nat} (h : a.grownBy w (some T)) {p : Addr} (hp : a.heap.size ≤ p.block) (u : Value) : a.grownBy (w.setCell p u) (some T) :=
 ⟨h.os, h.tape, h.output, by simpa [World.setCell] using h.size, fun i hi hne => (Below.heap_setCell w p u i (by rintro rfl; omega)).trans (h.block i hi hne)⟩
theorem Tape.far {w : World} {T : Nat} (h : Tape w T) {p : Addr} (hp : T < p.block) (u : Value) : Tape (w.setCell p u) T :=
 h.keep fun k hk => Below.heap_setCell w p u k (by omega)
theorem Tape.alloc {w : World} {T : Nat} (h : Tape w T) (o : Obj) : Tape (w.alloc o) T := h.below ((Below.refl w.heap.size w).alloc (Nat.le_refl _) o) h.lt
theorem grown_drew (w : World) (row : Option Nat) : w.grownBy w.drew row := ⟨rfl, rfl, rfl, Nat.le_refl _, fun _ _ _ => rfl⟩
def Growing (w : World) (T b r v : Nat) (wr : World) : Prop :=
 ∃ (g : Nat) (ws : List Nat), Bs.Fit v ws ∧ Box wr b v (some ⟨g, 0, none⟩) (Bs.nw v) (Bs.nw v) ∧ Row wr g ws ∧ w.heap.size ≤ g ∧ Box wr r 0 none 0 0 ∧ Tape wr T ∧ w.grownBy wr (some T)
end Go.Proofs.YtopkmeceakjocaaGreat
namespace Go.Proofs.YtopkmeceakjocaaGreat
set_option maxRecDepth 20000
open Go.ChangeShapes Go.WideShapes Go.ChangeAt Go.RowKit
def Fb (w : World) (g : Nat) (cs : Array Value) (t : Nat) : Prop := w.heap[g]? = some (.cells cs t (0, 0))
section
variable {w w' : World} {g B t : Nat} {cs : Array Value}
theorem Fb.lt (h : Fb w g cs t) : g < w.heap.size := by
 rcases Nat.lt_or_ge g w.heap.size with hlt | hge
 · exact hlt
 · unfold Fb at h; rw [Array.getElem?_eq_none hge] at h; cases h
theorem Fb.cell (h : Fb w g cs t) (j : Nat) : w.cell? ⟨g, j, none⟩ = cs[j]? := by
 unfold Fb at h
 simp [World.cell?, h]
theorem Fb.frozen (h : Fb w g cs t) (j : Nat) : w.frozen? ⟨g, j, none⟩ = false := by
 unfold Fb at h
 simp [World.frozen?, h]
theorem Fb.below (h : Fb w g cs t) (hb : Below B w w') (hg : g < B) : Fb w' g cs t := (hb.block g hg).trans h
theorem Fb.grown {row : Option Nat} (h : Fb w g cs t) (hb : w.grownBy w' row) (hne : some g ≠ row) : Fb w' g cs t := (hb.block g h.lt hne).trans h
theorem Fb.new (w : World) (cs : Array Value) (t : Nat) : Fb (w.alloc (.cells cs t)) w.heap.size cs t := heap_alloc_new w _
theorem Fb.alloc (h : Fb w g cs t) (o : Obj) : Fb (w.alloc o) g cs t := (Below.heap_alloc w o g h.lt).trans h
theorem Fb.far (h : Fb w g cs t) {p : Addr} (hp : g ≠ p.block) (u : Value) : Fb (w.setCell p u) g cs t := (Below.heap_setCell w p u g hp).trans h
theorem Fb.drewN (h : Fb w g cs t) (q : Nat) : Fb (w.drewN q) g cs t := h
end
theorem Fb.five {w : World} {g t : Nat} {a b c d e : Value} (h : Fb w g #[a, b, c, d, e] t) :
 w.cell? ⟨g, 0, none⟩ = some a ∧ w.cell? ⟨g, 1, none⟩ = some b ∧ w.cell? ⟨g, 2, none⟩ = some c ∧ w.cell? ⟨g, 3, none⟩ = some d ∧ w.cell? ⟨g, 4, none⟩ = some e :=
 ⟨h.cell 0, h.cell 1, h.cell 2, h.cell 3, h.cell 4⟩
theorem Fb.two {w : World} {g t : Nat} {a b : Value} (h : Fb w g #[a, b] t) :
 w.cell? ⟨g, 0, none⟩ = some a ∧ w.cell? ⟨g, 1, none⟩ = some b := ⟨h.cell 0, h.cell 1⟩
def inW (W : Int) (p : Int × Int) : Bool := decide (0 ≤ p.1) && decide (p.1 < W) && decide (0 ≤ p.2) && decide (p.2 < W)
def okAt (W : Int) (cs : List (Int × Int)) (i : Nat) : Bool := inW W (cs.getD i (0, 0)) && (decide (i = 0) || beforeB (cs.getD (i - 1) (0, 0)) (cs.getD i (0, 0)))
def validT (W : Int) (gs : List Nat) (V : Int) (ks : List Nat) (cs : List (Int × Int)) : Bool :=
 Bs.validB W gs && Bs.validB V ks && decide (W = V) && decide (cs.length ≤ 64) && (List.range cs.length).all (okAt W cs)
set_option maxHeartbeats 800000 in
theorem refValidT_any (W V : Int) (A B C : Option Addr) (n c m d k q : Nat) (gs ks : List Nat) (cs : List (Int × Int)) (w : World) (hA : Arg w A n gs) (hB : Arg w B m ks) (hC : ArgC w C k cs) :
 Calls Tryz.prog 75 #[.agg #[.int .i64 W, .slice A n c, .int .i64 V, .slice B m d, .slice C k q]] w fun e w' => e = .returned (.bool (validT W gs V ks cs)) ∧ Below w.heap.size w w' := by
 have HA := hid hA; have HB := hid hB; have HC := hid hC
 clear hA hB hC
 cases hv : Bs.validB W gs with
 | false =>
   have hres : validT W gs V ks cs = false := by unfold validT; simp [hv]
   have Hres := hid hres; have Hv := hid hv
   clear hres hv
   go_enter Tryz.func75, Tryz.ntmps75
   go_wp2_with fail
   refine (refValid_any W A n c gs _ (HA.out.alloc _).lies HA.out.ok HA.out.len).mono ?_
   rw [Hv.out]
   rintro e w1 ⟨rfl, hb1⟩
   have Hb1 := hid (((Below.refl w.heap.size w).alloc (Nat.le_refl _) _).trans (hb1.mono (by simp)))
   clear hb1
   go_wp2
   go_ret
   exact ⟨ret_bool Hres.out.symm, Hb1.out⟩
 | true =>
   have Hv := hid hv
   go_enter Tryz.func75, Tryz.ntmps75
   go_wp2_with fail
   refine (refValid_any W A n c gs _ (HA.out.alloc _).lies HA.out.ok HA.out.len).mono ?_
   rw [Hv.out]
   rintro e w1 ⟨rfl, hb1⟩
   have hF := hid ((Fb.new w #[.int .i64 W, .slice A n c, .int .i64 V, .slice B m d, .slice C k q] 61).below hb1 (by simp))
   have Hb1 := hid (((Below.refl w.heap.size w).alloc (Nat.le_refl _) _).trans (hb1.mono (by simp)))
   clear hb1
   obtain ⟨c0, c1, c2, c3, c4⟩ := hF.out.five
   go_wp2_with fail
   refine (refValid_any V B m d ks _ (HB.out.below Hb1.out).lies HB.out.ok HB.out.len).mono ?_
   cases hk : Bs.validB V ks with
   | false =>
     have hres : validT W gs V ks cs = false := by unfold validT; simp [hk]
     have Hres := hid hres
     clear hres hk hv
     rintro e w2 ⟨rfl, hb2⟩
     have hF2 := hid (hF.out.below hb2 hF.out.lt)
     have Hb2 := hid (Hb1.out.trans (hb2.mono Hb1.out.size))
     clear hb2 c0 c1 c2 c3 c4
     go_wp2
     go_ret
     exact ⟨ret_bool Hres.out.symm, Hb2.out⟩
   | true =>
     have Hk := hid hk
     clear hk hv
     rintro e w2 ⟨rfl, hb2⟩
     have hF2 := hid (hF.out.below hb2 hF.out.lt)
     have Hb2 := hid (Hb1.out.trans (hb2.mono Hb1.out.size))
     clear hb2 c0 c1 c2 c3 c4
     obtain ⟨c0, c1, c2, c3, c4⟩ := hF2.out.five
     by_cases hWV : W = V
     · have t1 : (W != V) = false := by simp [hWV]
       have HWV := hid hWV
       clear hWV
       by_cases hle : k ≤ 64
       · have hsp : validT W gs V ks cs = (List.range cs.length).all (okAt W cs) := by
          unfold validT; rw [Hv.out, Hk.out, HC.out.len]; simp [HWV.out, hle]
         have Hsp := hid hsp
         clear hsp
         go_wp2_with fail
         clear t1 c0 c1 c2 c3 c4
         go_loopw [4] (fun i wr => ∃ j : Nat, j ≤ k ∧ i = .int .i64 j ∧ Hid (∀ x, x < j → okAt W cs x = true) ∧ Hid (Fb wr w.heap.size #[.int .i64 W, .slice A n c, .int .i64 V, .slice B m d, .slice C k q] 61 ∧ Below w.heap.size w wr)) (fun i _ => k - (intOf i).toNat)
         case atStart => exact ⟨0, by omega, rfl, fun x h => by omega, hF2.out, Hb2.out⟩
         case round =>
          obtain ⟨j, hj, rfl, hb, hI⟩ := hrel
          obtain ⟨c0, c1, c2, c3, c4⟩ := hI.out.1.five
          by_cases hlt : j < k
          · have hget : cs[j]? = some (cs[j]'(by rw [HC.out.len]; exact hlt)) := List.getElem?_eq_getElem _
            have hok : okAt W cs j = (inW W (cs[j]'(by rw [HC.out.len]; exact hlt)) && (decide (j = 0) || beforeB (cs.getD (j - 1) (0, 0)) (cs[j]'(by rw [HC.out.len]; exact hlt)))) := by
             unfold okAt; rw [List.getD_eq_getElem?_getD (i := j), hget]; rfl
            generalize (cs[j]'(by rw [HC.out.len]; exact hlt)) = p at hget hok
            obtain ⟨p1, p2⟩ := p
            obtain ⟨ad, rfl, had, h1, h2⟩ := HC.out.cell hget
            have Hok := hid hok
            clear hget hok
            have g1 : wr.cell? (ad.add (j * 2)) = some (.int .i64 p1) := (hI.out.2.cell (by rw [add_block]; exact had)).trans h1
            have g2 : wr.cell? ⟨(ad.add (j * 2)).block, (ad.add (j * 2)).off + 1, none⟩ = some (.int .i64 p2) := (hI.out.2.cell (by simp only [add_block]; exact had)).trans h2
            clear h1 h2
            have hF3 := hid ((hI.out.1.alloc (.cells #[.int .i64 p1, .int .i64 p2] 58)))
            have hB3 := hid ((hI.out.2.alloc hI.out.2.size (.cells #[.int .i64 p1, .int .i64 p2] 58)))
            have e0 := (Fb.new wr #[.int .i64 p1, .int .i64 p2] 58).two
            obtain ⟨b0, b1⟩ := e0
            have c4' := hF3.out.five.2.2.2.2
            have r1 := (hB3.out.cell (p := ad.add (j * 2)) (by rw [add_block]; exact had)).trans ((hI.out.2.cell (p := ad.add (j * 2)) (by rw [add_block]; exact had)).symm.trans g1)
            have r2 := (hB3.out.cell (p := ⟨(ad.add (j * 2)).block, (ad.add (j * 2)).off + 1, none⟩) (by simp only [add_block]; exact had)).trans ((hI.out.2.cell (p := ⟨(ad.add (j * 2)).block, (ad.add (j * 2)).off + 1, none⟩) (by simp only [add_block]; exact had)).symm.trans g2)
            go_wp2_with fail
            clear c0 c1 c2 c3 c4 g1 g2
            generalize wr.alloc (.cells #[.int .i64 p1, .int .i64 p2] 58) = wv at *
            generalize wr.heap.size = gv at *
            by_cases i1 : p1 < 0
            · have E := hid (show validT W gs V ks cs = false by
               rw [Hsp.out]
               refine Bool.eq_false_iff.2 fun hall => ?_
               have := List.all_eq_true.1 hall j (List.mem_range.2 (by rw [HC.out.len]; exact hlt))
               rw [Hok.out] at this
               simp [inW] at this
               omega)
              go_quiet (fail)
              go_wp2
              go_ret
              exact ⟨ret_bool E.out.symm, below_drewN hB3.out _⟩
            by_cases i2 : W ≤ p1
            · have E := hid (show validT W gs V ks cs = false by
               rw [Hsp.out]
               refine Bool.eq_false_iff.2 fun hall => ?_
               have := List.all_eq_true.1 hall j (List.mem_range.2 (by rw [HC.out.len]; exact hlt))
               rw [Hok.out] at this
               simp [inW] at this
               omega)
              go_quiet (fail)
              go_wp2
              go_ret
              exact ⟨ret_bool E.out.symm, below_drewN hB3.out _⟩
            by_cases i3 : p2 < 0
            · have E := hid (show validT W gs V ks cs = false by
               rw [Hsp.out]
               refine Bool.eq_false_iff.2 fun hall => ?_
               have := List.all_eq_true.1 hall j (List.mem_range.2 (by rw [HC.out.len]; exact hlt))
               rw [Hok.out] at this
               simp [inW] at this
               omega)
              go_quiet (fail)
              go_wp2
              go_ret
              exact ⟨ret_bool E.out.symm, below_drewN hB3.out _⟩
            by_cases i4 : W ≤ p2
            · have E := hid (show validT W gs V ks cs = false by
               rw [Hsp.out]
               refine Bool.eq_false_iff.2 fun hall => ?_
               have := List.all_eq_true.1 hall j (List.mem_range.2 (by rw [HC.out.len]; exact hlt))
               rw [Hok.out] at this
               simp [inW] at this
               omega)
              go_quiet (fail)
              go_wp2
              go_ret
              exact ⟨ret_bool E.out.symm, below_drewN hB3.out _⟩
            by_cases j0 : j = 0
            · have E := hid (show okAt W cs j = true by rw [Hok.out]; simp [inW, j0]; omega)
              have tj : decide (0 < (j : Int)) = false := by simp [j0]
              have tj2 : decide (0 < j) = false := by simp [j0]
              clear j0
              go_quiet (fail)
              go_wp2
              go_roundw
              case rel =>
               refine ⟨j + 1, by omega, by go_num, fun x hx => ?_, hF3.out.drewN _, below_drewN hB3.out _⟩
               by_cases e : x = j
               · rw [e]; exact E.out
               · exact hb.out x (by omega)
              case measure => simp [intOf]; omega
            · have hget : cs[j - 1]? = some (cs[j - 1]'(by rw [HC.out.len]; omega)) := List.getElem?_eq_getElem _
              have hok := Hok.out
              rw [List.getD_eq_getElem?_getD (i := j - 1), hget] at hok
              generalize (cs[j - 1]'(by rw [HC.out.len]; omega)) = p at hget hok
              obtain ⟨q1, q2⟩ := p
              obtain ⟨ad', e', _, h1, h2⟩ := HC.out.cell hget
              cases e'
              have hok2 : okAt W cs j = beforeB (q1, q2) (p1, p2) := by
               rw [hok]; simp [inW, j0]; omega
              have Hok2 := hid hok2
              clear hget hok hok2
              have r3 := (hB3.out.cell (p := ad.add ((j - 1) * 2)) (by rw [add_block]; exact had)).trans h1
              have r4 := (hB3.out.cell (p := ⟨(ad.add ((j - 1) * 2)).block, (ad.add ((j - 1) * 2)).off + 1, none⟩) (by simp only [add_block]; exact had)).trans h2
              clear h1 h2
              have tj : decide (0 < (j : Int)) = true := by simp; omega
              have tj2 : decide (0 < j) = true := by simp; omega
              have s1 : IntKind.i64.wrap ((j : Int) - 1) = (j : Int) - 1 := IntWalk.i64_in _ (by omega)
              have s2 : (1 : Int) ≤ (j : Int) := by omega
              have s3 : ((j : Int) - 1) < (k : Int) := by omega
              have s4 : ((j : Int) - 1).toNat = j - 1 := by omega
              refine wp_region_still_tail 31 (by kernel_rfl) (by kernel_rfl) ?_
              simp only [List.take_succ_cons, List.take_zero, List.drop_succ_cons, List.drop_zero]
              repeat still_step
              try refine wpStill_nil ?_
              change wpList _ _ _ _ _ wv.drew
              clear s1 s2 s3 s4
              have hF4 := hid (hF3.out.drewN 1)
              have hB4 := hid (below_drewN hB3.out 1)
              change Hid (Fb wv.drew w.heap.size _ 61) at hF4
              change Hid (Below w.heap.size w wv.drew) at hB4
              generalize wv.drew = wd at *
              clear r1 r2 r3 r4 b0 b1 c4' hF3 hB3
              cases hbf : beforeB (q1, q2) (p1, p2) with
              | true =>
                have E := hid (show okAt W cs j = true by rw [Hok2.out]; exact hbf)
                go_wp2_with fail
                refine (refBefore_any q1 q2 p1 p2 _).mono ?_
                rw [hbf]
                rintro e w9 ⟨rfl, hb9⟩
                have hF9 := hid (hF4.out.below hb9 hF4.out.lt)
                have hB9 := hid (hB4.out.trans (hb9.mono hB4.out.size))
                clear hb9 hbf
                go_wp2_with fail
                go_roundw
                case rel =>
                 refine ⟨j + 1, by omega, by go_num, fun x hx => ?_, hF9.out, hB9.out⟩
                 by_cases e : x = j
                 · rw [e]; exact E.out
                 · exact hb.out x (by omega)
                case measure => simp [intOf]; omega
              | false =>
                have E := hid (show validT W gs V ks cs = false by
                 rw [Hsp.out]
                 refine Bool.eq_false_iff.2 fun hall => ?_
                 have := List.all_eq_true.1 hall j (List.mem_range.2 (by rw [HC.out.len]; exact hlt))
                 rw [Hok2.out, hbf] at this
                 exact absurd this (by simp))
                go_wp2_with fail
                refine (refBefore_any q1 q2 p1 p2 _).mono ?_
                rw [hbf]
                rintro e w9 ⟨rfl, hb9⟩
                have hB9 := hid (hB4.out.trans (hb9.mono hB4.out.size))
                clear hb9 hbf
                go_wp2_with fail
                go_ret
                exact ⟨ret_bool E.out.symm, hB9.out⟩
          · go_wp2
            go_ret
            refine ⟨ret_bool ?_, hI.out.2⟩
            rw [Hsp.out]
            refine (List.all_eq_true.2 fun x hx => hb.out x ?_).symm
            have := List.mem_range.1 hx
            rw [HC.out.len] at this; omega
       · have hres : validT W gs V ks cs = false := by unfold validT; rw [HC.out.len]; simp [hle]
         have Hres := hid hres
         clear hres
         go_wp2
         go_ret
         exact ⟨ret_bool Hres.out.symm, Hb2.out⟩
     · have t1 : (W != V) = true := by simp [hWV]
       have hres : validT W gs V ks cs = false := by unfold validT; simp [hWV]
       have Hres := hid hres
       clear hres hWV
       go_wp2
       go_ret
       exact ⟨ret_bool Hres.out.symm, Hb2.out⟩
theorem cell_far {w : World} {p q : Addr} (h : q.block ≠ p.block) (u : Value) : (w.setCell p u).cell? q = w.cell? q :=
 World.cell?_of_block (Below.heap_setCell w p u q.block h)
theorem Box.not_word {w : World} {b : Nat} {W : Int} {A : Option Addr} {n c : Nat} (h : Box w b W A n c) {p : Addr} {x : Nat} (hp : w.cell? p = some (.int .u64 x)) : p.block ≠ b := by
 rintro rfl
 unfold Box at h
 unfold World.cell? at hp
 rw [h] at hp
 simp only [] at hp
 split at hp
 · cases hp
 · rcases p with ⟨pb, po, ps⟩
   simp only [] at hp
   match po, hp with
   | 0, hp => simp at hp
   | 1, hp => simp at hp
   | k + 2, hp => simp at hp
theorem Arg.store {w : World} {A : Option Addr} {n : Nat} {ws : List Nat} {b : Nat} {W : Int} {A' : Option Addr} {n' c' : Nat} (h : Arg w A n ws) (hb : Box w b W A' n' c') (V : Int) (B : Option Addr) (m d : Nat) :
 Arg ((w.setCell ⟨b, 0, none⟩ (.int .i64 V)).setCell ⟨b, 1, none⟩ (.slice B m d)) A n ws := by
 refine ⟨?_, h.len, h.ok⟩
 rcases h.lies with h0 | ⟨ad, e, hlt, hc⟩
 · exact .inl h0
 · by_cases hw : ws = []
   · exact .inl (by subst hw; rfl)
   · refine .inr ⟨ad, e, by simpa [World.setCell] using hlt, fun j u hu => ?_⟩
     have h1 := hc j u hu
     obtain ⟨x, rfl⟩ : ∃ x : Nat, u = .int .u64 x := by
      unfold words at hu
      rw [List.getElem?_map] at hu
      cases hx : ws[j]? with
      | none => rw [hx] at hu; cases hu
      | some x => rw [hx] at hu; exact ⟨x, by simpa [u64] using hu.symm⟩
     have hne := hb.not_word h1
     rw [cell_far hne, cell_far hne]; exact h1
section
variable {w wr w' : World} {b r : Nat} {W : Int} {zs zs' : List Nat}
end
theorem At.far {wr : World} {B : Nat} {A : Option Addr} {xs : List Value} (h : At wr B A xs) {p : Addr} (hp : B ≤ p.block) (u : Value) : At (wr.setCell p u) B A xs :=
 h.keep (fun q hq => cell_far (by omega) u) (Nat.le_refl _)
section
variable {w wr w' : World} {b r : Nat} {W : Int} {B0 : Nat} {zs zs' : List Nat}
end
def valR (gs ss : List Nat) (f : Int → Int → Bool) (W : Nat) : List Nat :=
 Bs.ofP W (fun i => Bs.bit gs i || (List.range W).any (fun x => Bs.bit ss x && f x i)) W
theorem fit_valR (gs ss : List Nat) (f : Int → Int → Bool) (W : Nat) : Bs.Fit W (valR gs ss f W) := Bs.fit_ofP _ _ _ (Nat.le_refl _)
section
variable {w : World} {B0 W : Nat} {A B C D : Option Addr} {n c m d k q x y : Nat} {zs zs' : List Nat} {wr w' : World}
end
end Go.Proofs.YtopkmeceakjocaaGreat
namespace Go.Proofs.YtopkmeceakjocaaGreat
open Go.ChangeShapes Go.WideShapes Go.ChangeAt Go.RowKit
def sameB (W : Int) (a : List Nat) (V : Int) (b : List Nat) : Bool := decide (W = V) && decide (a = b)
theorem refSame_len (W V : Int) (A B : Option Addr) (n c m d : Nat) (xs ys : List Nat) (w : World) (hA : Arg w A n xs) (hB : Arg w B m ys) (hno : W ≠ V ∨ n ≠ m) :
 Calls Tryz.prog 24 #[.agg #[.int .i64 W, .slice A n c], .agg #[.int .i64 V, .slice B m d]] w fun e w' => e = .returned (.bool (sameB W xs V ys)) ∧ Below w.heap.size w w' := by
 have hres : sameB W xs V ys = false := by
  unfold sameB
  rcases hno with h | h
  · simp [h]
  · have : xs ≠ ys := by rintro rfl; exact h (hA.len.symm.trans hB.len)
    simp [this]
 have Hres := hid hres
 clear hres hA hB
 by_cases h1 : W = V
 · have t1 : (W != V) = false := by simp [h1]
   have t2 : ((n : Int) != (m : Int)) = true := by simp; omega
   have t3 : (n != m) = true := by simp; omega
   clear h1 hno
   go_enter Tryz.func24, Tryz.ntmps24
   go_wp2
   go_ret
   exact ⟨ret_bool Hres.out.symm, ((Below.refl _ _).alloc (Nat.le_refl _) _).alloc (by simp) _⟩
 · have t1 : (W != V) = true := by simp [h1]
   clear h1 hno
   go_enter Tryz.func24, Tryz.ntmps24
   go_wp2
   go_ret
   exact ⟨ret_bool Hres.out.symm, ((Below.refl _ _).alloc (Nat.le_refl _) _).alloc (by simp) _⟩
theorem wd_ext {a b : List Nat} (hl : a.length = b.length) (h : ∀ j, j < a.length → Bs.wd a j = Bs.wd b j) : a = b :=
 List.ext_getElem hl fun i h1 h2 => by have := h i h1; rwa [Bs.wd_get h1, Bs.wd_get h2] at this
theorem refSame_in (W V : Int) (A B : Option Addr) (n c d : Nat) (xs ys : List Nat) (w : World) (hA : Arg w A n xs) (hB : Arg w B n ys) (hWV : W = V) (hn : n ≤ maxLen) :
 Calls Tryz.prog 24 #[.agg #[.int .i64 W, .slice A n c], .agg #[.int .i64 V, .slice B n d]] w fun e w' => e = .returned (.bool (sameB W xs V ys)) ∧ Below w.heap.size w w' := by
 unfold maxLen at hn
 have HA := hid hA; have HB := hid hB; have HWV := hid hWV
 have t1 : (W != V) = false := by simp [hWV]
 have t2 : ((n : Int) != (n : Int)) = false := by simp
 clear hA hB hWV
 go_enter Tryz.func24, Tryz.ntmps24
 go_wp2
 clear t1 t2
 go_loopw [5] (fun i wr => ∃ k : Nat, k ≤ n ∧ i = .int .i64 k ∧ Hid (∀ j, j < k → Bs.wd xs j = Bs.wd ys j) ∧ ∃ q : Nat, wr = ((w.alloc (Obj.cells #[Value.int IntKind.i64 W, Value.slice A n c] 49)).alloc (Obj.cells #[Value.int IntKind.i64 V, Value.slice B n d] 49)).drewN q) (fun i _ => n - (intOf i).toNat)
 case atStart => exact ⟨0, by omega, rfl, fun j h => by omega, 0, rfl⟩
 case round =>
  obtain ⟨k, hk, rfl, hb, q, rfl⟩ := hrel
  by_cases hlt : k < n
  · obtain ⟨ad, rfl, had, hcA⟩ := HA.out.lies.cell (words_get (i := k) (by rw [HA.out.len]; exact hlt))
    obtain ⟨bd, rfl, hbd, hcB⟩ := HB.out.lies.cell (words_get (i := k) (by rw [HB.out.len]; exact hlt))
    generalize hx : Bs.wd xs k = x at hcA
    generalize hy : Bs.wd ys k = y at hcB
    have Hx := hid hx; have Hy := hid hy
    clear hx hy
    have hcA2 : ((w.alloc (Obj.cells #[Value.int IntKind.i64 W, Value.slice (some ad) n c] 49)).alloc (Obj.cells #[Value.int IntKind.i64 V, Value.slice (some bd) n d] 49)).cell? (ad.add k) = some (.int .u64 x) := by
     rw [World.cell?_alloc_lt _ _ _ (by rw [add_block]; simp; omega), World.cell?_alloc_lt _ _ _ (by rw [add_block]; exact had)]; exact hcA
    have hcB2 : ((w.alloc (Obj.cells #[Value.int IntKind.i64 W, Value.slice (some ad) n c] 49)).alloc (Obj.cells #[Value.int IntKind.i64 V, Value.slice (some bd) n d] 49)).cell? (bd.add k) = some (.int .u64 y) := by
     rw [World.cell?_alloc_lt _ _ _ (by rw [add_block]; simp; omega), World.cell?_alloc_lt _ _ _ (by rw [add_block]; exact hbd)]; exact hcB
    clear hcA hcB
    have hk0 : (0 : Int) ≤ k := by omega
    have hkn : (k : Int).toNat = k := by omega
    have hk1 : (k : Int) < n := by omega
    by_cases hxy : x = y
    · have t : ((x : Int) != (y : Int)) = false := by simp [hxy]
      have t' : (x != y) = false := by simp [hxy]
      have Hxy := hid hxy
      clear hxy
      go_wp2_with fail
      go_quiet (fail)
      go_wp2
      go_roundw
      case rel =>
       refine ⟨k + 1, by omega, by go_num, fun j hj => ?_, _, rfl⟩
       by_cases e : j = k
       · rw [e, Hx.out, Hy.out]; exact Hxy.out
       · exact hb.out j (by omega)
      case measure => simp [intOf]; omega
    · have t : ((x : Int) != (y : Int)) = true := by simp; omega
      have t' : (x != y) = true := by simp [hxy]
      have Hxy := hid hxy
      clear hxy
      go_wp2_with fail
      go_quiet (fail)
      go_wp2
      go_ret
      refine ⟨ret_bool ?_, below_drewN (below_drewN (((Below.refl _ _).alloc (Nat.le_refl _) _).alloc (by simp) _) _) _⟩
      have : xs ≠ ys := by rintro rfl; exact Hxy.out (Hx.out.symm.trans Hy.out)
      unfold sameB; simp [this]
  · go_wp2
    go_ret
    refine ⟨ret_bool ?_, below_drewN (((Below.refl _ _).alloc (Nat.le_refl _) _).alloc (by simp) _) _⟩
    have e : xs = ys := wd_ext (HA.out.len.trans HB.out.len.symm) fun j hj => hb.out j (by have := HA.out.len; omega)
    unfold sameB; rw [e, HWV.out]; simp
theorem refSame_any (W V : Int) (A B : Option Addr) (n c m d : Nat) (xs ys : List Nat) (w : World) (hA : Arg w A n xs) (hB : Arg w B m ys) (hn : n ≤ maxLen) :
 Calls Tryz.prog 24 #[.agg #[.int .i64 W, .slice A n c], .agg #[.int .i64 V, .slice B m d]] w fun e w' => e = .returned (.bool (sameB W xs V ys)) ∧ Below w.heap.size w w' := by
 by_cases h : W ≠ V ∨ n ≠ m
 · exact refSame_len W V A B n c m d xs ys w hA hB h
 · have h1 : W = V := by omega
   have h2 : n = m := by omega
   subst h2
   exact refSame_in W V A B n c d xs ys w hA hB h1 hn
def RetErr (w : World) (r : Int × List Nat × Int) (e : Ending) (w' : World) : Prop :=
 ∃ (A : Option Addr) (n c : Nat), e = .returned (.tuple #[.agg #[.int .i64 r.1, .slice A n c], .int .i64 r.2.2]) ∧ Arg w' A n r.2.1 ∧ Below w.heap.size w w'
def flag (one two both x y : Bool) : Bool := (x && y && both) || ((x && !y && one) || (!x && y && two))
def mixR (f : Bool → Bool → Bool) (W : Int) (ws : List Nat) (V : Int) (xs : List Nat) : Int × List Nat × Int :=
 if Bs.validB W ws = false ∨ Bs.validB V xs = false then (0, [], 1)
 else if W ≠ V then (0, [], 2)
 else (W, Bs.ofP W.toNat (fun i => f (Bs.bit ws i) (Bs.bit xs i)) W.toNat, 0)
theorem box3 (w : World) (W V : Int) (A B : Option Addr) (n c m d : Nat) :
 Box (((w.alloc (.cells #[.int .i64 W, .slice A n c] 49)).alloc (.cells #[.int .i64 V, .slice B m d] 49)).alloc (.cells #[.int .i64 0, .slice none 0 0] 49)) w.heap.size W A n c ∧
 Box (((w.alloc (.cells #[.int .i64 W, .slice A n c] 49)).alloc (.cells #[.int .i64 V, .slice B m d] 49)).alloc (.cells #[.int .i64 0, .slice none 0 0] 49)) (w.heap.size + 1) V B m d ∧
 Box (((w.alloc (.cells #[.int .i64 W, .slice A n c] 49)).alloc (.cells #[.int .i64 V, .slice B m d] 49)).alloc (.cells #[.int .i64 0, .slice none 0 0] 49)) (w.heap.size + 1 + 1) 0 none 0 0 := by
 refine ⟨((Box.new w _ _ _ _).alloc _).alloc _, ?_, ?_⟩
 · have h := (Box.new (w.alloc (.cells #[.int .i64 W, .slice A n c] 49)) V B m d).alloc (.cells #[.int .i64 0, .slice none 0 0] 49)
   rw [World.size_alloc] at h; exact h
 · have h := Box.new ((w.alloc (.cells #[.int .i64 W, .slice A n c] 49)).alloc (.cells #[.int .i64 V, .slice B m d] 49)) 0 none 0 0
   rw [World.size_alloc, World.size_alloc] at h; exact h
theorem below3 (w : World) (a b c : Obj) : Below w.heap.size w (((w.alloc a).alloc b).alloc c) := (((Below.refl _ _).alloc (Nat.le_refl _) _).alloc (by simp) _).alloc (by simp only [World.size_alloc]; omega) _
end Go.Proofs.YtopkmeceakjocaaGreat
namespace Go.Proofs.YtopkmeceakjocaaGreat
set_option maxRecDepth 20000
open Go.ChangeShapes Go.WideShapes Go.ChangeAt Go.RowKit
def applyR (W : Int) (gs : List Nat) (V : Int) (ks : List Nat) (cs : List (Int × Int)) (X : Int) (ss : List Nat) : Int × List Nat × Int :=
 if validT W gs V ks cs = false ∨ Bs.validB X ss = false then (0, [], 1)
 else if W ≠ X then (0, [], 2)
 else (W, valR gs ss (folB W ks cs) W.toNat, 0)
theorem validT_iff {W V : Int} {gs ks : List Nat} {cs : List (Int × Int)} (h : validT W gs V ks cs = true) :
 Bs.validB W gs = true ∧ Bs.validB V ks = true ∧ W = V ∧ cs.length ≤ 64 ∧ ∀ i, i < cs.length → okAt W cs i = true := by
 unfold validT at h
 simp only [Bool.and_eq_true, decide_eq_true_eq, List.all_eq_true, List.mem_range] at h
 exact ⟨h.1.1.1.1, h.1.1.1.2, h.1.1.2, h.1.2, h.2⟩
def Applying (w : World) (W V X : Int) (A B C D : Option Addr) (n c m d k q x y : Nat) (wr : World) : Prop :=
 Fb wr w.heap.size #[.int .i64 W, .slice A n c, .int .i64 V, .slice B m d, .slice C k q] 61 ∧ Box wr (w.heap.size + 1) X D x y ∧ Box wr (w.heap.size + 1 + 1) 0 none 0 0 ∧ Below w.heap.size w wr
section
variable {w : World} {W V X : Int} {A B C D : Option Addr} {n c m d k q x y : Nat} {wr w' : World}
theorem Applying.start (w : World) (W V X : Int) (A B C D : Option Addr) (n c m d k q x y : Nat) :
 Applying w W V X A B C D n c m d k q x y (((w.alloc (.cells #[.int .i64 W, .slice A n c, .int .i64 V, .slice B m d, .slice C k q] 61)).alloc (.cells #[.int .i64 X, .slice D x y] 49)).alloc (.cells #[.int .i64 0, .slice none 0 0] 49)) := by
 have hS := (Box.new (w.alloc (.cells #[.int .i64 W, .slice A n c, .int .i64 V, .slice B m d, .slice C k q] 61)) X D x y).alloc (.cells #[.int .i64 0, .slice none 0 0] 49)
 have hR := Box.new ((w.alloc (.cells #[.int .i64 W, .slice A n c, .int .i64 V, .slice B m d, .slice C k q] 61)).alloc (.cells #[.int .i64 X, .slice D x y] 49)) 0 none 0 0
 simp only [World.size_alloc] at hS hR
 exact ⟨((Fb.new w _ 61).alloc _).alloc _, hS, hR, below3 w _ _ _⟩
theorem Applying.below (h : Applying w W V X A B C D n c m d k q x y wr) (hb : Below wr.heap.size wr w') : Applying w W V X A B C D n c m d k q x y w' :=
 ⟨h.1.below hb h.1.lt, h.2.1.below hb h.2.1.lt, h.2.2.1.below hb h.2.2.1.lt, h.2.2.2.trans (hb.mono h.2.2.2.size)⟩
theorem Applying.res (h : Applying w W V X A B C D n c m d k q x y wr) :
 (wr.cell? ⟨w.heap.size + 1 + 1, 0, none⟩ = some (.int .i64 0) ∧ wr.cell? ⟨w.heap.size + 1 + 1, 1, none⟩ = some (.slice none 0 0)) ∧ wr.frozen? ⟨w.heap.size + 1 + 1, 0, none⟩ = false ∧ wr.frozen? ⟨w.heap.size + 1 + 1, 1, none⟩ = false :=
 ⟨⟨h.2.2.1.c0, h.2.2.1.c1⟩, h.2.2.1.f 0, h.2.2.1.f 1⟩
theorem Applying.stored (h : Applying w W V X A B C D n c m d k q x y wr) (Y : Int) (E : Option Addr) (e f : Nat) :
 Below w.heap.size w ((wr.setCell ⟨w.heap.size + 1 + 1, 0, none⟩ (.int .i64 Y)).setCell ⟨w.heap.size + 1 + 1, 1, none⟩ (.slice E e f)) :=
 (h.2.2.2.setCell (by simp; omega) _).setCell (by simp; omega) _
end
end Go.Proofs.YtopkmeceakjocaaGreat
namespace Go.Proofs.YtopkmeceakjocaaGreat
open Go.ChangeShapes Go.WideShapes Go.ChangeAt Go.RowKit
theorem Box.apart {w : World} {b : Nat} {W : Int} {A B : Option Addr} {n c m : Nat} {ws : List Nat} (h : Box w b W A n c) (ha : Arg w B m ws) : ws = [] ∨ ∀ ad, B = some ad → ad.block ≠ b := by
 rcases ws with _ | ⟨x, ws⟩
 · exact .inl rfl
 · refine .inr fun ad he hb => ?_
   obtain ⟨ad', he', _, hc⟩ := ha.lies.cell (j := 0) (u := u64 x) rfl
   rw [he] at he'
   injection he' with he'
   subst he'
   have hz : ad.add 0 = ad := by unfold Addr.add; simp
   rw [hz] at hc
   unfold Box at h
   unfold World.cell? at hc
   rw [hb, h] at hc
   simp only at hc
   split at hc
   · cases hc
   · match hoff : ad.off, hc with
     | 0, hc => simp [u64] at hc
     | 1, hc => simp [u64] at hc
     | k + 2, hc => simp at hc
theorem Arg.far {w : World} {B : Option Addr} {m : Nat} {ws : List Nat} {p : Addr} (ha : Arg w B m ws) (hn : ws = [] ∨ ∀ ad, B = some ad → ad.block ≠ p.block) (u : Value) : Arg (w.setCell p u) B m ws := by
 refine ⟨?_, ha.len, ha.ok⟩
 have hs : (w.setCell p u).heap.size = w.heap.size := by simp [World.setCell]
 rcases hn with rfl | hn
 · exact .inl rfl
 · rcases ha.lies with h0 | ⟨ad, e, hb, hc⟩
   · exact .inl h0
   · exact .inr ⟨ad, e, by omega, fun j v hj => (World.cell?_of_block (Below.heap_setCell w p u _ (by rw [add_block]; exact hn ad e))).trans (hc j v hj)⟩
theorem Box.store {w : World} {b : Nat} {W : Int} {A B : Option Addr} {n c m : Nat} {ws : List Nat} (h : Box w b W A n c) (ha : Arg w B m ws) (u v : Value) : Arg ((w.setCell ⟨b, 0, none⟩ u).setCell ⟨b, 1, none⟩ v) B m ws :=
 (ha.far (p := ⟨b, 0, none⟩) (h.apart ha) u).far (p := ⟨b, 1, none⟩) (h.apart ha) v
structure IArg (w : World) (A : Option Addr) (n : Nat) (l : List Int) : Prop where
 lies : At w w.heap.size A (ints l)
 len : l.length = n
theorem IArg.below {w w' : World} {A : Option Addr} {n : Nat} {l : List Int} (h : IArg w A n l) (hb : Below w.heap.size w w') : IArg w' A n l :=
 ⟨h.lies.below hb hb.size, h.len⟩
theorem IArg.alloc {w : World} {A : Option Addr} {n : Nat} {l : List Int} (h : IArg w A n l) (o : Obj) : IArg (w.alloc o) A n l :=
 h.below ((Below.refl _ _).alloc (Nat.le_refl _) o)
theorem own_below {w w' : World} {base : Nat} {ty : TypeId} {size : Nat} {v : Value} {n : Nat} {xs : List Value} (h : w.ownsRow base ty size v n xs) (hb : Below w.heap.size w w') : w'.ownsRow base ty size v n xs :=
 h.kept (grown_of_below hb none) (by cases v.ownBlock with | none => exact .inl rfl | some k => exact .inr (by simp))
theorem own_slice {w : World} {base : Nat} {ty : TypeId} {v : Value} {n : Nat} {xs : List Value} (h : w.ownsRow base ty 1 v n xs) :
 ∃ A c, v = .slice A n c ∧ At w w.heap.size A xs ∧ xs.length = n := by
 have hl := h.1
 rcases h.2 with ⟨rfl, rfl⟩ | ⟨g, cap, cur, rfl, _, hg, _⟩
 · have hx : xs = [] := List.eq_nil_of_length_eq_zero (by omega)
   subst hx
   exact ⟨none, 0, rfl, .inl rfl, rfl⟩
 · refine ⟨_, cap, rfl, .inr ⟨_, rfl, ?_, h.cells rfl⟩, by omega⟩
   rcases Nat.lt_or_ge g w.heap.size with hlt | hge
   · exact hlt
   · rw [Array.getElem?_eq_none hge] at hg; cases hg
theorem new_one (w : World) (v : Value) (ty : TypeId) : ∀ j u, [v][j]? = some u → (w.alloc (.cells #[v] ty)).cell? ((⟨w.heap.size, 0, none⟩ : Addr).add j) = some u := by
 intro j u h
 rw [add_of]
 match j, h with
 | 0, h => simp at h; subst h; rw [World.cell?_alloc_at _ _ _ _ rfl]; rfl
 | j + 1, h => simp at h
theorem one_int (k : IntKind) (x : Int) : ∀ u ∈ [Value.int k x], u.oneCell' = true := by intro u hu; simp at hu; subst hu; rfl
theorem own_row {w : World} {base : Nat} {ty : TypeId} {size : Nat} {v : Value} {n : Nat} {xs : List Value} (h : w.ownsRow base ty size v n xs) {k : Nat} (hk : k < base) : some k ≠ v.ownBlock := by
 intro he
 have := h.lt k he.symm
 omega
theorem info3 : (Tryz.prog.info? 3).map (fun i => (i.zero, i.size, i.bytes)) = some (some (.int .i64 0), 1, 8) := by kernel_rfl
theorem ints_snoc (l : List Int) (x : Int) : ints (l ++ [x]) = ints l ++ [.int .i64 x] := by simp [ints]
end Go.Proofs.YtopkmeceakjocaaGreat
namespace Go.Proofs.YtopkmeceakjocaaGreat
set_option linter.unusedVariables false
def rowP (N : Nat) (f : Nat → Bool) : List Int := ((List.range N).filter f).map Int.ofNat
def RisP (N : Nat) (l : List Int) : Prop := l.Pairwise (· < ·) ∧ ∀ x ∈ l, 0 ≤ x ∧ x < (N : Int)
theorem mem_rowP {N : Nat} {f : Nat → Bool} {x : Int} : x ∈ rowP N f ↔ ∃ k : Nat, k < N ∧ f k = true ∧ x = (k : Int) := by
 unfold rowP
 simp only [List.mem_map, List.mem_filter, List.mem_range]
 constructor
 · rintro ⟨k, ⟨h1, h2⟩, h3⟩; exact ⟨k, h1, h2, h3.symm⟩
 · rintro ⟨k, h1, h2, h3⟩; exact ⟨k, ⟨h1, h2⟩, h3.symm⟩
theorem rowP_ris (N : Nat) (f : Nat → Bool) : RisP N (rowP N f) := by
 refine ⟨?_, fun x hx => ?_⟩
 · unfold rowP
   rw [List.pairwise_map]
   have h : (List.range N).Pairwise (· < ·) := List.pairwise_lt_range
   exact (h.filter f).imp (fun h => Int.ofNat_lt.2 h)
 · obtain ⟨k, h1, _, rfl⟩ := mem_rowP.1 hx
   omega
theorem asc_extI : ∀ {l m : List Int}, l.Pairwise (· < ·) → m.Pairwise (· < ·) → (∀ x, x ∈ l ↔ x ∈ m) → l = m := by
 intro l
 induction l with
 | nil =>
   intro m _ _ h
   cases m with
   | nil => rfl
   | cons y m => exact absurd ((h y).2 (List.mem_cons_self ..)) (by simp)
 | cons x l ih =>
   intro m hl hm h
   cases m with
   | nil => exact absurd ((h x).1 (List.mem_cons_self ..)) (by simp)
   | cons y m =>
     rw [List.pairwise_cons] at hl hm
     have hxy : x = y := by
      rcases List.mem_cons.1 ((h x).1 (List.mem_cons_self ..)) with e | e
      · exact e
      · rcases List.mem_cons.1 ((h y).2 (List.mem_cons_self ..)) with e2 | e2
        · exact e2.symm
        · have := hm.1 x e; have := hl.1 y e2; omega
     subst hxy
     rw [ih hl.2 hm.2 (fun z => ?_)]
     constructor
     · intro hz
       rcases List.mem_cons.1 ((h z).1 (List.mem_cons_of_mem _ hz)) with e | e
       · subst e; have := hl.1 z hz; omega
       · exact e
     · intro hz
       rcases List.mem_cons.1 ((h z).2 (List.mem_cons_of_mem _ hz)) with e | e
       · subst e; have := hm.1 z hz; omega
       · exact e
theorem rowP_of {N : Nat} {l : List Int} (h : RisP N l) : l = rowP N (fun k => decide ((k : Int) ∈ l)) := by
 refine asc_extI h.1 (rowP_ris N _).1 fun x => ?_
 rw [mem_rowP]
 constructor
 · intro hx
   have := h.2 x hx
   exact ⟨x.toNat, by omega, by rw [show ((x.toNat : Nat) : Int) = x by omega]; simpa using hx, by omega⟩
 · rintro ⟨k, _, h2, rfl⟩
   simpa using h2
theorem rowP_len (N : Nat) (f : Nat → Bool) : (rowP N f).length ≤ N := by
 unfold rowP
 rw [List.length_map]
 exact Nat.le_trans (List.length_filter_le _ _) (by simp)
theorem ris_len {N : Nat} {l : List Int} (h : RisP N l) : l.length ≤ N := by rw [rowP_of h]; exact rowP_len _ _
theorem RisP.nil (N : Nat) : RisP N [] := ⟨List.Pairwise.nil, by simp⟩
def insI : List Int → Int → List Int
 | [], n => [n]
 | y :: l, n => if y < n then y :: insI l n else if y = n then y :: l else n :: y :: l
theorem mem_insI {l : List Int} {n x : Int} : x ∈ insI l n ↔ x = n ∨ x ∈ l := by
 induction l with
 | nil => simp [insI]
 | cons y l ih =>
   unfold insI
   split
   · rw [List.mem_cons, ih, List.mem_cons]; grind
   · split
     · next h => subst h; simp
     · simp
theorem insI_asc {l : List Int} {n : Int} (h : l.Pairwise (· < ·)) : (insI l n).Pairwise (· < ·) := by
 induction l with
 | nil => simp [insI]
 | cons y l ih =>
   rw [List.pairwise_cons] at h
   unfold insI
   split
   · next hlt =>
     rw [List.pairwise_cons]
     refine ⟨fun x hx => ?_, ih h.2⟩
     rcases mem_insI.1 hx with rfl | hx
     · exact hlt
     · exact h.1 x hx
   · split
     · exact List.pairwise_cons.2 h
     · next h1 h2 =>
       refine List.pairwise_cons.2 ⟨fun x hx => ?_, List.pairwise_cons.2 h⟩
       rcases List.mem_cons.1 hx with rfl | hx
       · omega
       · have := h.1 x hx; omega
theorem insI_ris {N : Nat} {l : List Int} {n : Int} (h : RisP N l) (h0 : 0 ≤ n) (h1 : n < N) : RisP N (insI l n) :=
 ⟨insI_asc h.1, fun x hx => by rcases mem_insI.1 hx with rfl | hx; exact ⟨h0, h1⟩; exact h.2 x hx⟩
theorem insI_at {l : List Int} {n : Int} {i : Nat} (hi : i ≤ l.length) (h : ∀ x ∈ l.take i, x < n) : insI l n = l.take i ++ insI (l.drop i) n := by
 induction i generalizing l with
 | zero => simp
 | succ i ih =>
   cases l with
   | nil => simp at hi
   | cons y l =>
     have hy : y < n := h y (by simp)
     rw [List.take_succ_cons, List.drop_succ_cons, List.cons_append, ← ih (by simpa using hi) (fun x hx => h x (by simp [hx]))]
     conv => lhs; unfold insI
     rw [if_pos hy]
theorem insI_end {l : List Int} {n : Int} (h : ∀ x ∈ l, x < n) : insI l n = l ++ [n] := by
 rw [insI_at (Nat.le_refl l.length) (by simpa using h)]; simp [insI]
theorem insI_hit {l : List Int} {n : Int} {i : Nat} (h : ∀ x ∈ l.take i, x < n) (he : l[i]? = some n) : insI l n = l := by
 have hi : i < l.length := (List.getElem?_eq_some_iff.1 he).1
 have hd : l.drop i = n :: l.drop (i + 1) := by rw [List.drop_eq_getElem_cons hi]; congr 1; exact (List.getElem?_eq_some_iff.1 he).2
 rw [insI_at (by omega) h, hd]
 conv => lhs; rhs; unfold insI
 rw [if_neg (by omega), if_pos rfl, ← hd, List.take_append_drop]
theorem insI_put {l : List Int} {n y : Int} {i : Nat} (h : ∀ x ∈ l.take i, x < n) (he : l[i]? = some y) (hy : n < y) : insI l n = l.take i ++ n :: l.drop i := by
 have hi : i < l.length := (List.getElem?_eq_some_iff.1 he).1
 have hd : l.drop i = y :: l.drop (i + 1) := by rw [List.drop_eq_getElem_cons hi]; congr 1; exact (List.getElem?_eq_some_iff.1 he).2
 rw [insI_at (by omega) h, hd]
 conv => lhs; rhs; unfold insI
 rw [if_neg (by omega), if_neg (by omega)]
def ascG (N : Nat) : Int → List Int → Bool
 | _, [] => true
 | p, a :: l => if a ≤ p then false else if (N : Int) ≤ a then false else ascG N a l
theorem ascG_iff {N : Nat} {p : Int} {l : List Int} : ascG N p l = true ↔ l.Pairwise (· < ·) ∧ ∀ x ∈ l, p < x ∧ x < (N : Int) := by
 induction l generalizing p with
 | nil => simp [ascG]
 | cons a l ih =>
   unfold ascG
   split
   · next h =>
     constructor
     · intro h; cases h
     · rintro ⟨_, h2⟩; have := h2 a (by simp); omega
   · split
     · next h =>
       constructor
       · intro h; cases h
       · rintro ⟨_, h2⟩; have := h2 a (by simp); omega
     · next h1 h2 =>
       rw [ih, List.pairwise_cons]
       constructor
       · rintro ⟨h3, h4⟩
         refine ⟨⟨fun x hx => (h4 x hx).1, h3⟩, fun x hx => ?_⟩
         rcases List.mem_cons.1 hx with rfl | hx
         · omega
         · have := h4 x hx; omega
       · rintro ⟨⟨h3, h4⟩, h5⟩
         exact ⟨h4, fun x hx => ⟨h3 x hx, (h5 x (List.mem_cons_of_mem _ hx)).2⟩⟩
def risB (N : Nat) (l : List Int) : Bool := ascG N (-1) l
theorem risB_iff {N : Nat} {l : List Int} : risB N l = true ↔ RisP N l := by
 unfold risB RisP
 rw [ascG_iff]
 constructor <;> (rintro ⟨h1, h2⟩; exact ⟨h1, fun x hx => by have := h2 x hx; omega⟩)
def tot (S : List (List Int)) : Nat := (S.map List.length).sum
end Go.Proofs.YtopkmeceakjocaaGreat
namespace Go.Proofs.YtopkmeceakjocaaGreat
set_option maxRecDepth 20000
set_option linter.unusedVariables false
set_option linter.unusedSimpArgs false
open Go.ChangeShapes Go.WideShapes Go.ChangeAt Go.RowKit
def Safe (w : World) (ex : List (Option Nat)) (k : Nat) : Prop := k < w.heap.size ∧ some k ∉ ex
def Go2 (w : World) (ex : List (Option Nat)) (w' : World) (ex' : List (Option Nat)) : Prop := ∀ k, Safe w ex k → w'.heap[k]? = w.heap[k]? ∧ Safe w' ex' k
theorem Go2.trans {w w' w'' : World} {ex ex' ex'' : List (Option Nat)} (h : Go2 w ex w' ex') (h2 : Go2 w' ex' w'' ex'') : Go2 w ex w'' ex'' :=
 fun k hk => ⟨(h2 k (h k hk).2).1.trans (h k hk).1, (h2 k (h k hk).2).2⟩
theorem Go2.grown {w w' : World} {ex ex' : List (Option Nat)} {row : Option Nat} (hg : w.grownBy w' row) (hr : row = none ∨ row ∈ ex) (he : ∀ k, k < w.heap.size → some k ∈ ex' → some k ∈ ex) : Go2 w ex w' ex' := by
 intro k hk
 refine ⟨hg.block k hk.1 ?_, Nat.lt_of_lt_of_le hk.1 hg.size, fun h => hk.2 (he k hk.1 h)⟩
 rintro h
 rcases hr with h' | h'
 · rw [h'] at h; cases h
 · exact hk.2 (h ▸ h')
theorem Go2.same {w w' : World} {ex : List (Option Nat)} {row : Option Nat} (hg : w.grownBy w' row) (hr : row = none ∨ row ∈ ex) : Go2 w ex w' ex := Go2.grown hg hr fun _ _ h => h
theorem Go2.below {w w' : World} {ex : List (Option Nat)} (hb : Below w.heap.size w w') : Go2 w ex w' ex := Go2.same (grown_of_below hb none) (.inl rfl)
theorem Go2.less (w : World) {ex ex' : List (Option Nat)} (h : ∀ k, some k ∈ ex' → some k ∈ ex) : Go2 w ex w ex' := fun k hk => ⟨rfl, hk.1, fun h' => hk.2 (h k h')⟩
def EAt (w : World) (ex : List (Option Nat)) (A : Option Addr) (xs : List Value) : Prop :=
 xs = [] ∨ ∃ ad, A = some ad ∧ Safe w ex ad.block ∧ ∀ j u, xs[j]? = some u → w.cell? (ad.add j) = some u
theorem EAt.go {w w' : World} {ex ex' : List (Option Nat)} {A : Option Addr} {xs : List Value} (h : EAt w ex A xs) (hg : Go2 w ex w' ex') : EAt w' ex' A xs := by
 rcases h with rfl | ⟨ad, e, hs, hc⟩
 · exact .inl rfl
 · exact .inr ⟨ad, e, (hg _ hs).2, fun j u hu => (World.cell?_of_block (by rw [add_block]; exact (hg _ hs).1)).trans (hc j u hu)⟩
theorem EAt.at {w : World} {ex : List (Option Nat)} {A : Option Addr} {xs : List Value} (h : EAt w ex A xs) : At w w.heap.size A xs := by
 rcases h with rfl | ⟨ad, e, hs, hc⟩
 · exact .inl rfl
 · exact .inr ⟨ad, e, hs.1, hc⟩
theorem EAt.nil (w : World) (ex : List (Option Nat)) (A : Option Addr) : EAt w ex A [] := .inl rfl
theorem EAt.own {w : World} {base : Nat} {ty : TypeId} {k : Nat} {A : Option Addr} {n c : Nat} {xs : List Value} {ex : List (Option Nat)} (h : w.ownsRow base ty k (.slice A n c) n xs) (he : ∀ g, (Value.slice A n c).ownBlock = some g → some g ∉ ex) : EAt w ex A xs := by
 have hl := h.1
 rcases h.2 with ⟨e, rfl⟩ | ⟨g, cap, cur, e, _, hg, _, _, _, hx⟩
 · exact .inl (List.eq_nil_of_length_eq_zero (by omega))
 · injection e with e1 _ e3
   subst e1
   refine .inr ⟨_, rfl, ⟨(Array.getElem?_eq_some_iff.1 hg).1, he g rfl⟩, fun j u hu => ?_⟩
   rw [add_of]
   have hj : (cur.toList.take (n * k))[j]? = some u := by rw [hx]; exact hu
   rw [List.getElem?_take] at hj
   split at hj
   · simp only [World.cell?, hg]
     simpa using hj
   · cases hj
theorem EAt.fb {w : World} {g t : Nat} {cs : Array Value} {ex : List (Option Nat)} {xs : List Value} (h : Fb w g cs t) (he : some g ∉ ex) (hx : ∀ (j : Nat) (u : Value), xs[j]? = some u → cs[j]? = some u) : EAt w ex (some ⟨g, 0, none⟩) xs :=
 .inr ⟨_, rfl, ⟨h.lt, he⟩, fun j u hu => by rw [add_of, h.cell]; exact hx j u hu⟩
theorem get_at {α : Type} {l : List α} {n k : Nat} (hl : l.length = n) (hk : k < n) : ∃ x, l[k]? = some x ∧ x ∈ l :=
 ⟨l[k]'(by omega), List.getElem?_eq_getElem (by omega), List.getElem_mem _⟩
theorem flat_cell {α : Type} {f : α → List Value} {k : Nat} (hf : ∀ x, (f x).length = k) {l : List α} {i : Nat} {x : α} (h : l[i]? = some x) {j : Nat} (hj : j < k) : (l.flatMap f)[i * k + j]? = (f x)[j]? := by
 induction l generalizing i with
 | nil => simp at h
 | cons y l ih =>
   rw [List.flatMap_cons]
   cases i with
   | zero =>
     simp only [List.getElem?_cons_zero, Option.some.injEq] at h
     subst h
     rw [Nat.zero_mul, Nat.zero_add, List.getElem?_append_left (by rw [hf]; exact hj)]
   | succ i =>
     have h' : l[i]? = some x := by simpa using h
     rw [List.getElem?_append_right (by rw [hf, Nat.succ_mul]; omega), hf, show (i + 1) * k + j - k = i * k + j by rw [Nat.succ_mul]; omega]
     exact ih h'
theorem flat_len {α : Type} {f : α → List Value} {k : Nat} (hf : ∀ x, (f x).length = k) (l : List α) : (l.flatMap f).length = l.length * k := by
 induction l with
 | nil => simp
 | cons y l ih => rw [List.flatMap_cons, List.length_append, ih, hf, List.length_cons, Nat.succ_mul]; omega
structure RH where
 A : Option Addr
 n : Nat
 c : Nat
 l : List Int
def RH.v (x : RH) : Value := .slice x.A x.n x.c
structure RHok (w : World) (ex : List (Option Nat)) (x : RH) : Prop where
 lies : EAt w ex x.A (ints x.l)
 len : x.l.length = x.n
 few : x.n ≤ 9223372036854775807
theorem RHok.go {w w' : World} {ex ex' : List (Option Nat)} {x : RH} (h : RHok w ex x) (hg : Go2 w ex w' ex') : RHok w' ex' x := ⟨h.lies.go hg, h.len, h.few⟩
theorem RHok.below {w w' : World} {ex : List (Option Nat)} {x : RH} (h : RHok w ex x) (hb : Below w.heap.size w w') : RHok w' ex x := h.go (Go2.below hb)
theorem EAt.one {w : World} {ex : List (Option Nat)} {A : Option Addr} {xs : List Value} (h : EAt w ex A xs) {i : Nat} {u : Value} (hi : xs[i]? = some u) : ∃ ad : Addr, A = some ad ∧ Safe w ex ad.block ∧ w.cell? (ad.add i) = some u := by
 rcases h with rfl | ⟨ad, e, hs, hc⟩
 · simp at hi
 · exact ⟨ad, e, hs, hc i u hi⟩
theorem RHok.cell {w : World} {ex : List (Option Nat)} {x : RH} (h : RHok w ex x) {i : Nat} {a : Int} (hi : x.l[i]? = some a) : ∃ ad : Addr, x.A = some ad ∧ ad.block < w.heap.size ∧ w.cell? (ad.add i) = some (.int .i64 a) := by
 obtain ⟨ad, h1, h2, h3⟩ := h.lies.one (i := i) (u := .int .i64 a) (by unfold ints; rw [List.getElem?_map, hi]; rfl)
 exact ⟨ad, h1, h2.1, h3⟩
structure LH where
 A : Option Addr
 n : Nat
 c : Nat
 l : List RH
def LH.v (x : LH) : List (List Int) := x.l.map RH.l
structure LHok (w : World) (ex : List (Option Nat)) (x : LH) : Prop where
 lies : EAt w ex x.A (x.l.map RH.v)
 len : x.l.length = x.n
 few : x.n ≤ 9223372036854775807
 all : ∀ y ∈ x.l, RHok w ex y
theorem LHok.go {w w' : World} {ex ex' : List (Option Nat)} {x : LH} (h : LHok w ex x) (hg : Go2 w ex w' ex') : LHok w' ex' x := ⟨h.lies.go hg, h.len, h.few, fun y hy => (h.all y hy).go hg⟩
theorem LHok.cell {w : World} {ex : List (Option Nat)} {x : LH} (h : LHok w ex x) {i : Nat} {y : RH} (hi : x.l[i]? = some y) : ∃ ad : Addr, x.A = some ad ∧ ad.block < w.heap.size ∧ w.cell? (ad.add i) = some (.slice y.A y.n y.c) := by
 obtain ⟨ad, h1, h2, h3⟩ := h.lies.one (i := i) (u := RH.v y) (by rw [List.getElem?_map, hi]; rfl)
 exact ⟨ad, h1, h2.1, h3⟩
theorem LH.vlen (x : LH) : x.v.length = x.l.length := by simp [LH.v]
theorem LH.at {x : LH} {i : Nat} {y : RH} (h : x.l[i]? = some y) : x.v[i]? = some y.l := by unfold LH.v; rw [List.getElem?_map, h]; rfl
end Go.Proofs.YtopkmeceakjocaaGreat
namespace Go.Proofs.YtopkmeceakjocaaGreat
set_option maxRecDepth 20000
open Go.ChangeShapes Go.WideShapes Go.ChangeAt Go.RowKit
structure FArg (w : World) (A : Option Addr) (n : Nat) (B : Option Addr) (m : Nat) (C : Option Addr) (k : Nat) (gs ks : List Nat) (cs : List (Int × Int)) : Prop where
 gen : Arg w A n gs
 kill : Arg w B m ks
 cops : ArgC w C k cs
theorem FArg.below {w w' : World} {A B C : Option Addr} {n m k : Nat} {gs ks : List Nat} {cs : List (Int × Int)} (h : FArg w A n B m C k gs ks cs) (hb : Below w.heap.size w w') : FArg w' A n B m C k gs ks cs :=
 ⟨h.gen.below hb, h.kill.below hb, h.cops.below hb⟩
theorem FArg.alloc {w : World} {A B C : Option Addr} {n m k : Nat} {gs ks : List Nat} {cs : List (Int × Int)} (h : FArg w A n B m C k gs ks cs) (o : Obj) : FArg (w.alloc o) A n B m C k gs ks cs :=
 h.below ((Below.refl _ _).alloc (Nat.le_refl _) o)
end Go.Proofs.YtopkmeceakjocaaGreat
namespace Go.Proofs.YtopkmeceakjocaaGreat
set_option maxRecDepth 20000
set_option linter.unusedVariables false
set_option linter.unusedSimpArgs false
open Go.ChangeShapes Go.WideShapes Go.ChangeAt Go.RowKit
structure ZH where
 W : Int
 A : Option Addr
 n : Nat
 c : Nat
 ws : List Nat
def ZH.cs (x : ZH) : List Value := [.int .i64 x.W, .slice x.A x.n x.c]
def ZH.a (x : ZH) : Value := .agg #[.int .i64 x.W, .slice x.A x.n x.c]
structure ZHok (w : World) (ex : List (Option Nat)) (x : ZH) : Prop where
 lies : EAt w ex x.A (words x.ws)
 len : x.ws.length = x.n
 ok : ∀ y ∈ x.ws, y < Bs.W64
section
variable {w w' : World} {ex ex' : List (Option Nat)} {x : ZH}
theorem ZHok.go (h : ZHok w ex x) (hg : Go2 w ex w' ex') : ZHok w' ex' x := ⟨h.lies.go hg, h.len, h.ok⟩
theorem ZHok.below (h : ZHok w ex x) (hb : Below w.heap.size w w') : ZHok w' ex x := h.go (Go2.below hb)
theorem ZHok.arg (h : ZHok w ex x) : Arg w x.A x.n x.ws := ⟨h.lies.at, h.len, h.ok⟩
end
structure FH where
 G : ZH
 K : ZH
 C : Option Addr
 k : Nat
 q : Nat
 cs : List (Int × Int)
def FH.cells (x : FH) : List Value := [.int .i64 x.G.W, .slice x.G.A x.G.n x.G.c, .int .i64 x.K.W, .slice x.K.A x.K.n x.K.c, .slice x.C x.k x.q]
def FH.a (x : FH) : Value := .agg #[.int .i64 x.G.W, .slice x.G.A x.G.n x.G.c, .int .i64 x.K.W, .slice x.K.A x.K.n x.K.c, .slice x.C x.k x.q]
def FH.vB (x : FH) : Bool := validT x.G.W x.G.ws x.K.W x.K.ws x.cs
structure FHok (w : World) (ex : List (Option Nat)) (x : FH) : Prop where
 g : ZHok w ex x.G
 k : ZHok w ex x.K
 lies : EAt w ex x.C (pairs x.cs)
 len : x.cs.length = x.k
section
variable {w w' : World} {ex ex' : List (Option Nat)} {x : FH}
theorem FHok.go (h : FHok w ex x) (hg : Go2 w ex w' ex') : FHok w' ex' x := ⟨h.g.go hg, h.k.go hg, h.lies.go hg, h.len⟩
theorem FHok.below (h : FHok w ex x) (hb : Below w.heap.size w w') : FHok w' ex x := h.go (Go2.below hb)
theorem FHok.arg (h : FHok w ex x) : FArg w x.G.A x.G.n x.K.A x.K.n x.C x.k x.G.ws x.K.ws x.cs := ⟨h.g.arg, h.k.arg, ⟨h.lies.at, h.len⟩⟩
end
theorem ZH.cs_len (x : ZH) : x.cs.length = 2 := rfl
theorem FH.cells_len (x : FH) : x.cells.length = 5 := rfl
theorem EAt.str {α : Type} {f : α → List Value} {k : Nat} (hf : ∀ x, (f x).length = k) {w : World} {ex : List (Option Nat)} {A : Option Addr} {l : List α} (h : EAt w ex A (l.flatMap f)) {i : Nat} {x : α} (hi : l[i]? = some x) (hk : 0 < k) :
 ∃ ad : Addr, A = some ad ∧ Safe w ex ad.block ∧ ∀ j, j < k → w.cell? (ad.add (i * k + j)) = (f x)[j]? := by
 rcases h with e | ⟨ad, e, hs, hc⟩
 · have hl := flat_len hf l
   rw [e] at hl
   have : 0 < l.length := by
    have := (List.getElem?_eq_some_iff.1 hi).1
    omega
   have : 0 < l.length * k := Nat.mul_pos this hk
   simp at hl
   omega
 · refine ⟨ad, e, hs, fun j hj => ?_⟩
   have h1 := flat_cell hf hi hj
   have h2 : (f x)[j]? = some ((f x)[j]'(by rw [hf]; exact hj)) := List.getElem?_eq_getElem _
   rw [h2]
   exact hc _ _ (h1.trans h2)
theorem addk (ad : Addr) (m j : Nat) (hj : 0 < j) : (⟨(ad.add m).block, (ad.add m).off + j, none⟩ : Addr) = ad.add (m + j) := by
 rw [← Go.Deep.add_add]
 generalize ad.add m = a
 unfold Addr.add
 rw [if_neg (by omega)]
structure ZL where
 A : Option Addr
 n : Nat
 c : Nat
 l : List ZH
structure ZLok (w : World) (ex : List (Option Nat)) (x : ZL) : Prop where
 lies : EAt w ex x.A (x.l.flatMap ZH.cs)
 len : x.l.length = x.n
 few : x.n ≤ 9223372036854775807
 all : ∀ y ∈ x.l, ZHok w ex y
section
variable {w w' : World} {ex ex' : List (Option Nat)} {x : ZL}
theorem ZLok.go (h : ZLok w ex x) (hg : Go2 w ex w' ex') : ZLok w' ex' x := ⟨h.lies.go hg, h.len, h.few, fun y hy => (h.all y hy).go hg⟩
theorem ZLok.below (h : ZLok w ex x) (hb : Below w.heap.size w w') : ZLok w' ex x := h.go (Go2.below hb)
theorem ZLok.cell (h : ZLok w ex x) {i : Nat} {y : ZH} (hi : x.l[i]? = some y) : ∃ ad : Addr, x.A = some ad ∧ ad.block < w.heap.size ∧ w.cell? (ad.add (i * 2)) = some (.int .i64 y.W) ∧ w.cell? ⟨(ad.add (i * 2)).block, (ad.add (i * 2)).off + 1, none⟩ = some (.slice y.A y.n y.c) := by
 obtain ⟨ad, h1, h2, h3⟩ := h.lies.str ZH.cs_len hi (by decide)
 refine ⟨ad, h1, h2.1, h3 0 (by decide), ?_⟩
 rw [addk _ _ _ (by decide)]
 exact h3 1 (by decide)
end
structure FL where
 A : Option Addr
 n : Nat
 c : Nat
 l : List FH
structure FLok (w : World) (ex : List (Option Nat)) (x : FL) : Prop where
 lies : EAt w ex x.A (x.l.flatMap FH.cells)
 len : x.l.length = x.n
 few : x.n ≤ 9223372036854775807
 all : ∀ y ∈ x.l, FHok w ex y
section
variable {w w' : World} {ex ex' : List (Option Nat)} {x : FL}
theorem FLok.go (h : FLok w ex x) (hg : Go2 w ex w' ex') : FLok w' ex' x := ⟨h.lies.go hg, h.len, h.few, fun y hy => (h.all y hy).go hg⟩
theorem FLok.cell (h : FLok w ex x) {i : Nat} {y : FH} (hi : x.l[i]? = some y) : ∃ ad : Addr, x.A = some ad ∧ ad.block < w.heap.size ∧ w.cell? (ad.add (i * 5)) = some (.int .i64 y.G.W) ∧ w.cell? ⟨(ad.add (i * 5)).block, (ad.add (i * 5)).off + 1, none⟩ = some (.slice y.G.A y.G.n y.G.c) ∧
 w.cell? ⟨(ad.add (i * 5)).block, (ad.add (i * 5)).off + 2, none⟩ = some (.int .i64 y.K.W) ∧ w.cell? ⟨(ad.add (i * 5)).block, (ad.add (i * 5)).off + 3, none⟩ = some (.slice y.K.A y.K.n y.K.c) ∧ w.cell? ⟨(ad.add (i * 5)).block, (ad.add (i * 5)).off + 4, none⟩ = some (.slice y.C y.k y.q) := by
 obtain ⟨ad, h1, h2, h3⟩ := h.lies.str FH.cells_len hi (by decide)
 refine ⟨ad, h1, h2.1, h3 0 (by decide), ?_, ?_, ?_, ?_⟩
 · rw [addk _ _ _ (by decide)]; exact h3 1 (by decide)
 · rw [addk _ _ _ (by decide)]; exact h3 2 (by decide)
 · rw [addk _ _ _ (by decide)]; exact h3 3 (by decide)
 · rw [addk _ _ _ (by decide)]; exact h3 4 (by decide)
end
structure SY where
 W : Int
 D : LH
 T : FL
 B : ZL
def SY.a (s : SY) : Value := .agg #[.int .i64 s.W, .slice s.D.A s.D.n s.D.c, .slice s.T.A s.T.n s.T.c, .slice s.B.A s.B.n s.B.c]
structure SYok (w : World) (ex : List (Option Nat)) (s : SY) : Prop where
 d : LHok w ex s.D
 t : FLok w ex s.T
 b : ZLok w ex s.B
theorem SYok.go {w w' : World} {ex ex' : List (Option Nat)} {s : SY} (h : SYok w ex s) (hg : Go2 w ex w' ex') : SYok w' ex' s := ⟨h.d.go hg, h.t.go hg, h.b.go hg⟩
theorem SYok.below {w w' : World} {ex : List (Option Nat)} {s : SY} (h : SYok w ex s) (hb : Below w.heap.size w w') : SYok w' ex s := h.go (Go2.below hb)
end Go.Proofs.YtopkmeceakjocaaGreat
namespace Go.Proofs.YtopkmeceakjocaaGreat
open Go.ChangeShapes Go.WideShapes Go.ChangeAt Go.RowKit
def Making (w : World) (b r v : Nat) (zs : List Nat) (wr : World) : Prop :=
 ∃ g : Nat, Box wr b v (some ⟨g, 0, none⟩) (Bs.nw v) (Bs.nw v) ∧ Row wr g zs ∧ w.heap.size ≤ g ∧ w.heap.size ≤ b ∧ b ≠ r ∧ w.heap.size ≤ r ∧ Box wr r 0 none 0 0 ∧ Below w.heap.size w wr
theorem Making.put {w wr w5 : World} {b r v g5 : Nat} {zs zs' : List Nat} (h : Making w b r v zs wr) (hg : wr.heap.size ≤ g5) (hrow : Row w5 g5 zs') (hb : Below wr.heap.size wr w5) :
 Making w b r v zs' ((w5.setCell ⟨b, 0, none⟩ (.int .i64 v)).setCell ⟨b, 1, none⟩ (.slice (some ⟨g5, 0, none⟩) (Bs.nw v) (Bs.nw v))) := by
 obtain ⟨g, h1, h2, h3, h4, h5, h6, h7, h8⟩ := h
 have l1 := h1.lt
 have l7 := h7.lt
 have l8 := h8.size
 exact ⟨g5, (h1.below hb l1).set _ _ _ _, (hrow.far (by simp; omega) _).far (by simp; omega) _, by omega, h4, h5, h6, ((h7.below hb l7).far (by simp; omega) _).far (by simp; omega) _, ((h8.trans (hb.mono l8)).setCell (by simpa using h4) _).setCell (by simpa using h4) _⟩
theorem Making.start {w w2 : World} {g r v : Nat} {zs : List Nat} (hrow : Row w2 g zs) (hg : w.heap.size ≤ g) (hr : Box w2 r 0 none 0 0) (hr2 : w.heap.size ≤ r) (hb : Below w.heap.size w w2) :
 Making w w2.heap.size r v zs (w2.alloc (.cells #[.int .i64 v, .slice (some ⟨g, 0, none⟩) (Bs.nw v) (Bs.nw v)] 49)) := by
 have := hr.lt
 have := hb.size
 exact ⟨g, Box.new _ _ _ _ _, hrow.alloc _, hg, by omega, by omega, hr2, hr.alloc _, hb.alloc (by omega) _⟩
theorem Making.done {w wr : World} {b r v : Nat} {zs : List Nat} (h : Making w b r v zs wr) (hf : Bs.Fit v zs) :
 ∃ g : Nat, wr.cell? ⟨b, 0, none⟩ = some (.int .i64 v) ∧ wr.cell? ⟨b, 1, none⟩ = some (.slice (some ⟨g, 0, none⟩) (Bs.nw v) (Bs.nw v)) ∧
   Arg ((wr.setCell ⟨r, 0, none⟩ (.int .i64 v)).setCell ⟨r, 1, none⟩ (.slice (some ⟨g, 0, none⟩) (Bs.nw v) (Bs.nw v))) (some ⟨g, 0, none⟩) (Bs.nw v) zs ∧
   Below w.heap.size w ((wr.setCell ⟨r, 0, none⟩ (.int .i64 v)).setCell ⟨r, 1, none⟩ (.slice (some ⟨g, 0, none⟩) (Bs.nw v) (Bs.nw v))) := by
 obtain ⟨g, h1, h2, h3, h4, h5, h6, h7, h8⟩ := h
 have hne := h7.row_ne h2
 have hr := Row.arg ((h2.far (p := ⟨r, 0, none⟩) hne (.int .i64 v)).far (p := ⟨r, 1, none⟩) hne (.slice (some ⟨g, 0, none⟩) (Bs.nw v) (Bs.nw v))) hf.ok
 exact ⟨g, h1.c0, h1.c1, ⟨hr.lies, hf.len, hf.ok⟩, (h8.setCell (by simpa using h6) _).setCell (by simpa using h6) _⟩
theorem Making.cells {w wr : World} {b r v : Nat} {zs : List Nat} (h : Making w b r v zs wr) :
 ((wr.cell? ⟨r, 0, none⟩ = some (.int .i64 0) ∧ wr.cell? ⟨r, 1, none⟩ = some (.slice none 0 0)) ∧ (wr.frozen? ⟨r, 0, none⟩ = false ∧ wr.frozen? ⟨r, 1, none⟩ = false)) ∧ b ≠ r := by
 obtain ⟨g, h1, h2, h3, h4, h5, h6, h7, h8⟩ := h
 exact ⟨⟨⟨h7.c0, h7.c1⟩, h7.f 0, h7.f 1⟩, h5⟩
theorem Making.load {w wr : World} {b r v : Nat} {zs : List Nat} (h : Making w b r v zs wr) (hf : Bs.Fit v zs) :
 ∃ g : Nat, wr.cell? ⟨b, 0, none⟩ = some (.int .i64 v) ∧ wr.cell? ⟨b, 1, none⟩ = some (.slice (some ⟨g, 0, none⟩) (Bs.nw v) (Bs.nw v)) ∧ Arg wr (some ⟨g, 0, none⟩) (Bs.nw v) zs ∧ b < wr.heap.size := by
 obtain ⟨g, h1, h2, h3, h4, h5, h6, h7, h8⟩ := h
 have hr := h2.arg hf.ok
 exact ⟨g, h1.c0, h1.c1, ⟨hr.lies, hf.len, hf.ok⟩, h1.lt⟩
theorem box_stores {w w5 : World} {b : Nat} {W : Int} {A : Option Addr} {n c : Nat} (h : Box w b W A n c) (hb : Below w.heap.size w w5) :
 ((w5.cell? ⟨b, 0, none⟩ = some (.int .i64 W) ∧ w5.cell? ⟨b, 1, none⟩ = some (.slice A n c)) ∧ w5.frozen? ⟨b, 0, none⟩ = false ∧ w5.frozen? ⟨b, 1, none⟩ = false) := by
 have h5 := h.below hb h.lt
 exact ⟨⟨h5.c0, h5.c1⟩, h5.f 0, h5.f 1⟩
theorem Making.box {w wr : World} {b r v : Nat} {zs : List Nat} (h : Making w b r v zs wr) : ∃ g : Nat, Box wr b v (some ⟨g, 0, none⟩) (Bs.nw v) (Bs.nw v) := by
 obtain ⟨g, h1, _⟩ := h; exact ⟨g, h1⟩
set_option maxHeartbeats 800000 in
theorem refFull_any (W : Nat) (w : World) (hW : W ≤ 256) : Calls Tryz.prog 26 #[.int .i64 W] w (RetSet w W (Bs.ofP W (fun _ => true) W)) := by
 go_enter Tryz.func26, Tryz.ntmps26
 go_wp2_with fail
 refine (refEmpty_any W _ (by omega)).mono ?_
 rintro e w2 ⟨g, rfl, hg, hrow, hb2⟩
 rw [len_emp]
 have hinv := Making.start (w := w) (v := W) hrow (by rw [World.size_alloc] at hg; omega) ((Box.new w 0 none 0 0).below hb2 (by simp)) (Nat.le_refl _) (((Below.refl _ _).alloc (Nat.le_refl _) _).trans (hb2.mono (by simp)))
 have Hinv := hid hinv
 clear hinv hrow hb2 hg
 go_wp2_with fail
 go_loopw [4] (fun i wr => ∃ k : Nat, k ≤ W ∧ i = .int .i64 k ∧ Hid (Making w w2.heap.size w.heap.size W (Bs.ofP W (fun _ => true) k) wr)) (fun i _ => W - (intOf i).toNat)
 case atStart => exact ⟨0, by omega, rfl, Hinv⟩
 case round =>
  obtain ⟨k, hk, rfl, hG⟩ := hrel
  have hfit := Bs.fit_ofP W (fun _ => true) k hk
  have Hfit := hid hfit
  by_cases hlt : k < W
  · obtain ⟨g0, hc0, hc1, ha, hbl⟩ := hG.out.load hfit
    obtain ⟨gb, hbox⟩ := hG.out.box
    have Ha := hid ha; have Hbox := hid hbox
    clear hfit ha hbox
    go_wp2_with fail
    refine (refPut_any W _ _ _ _ k _ Ha.out (by omega) Hfit.out.len hlt).mono ?_
    rintro e w5 ⟨g5, rfl, hg5, hrow5, hb5⟩
    obtain ⟨⟨hc50, hc51⟩, hf50, hf51⟩ := box_stores Hbox.out hb5
    have hfin := hG.out.put hg5 hrow5 hb5
    rw [show (Bs.put (Bs.ofP W (fun _ => true) k) k).length = Bs.nw W from by rw [Bs.length_put]; exact Hfit.out.len]
    have Hfin := hid hfin
    clear hfin hrow5 hb5
    go_wp2_with fail
    go_roundw
    case rel => exact ⟨k + 1, by omega, by go_num, Hfin⟩
    case measure => simp [intOf]; omega
  · have hkW : k = W := by omega
    subst hkW
    obtain ⟨g0, hc0, hc1, ha, hbl⟩ := hG.out.done hfit
    obtain ⟨⟨⟨hr0, hr1⟩, hf0, hf1⟩, hne⟩ := hG.out.cells
    have Ha := hid ha; have Hbl := hid hbl
    clear hfit ha hbl
    go_wp2_with fail
    exact bodyPost_ret (v := .agg #[.int .i64 k, .slice (some ⟨g0, 0, none⟩) (Bs.nw k) (Bs.nw k)]) (by simp [results, Tryz.results26, go_sem, hr0, hr1]) rfl ⟨_, _, _, rfl, Ha.out, Hbl.out⟩
def ofR (W : Int) (l : List Int) : Int × List Nat × Int :=
 if W < 0 ∨ 256 < W then (0, [], 3)
 else if l.any (fun x => decide (x < 0) || decide (W ≤ x)) then (0, [], 3)
 else (W, Bs.ofP W.toNat (fun i => decide ((i : Int) ∈ l)) W.toNat, 0)
theorem take_snoc {α : Type} (l : List α) (k : Nat) (h : k < l.length) : l.take (k + 1) = l.take k ++ [l[k]] := by
 rw [List.take_succ_eq_append_getElem h]
theorem mem_snoc (l : List Int) (b i : Nat) : decide ((i : Int) ∈ l ++ [(b : Int)]) = (decide ((i : Int) ∈ l) || decide (i = b)) := by
 rw [← Bool.decide_or]
 congr 1
 rw [List.mem_append, List.mem_singleton]
 apply propext
 constructor
 · rintro (h | h)
   · exact .inl h
   · exact .inr (by omega)
 · rintro (h | h)
   · exact .inl h
   · exact .inr (by omega)
def equalB (W : Int) (ws : List Nat) (V : Int) (xs : List Nat) : Bool := Bs.validB W ws && Bs.validB V xs && sameB W ws V xs
theorem box2 (w : World) (W V : Int) (A B : Option Addr) (n c m d : Nat) :
 Box ((w.alloc (.cells #[.int .i64 W, .slice A n c] 49)).alloc (.cells #[.int .i64 V, .slice B m d] 49)) w.heap.size W A n c ∧
 Box ((w.alloc (.cells #[.int .i64 W, .slice A n c] 49)).alloc (.cells #[.int .i64 V, .slice B m d] 49)) (w.heap.size + 1) V B m d := by
 refine ⟨(Box.new w _ _ _ _).alloc _, ?_⟩
 have h := Box.new (w.alloc (.cells #[.int .i64 W, .slice A n c] 49)) V B m d
 rw [World.size_alloc] at h; exact h
theorem below2 (w : World) (a b : Obj) : Below w.heap.size w ((w.alloc a).alloc b) := ((Below.refl _ _).alloc (Nat.le_refl _) _).alloc (by simp) _
theorem Growing.tape {w wr w' : World} {T b r v : Nat} (h : Growing w T b r v wr) (ht : Tape w' T) (hg : wr.grownBy w' (some T)) (hTw : T < w.heap.size) (hb : T ≠ b) (hr : T ≠ r) : Growing w T b r v w' := by
 obtain ⟨g, ws, h1, h2, h3, h4, h5, h6, h7⟩ := h
 exact ⟨g, ws, h1, h2.grown hg (by simp; omega), (hg.block g h3.lt (by simp; omega)).trans h3, h4, h5.grown hg (by simp; omega), ht, grown_trans h7 hg⟩
theorem Growing.put {w wr w5 : World} {T b r v g5 : Nat} {zs : List Nat} (h : Growing w T b r v wr) (hT : T < w.heap.size) (hbw : w.heap.size ≤ b) (hbr : b ≠ r) (hf : Bs.Fit v zs) (hg : wr.heap.size ≤ g5) (hrow : Row w5 g5 zs) (hb : Below wr.heap.size wr w5) :
 Growing w T b r v ((w5.setCell ⟨b, 0, none⟩ (.int .i64 v)).setCell ⟨b, 1, none⟩ (.slice (some ⟨g5, 0, none⟩) (Bs.nw v) (Bs.nw v))) := by
 obtain ⟨g, ws, h1, h2, h3, h4, h5, h6, h7⟩ := h
 have l2 := h2.lt
 have l5 := h5.lt
 have l7 := h7.size
 exact ⟨g5, zs, hf, (h2.below hb l2).set _ _ _ _, (hrow.far (by simp; omega) _).far (by simp; omega) _, by omega, ((h5.below hb l5).far (by simp; omega) _).far (by simp; omega) _, ((h6.below hb (by omega)).far (by simp; omega) _).far (by simp; omega) _, grown_set_new (grown_set_new (grown_trans h7 (grown_of_below hb _)) (by simpa using hbw) _) (by simpa using hbw) _⟩
end Go.Proofs.YtopkmeceakjocaaGreat
namespace Go.Proofs.YtopkmeceakjocaaGreat
set_option maxRecDepth 20000
open Go.ChangeShapes Go.WideShapes Go.ChangeAt Go.RowKit
section
variable {w w' : World} {base B0 : Nat} {W : Int} {v : Value} {one : Nat → List Nat} {n : Nat}
theorem own_not_row {ty : TypeId} (hty : ty ≠ 106) {xs : List Value} {k : Nat} (h : w.ownsRow base ty k v n xs) {g : Nat} {zs : List Nat} (hr : Row w g zs) : some g ≠ v.ownBlock := by
 rcases h.2 with ⟨rfl, _⟩ | ⟨g', cap, cur, rfl, _, hg, _⟩
 · simp [Value.ownBlock]
 · intro e
   simp only [Value.ownBlock, Option.some.injEq] at e
   subst e
   unfold Row at hr
   rw [hr] at hg
   injection hg with hg
   injection hg with _ hg
   exact hty hg.symm
theorem own_base {ty : TypeId} {k : Nat} {xs : List Value} (h : w.ownsRow base ty k v n xs) : ∀ g, v.ownBlock = some g → base ≤ g := by
 intro g hg
 rcases h.2 with ⟨rfl, _⟩ | ⟨g', cap, cur, rfl, hb, _⟩
 · simp [Value.ownBlock] at hg
 · simp only [Value.ownBlock, Option.some.injEq] at hg; omega
end
theorem setCell_grown (w : World) (p : Addr) (u : Value) : w.grownBy (w.setCell p u) (some p.block) :=
 ⟨rfl, rfl, rfl, by simp [World.setCell], fun k _ hk => Below.heap_setCell w p u k (by rintro rfl; exact hk rfl)⟩
theorem Fb.set {w : World} {g t : Nat} {cs : Array Value} (h : Fb w g cs t) (j : Nat) (u : Value) : Fb (w.setCell ⟨g, j, none⟩ u) g (cs.setIfInBounds j u) t := by
 unfold Fb at h ⊢
 simp [World.setCell, Array.getElem?_modify, h]
theorem Fb.row_ne {w : World} {g t : Nat} {cs : Array Value} (h : Fb w g cs t) (ht : t ≠ 106) {k : Nat} {zs : List Nat} (hr : Row w k zs) : k ≠ g := by
 rintro rfl
 unfold Fb at h; unfold Row at hr
 rw [h] at hr
 injection hr with hr
 injection hr with _ hr
 exact ht hr
theorem two_new (w : World) (a b : Value) (ty : TypeId) : ∀ j u, [a, b][j]? = some u → (w.alloc (.cells #[a, b] ty)).cell? ((⟨w.heap.size, 0, none⟩ : Addr).add j) = some u := by
 intro j u h
 rw [add_of]
 match j, h with
 | 0, h => simp at h; subst h; rw [World.cell?_alloc_at _ _ _ _ rfl]; rfl
 | 1, h => simp at h; subst h; rw [World.cell?_alloc_at _ _ _ _ rfl]; rfl
 | j + 2, h => simp at h
theorem Fb.three {w : World} {g t : Nat} {a b c : Value} (h : Fb w g #[a, b, c] t) :
 w.cell? ⟨g, 0, none⟩ = some a ∧ w.cell? ⟨g, 1, none⟩ = some b ∧ w.cell? ⟨g, 2, none⟩ = some c := ⟨h.cell 0, h.cell 1, h.cell 2⟩
def orR (W : Nat) (ws xs : List Nat) : List Nat := Bs.ofP W (fun i => Bs.bit ws i || Bs.bit xs i) W
theorem fit_orR (W : Nat) (ws xs : List Nat) : Bs.Fit W (orR W ws xs) := Bs.fit_ofP _ _ _ (Nat.le_refl _)
theorem mixR_or {W : Nat} {ws xs : List Nat} (hW : W ≤ 256) (h1 : Bs.Fit W ws) (h2 : Bs.Fit W xs) : mixR (flag true true true) W ws W xs = ((W : Int), orR W ws xs, 0) := by
 unfold mixR orR
 rw [if_neg (by simp [Bs.valid_of_fit h1 hW, Bs.valid_of_fit h2 hW]), if_neg (by simp), Int.toNat_natCast]
 congr 2
 refine Bs.ofP_congr fun i _ => ?_
 unfold flag
 cases Bs.bit ws i <;> cases Bs.bit xs i <;> rfl
theorem own_at {w : World} {base : Nat} {ty : TypeId} {k : Nat} {A : Option Addr} {n c : Nat} {xs : List Value} (h : w.ownsRow base ty k (.slice A n c) n xs) : At w w.heap.size A xs := by
 have hl := h.1
 rcases h.2 with ⟨e, rfl⟩ | ⟨g, cap, cur, e, _, hg, _, _, _, hx⟩
 · exact .inl (List.eq_nil_of_length_eq_zero (by omega))
 · injection e with e1 _ e3
   subst e1
   refine .inr ⟨_, rfl, (Array.getElem?_eq_some_iff.1 hg).1, fun j u hu => ?_⟩
   rw [add_of]
   have hj : (cur.toList.take (n * k))[j]? = some u := by rw [hx]; exact hu
   rw [List.getElem?_take] at hj
   split at hj
   · simp only [World.cell?, hg]
     simpa using hj
   · cases hj
section
variable {w : World} {W : Nat} {Z A D : Option Addr} {n c m d x y : Nat} {zs zs' : List Nat} {wr w' : World}
end
def Cops (w : World) (base : Nat) (v : Value) (cs : List (Int × Int)) : Prop := w.ownsRow base 58 2 v cs.length (pairs cs)
theorem pairs_snoc (cs : List (Int × Int)) (a b : Int) : pairs (cs ++ [(a, b)]) = pairs cs ++ [.int .i64 a, .int .i64 b] := by simp [pairs]
theorem info35 : (Tryz.prog.info? 58).map (fun i => (i.zero, i.size, i.bytes)) = some (some (.agg #[.int .i64 0, .int .i64 0]), 2, 16) := by kernel_rfl
section
variable {w wr w' : World} {W : Nat} {Z A : Option Addr} {n c d T : Nat} {kill kill' : List Nat} {cs : List (Int × Int)}
end
def GenW (w : World) (T : Nat) (e : Ending) (w' : World) : Prop :=
 ∃ v : Nat, e = .returned (.int .i64 v) ∧ v ≤ 8 ∧ Tape w' T ∧ w.grownBy w' (some T)
theorem pick7 (r : Int) (h0 : 0 ≤ r) (h1 : r < 7 ∨ r = 0) (w w1 : World) {T : Nat} (hg : (w.alloc (Obj.cells #[Value.int IntKind.i64 3, Value.int IntKind.i64 1, Value.int IntKind.i64 4, Value.int IntKind.i64 2, Value.int IntKind.i64 6, Value.int IntKind.i64 0, Value.int IntKind.i64 8] 3)).grownBy w1 (some T)) (hT : w.heap.size ≠ T) :
 ∃ v : Nat, v ≤ 8 ∧ w1.cell? ⟨w.heap.size, r.toNat, none⟩ = some (.int .i64 v) := by
 obtain ⟨k, rfl⟩ := Int.eq_ofNat_of_zero_le h0
 have hh := heap_alloc_new w (Obj.cells #[Value.int IntKind.i64 3, Value.int IntKind.i64 1, Value.int IntKind.i64 4, Value.int IntKind.i64 2, Value.int IntKind.i64 6, Value.int IntKind.i64 0, Value.int IntKind.i64 8] 3)
 have hblk := hg.block w.heap.size (by rw [World.size_alloc]; omega) (by simpa using hT)
 rw [hh] at hblk
 have hk : k < 7 := by omega
 have : k = 0 ∨ k = 1 ∨ k = 2 ∨ k = 3 ∨ k = 4 ∨ k = 5 ∨ k = 6 := by omega
 rcases this with rfl | rfl | rfl | rfl | rfl | rfl | rfl
 · exact ⟨3, by omega, by simp [World.cell?, hblk]⟩
 · exact ⟨1, by omega, by simp [World.cell?, hblk]⟩
 · exact ⟨4, by omega, by simp [World.cell?, hblk]⟩
 · exact ⟨2, by omega, by simp [World.cell?, hblk]⟩
 · exact ⟨6, by omega, by simp [World.cell?, hblk]⟩
 · exact ⟨0, by omega, by simp [World.cell?, hblk]⟩
 · exact ⟨8, by omega, by simp [World.cell?, hblk]⟩
theorem width_any (T : Nat) (w : World) (ht : Tape w T) : Calls Tryz.prog 36 #[.pointer (some ⟨T, 0, none⟩)] w (GenW w T) := by
 have Ht := hid ht
 have hTl := ht.lt
 clear ht
 go_enter Tryz.func36, Tryz.ntmps36
 go_wp2_with fail
 refine (next_any T 7 _ (Ht.out.alloc _) (by omega)).mono ?_
 rintro e w4 ⟨r, rfl, h0, h1, ht4, hg4, hs4⟩
 obtain ⟨v, hv, hc⟩ := pick7 r h0 h1 w w4 hg4 (by omega)
 have h2 : r < 7 := by omega
 have Hs := hid hs4
 have Hg := hid (grown_trans (grown_of_below ((Below.refl w.heap.size w).alloc (Nat.le_refl _) _) (some T)) hg4)
 have Ht4 := hid ht4
 clear hg4 ht4 hs4 h1
 go_wp2
 go_ret
 exact ⟨v, rfl, hv, Ht4.out, Hg.out⟩
def Upto (W : Nat) (cs : List (Int × Int)) (a b : Int) : Prop := (∀ i, i < cs.length → okAt W cs i = true) ∧ ∀ p ∈ cs, beforeB p (a, b) = true
theorem Upto.step {W : Nat} {cs : List (Int × Int)} {a b : Int} (h : Upto W cs a b) : Upto W cs a (b + 1) :=
 ⟨h.1, fun p hp => by have := h.2 p hp; unfold beforeB at *; simp at *; omega⟩
theorem Upto.row {W : Nat} {cs : List (Int × Int)} {a b : Int} (h : Upto W cs a b) : Upto W cs (a + 1) 0 :=
 ⟨h.1, fun p hp => by have := h.2 p hp; unfold beforeB at *; simp at *; omega⟩
theorem Upto.push {W : Nat} {cs : List (Int × Int)} {a b : Nat} (h : Upto W cs a b) (ha : a < W) (hb : b < W) : Upto W (cs ++ [((a : Int), (b : Int))]) a (b + 1) := by
 have g1 : ∀ i, i < cs.length → (cs ++ [((a : Int), (b : Int))]).getD i (0, 0) = cs.getD i (0, 0) := fun i hi => by
  rw [List.getD_eq_getElem?_getD, List.getD_eq_getElem?_getD, List.getElem?_append_left hi]
 refine ⟨fun i hi => ?_, fun p hp => ?_⟩
 · rw [List.length_append, List.length_singleton] at hi
   by_cases e : i < cs.length
   · have := h.1 i e
     unfold okAt at this ⊢
     rw [g1 i e, g1 (i - 1) (by omega)]; exact this
   · have e : i = cs.length := by omega
     subst e
     unfold okAt
     have g2 : (cs ++ [((a : Int), (b : Int))]).getD cs.length (0, 0) = ((a : Int), (b : Int)) := by
      rw [List.getD_eq_getElem?_getD, List.getElem?_append_right (Nat.le_refl _)]; simp
     rw [g2]
     have hin : inW W ((a : Int), (b : Int)) = true := by unfold inW; simp; omega
     rw [hin, Bool.true_and]
     by_cases h0 : cs.length = 0
     · simp [h0]
     · rw [g1 (cs.length - 1) (by omega)]
       have hm : cs.getD (cs.length - 1) (0, 0) ∈ cs := by
        rw [List.getD_eq_getElem?_getD, List.getElem?_eq_getElem (by omega), Option.getD_some]; exact List.getElem_mem _
       rw [h.2 _ hm]; simp
 · rcases List.mem_append.1 hp with h1 | h1
   · exact (h.step).2 p h1
   · simp at h1; subst h1; unfold beforeB; simp; omega
def Gening (w : World) (T b W : Nat) (cs : List (Int × Int)) (wr : World) : Prop :=
 ∃ (g1 g2 : Nat) (gs ks : List Nat) (C : Option Addr) (q : Nat), Fb wr b #[.int .i64 W, .slice (some ⟨g1, 0, none⟩) (Bs.nw W) (Bs.nw W), .int .i64 W, .slice (some ⟨g2, 0, none⟩) (Bs.nw W) (Bs.nw W), .slice C cs.length q] 61 ∧
   (Row wr g1 gs ∧ Bs.Fit W gs ∧ w.heap.size ≤ g1) ∧ (Row wr g2 ks ∧ Bs.Fit W ks ∧ w.heap.size ≤ g2) ∧ Cops wr (b + 1) (.slice C cs.length q) cs ∧
   Fb wr w.heap.size #[.int .i64 0, .slice none 0 0, .int .i64 0, .slice none 0 0, .slice none 0 0] 61 ∧ w.heap.size < b ∧ Tape wr T ∧ T < w.heap.size ∧ w.grownBy wr (some T)
section
variable {w wr w' : World} {T b W : Nat} {cs : List (Int × Int)}
theorem Gening.tape (h : Gening w T b W cs wr) (ht : Tape w' T) (hg : wr.grownBy w' (some T)) : Gening w T b W cs w' := by
 obtain ⟨g1, g2, gs, ks, C, q, h1, ⟨h2, h3, h4⟩, ⟨h5, h6, h7⟩, h8, h9, h10, h11, h12, h13⟩ := h
 refine ⟨g1, g2, gs, ks, C, q, h1.grown hg (by simp; omega), ⟨(hg.block g1 h2.lt (by simp; omega)).trans h2, h3, h4⟩, ⟨(hg.block g2 h5.lt (by simp; omega)).trans h5, h6, h7⟩, ?_, h9.grown hg (by simp; omega), h10, ht, h12, grown_trans h13 hg⟩
 exact World.ownsRow.kept h8 hg (by
  cases hv : (Value.slice C cs.length q).ownBlock with
  | none => exact .inl rfl
  | some k => exact .inr (by have := own_base h8 k hv; simp only [ne_eq, Option.some.injEq]; omega))
theorem Cops.setT {wx : World} {C : Option Addr} {q : Nat} (hx : Cops wx (b + 1) (.slice C cs.length q) cs) (j : Nat) (u : Value) : Cops (wx.setCell ⟨b, j, none⟩ u) (b + 1) (.slice C cs.length q) cs :=
 World.ownsRow.kept hx (setCell_grown wx _ u) (by
  cases hv : (Value.slice C cs.length q).ownBlock with
  | none => exact .inl rfl
  | some k => exact .inr (by have := own_base hx k hv; simp only [ne_eq, Option.some.injEq]; omega))
theorem Gening.gen {g5 : Nat} {zs : List Nat} (h : Gening w T b W cs wr) (hf : Bs.Fit W zs) (hg : wr.heap.size ≤ g5) (hr : Row w' g5 zs) (hb : Below wr.heap.size wr w') :
 (∃ (v0 v1 : Value), w'.cell? ⟨b, 0, none⟩ = some v0 ∧ w'.cell? ⟨b, 1, none⟩ = some v1 ∧ w'.frozen? ⟨b, 0, none⟩ = false ∧ w'.frozen? ⟨b, 1, none⟩ = false) ∧
 Gening w T b W cs ((w'.setCell ⟨b, 0, none⟩ (.int .i64 W)).setCell ⟨b, 1, none⟩ (.slice (some ⟨g5, 0, none⟩) (Bs.nw W) (Bs.nw W))) := by
 obtain ⟨g1, g2, gs, ks, C, q, h1, ⟨h2, h3, h4⟩, ⟨h5, h6, h7⟩, h8, h9, h10, h11, h12, h13⟩ := h
 have e1 := h1.below hb h1.lt
 have e5 := h5.below hb h5.lt
 have hz := h13.size
 refine ⟨⟨_, _, e1.cell 0, e1.cell 1, e1.frozen 0, e1.frozen 1⟩, g5, g2, zs, ks, C, q, (e1.set 0 _).set 1 _, ⟨(hr.far (e1.row_ne (by decide) hr) _).far (e1.row_ne (by decide) hr) _, hf, by omega⟩,
  ⟨(e5.far (e1.row_ne (by decide) e5) _).far (e1.row_ne (by decide) e5) _, h6, h7⟩, Cops.setT (Cops.setT (own_below h8 hb) 0 _) 1 _, ((h9.below hb h9.lt).far (by simp; omega) _).far (by simp; omega) _, h10,
  ((h11.below hb (by omega)).far (by simp; omega) _).far (by simp; omega) _, h12, ?_⟩
 exact grown_set_new (grown_set_new (grown_trans h13 (grown_of_below hb _)) (by simp; omega) _) (by simp; omega) _
theorem Gening.kill {g5 : Nat} {zs : List Nat} (h : Gening w T b W cs wr) (hf : Bs.Fit W zs) (hg : wr.heap.size ≤ g5) (hr : Row w' g5 zs) (hb : Below wr.heap.size wr w') :
 (∃ (v0 v1 : Value), w'.cell? ⟨b, 2, none⟩ = some v0 ∧ w'.cell? ⟨b, 3, none⟩ = some v1 ∧ w'.frozen? ⟨b, 2, none⟩ = false ∧ w'.frozen? ⟨b, 3, none⟩ = false) ∧
 Gening w T b W cs ((w'.setCell ⟨b, 2, none⟩ (.int .i64 W)).setCell ⟨b, 3, none⟩ (.slice (some ⟨g5, 0, none⟩) (Bs.nw W) (Bs.nw W))) := by
 obtain ⟨g1, g2, gs, ks, C, q, h1, ⟨h2, h3, h4⟩, ⟨h5, h6, h7⟩, h8, h9, h10, h11, h12, h13⟩ := h
 have e1 := h1.below hb h1.lt
 have e2 := h2.below hb h2.lt
 have hz := h13.size
 refine ⟨⟨_, _, e1.cell 2, e1.cell 3, e1.frozen 2, e1.frozen 3⟩, g1, g5, gs, zs, C, q, (e1.set 2 _).set 3 _, ⟨(e2.far (e1.row_ne (by decide) e2) _).far (e1.row_ne (by decide) e2) _, h3, h4⟩,
  ⟨(hr.far (e1.row_ne (by decide) hr) _).far (e1.row_ne (by decide) hr) _, hf, by omega⟩, Cops.setT (Cops.setT (own_below h8 hb) 2 _) 3 _, ((h9.below hb h9.lt).far (by simp; omega) _).far (by simp; omega) _, h10,
  ((h11.below hb (by omega)).far (by simp; omega) _).far (by simp; omega) _, h12, ?_⟩
 exact grown_set_new (grown_set_new (grown_trans h13 (grown_of_below hb _)) (by simp; omega) _) (by simp; omega) _
theorem Gening.slice (h : Gening w T b W cs wr) : ∃ (C : Option Addr) (q : Nat), wr.cell? ⟨b, 4, none⟩ = some (.slice C cs.length q) ∧ wr.frozen? ⟨b, 4, none⟩ = false ∧ Cops wr (b + 1) (.slice C cs.length q) cs ∧ b < wr.heap.size ∧
 ∀ (o : Obj) (w' : World) (v' : Value) (x y : Int), w'.ownsRow (b + 1) 58 2 v' (cs.length + 1) (pairs cs ++ [.int .i64 x, .int .i64 y]) → (wr.alloc o).grownBy w' (Value.slice C cs.length q).ownBlock →
   ∃ (C' : Option Addr) (q' : Nat), v' = .slice C' (cs.length + 1) q' ∧ (w'.cell? ⟨b, 4, none⟩ = some (.slice C cs.length q) ∧ w'.frozen? ⟨b, 4, none⟩ = false) ∧
     Gening w T b W (cs ++ [(x, y)]) (w'.setCell ⟨b, 4, none⟩ (.slice C' (cs.length + 1) q')) := by
 obtain ⟨g1, g2, gs, ks, C, q, h1, ⟨h2, h3, h4⟩, ⟨h5, h6, h7⟩, h8, h9, h10, h11, h12, h13⟩ := h
 refine ⟨C, q, h1.cell 4, h1.frozen 4, h8, h1.lt, fun o w' v' x y ho hg => ?_⟩
 obtain ⟨C', q', rfl⟩ : ∃ (C' : Option Addr) (q' : Nat), v' = .slice C' (cs.length + 1) q' := by
  rcases ho.2 with ⟨_, h0⟩ | ⟨g, cap, cur, rfl, _⟩
  · omega
  · exact ⟨_, cap, rfl⟩
 have e1 := (h1.alloc o).grown hg (own_row h8 (by omega))
 have e2 : Row w' g1 gs := (hg.block g1 (h2.alloc o).lt (own_not_row (by decide) (World.ownsRow.alloc h8 o) (h2.alloc o))).trans (h2.alloc o)
 have e5 : Row w' g2 ks := (hg.block g2 (h5.alloc o).lt (own_not_row (by decide) (World.ownsRow.alloc h8 o) (h5.alloc o))).trans (h5.alloc o)
 have e9 := (h9.alloc o).grown hg (own_row h8 (by omega))
 have hz := h13.size
 have hk := own_base h8
 have e11 : Tape w' T := (h11.alloc o).keep fun k hkT => hg.block k (by rw [World.size_alloc]; omega) (by
  cases hv : (Value.slice C cs.length q).ownBlock with
  | none => simp
  | some x => have := hk x hv; simp only [ne_eq, Option.some.injEq]; omega)
 have e13 : w.grownBy w' (some T) := by
  have s1 := grown_trans h13 (grown_of_below ((Below.refl _ _).alloc (Nat.le_refl _) o) (some T))
  refine ⟨hg.os.trans s1.os, hg.tape.trans s1.tape, hg.output.trans s1.output, Nat.le_trans s1.size hg.size, fun i hi hne => (hg.block i (Nat.lt_of_lt_of_le hi s1.size) ?_).trans (s1.block i hi hne)⟩
  cases hv : (Value.slice C cs.length q).ownBlock with
  | none => simp
  | some x => have := hk x hv; simp only [ne_eq, Option.some.injEq]; omega
 refine ⟨C', q', rfl, ⟨e1.cell 4, e1.frozen 4⟩, g1, g2, gs, ks, C', q', ?_, ⟨e2.far (e1.row_ne (by decide) e2) _, h3, h4⟩, ⟨e5.far (e1.row_ne (by decide) e5) _, h6, h7⟩, ?_, e9.far (by simp; omega) _, h10, e11.far (by simp; omega) _, h12, grown_set_new e13 (by simp; omega) _⟩
 · have := e1.set 4 (.slice C' (cs.length + 1) q')
   simpa using this
 · unfold Cops
   rw [pairs_snoc, List.length_append]
   have hk' := own_base ho
   exact World.ownsRow.kept ho (setCell_grown w' _ _) (by
    cases hv : (Value.slice C' (cs.length + 1) q').ownBlock with
    | none => exact .inl rfl
    | some k => exact .inr (by have := hk' k hv; simp only [ne_eq, Option.some.injEq]; omega))
end
def GenT3 (w : World) (T W : Nat) (e : Ending) (w' : World) : Prop :=
 ∃ (g1 g2 b0 : Nat) (C : Option Addr) (k q : Nat) (gs ks : List Nat) (cs : List (Int × Int)),
   e = .returned (.agg #[.int .i64 W, .slice (some ⟨g1, 0, none⟩) (Bs.nw W) (Bs.nw W), .int .i64 W, .slice (some ⟨g2, 0, none⟩) (Bs.nw W) (Bs.nw W), .slice C k q]) ∧ (Row w' g1 gs ∧ Bs.Fit W gs ∧ w.heap.size ≤ g1) ∧ (Row w' g2 ks ∧ Bs.Fit W ks ∧ w.heap.size ≤ g2) ∧ (w'.ownsRow b0 58 2 (.slice C k q) k (pairs cs) ∧ w.heap.size ≤ b0 ∧ cs.length = k) ∧ validT W gs W ks cs = true ∧ cs.length ≤ 12 ∧ Tape w' T ∧ w.grownBy w' (some T)
theorem Gening.done3 {w wr : World} {T b W : Nat} {cs : List (Int × Int)} (h : Gening w T b W cs wr) (hW : W ≤ 256) (hu : Upto W cs W 0) (h12 : cs.length ≤ 12) :
 ∃ (g1 g2 : Nat) (C : Option Addr) (q : Nat), (wr.cell? ⟨b, 0, none⟩ = some (.int .i64 W) ∧ wr.cell? ⟨b, 1, none⟩ = some (.slice (some ⟨g1, 0, none⟩) (Bs.nw W) (Bs.nw W)) ∧ wr.cell? ⟨b, 2, none⟩ = some (.int .i64 W) ∧ wr.cell? ⟨b, 3, none⟩ = some (.slice (some ⟨g2, 0, none⟩) (Bs.nw W) (Bs.nw W)) ∧ wr.cell? ⟨b, 4, none⟩ = some (.slice C cs.length q)) ∧
 ((wr.cell? ⟨w.heap.size, 0, none⟩ = some (.int .i64 0) ∧ wr.cell? ⟨w.heap.size, 1, none⟩ = some (.slice none 0 0) ∧ wr.cell? ⟨w.heap.size, 2, none⟩ = some (.int .i64 0) ∧ wr.cell? ⟨w.heap.size, 3, none⟩ = some (.slice none 0 0) ∧ wr.cell? ⟨w.heap.size, 4, none⟩ = some (.slice none 0 0)) ∧
  (wr.frozen? ⟨w.heap.size, 0, none⟩ = false ∧ wr.frozen? ⟨w.heap.size, 1, none⟩ = false ∧ wr.frozen? ⟨w.heap.size, 2, none⟩ = false ∧ wr.frozen? ⟨w.heap.size, 3, none⟩ = false ∧ wr.frozen? ⟨w.heap.size, 4, none⟩ = false)) ∧ w.heap.size < wr.heap.size ∧
 GenT3 w T W (.returned (.agg #[.int .i64 W, .slice (some ⟨g1, 0, none⟩) (Bs.nw W) (Bs.nw W), .int .i64 W, .slice (some ⟨g2, 0, none⟩) (Bs.nw W) (Bs.nw W), .slice C cs.length q]))
  (((((wr.setCell ⟨w.heap.size, 0, none⟩ (.int .i64 W)).setCell ⟨w.heap.size, 1, none⟩ (.slice (some ⟨g1, 0, none⟩) (Bs.nw W) (Bs.nw W))).setCell ⟨w.heap.size, 2, none⟩ (.int .i64 W)).setCell ⟨w.heap.size, 3, none⟩ (.slice (some ⟨g2, 0, none⟩) (Bs.nw W) (Bs.nw W))).setCell ⟨w.heap.size, 4, none⟩ (.slice C cs.length q)) := by
 obtain ⟨g1, g2, gs, ks, C, q, h1, ⟨h2, h3, h4⟩, ⟨h5, h6, h7⟩, h8, h9, h10, h11, h12', h13⟩ := h
 refine ⟨g1, g2, C, q, h1.five, ⟨h9.five, h9.frozen 0, h9.frozen 1, h9.frozen 2, h9.frozen 3, h9.frozen 4⟩, h9.lt, ?_⟩
 have n1 := h9.row_ne (by decide) h2
 have n2 := h9.row_ne (by decide) h5
 have r1 : ∀ {wx : World} (j : Nat) (u : Value), Row wx g1 gs → Row (wx.setCell ⟨w.heap.size, j, none⟩ u) g1 gs := fun j u h => h.far n1 u
 have r2 : ∀ {wx : World} (j : Nat) (u : Value), Row wx g2 ks → Row (wx.setCell ⟨w.heap.size, j, none⟩ u) g2 ks := fun j u h => h.far n2 u
 have kc : ∀ {wx : World} (j : Nat) (u : Value), Cops wx (b + 1) (.slice C cs.length q) cs → Cops (wx.setCell ⟨w.heap.size, j, none⟩ u) (b + 1) (.slice C cs.length q) cs := fun {wx} j u hx =>
  World.ownsRow.kept hx (setCell_grown wx _ u) (by
   cases hv : (Value.slice C cs.length q).ownBlock with
   | none => exact .inl rfl
   | some k => exact .inr (by have := own_base hx k hv; simp only [ne_eq, Option.some.injEq]; omega))
 have kt : ∀ {wx : World} (j : Nat) (u : Value), Tape wx T → Tape (wx.setCell ⟨w.heap.size, j, none⟩ u) T := fun j u h => h.far (by simp; omega) u
 have kg : ∀ {wx : World} (j : Nat) (u : Value), w.grownBy wx (some T) → w.grownBy (wx.setCell ⟨w.heap.size, j, none⟩ u) (some T) := fun j u h => grown_set_new h (by simp) u
 have e1 := r1 4 (.slice C cs.length q) (r1 3 (.slice (some ⟨g2, 0, none⟩) (Bs.nw W) (Bs.nw W)) (r1 2 (.int .i64 W) (r1 1 (.slice (some ⟨g1, 0, none⟩) (Bs.nw W) (Bs.nw W)) (r1 0 (.int .i64 W) h2))))
 have e2 := r2 4 (.slice C cs.length q) (r2 3 (.slice (some ⟨g2, 0, none⟩) (Bs.nw W) (Bs.nw W)) (r2 2 (.int .i64 W) (r2 1 (.slice (some ⟨g1, 0, none⟩) (Bs.nw W) (Bs.nw W)) (r2 0 (.int .i64 W) h5))))
 have e3 := kc 4 (.slice C cs.length q) (kc 3 (.slice (some ⟨g2, 0, none⟩) (Bs.nw W) (Bs.nw W)) (kc 2 (.int .i64 W) (kc 1 (.slice (some ⟨g1, 0, none⟩) (Bs.nw W) (Bs.nw W)) (kc 0 (.int .i64 W) h8))))
 refine ⟨g1, g2, b + 1, C, cs.length, q, gs, ks, cs, rfl, ⟨e1, h3, h4⟩, ⟨e2, h6, h7⟩, ⟨e3, by omega, rfl⟩, ?_, h12, kt _ _ (kt _ _ (kt _ _ (kt _ _ (kt _ _ h11)))), kg _ _ (kg _ _ (kg _ _ (kg _ _ (kg _ _ h13))))⟩
 unfold validT
 rw [Bs.valid_of_fit h3 hW, Bs.valid_of_fit h6 hW]
 simp only [decide_true, Bool.true_and, Bool.and_eq_true, decide_eq_true_eq, List.all_eq_true, List.mem_range]
 exact ⟨by omega, hu.1⟩
set_option maxHeartbeats 1600000 in
theorem transfer3_any (T W : Nat) (w : World) (ht : Tape w T) (hW : W ≤ 16) : Calls Tryz.prog 39 #[.pointer (some ⟨T, 0, none⟩), .int .i64 W] w (GenT3 w T W) := by
 obtain ⟨i0, hi, hz0, hz1, hz2⟩ := info_parts info35
 have Hi := hid hi; have Hz0 := hid hz0; have Hz1 := hid hz1; have Hz2 := hid hz2
 have Ht := hid ht
 have hTl := ht.lt
 have HR := hid (Fb.new w #[.int .i64 0, .slice none 0 0, .int .i64 0, .slice none 0 0, .slice none 0 0] 61)
 have HB := hid ((Below.refl w.heap.size w).alloc (Nat.le_refl _) (.cells #[.int .i64 0, .slice none 0 0, .int .i64 0, .slice none 0 0, .slice none 0 0] 61))
 clear ht hi hz0 hz1 hz2
 go_enter Tryz.func39, Tryz.ntmps39
 go_wp2_with fail
 refine (refEmpty_any W _ (by omega)).mono ?_
 rintro e w2 ⟨g1, rfl, hg1, hrow1, hb2⟩
 rw [len_emp]
 rw [World.size_alloc] at hg1
 have HR2 := hid (HR.out.below hb2 (by simp))
 have HB2 := hid (HB.out.trans (hb2.mono (by simp)))
 have Hr1 := hid hrow1
 clear hrow1 hb2 HR HB
 go_wp2_with fail
 refine (refEmpty_any W _ (by omega)).mono ?_
 rintro e w3 ⟨g2, rfl, hg2, hrow2, hb3⟩
 rw [len_emp]
 have hlt2 := HR2.out.lt
 have HR3 := hid (HR2.out.below hb3 HR2.out.lt)
 have HB3 := hid (HB2.out.trans (hb3.mono HB2.out.size))
 have Hr3 := hid (Hr1.out.below hb3 Hr1.out.lt)
 have Hr2 := hid hrow2
 have hlt3 := HR3.out.lt
 clear hrow2 hb3 HR2 HB2 Hr1
 have Hst := hid (show Gening w T w3.heap.size W [] (w3.alloc (.cells #[.int .i64 W, .slice (some ⟨g1, 0, none⟩) (Bs.nw W) (Bs.nw W), .int .i64 W, .slice (some ⟨g2, 0, none⟩) (Bs.nw W) (Bs.nw W), .slice none 0 0] 61)) from
  ⟨g1, g2, Bs.emp W, Bs.emp W, none, 0, Fb.new _ _ _, ⟨Hr3.out.alloc _, Bs.fit_emp W, by omega⟩, ⟨Hr2.out.alloc _, Bs.fit_emp W, by omega⟩, World.ownsRow_nil _ _ _ _, HR3.out.alloc _, hlt3, (Ht.out.below HB3.out hTl).alloc _, hTl, grown_of_below (HB3.out.alloc HB3.out.size _) _⟩)
 go_wp2_with fail
 generalize w3.alloc (.cells #[.int .i64 W, .slice (some ⟨g1, 0, none⟩) (Bs.nw W) (Bs.nw W), .int .i64 W, .slice (some ⟨g2, 0, none⟩) (Bs.nw W) (Bs.nw W), .slice none 0 0] 61) = wv at *
 generalize w3.heap.size = b at *
 clear HR3 HB3 Hr3 Hr2
 go_loopw [6] (fun i wr => ∃ k : Nat, k ≤ W ∧ i = .int .i64 k ∧ Hid (Gening w T b W [] wr)) (fun i _ => W - (intOf i).toNat)
 case atStart => exact ⟨0, by omega, rfl, Hst⟩
 case round =>
  obtain ⟨k, hk, rfl, hG⟩ := hrel
  clear Hst
  by_cases hlt : k < W
  · have Htt := hid (show Tape wr T from by obtain ⟨_, _, _, _, _, _, _, _, _, _, _, _, h, _⟩ := hG.out; exact h)
    go_wp2_with fail
    refine (next_any T 6 _ Htt.out (by omega)).mono ?_
    rintro e w4 ⟨r4, rfl, h40, h41, ht4, hg4, hs4⟩
    have HG4 := hid (hG.out.tape ht4 hg4)
    clear h41 ht4 hg4 hs4 Htt hG
    by_cases h1 : r4 = 1
    · have t : (r4 == 1) = true := by simp [h1]
      obtain ⟨x1, x2, gs, ks, C, q, p1, ⟨p2, p3, p4⟩, ⟨p5, p6, p7⟩, p8⟩ := HG4.out
      obtain ⟨c0, c1, c2, c3, c4⟩ := p1.five
      have Ha := hid (show Arg w4 (some ⟨x1, 0, none⟩) (Bs.nw W) gs from ⟨(p2.arg p3.ok).lies, p3.len, p3.ok⟩)
      have Hf := hid p3
      clear h1 p1 p2 p3 p5 p6 p8 p4 p7
      go_wp2_with fail
      refine (refPut_any W _ _ _ gs k _ Ha.out (by omega) Hf.out.len hlt).mono ?_
      rintro e w5 ⟨g5, rfl, hg5, hr5, hb5⟩
      rw [show (Bs.put gs k).length = Bs.nw W from by rw [Bs.length_put]; exact Hf.out.len]
      obtain ⟨⟨v0, v1, m0, m1, f0, f1⟩, hfin⟩ := HG4.out.gen (Bs.fit_put Hf.out hlt) hg5 hr5 hb5
      have Hfin := hid hfin
      clear hfin hr5 hb5 c0 c1 c2 c3 c4
      go_wp2_with fail
      go_roundw
      case rel => exact ⟨k + 1, by omega, by go_num, Hfin⟩
      case measure => simp [intOf]; omega
    · have t : (r4 == 1) = false := by simp [h1]
      clear h1
      have hthree : (r4 = 2) ∨ (r4 ≠ 2 ∧ r4 = 3) ∨ (r4 ≠ 2 ∧ r4 ≠ 3) := by omega
      rcases hthree with h2 | ⟨h2, h3⟩ | ⟨h2, h3⟩
      · have t2 : (r4 == 2) = true := by simp [h2]
        obtain ⟨x1, x2, gs, ks, C, q, p1, ⟨p2, p3, p4⟩, ⟨p5, p6, p7⟩, p8⟩ := HG4.out
        obtain ⟨c0, c1, c2, c3, c4⟩ := p1.five
        have Ha := hid (show Arg w4 (some ⟨x2, 0, none⟩) (Bs.nw W) ks from ⟨(p5.arg p6.ok).lies, p6.len, p6.ok⟩)
        have Hf := hid p6
        clear h2 p1 p2 p3 p5 p6 p8 p4 p7
        go_wp2_with fail
        refine (refPut_any W _ _ _ ks k _ Ha.out (by omega) Hf.out.len hlt).mono ?_
        rintro e w5 ⟨g5, rfl, hg5, hr5, hb5⟩
        rw [show (Bs.put ks k).length = Bs.nw W from by rw [Bs.length_put]; exact Hf.out.len]
        obtain ⟨⟨v0, v1, m0, m1, f0, f1⟩, hfin⟩ := HG4.out.kill (Bs.fit_put Hf.out hlt) hg5 hr5 hb5
        have Hfin := hid hfin
        clear hfin hr5 hb5 c0 c1 c2 c3 c4
        go_wp2_with fail
        go_roundw
        case rel => exact ⟨k + 1, by omega, by go_num, Hfin⟩
        case measure => simp [intOf]; omega
      · have t2 : (r4 == 2) = false := by simp [h2]
        have t3 : (r4 == 3) = true := by simp [h3]
        obtain ⟨x1, x2, gs, ks, C, q, p1, ⟨p2, p3, p4⟩, ⟨p5, p6, p7⟩, p8⟩ := HG4.out
        obtain ⟨c0, c1, c2, c3, c4⟩ := p1.five
        have Ha := hid (show Arg w4 (some ⟨x2, 0, none⟩) (Bs.nw W) ks from ⟨(p5.arg p6.ok).lies, p6.len, p6.ok⟩)
        have Hf := hid p6
        clear h2 h3 p1 p2 p3 p5 p6 p8 p4 p7
        go_wp2_with fail
        refine (refPut_any W _ _ _ ks k _ Ha.out (by omega) Hf.out.len hlt).mono ?_
        rintro e w5 ⟨g5, rfl, hg5, hr5, hb5⟩
        rw [show (Bs.put ks k).length = Bs.nw W from by rw [Bs.length_put]; exact Hf.out.len]
        obtain ⟨⟨v0, v1, m0, m1, f0, f1⟩, hfin⟩ := HG4.out.kill (Bs.fit_put Hf.out hlt) hg5 hr5 hb5
        have Hfin := hid hfin
        clear hfin hr5 hb5 c0 c1 c2 c3 c4
        go_wp2_with fail
        go_roundw
        case rel => exact ⟨k + 1, by omega, by go_num, Hfin⟩
        case measure => simp [intOf]; omega
      · have t2 : (r4 == 2) = false := by simp [h2]
        have t3 : (r4 == 3) = false := by simp [h3]
        clear h2 h3
        go_wp2_with fail
        go_roundw
        case rel => exact ⟨k + 1, by omega, by go_num, HG4⟩
        case measure => simp [intOf]; omega
  · have hkW : W = k := by omega
    subst hkW
    clear hk
    go_wp2_with fail
    go_loopw [7, 8] (fun i _ wr => ∃ a : Nat, a ≤ W ∧ i = .int .i64 a ∧ Hid (∃ cs : List (Int × Int), Gening w T b W cs wr ∧ Upto W cs a 0 ∧ cs.length ≤ 12)) (fun i _ _ => W - (intOf i).toNat)
    case atStart => exact ⟨0, by omega, rfl, [], hG.out, ⟨fun i hi => by simp at hi, fun p hp => by simp at hp⟩, by simp⟩
    case round =>
     clear hG
     obtain ⟨a, ha, rfl, hG⟩ := hrel
     by_cases hla : a < W
     · go_wp2_with fail
       go_loopw [8] (fun i wr => ∃ c : Nat, c ≤ W ∧ i = .int .i64 c ∧ Hid (∃ cs : List (Int × Int), Gening w T b W cs wr ∧ Upto W cs a c ∧ cs.length ≤ 12)) (fun i _ => W - (intOf i).toNat)
       case atStart => exact ⟨0, by omega, rfl, hG⟩
       case round =>
        clear hG
        obtain ⟨c, hc, rfl, hG⟩ := hrel
        by_cases hlc : c < W
        · obtain ⟨cs, hG1, hU, h12⟩ := hG.out
          obtain ⟨C, q, c4, f4, hC, hbl, hpush⟩ := hG1.slice
          have Htt := hid (show Tape wr T from by obtain ⟨_, _, _, _, _, _, _, _, _, _, _, _, h, _⟩ := hG1; exact h)
          have HG1 := hid hG1; have HU := hid hU
          clear hG1 hU hG hC hpush f4
          by_cases hl : cs.length < 12
          · go_wp2_with fail
            refine (next_any T (2 * (W : Int)) _ Htt.out (by omega)).mono ?_
            rintro e w4 ⟨r4, rfl, h40, h41, ht4, hg4, hs4⟩
            have HG4 := hid (HG1.out.tape ht4 hg4)
            clear h41 ht4 hg4 hs4 Htt HG1 c4
            by_cases h1 : r4 = 1
            · have t : (r4 == 1) = true := by simp [h1]
              clear h1
              obtain ⟨C, q, c4, f4, hC, hbl4, hpush⟩ := HG4.out.slice
              have HC := hid hC; have Hpush := hid hpush
              clear hC hpush
              go_wp2_with (first
               | (at_builtin
                  refine wpList_append_own _ rfl _ _ 59 rfl (b + 1) 58 i0 _ 2 16 Tryz.underlying59 Hi.out Hz0.out Hz1.out Hz2.out rfl (by decide) (.slice C cs.length q) cs.length (pairs cs) rfl (HC.out.alloc _) ⟨w4.heap.size, 0, none⟩ 1 1 [.int .i64 (a : Int), .int .i64 (c : Int)] rfl rfl (two_new _ _ _ _) (by intro u hu; simp at hu; rcases hu with rfl | rfl <;> rfl) (by unfold maxLen; omega) (by omega) (by rw [World.size_alloc]; omega) ?_
                  intro v' w3 hown3 hgr3 hnil3
                  obtain ⟨C3, q3, rfl, ⟨y0, y1⟩, hK3⟩ := Hpush.out _ _ _ _ _ hown3 hgr3
                  have HK3 := hid hK3
                  clear hown3 hgr3 hnil3 hK3))
              go_roundw
              case rel => exact ⟨c + 1, by omega, by go_num, _, HK3.out, HU.out.push hla hlc, by rw [List.length_append, List.length_singleton]; omega⟩
              case measure => simp [intOf]; omega
            · have t : (r4 == 1) = false := by simp [h1]
              clear h1
              go_wp2_with fail
              go_roundw
              case rel => exact ⟨c + 1, by omega, by go_num, cs, HG4.out, HU.out.step, h12⟩
              case measure => simp [intOf]; omega
          · go_wp2_with fail
            go_roundw
            case rel => exact ⟨a + 1, by omega, by go_num, cs, HG1.out, (show Upto W cs ((a + 1 : Nat) : Int) 0 from by have := HU.out.row; exact this), h12⟩
            case measure => simp [intOf]; omega
        · obtain ⟨cs, hG1, hU, h12⟩ := hG.out
          have HG1 := hid hG1; have HU := hid hU
          clear hG1 hU hG
          go_wp2_with fail
          go_roundw
          case rel => exact ⟨a + 1, by omega, by go_num, cs, HG1.out, (show Upto W cs ((a + 1 : Nat) : Int) 0 from by have := HU.out.row; exact this), h12⟩
          case measure => simp [intOf]; omega
     · have haW : W = a := by omega
       subst haW
       obtain ⟨cs, hG1, hU, h12⟩ := hG.out
       obtain ⟨g1', g2', C, q, ⟨c0, c1, c2, c3, c4⟩, ⟨⟨r0, r1, r2, r3, r4⟩, f0, f1, f2, f3, f4⟩, hlR, hfin⟩ := hG1.done3 (by omega) hU h12
       have Hfin := hid hfin
       clear hfin hG1 hU h12 hG
       go_wp2_with fail
       refine bodyPost_ret (v := .agg #[.int .i64 W, .slice (some ⟨g1', 0, none⟩) (Bs.nw W) (Bs.nw W), .int .i64 W, .slice (some ⟨g2', 0, none⟩) (Bs.nw W) (Bs.nw W), .slice C cs.length q]) (by simp [results, Tryz.results39, go_sem, r0, r1, r2, r3, r4]) rfl ?_
       exact Hfin.out
def GenS3 (w : World) (T W : Nat) (e : Ending) (w' : World) : Prop :=
 ∃ (g : Nat) (ws : List Nat), e = .returned (.agg #[.int .i64 W, .slice (some ⟨g, 0, none⟩) (Bs.nw W) (Bs.nw W)]) ∧ Bs.Fit W ws ∧ Row w' g ws ∧ w.heap.size ≤ g ∧ Tape w' T ∧ w.grownBy w' (some T)
set_option maxHeartbeats 1600000 in
theorem set3_any (T W : Nat) (w : World) (ht : Tape w T) (hW : W ≤ 256) : Calls Tryz.prog 38 #[.pointer (some ⟨T, 0, none⟩), .int .i64 W] w (GenS3 w T W) := by
 have Ht := hid ht
 have hTl := ht.lt
 clear ht
 go_enter Tryz.func38, Tryz.ntmps38
 go_wp2_with fail
 refine (refEmpty_any W _ (by omega)).mono ?_
 rintro e w2 ⟨g, rfl, hg, hrow, hb2⟩
 rw [len_emp]
 have hz2 := hb2.size
 rw [World.size_alloc] at hz2 hg
 have hinv : Growing w T w2.heap.size w.heap.size W (w2.alloc (.cells #[.int .i64 W, .slice (some ⟨g, 0, none⟩) (Bs.nw W) (Bs.nw W)] 49)) :=
  ⟨g, Bs.emp W, Bs.fit_emp W, Box.new _ _ _ _ _, hrow.alloc _, by omega, ((Box.new w 0 none 0 0).below hb2 (by simp)).alloc _, ((Ht.out.alloc _).below hb2 (by rw [World.size_alloc]; omega)).alloc _,
    grown_trans (grown_trans (grown_of_below ((Below.refl _ _).alloc (Nat.le_refl _) _) _) (grown_of_below hb2 _)) (grown_of_below ((Below.refl _ _).alloc (Nat.le_refl _) _) _)⟩
 have Hinv := hid hinv
 clear hinv hrow hb2 hg
 go_wp2_with fail
 go_loopw [6] (fun i wr => ∃ k : Nat, k ≤ W ∧ i = .int .i64 k ∧ Hid (Growing w T w2.heap.size w.heap.size W wr)) (fun i _ => W - (intOf i).toNat)
 case atStart => exact ⟨0, by omega, rfl, Hinv⟩
 case round =>
  obtain ⟨k, hk, rfl, hG⟩ := hrel
  by_cases hlt : k < W
  · have htt : Tape wr T := by obtain ⟨g, ws, h1, h2, h3, h4, h5, h6, h7⟩ := hG.out; exact h6
    have Htt := hid htt
    clear htt
    go_wp2_with fail
    refine (next_any T 3 _ Htt.out (by omega)).mono ?_
    rintro e w4 ⟨r4, rfl, h40, h41, ht4, hg4, hs4⟩
    have hG4 := hid (hG.out.tape ht4 hg4 hTl (by omega) (by omega))
    clear h41 ht4 hg4 hs4
    by_cases h1 : r4 = 1
    · have t : (r4 == 1) = true := by simp [h1]
      clear h1
      obtain ⟨g2, ws, hfit, hbox, hrow, hgg, hbr, htt4, hgr⟩ := hG4.out
      have hc0 := hbox.c0
      have hc1 := hbox.c1
      have Hfit := hid hfit; have Hrow := hid hrow; have Hbox := hid hbox
      clear hfit hbox hrow hgg hbr htt4 hgr
      go_wp2_with fail
      refine (refPut_any W _ _ _ ws k _ ⟨(Row.arg Hrow.out Hfit.out.ok).lies, Hfit.out.len, Hfit.out.ok⟩ (by omega) Hfit.out.len hlt).mono ?_
      rintro e w5 ⟨g5, rfl, hg5, hrow5, hb5⟩
      obtain ⟨⟨hc50, hc51⟩, hf50, hf51⟩ := box_stores Hbox.out hb5
      have hfin := hG4.out.put hTl (by omega) (by omega) (Bs.fit_put Hfit.out hlt) hg5 hrow5 hb5
      rw [show (Bs.put ws k).length = Bs.nw W from by rw [Bs.length_put]; exact Hfit.out.len]
      have Hfin := hid hfin
      clear hfin hrow5 hb5
      go_wp2_with fail
      go_roundw
      case rel => exact ⟨k + 1, by omega, by go_num, Hfin⟩
      case measure => simp [intOf]; omega
    · have t : (r4 == 1) = false := by simp [h1]
      clear h1
      go_wp2_with fail
      go_roundw
      case rel => exact ⟨k + 1, by omega, by go_num, hG4⟩
      case measure => simp [intOf]; omega
  · have hkW : k = W := by omega
    subst hkW
    obtain ⟨g2, ws, hfit, hbox, hrow, hgg, hbr, htt, hgr⟩ := hG.out
    have hb0 := hbox.c0
    have hb1 := hbox.c1
    have hc0 := hbr.c0
    have hc1 := hbr.c1
    have hf0 := hbr.f 0
    have hf1 := hbr.f 1
    have hgl := hrow.lt
    have hne := hbr.row_ne hrow
    have Hrow := hid hrow; have Hfit := hid hfit; have Htt := hid htt; have Hgr := hid hgr; have Hbr := hid hbr; have Hgg := hid hgg
    clear hrow hfit htt hgr hbr hbox hgg
    go_wp2
    refine bodyPost_ret (v := .agg #[.int .i64 k, .slice (some ⟨g2, 0, none⟩) (Bs.nw k) (Bs.nw k)]) (by simp [results, Tryz.results38, go_sem, hc0, hc1]) rfl ⟨_, ws, rfl, Hfit.out, ?_, Hgg.out, ?_, ?_⟩
    · exact (Hrow.out.far (p := ⟨w.heap.size, 0, none⟩) hne (.int .i64 k)).far (p := ⟨w.heap.size, 1, none⟩) hne (.slice (some ⟨g2, 0, none⟩) (Bs.nw k) (Bs.nw k))
    · exact (Htt.out.far (by simp; omega) _).far (by simp; omega) _
    · exact grown_set_new (grown_set_new Hgr.out (by simp) _) (by simp) _
end Go.Proofs.YtopkmeceakjocaaGreat
namespace Go.Proofs.YtopkmeceakjocaaGreat
set_option maxRecDepth 20000
set_option linter.unusedVariables false
set_option linter.unusedSimpArgs false
open Go.ChangeShapes Go.WideShapes Go.ChangeAt Go.RowKit
def Typ (w : World) (g t : Nat) : Prop := ∃ cs m, w.heap[g]? = some (.cells cs t m)
theorem Typ.ne {w : World} {g g' t t' : Nat} (h : Typ w g t) (h' : Typ w g' t') (ht : t ≠ t') : g ≠ g' := by
 rintro rfl
 obtain ⟨cs, m, h⟩ := h
 obtain ⟨cs', m', h'⟩ := h'
 rw [h] at h'
 injection h' with h'
 injection h' with _ h2
 exact ht h2
theorem Fb.typ {w : World} {g t : Nat} {cs : Array Value} (h : Fb w g cs t) : Typ w g t := ⟨cs, _, h⟩
theorem Row.typ {w : World} {g : Nat} {ws : List Nat} (h : Row w g ws) : Typ w g 106 := ⟨_, _, h⟩
theorem Tape.typ {w : World} {T : Nat} (h : Tape w T) : Typ w T 80 := by
 obtain ⟨A, n, c, k, zs, h, _⟩ := h
 exact ⟨_, _, h⟩
theorem own_typ {w : World} {base ty k n : Nat} {v : Value} {xs : List Value} (h : w.ownsRow base ty k v n xs) {g : Nat} (hg : v.ownBlock = some g) : Typ w g ty := by
 rcases h.2 with ⟨rfl, _⟩ | ⟨g', cap, cur, rfl, _, h', _⟩
 · cases hg
 · obtain rfl := Option.some.inj hg
   exact ⟨_, _, h'⟩
theorem own_noteq {w : World} {base ty k n : Nat} {v : Value} {xs : List Value} (h : w.ownsRow base ty k v n xs) {g t : Nat} (hg : Typ w g t) (ht : t ≠ ty) : v.ownBlock = none ∨ v.ownBlock ≠ some g := by
 cases hv : v.ownBlock with
 | none => exact .inl rfl
 | some k => exact .inr fun e => hg.ne (own_typ h (hv.trans e)) ht rfl
theorem own_slice3 {w : World} {base ty k n : Nat} {v : Value} {xs : List Value} (h : w.ownsRow base ty k v n xs) : ∃ (A : Option Addr) (c : Nat), v = .slice A n c := by
 rcases h.2 with ⟨rfl, rfl⟩ | ⟨g', cap, cur, rfl, _, h', _⟩
 · exact ⟨_, _, rfl⟩
 · exact ⟨_, _, rfl⟩
def Stp1 (t : Nat) (w w' : World) : Prop := ∃ row, w.grownBy w' row ∧ ∀ g, row = some g → Typ w g t
theorem Stp1.below {t : Nat} {w w' : World} (h : Below w.heap.size w w') : Stp1 t w w' := ⟨none, grown_of_below h _, fun g h => by cases h⟩
theorem Stp1.refl (t : Nat) (w : World) : Stp1 t w w := Stp1.below (Below.refl _ _)
theorem Stp1.block {t t' : Nat} {w w' : World} (h : Stp1 t w w') {g : Nat} (hg : Typ w g t') (ht : t' ≠ t) (hlt : g < w.heap.size) : w'.heap[g]? = w.heap[g]? := by
 obtain ⟨row, h1, h2⟩ := h
 exact h1.block g hlt fun e => hg.ne (h2 g e.symm) ht rfl
theorem Typ.lt {w : World} {g t : Nat} (h : Typ w g t) : g < w.heap.size := by
 obtain ⟨cs, m, h⟩ := h
 rcases Nat.lt_or_ge g w.heap.size with hlt | hge
 · exact hlt
 · rw [Array.getElem?_eq_none hge] at h; cases h
theorem Stp1.fb {t t' : Nat} {w w' : World} (h : Stp1 t w w') {g : Nat} {cs : Array Value} (hf : Fb w g cs t') (ht : t' ≠ t) : Fb w' g cs t' := (h.block hf.typ ht hf.lt).trans hf
theorem Stp1.row {t : Nat} {w w' : World} (h : Stp1 t w w') {g : Nat} {ws : List Nat} (hf : Row w g ws) (ht : 106 ≠ t) : Row w' g ws := (h.block hf.typ ht hf.lt).trans hf
theorem Stp1.own {t base ty k n : Nat} {w w' : World} {v : Value} {xs : List Value} (h : Stp1 t w w') (ho : w.ownsRow base ty k v n xs) (ht : ty ≠ t) : w'.ownsRow base ty k v n xs := by
 obtain ⟨row, h1, h2⟩ := h
 refine ho.kept h1 ?_
 cases hv : v.ownBlock with
 | none => exact .inl rfl
 | some g => exact .inr fun e => (own_typ ho hv).ne (h2 g e.symm) ht rfl
structure GrX (w : World) (ex : List (Option Nat)) (u : World) : Prop where
 os : u.os = w.os
 tape : u.tape = w.tape
 output : u.output = w.output
 size : w.heap.size ≤ u.heap.size
 block : ∀ k, k < w.heap.size → some k ∉ ex → u.heap[k]? = w.heap[k]?
theorem GrX.refl (w : World) (ex : List (Option Nat)) : GrX w ex w := ⟨rfl, rfl, rfl, Nat.le_refl _, fun _ _ _ => rfl⟩
theorem GrX.step {w u u' : World} {ex : List (Option Nat)} {row : Option Nat} (h : GrX w ex u) (hg : u.grownBy u' row) (hr : ∀ g, row = some g → row ∈ ex ∨ w.heap.size ≤ g) : GrX w ex u' :=
 ⟨hg.os.trans h.os, hg.tape.trans h.tape, hg.output.trans h.output, Nat.le_trans h.size hg.size, fun k hk hne => (hg.block k (by have := h.size; omega) fun e => by
   rcases hr k e.symm with h1 | h1
   · exact hne (e ▸ h1)
   · omega).trans (h.block k hk hne)⟩
theorem GrX.below {w u u' : World} {ex : List (Option Nat)} (h : GrX w ex u) (hb : Below u.heap.size u u') : GrX w ex u' := h.step (grown_of_below hb none) (fun g e => by cases e)
theorem GrX.go {w u : World} {ex ex' : List (Option Nat)} (h : GrX w ex u) (he : ∀ k, k < w.heap.size → some k ∈ ex' → some k ∈ ex) : Go2 w ex u ex' := fun k hk =>
 ⟨h.block k hk.1 hk.2, by have := h.size; have := hk.1; omega, fun h' => hk.2 (he k hk.1 h')⟩
theorem GrX.grown {w0 w u : World} {ex : List (Option Nat)} {T : Nat} (h : GrX w ex u) (h0 : w0.grownBy w (some T)) (hex : ∀ k, some k ∈ ex → k = T ∨ w0.heap.size ≤ k) : w0.grownBy u (some T) :=
 ⟨h.os.trans h0.os, h.tape.trans h0.tape, h.output.trans h0.output, Nat.le_trans h0.size h.size, fun k hk hne => by
   have := h0.size
   refine (h.block k (by omega) fun hm => ?_).trans (h0.block k hk hne)
   rcases hex k hm with h1 | h1
   · exact hne (by rw [h1])
   · omega⟩
structure Ft (u : World) (W : Nat) (F : FH) : Prop where
 gen : ∃ g, F.G.A = some ⟨g, 0, none⟩ ∧ Row u g F.G.ws
 kill : ∃ g, F.K.A = some ⟨g, 0, none⟩ ∧ Row u g F.K.ws
 cops : ∃ b, u.ownsRow b 58 2 (.slice F.C F.k F.q) F.k (pairs F.cs)
 g1 : F.G.W = W ∧ Bs.Fit W F.G.ws ∧ F.G.n = Bs.nw W
 k1 : F.K.W = W ∧ Bs.Fit W F.K.ws ∧ F.K.n = Bs.nw W
 c1 : F.cs.length = F.k ∧ F.k ≤ 12
 ok : validT W F.G.ws W F.K.ws F.cs = true
theorem Stp1.ft {t : Nat} {u u' : World} {W : Nat} {F : FH} (h : Stp1 t u u') (hf : Ft u W F) (h1 : 106 ≠ t) (h2 : 58 ≠ t) : Ft u' W F := by
 obtain ⟨⟨g, a1, a2⟩, ⟨g', b1, b2⟩, ⟨b, c⟩, r1, r2, r3, r4⟩ := hf
 exact ⟨⟨g, a1, h.row a2 h1⟩, ⟨g', b1, h.row b2 h1⟩, ⟨b, h.own c h2⟩, r1, r2, r3, r4⟩
theorem Ft.fh {u : World} {W : Nat} {F : FH} {ex : List (Option Nat)} (h : Ft u W F) (hex : ∀ k, some k ∈ ex → ¬ Typ u k 106 ∧ ¬ Typ u k 58) : FHok u ex F := by
 obtain ⟨⟨g, a1, a2⟩, ⟨g', b1, b2⟩, ⟨b, c⟩, ⟨_, f1, n1⟩, ⟨_, f2, n2⟩, ⟨l1, _⟩, _⟩ := h
 refine ⟨⟨?_, by rw [f1.len, n1], f1.ok⟩, ⟨?_, by rw [f2.len, n2], f2.ok⟩, EAt.own c fun k hk hm => (hex k hm).2 (own_typ c hk), l1⟩
 · rw [a1]; exact EAt.fb a2 (fun hm => (hex g hm).1 a2.typ) (fun j x hx => by simpa using hx)
 · rw [b1]; exact EAt.fb b2 (fun hm => (hex g' hm).1 b2.typ) (fun j x hx => by simpa using hx)
end Go.Proofs.YtopkmeceakjocaaGreat
namespace Go.Proofs
open Go.Shelf
def Tryz.sortC_ren : Go.Shelf.Ren := ⟨fun | 6 => 177 | 15 => 119 | 14 => 191 | 28 => 149 | 29 => 150 | 20 => 196 | 21 => 197 | 22 => 198 | 23 => 199 | 24 => 200 | 25 => 201 | 26 => 202 | 27 => 203 | 46 => 205 | 47 => 171 | 48 => 172 | 49 => 206 | 50 => 207 | 57 => 208 | n => n, fun | 22 => 59 | 24 => 58 | 25 => 183 | 3 => 3 | 39 => 120 | 0 => 0 | 53 => 169 | 55 => 106 | 4 => 4 | 46 => 176 | 45 => 175 | 50 => 100 | 5 => 5 | 9 => 9 | 66 => 194 | 70 => 198 | 76 => 207 | 77 => 208 | n => n, fun | n => n⟩
theorem Tryz.sortC : Go.Proofs.SlLaysF0.n6 Tryz.prog Tryz.sortC_ren := {
 mixed := by kernel_rfl
 f6 := ⟨Tryz.f177.name, by decide, Tryz.func177.trans (congrArg some (by kernel_rfl))⟩
 f14 := ⟨Tryz.f191.name, by decide, Tryz.func191.trans (congrArg some (by kernel_rfl))⟩
 f15 := Tryz.func119.trans (congrArg some (by kernel_rfl))
 f20 := ⟨Tryz.f196.name, by decide, Tryz.func196.trans (congrArg some (by kernel_rfl))⟩
 f21 := ⟨Tryz.f197.name, by decide, Tryz.func197.trans (congrArg some (by kernel_rfl))⟩
 f22 := ⟨Tryz.f198.name, by decide, Tryz.func198.trans (congrArg some (by kernel_rfl))⟩
 f23 := ⟨Tryz.f199.name, by decide, Tryz.func199.trans (congrArg some (by kernel_rfl))⟩
 f24 := ⟨Tryz.f200.name, by decide, Tryz.func200.trans (congrArg some (by kernel_rfl))⟩
 f25 := ⟨Tryz.f201.name, by decide, Tryz.func201.trans (congrArg some (by kernel_rfl))⟩
 f26 := ⟨Tryz.f202.name, by decide, Tryz.func202.trans (congrArg some (by kernel_rfl))⟩
 f27 := ⟨Tryz.f203.name, by decide, Tryz.func203.trans (congrArg some (by kernel_rfl))⟩
 f28 := Tryz.func149.trans (congrArg some (by kernel_rfl))
 f29 := Tryz.func150.trans (congrArg some (by kernel_rfl))
 f46 := ⟨Tryz.f205.name, by decide, Tryz.func205.trans (congrArg some (by kernel_rfl))⟩
 f47 := Tryz.func171.trans (congrArg some (by kernel_rfl))
 f48 := Tryz.func172.trans (congrArg some (by kernel_rfl))
 f49 := ⟨Tryz.f206.name, by decide, Tryz.func206.trans (congrArg some (by kernel_rfl))⟩
 f50 := ⟨Tryz.f207.name, by decide, Tryz.func207.trans (congrArg some (by kernel_rfl))⟩
 f57 := ⟨Tryz.f208.name, by decide, Tryz.func208.trans (congrArg some (by kernel_rfl))⟩
 t0 := Tryz.underlying0
 a0 := Tryz.isAgg0
 z0 := Tryz.sizeOf0
 v0 := Tryz.zeroValue0
 t3 := Tryz.underlying3
 a3 := Tryz.isAgg3
 z3 := Tryz.sizeOf3
 v3 := Tryz.zeroValue3
 t4 := Tryz.underlying4
 a4 := Tryz.isAgg4
 z4 := Tryz.sizeOf4
 v4 := Tryz.zeroValue4
 t5 := Tryz.underlying5
 a5 := Tryz.isAgg5
 z5 := Tryz.sizeOf5
 v5 := Tryz.zeroValue5
 t9 := Tryz.underlying9
 a9 := Tryz.isAgg9
 z9 := Tryz.sizeOf9
 v9 := Tryz.zeroValue9
 t22 := Tryz.underlying59
 a22 := Tryz.isAgg59
 z22 := Tryz.sizeOf59
 v22 := Tryz.zeroValue59
 t25 := Tryz.underlying183
 a25 := Tryz.isAgg183
 z25 := Tryz.sizeOf183
 v25 := Tryz.zeroValue183
 t39 := Tryz.underlying120
 a39 := Tryz.isAgg120
 z39 := Tryz.sizeOf120
 v39 := Tryz.zeroValue120
 t45 := Tryz.underlying175
 a45 := Tryz.isAgg175
 z45 := Tryz.sizeOf175
 v45 := Tryz.zeroValue175
 t46 := Tryz.underlying176
 a46 := Tryz.isAgg176
 z46 := Tryz.sizeOf176
 v46 := Tryz.zeroValue176
 t50 := Tryz.underlying100
 a50 := Tryz.isAgg100
 z50 := Tryz.sizeOf100
 v50 := Tryz.zeroValue100
 t53 := Tryz.underlying169
 a53 := Tryz.isAgg169
 z53 := Tryz.sizeOf169
 v53 := Tryz.zeroValue169
 t55 := Tryz.underlying106
 a55 := Tryz.isAgg106
 z55 := Tryz.sizeOf106
 v55 := Tryz.zeroValue106
 t66 := Tryz.underlying194
 a66 := Tryz.isAgg194
 z66 := Tryz.sizeOf194
 v66 := Tryz.zeroValue194
 t70 := Tryz.underlying198
 a70 := Tryz.isAgg198
 z70 := Tryz.sizeOf198
 v70 := Tryz.zeroValue198
 t76 := Tryz.underlying207
 a76 := Tryz.isAgg207
 z76 := Tryz.sizeOf207
 v76 := Tryz.zeroValue207
 t77 := Tryz.underlying208
 a77 := Tryz.isAgg208
 z77 := Tryz.sizeOf208
 v77 := Tryz.zeroValue208 }
end Go.Proofs
namespace Go.Proofs.YtopkmeceakjocaaGreat
set_option maxRecDepth 20000
set_option linter.unusedSimpArgs false
open Go.ChangeShapes Go.WideShapes Go.ChangeAt Go.RowKit
def cmpI (a b : Int) : Int := if a < b then -1 else if b < a then 1 else 0
def orI (a b : Int) : Int := if a ≠ 0 then a else b
def cmpC (p q : Int × Int) : Int := orI (cmpI p.1 q.1) (cmpI p.2 q.2)
theorem isNaN_any (a : Int) (w : World) : Calls Tryz.prog 122 #[.int .i64 a] w fun e w' => e = .returned (.bool false) ∧ w = w' := by
 go_enter Tryz.func122, Tryz.ntmps122
 go_wp2
 go_ret
 exact ⟨rfl, rfl⟩
theorem cmpI_any (a b : Int) (w : World) : Calls Tryz.prog 155 #[.int .i64 a, .int .i64 b] w fun e w' => e = .returned (.int .i64 (cmpI a b)) ∧ w = w' := by
 unfold cmpI
 by_cases h1 : a < b
 · go_enter Tryz.func155, Tryz.ntmps155
   go_wp2_with (go_at_call 122; refine (isNaN_any _ _).mono ?_; rintro e w' ⟨rfl, rfl⟩)
   go_ret
   exact ⟨ret_int (by simp [h1]), rfl⟩
 · by_cases h2 : b < a
   · go_enter Tryz.func155, Tryz.ntmps155
     go_wp2_with (go_at_call 122; refine (isNaN_any _ _).mono ?_; rintro e w' ⟨rfl, rfl⟩)
     go_ret
     exact ⟨ret_int (by simp [h1, h2]), rfl⟩
   · go_enter Tryz.func155, Tryz.ntmps155
     go_wp2_with (go_at_call 122; refine (isNaN_any _ _).mono ?_; rintro e w' ⟨rfl, rfl⟩)
     go_ret
     exact ⟨ret_int (by simp [h1, h2]), rfl⟩
theorem orI_any (a b : Int) (g c : Nat) (w : World) (h0 : w.cell? ⟨g, 0, none⟩ = some (.int .i64 a)) (h1 : w.cell? ⟨g, 1, none⟩ = some (.int .i64 b)) :
 Calls Tryz.prog 175 #[.slice (some ⟨g, 0, none⟩) 2 c] w fun e w' => e = .returned (.int .i64 (orI a b)) ∧ w = w' := by
 unfold orI
 by_cases ha : a = 0
 · subst ha
   by_cases hb : b = 0
   · subst hb
     go_enter Tryz.func175, Tryz.ntmps175
     go_wp2
     go_loopw [8] (fun i wr => ∃ k : Nat, k ≤ 2 ∧ i = .int .i64 k ∧ wr = w) (fun i _ => 2 - (intOf i).toNat)
     case atStart => exact ⟨0, by omega, rfl, rfl⟩
     case round =>
      obtain ⟨k, hk, rfl, hw⟩ := hrel
      subst wr
      rcases (by omega : k = 0 ∨ k = 1 ∨ k = 2) with rfl | rfl | rfl
      · go_wp2
        go_roundw
        case rel => exact ⟨1, by omega, rfl, by trivial⟩
        case measure => simp [intOf]
      · go_wp2
        go_roundw
        case rel => exact ⟨2, by omega, rfl, by trivial⟩
        case measure => simp [intOf]
      · go_wp2
        go_ret
        exact ⟨rfl, rfl⟩
   · go_enter Tryz.func175, Tryz.ntmps175
     go_wp2
     go_loopw [8] (fun i wr => ∃ k : Nat, k ≤ 1 ∧ i = .int .i64 k ∧ wr = w) (fun i _ => 2 - (intOf i).toNat)
     case atStart => exact ⟨0, by omega, rfl, rfl⟩
     case round =>
      obtain ⟨k, hk, rfl, hw⟩ := hrel
      subst wr
      rcases (by omega : k = 0 ∨ k = 1) with rfl | rfl
      · go_wp2
        go_roundw
        case rel => exact ⟨1, by omega, rfl, by trivial⟩
        case measure => simp [intOf]
      · go_wp2
        go_ret
        exact ⟨rfl, rfl⟩
 · go_enter Tryz.func175, Tryz.ntmps175
   go_wp2
   go_loopw [8] (fun i wr => i = .int .i64 0 ∧ wr = w) (fun i _ => 2 - (intOf i).toNat)
   case atStart => exact ⟨rfl, rfl⟩
   case round =>
    obtain ⟨rfl, hw⟩ := hrel
    subst wr
    go_wp2
    go_ret
    exact ⟨ret_int (by simp [ha]), rfl⟩
theorem compare_any (p1 p2 q1 q2 : Int) (w : World) :
 Calls Tryz.prog 152 #[.agg #[.int .i64 p1, .int .i64 p2], .agg #[.int .i64 q1, .int .i64 q2]] w fun e w' => e = .returned (.int .i64 (cmpC (p1, p2) (q1, q2))) ∧ (∃ n a b c, w' = (((w.alloc a).alloc b).drewN n).alloc c) ∧ Below w.heap.size w w' := by
 have e0 : cmpC (p1, p2) (q1, q2) = orI (cmpI p1 q1) (cmpI p2 q2) := rfl
 rw [e0]
 have h2 : ∀ j u, (#[Value.int .i64 q1, .int .i64 q2] : Array Value)[j]? = some u → ((w.alloc (.cells #[.int .i64 p1, .int .i64 p2] 58)).alloc (.cells #[.int .i64 q1, .int .i64 q2] 58)).cell? ⟨w.heap.size + 1, j, none⟩ = some u := fun j u h => by
  have := (Fb.new (w.alloc (.cells #[.int .i64 p1, .int .i64 p2] 58)) #[.int .i64 q1, .int .i64 q2] 58).cell j
  rw [World.size_alloc] at this
  rw [this, h]
 have h1 : ∀ j u, (#[Value.int .i64 p1, .int .i64 p2] : Array Value)[j]? = some u → ((w.alloc (.cells #[.int .i64 p1, .int .i64 p2] 58)).alloc (.cells #[.int .i64 q1, .int .i64 q2] 58)).cell? ⟨w.heap.size, j, none⟩ = some u := fun j u h => by
  have := ((Fb.new w #[.int .i64 p1, .int .i64 p2] 58).alloc (.cells #[.int .i64 q1, .int .i64 q2] 58)).cell j
  rw [this, h]
 have a0 := h1 0 (.int .i64 p1) rfl
 have a1 := h1 1 (.int .i64 p2) rfl
 have b0 := h2 0 (.int .i64 q1) rfl
 have b1 := h2 1 (.int .i64 q2) rfl
 have Hb := hid (((Below.refl w.heap.size w).alloc (Nat.le_refl _) (.cells #[.int .i64 p1, .int .i64 p2] 58)).alloc (by simp) (.cells #[.int .i64 q1, .int .i64 q2] 58))
 have He := hid (show ((w.alloc (.cells #[.int .i64 p1, .int .i64 p2] 58)).alloc (.cells #[.int .i64 q1, .int .i64 q2] 58)) = (w.alloc (.cells #[.int .i64 p1, .int .i64 p2] 58)).alloc (.cells #[.int .i64 q1, .int .i64 q2] 58) from rfl)
 clear h1 h2
 go_enter Tryz.func152, Tryz.ntmps152
 go_wp2_with fail
 generalize hv : ((w.alloc (.cells #[.int .i64 p1, .int .i64 p2] 58)).alloc (.cells #[.int .i64 q1, .int .i64 q2] 58)) = v at a0 a1 b0 b1 Hb ⊢
 have Hv := hid hv
 clear hv
 refine wp_region_still_tail 10 (by kernel_rfl) (by kernel_rfl) ?_
 simp only [List.take_succ_cons, List.take_zero, List.drop_succ_cons, List.drop_zero]
 repeat still_step
 still_call ((cmpI_any _ _ _).mono (fun _ _ h => ⟨h.1, h.2.symm⟩))
 repeat still_step
 still_call ((cmpI_any _ _ _).mono (fun _ _ h => ⟨h.1, h.2.symm⟩))
 repeat still_step
 try refine wpStill_nil ?_
 change wpList _ _ _ _ _ v.drew
 have Hb2 := hid (below_drewN Hb.out 1)
 change Hid (Below w.heap.size w v.drew) at Hb2
 have Hv2 := hid (show v.drew = (((w.alloc (.cells #[.int .i64 p1, .int .i64 p2] 58)).alloc (.cells #[.int .i64 q1, .int .i64 q2] 58)).drewN 1) by rw [Hv.out]; rfl)
 clear a0 a1 b0 b1 Hb He Hv
 generalize v.drew = u at *
 go_wp2_with fail
 refine (orI_any _ _ _ _ _ (((Fb.new _ _ _).cell 0).trans rfl) (((Fb.new _ _ _).cell 1).trans rfl)).mono ?_
 rintro e w' ⟨rfl, rfl⟩
 go_wp2
 go_ret
 exact ⟨rfl, ⟨1, _, _, _, by rw [← Hv2.out]⟩, Hb2.out.alloc Hb2.out.size _⟩
def inB (W b : Int) : Bool := decide (0 ≤ b) && decide (b < W)
theorem tin_any (W V : Int) (A B C : Option Addr) (n c m d k q : Nat) (b : Int) (w : World) :
 Calls Tryz.prog 151 #[.agg #[.int .i64 W, .slice A n c, .int .i64 V, .slice B m d, .slice C k q], .int .i64 b] w fun e w' => e = .returned (.bool (inB W b)) ∧ Below w.heap.size w w' := by
 have hx := (Below.refl w.heap.size w).alloc (Nat.le_refl _) (.cells #[.int .i64 W, .slice A n c, .int .i64 V, .slice B m d, .slice C k q] 61)
 have Hx := hid hx
 clear hx
 unfold inB
 by_cases h1 : 0 ≤ b
 · by_cases h2 : b < W
   · go_enter Tryz.func151, Tryz.ntmps151
     go_wp2
     go_ret
     exact ⟨ret_bool (by simp; omega), Hx.out⟩
   · go_enter Tryz.func151, Tryz.ntmps151
     go_wp2
     go_ret
     exact ⟨ret_bool (by simp; omega), Hx.out⟩
 · go_enter Tryz.func151, Tryz.ntmps151
   go_wp2
   go_ret
   exact ⟨ret_bool (by simp; omega), Hx.out⟩
end Go.Proofs.YtopkmeceakjocaaGreat
namespace Go.Proofs.YtopkmeceakjocaaGreat
set_option maxRecDepth 20000
open Go.ChangeShapes Go.WideShapes Go.ChangeAt Go.RowKit
def encC (p : Int × Int) : List Value := [.int .i64 p.1, .int .i64 p.2]
theorem cmpC_lt (p q : Int × Int) : Go.Proofs.ltOf cmpC p q = beforeB p q := by
 unfold Go.Proofs.ltOf cmpC orI cmpI beforeB
 rcases Int.lt_trichotomy p.1 q.1 with h | h | h
 · simp [h]
 · rw [h]; simp
   rcases Int.lt_trichotomy p.2 q.2 with h2 | h2 | h2
   · simp [h2]
   · rw [h2]; simp
   · have := Int.not_lt.2 (Int.le_of_lt h2); simp [this, h2]
 · have h1 := Int.not_lt.2 (Int.le_of_lt h)
   have h3 : p.1 ≠ q.1 := by omega
   simp [h1, h, h3]
theorem before_irrefl (p : Int × Int) : beforeB p p = false := by unfold beforeB; simp
theorem before_trans {p q r : Int × Int} (h1 : beforeB p q = true) (h2 : beforeB q r = true) : beforeB p r = true := by
 unfold beforeB at *; simp at *; omega
theorem before_not {p q : Int × Int} (h1 : beforeB p q = false) (h2 : beforeB q p = false) : p = q := by
 unfold beforeB at *
 simp at h1 h2
 have e1 : p.1 = q.1 := by omega
 have e2 : p.2 = q.2 := by omega
 exact Prod.ext e1 e2
theorem swoC : Go.Sort.SWO (Go.Proofs.ltOf cmpC) where
 irrefl x := by rw [cmpC_lt]; exact before_irrefl x
 trans x y z h1 h2 := by rw [cmpC_lt] at *; exact before_trans h1 h2
 ntrans x y z h1 h2 := by
  rw [cmpC_lt] at *
  unfold beforeB at *
  simp at *
  omega
theorem world3 (w : World) (a b c : Obj) (n : Nat) : (((w.alloc a).alloc b).drewN n).alloc c = Go.Sort.grow (w.drewN n) #[a, b, c] := by
 unfold World.alloc World.drewN Go.Sort.grow
 have e : ((w.heap.push a).push b).push c = w.heap ++ #[a, b, c] := Array.toList_inj.1 (by simp)
 simp only [e]
theorem cmpLaysC (blk off size : Nat) (w : World) : Go.Proofs.CmpLays Tryz.prog 152 #[] encC 2 cmpC blk off size w := by
 intro m os dk hs x y
 generalize Go.Proofs.sortWorldK encC 2 w blk off m dk os = W
 refine (compare_any x.1 x.2 y.1 y.2 W).mono ?_
 rintro e w' ⟨he, ⟨n, a, b, c, hw⟩, _⟩
 exact ⟨he, n, #[a, b, c], hw.trans (world3 W a b c n)⟩
theorem flat_get (cs : List (Int × Int)) (t : Nat) (h : t < cs.length * 2) : (pairs cs)[t]? = some (Go.Sort.flatK encC 2 cs.toArray)[t]! := by
 rw [Go.Sort.get_flatK _ _ _ _ (by simpa using h)]
 have hq : t / 2 < cs.length := by omega
 have e : cs.toArray[t / 2]! = cs[t / 2] := by rw [getElem!_pos cs.toArray (t / 2) (by simpa using hq)]; simp
 rw [e]
 obtain ⟨h1, h2⟩ := pairs_get (List.getElem?_eq_getElem hq)
 generalize cs[t / 2] = p at h1 h2
 rcases (by omega : t % 2 = 0 ∨ t % 2 = 1) with h0 | h0
 · rw [h0]
   rw [show t / 2 * 2 = t from by omega] at h1
   exact h1
 · rw [h0]
   rw [show t / 2 * 2 + 1 = t from by omega] at h2
   exact h2
theorem holds_of_row {w : World} {g : Nat} {cur : Array Value} {cs : List (Int × Int)} (h1 : w.heap[g]? = some (.cells cur 58 (0, 0))) (h2 : cur.toList.take (cs.length * 2) = pairs cs) : Go.Sort.HoldsK encC 2 w g 0 cs.toArray := by
 intro j hj
 rw [Go.Sort.size_flatK] at hj
 have hj' : j < cs.length * 2 := by simpa using hj
 have hg := flat_get cs j hj'
 rw [← h2, List.getElem?_take, if_pos hj'] at hg
 refine ⟨?_, by simp [World.frozen?, h1]⟩
 simp only [World.cell?, h1]
 rw [Nat.zero_add]
 simpa using hg
theorem sorted_row {w : World} {g m : Nat} {cur : Array Value} {cs ds : List (Int × Int)} {os : Array Obj} (h1 : w.heap[g]? = some (.cells cur 58 (0, 0))) (h2 : cur.toList.take (cs.length * 2) = pairs cs) (hl : ds.length = cs.length) :
 (∃ cur', (Go.Proofs.sortWorldK encC 2 w g 0 m ds.toArray os).heap[g]? = some (.cells cur' 58 (0, 0)) ∧ cur'.size = cur.size ∧ cur'.toList.take (ds.length * 2) = pairs ds) ∧ w.grownBy (Go.Proofs.sortWorldK encC 2 w g 0 m ds.toArray os) (some g) := by
 have hg : g < w.heap.size := by
  rcases Nat.lt_or_ge g w.heap.size with h | h
  · exact h
  · rw [Array.getElem?_eq_none h] at h1; cases h1
 have hh := Go.Proofs.holdsK_sortWorldK_c encC 2 w g 0 cs.toArray ds.toArray m os (holds_of_row h1 h2) hg (by simp [hl])
 have hheap : (Go.Proofs.sortWorldK encC 2 w g 0 m ds.toArray os).heap[g]? = some (.cells (Go.Sort.putCells id 0 (Go.Sort.flatK encC 2 ds.toArray) cur) 58 (0, 0)) := by
  unfold Go.Proofs.sortWorldK Go.Sort.putRowK Go.Sort.putRow
  rw [Go.Sort.heap_grow_old _ _ (by simp [Go.Sort.mapBlock, Go.Sort.ahead]; exact hg)]
  simp only [Go.Sort.mapBlock, Go.Sort.ahead, Array.getElem?_modify, if_true, h1, Option.map_some, Go.Sort.onCells]
 refine ⟨⟨_, hheap, by simp [Go.Sort.putCells], ?_⟩, ?_⟩
 · apply List.ext_getElem?
   intro t
   by_cases ht : t < ds.length * 2
   · rw [List.getElem?_take, if_pos ht, flat_get ds t ht]
     have := (hh t (by rw [Go.Sort.size_flatK]; simpa using ht)).1
     rw [Nat.zero_add] at this
     simp only [World.cell?, hheap] at this
     simpa using this
   · rw [List.getElem?_take, if_neg ht, List.getElem?_eq_none (by rw [pairs_length]; omega)]
 · refine ⟨rfl, rfl, rfl, Go.Proofs.size_sortWorldK_c encC 2 w g 0 m ds.toArray os, fun k hk hne => ?_⟩
   unfold Go.Proofs.sortWorldK Go.Sort.putRowK Go.Sort.putRow
   rw [Go.Sort.heap_grow_old _ _ (by simp [Go.Sort.mapBlock, Go.Sort.ahead]; exact hk)]
   simp only [Go.Sort.mapBlock, Go.Sort.ahead, Array.getElem?_modify]
   rw [if_neg (by intro e; exact hne (by rw [e]))]
def srt (cs : List (Int × Int)) : List (Int × Int) := cs.mergeSort fun x y => !(Go.Proofs.ltOf cmpC) y x
theorem srt_perm (cs : List (Int × Int)) : (srt cs).Perm cs := List.mergeSort_perm _ _
theorem srt_len (cs : List (Int × Int)) : (srt cs).length = cs.length := (srt_perm cs).length_eq
theorem srt_sorted (cs : List (Int × Int)) : (srt cs).Pairwise fun x y => beforeB y x = false := by
 have h := List.pairwise_mergeSort (le := fun x y => !(Go.Proofs.ltOf cmpC) y x)
  (fun a b c h1 h2 => by
    simp only [cmpC_lt, Bool.not_eq_true'] at *
    unfold beforeB at *; simp at *; omega)
  (fun a b => by
    simp only [cmpC_lt]
    unfold beforeB; simp; omega) cs
 refine h.imp ?_
 intro a b hab
 simpa [cmpC_lt] using hab
theorem sort_any (base n : Nat) (v : Value) (cs : List (Int × Int)) (w : World) (hn : cs.length = n) (h : Cops w base v cs) (hb : n < 100000) :
 ∃ C q, v = .slice C n q ∧ Calls Tryz.prog 177 #[.slice C n q, .func (.func 152) #[] #[]] w fun e w' => e = .returned (.tuple #[]) ∧ Cops w' base v (srt cs) ∧ w.grownBy w' v.ownBlock := by
 obtain ⟨hl, h0 | ⟨g, cap, cur, rfl, hbg, h1, h2, h3, h4, h5⟩⟩ := h
 · obtain ⟨rfl, h0⟩ := h0
   have e0 : cs = [] := List.eq_nil_of_length_eq_zero h0
   subst e0
   simp at hn; subst hn
   refine ⟨none, 0, rfl, (Go.Proofs.AnyF.slices_SortFunc_none Tryz.sortC none 0 (.func (.func 152) #[] #[]) w).mono ?_⟩
   rintro e w' ⟨he, hw⟩
   subst hw
   exact ⟨he, by unfold srt; rw [List.mergeSort_nil]; exact World.ownsRow_nil _ _ _ _, grown_of_below (Below.refl _ _) _⟩
 · refine ⟨some ⟨g, 0, none⟩, cap, by rw [hn], ?_⟩
   have hg : g < w.heap.size := by
    rcases Nat.lt_or_ge g w.heap.size with h | h
    · exact h
    · rw [Array.getElem?_eq_none h] at h1; cases h1
   have eg : ∀ args w, (callFunc 152 args).run Tryz.prog w = .ok (.enter 152 args) w := enters_of Tryz.func152 (by kernel_rfl) rfl
   have hc := Go.Proofs.AnyQ.slices_SortFunc_total Tryz.sortC 2 Tryz.isAgg58 Tryz.sizeOf58 encC (fun _ => rfl) (fun x v hv => by simp [encC] at hv; rcases hv with rfl | rfl <;> rfl) cmpC swoC 152 #[] g 0 cap cs.toArray w eg (cmpLaysC g 0 _ w) (holds_of_row h1 h5) hg (by simp; omega)
    (fun x y a b => by rw [cmpC_lt] at a b; exact before_not a b)
   have hs : cs.toArray.size = n := by simp [hn]
   rw [hs] at hc
   refine (show Calls Tryz.prog 177 _ _ _ from hc).mono ?_
   rintro e w' ⟨he, m, os, hw⟩
   have hw2 : w' = Go.Proofs.sortWorldK encC 2 w g 0 m (srt cs).toArray os := by rw [hw]; rfl
   obtain ⟨⟨cur', k1, k2, k3⟩, hgr⟩ := sorted_row (ds := srt cs) (m := m) (os := os) h1 h5 (srt_len cs)
   rw [← hw2] at k1 hgr
   refine ⟨he, ⟨by rw [pairs_length]; omega, .inr ⟨g, cap, cur', by rw [srt_len], hbg, k1, by rw [srt_len]; exact h2, h3, by rw [k2, h4], k3⟩⟩, hgr⟩
def zs2 (n : Nat) : List Value := (Builtin.zeroCells #[.int .i64 0, .int .i64 0] n).toList
theorem zs2_len (n : Nat) : (zs2 n).length = n * 2 := by unfold zs2; simp [Builtin.zeroCells]
theorem zs2_one (n : Nat) : ∀ v ∈ zs2 n, v.oneCell' = true := by
 unfold zs2
 intro v hv
 simp [Builtin.zeroCells] at hv
 obtain ⟨a, ha, rfl⟩ := hv
 rcases (by omega : a % 2 = 0 ∨ a % 2 = 1) with h | h <;> simp [h, Value.oneCell']
theorem run_clear_pairs (w : World) (ty : TypeId) (b o n c : Nat) (hn : 0 < n)
 (hc : ∀ j, j < n * 2 → (w.cell? ⟨b, o + j, none⟩).isSome = true) (hf : ∀ j, j < n * 2 → w.frozen? ⟨b, o + j, none⟩ = false) :
 (Builtin.clear_ #[59] ty #[.slice (some ⟨b, o, none⟩) n c]).run Tryz.prog w = .ok (.tuple #[]) (w.setCells b o (zs2 n)) := by
 have hst := run_storeCells_cells (P := Tryz.prog) b o (zs2 n) 0 w (by rw [zs2_len]; simpa using hc) (by rw [zs2_len]; simpa using hf) (zs2_one n)
 simp only [Nat.add_zero] at hst
 obtain ⟨m, rfl⟩ : ∃ m, n = m + 1 := ⟨n - 1, by omega⟩
 unfold zs2 at hst ⊢
 simp [Builtin.clear_, run_underlying Tryz.underlying59, Tryz.zeroValue58, Value.cells, hst]
theorem flat_set (d : Array (Int × Int)) (i : Nat) (p : Int × Int) (hi : i < d.size) : Go.Sort.setMany (Go.Sort.flatK encC 2 d) (i * 2) (encC p) = Go.Sort.flatK encC 2 (d.setIfInBounds i p) := by
 refine Go.Sort.ext_get! (by simp) fun t ht => ?_
 have ht' : t < d.size * 2 := by simpa using ht
 rw [Go.Sort.get_setMany _ _ _ _ (by simpa using ht'), Go.Sort.get_flatK _ _ _ _ ht', Go.Sort.get_flatK _ _ _ _ (by simpa using ht')]
 by_cases h : i * 2 ≤ t ∧ t < i * 2 + (encC p).length
 · rw [if_pos h]
   have h' : t < i * 2 + 2 := h.2
   rw [show t / 2 = i from by omega, Go.Sort.getElem!_set_same d i p hi, show t - i * 2 = t % 2 from by omega]
 · rw [if_neg h]
   have h' : ¬(i * 2 ≤ t ∧ t < i * 2 + 2) := h
   rw [Go.Sort.getElem!_set_other d i (t / 2) p (by omega)]
theorem store_pair {w wr : World} {q g : Nat} {dk : Array (Int × Int)} {i : Nat} (hi : i < dk.size) (hwr : wr = Go.Sort.putRowK encC 2 (Go.Sort.ahead w q) g 0 dk) (p : Int × Int) :
 (wr.setCell ⟨g, i * 2, none⟩ (.int .i64 p.1)).setCell ⟨g, i * 2 + 1, none⟩ (.int .i64 p.2) = Go.Sort.putRowK encC 2 (Go.Sort.ahead w q) g 0 (dk.setIfInBounds i p) := by
 subst hwr
 unfold Go.Sort.putRowK
 have h := Go.Sort.setCells_putRow (Go.Sort.ahead w q) g 0 (encC p) (i * 2) (Go.Sort.flatK encC 2 dk) (by rw [Go.Sort.size_flatK]; show i * 2 + 2 ≤ _; omega)
 rw [flat_set dk i p hi] at h
 rw [← h, Nat.zero_add]
 rfl
theorem holds_pair {w : World} {g : Nat} {d : Array (Int × Int)} (h : Go.Sort.HoldsK encC 2 w g 0 d) {i : Nat} (hi : i < d.size) :
 (w.cell? ⟨g, i * 2, none⟩ = some (.int .i64 (d[i]!).1) ∧ w.cell? ⟨g, i * 2 + 1, none⟩ = some (.int .i64 (d[i]!).2)) ∧ w.frozen? ⟨g, i * 2, none⟩ = false ∧ w.frozen? ⟨g, i * 2 + 1, none⟩ = false := by
 obtain ⟨c1, f1⟩ := h.cell (i := i) (c := 0) hi (by omega)
 obtain ⟨c2, f2⟩ := h.cell (i := i) (c := 1) hi (by omega)
 simp only [Nat.zero_add, Nat.add_zero] at c1 c2 f1 f2
 exact ⟨⟨c1, c2⟩, f1, f2⟩
theorem take_pairs {F : Array Value} {dk : Array (Int × Int)} {L : List (Int × Int)} {kk : Nat} (h : ∀ t, t < kk * 2 → F[t]! = (Go.Sort.flatK encC 2 dk)[t]!) (hl : L.length = kk) (low : ∀ j, j < kk → L[j]? = some dk[j]!) (hk : kk ≤ dk.size) (hF : kk * 2 ≤ F.size) :
 F.toList.take (L.length * 2) = pairs L := by
 rw [hl]
 apply List.ext_getElem?
 intro t
 by_cases ht : t < kk * 2
 · rw [List.getElem?_take, if_pos ht]
   have h1 := h t ht
   rw [Go.Sort.get_flatK _ _ _ _ (by omega)] at h1
   obtain ⟨g1, g2⟩ := pairs_get (low (t / 2) (by omega))
   have h2 : F.toList[t]? = some F[t]! := by
    rw [Array.getElem?_toList, Array.getElem?_eq_getElem (by omega), getElem!_pos F t (by omega)]
   rw [h2, h1]
   generalize dk[t / 2]! = p at g1 g2
   rcases (by omega : t % 2 = 0 ∨ t % 2 = 1) with h0 | h0
   · rw [h0]
     rw [show t / 2 * 2 = t from by omega] at g1
     exact g1.symm
   · rw [h0]
     rw [show t / 2 * 2 + 1 = t from by omega] at g2
     exact g2.symm
 · rw [List.getElem?_take, if_neg ht, List.getElem?_eq_none (by rw [pairs_length]; omega)]
theorem compact_arr (g cap : Nat) (d : Array (Int × Int)) (w : World) (hH : Go.Sort.HoldsK encC 2 w g 0 d) (hsz : d.size < 100000) (hcap : d.size ≤ cap) (h2 : ¬ d.size < 2) :
 Calls Tryz.prog 178 #[.slice (some ⟨g, 0, none⟩) d.size cap] w fun e w' => e = .returned (.slice (some ⟨g, 0, none⟩) (Lib.compactUpTo d d.size).length cap) ∧
  ∃ (q : Nat) (F : Array Value), w' = Go.Sort.putRow id (Go.Sort.ahead w q) g 0 F ∧ F.size = d.size * 2 ∧ F.toList.take ((Lib.compactUpTo d d.size).length * 2) = pairs (Lib.compactUpTo d d.size) := by
 go_enter Tryz.func178, Tryz.ntmps178
 go_wp2
 go_loopg [3] d.size (fun g' s3 wr => ∃ k q : Nat, 1 ≤ k ∧ k ≤ d.size ∧ d.size - k ≤ g' ∧ s3 = .int .i64 k ∧ wr = w.drewN q ∧ ∀ j, j < k → Lib.keeps d j = true)
 case atStart => exact ⟨1, 0, Nat.le_refl _, by omega, by omega, rfl, rfl, Lib.keeps_lt_one d⟩
 case round =>
  obtain ⟨k, q, hk1, hk, hg, rfl, rfl, hall⟩ := hrel
  have hHq : Go.Sort.HoldsK encC 2 (w.drewN q) g 0 d := hH
  have HH := hid hH; have A := hid hall
  clear hH hall
  by_cases hlt : k < d.size
  · obtain ⟨⟨c1, c2⟩, -⟩ := holds_pair hHq hlt
    obtain ⟨⟨c3, c4⟩, -⟩ := holds_pair hHq (i := k - 1) (by omega)
    clear hHq
    generalize hwq : w.drewN q = wq at *
    have Hwq := hid hwq
    clear hwq
    generalize hx : d[k]! = x at c1 c2
    generalize hy : d[k - 1]! = y at c3 c4
    have B := hid (And.intro hx hy)
    clear hx hy
    obtain ⟨x1, x2⟩ := x
    obtain ⟨y1, y2⟩ := y
    have s1 : IntKind.i64.wrap ((k : Int) - 1) = (k : Int) - 1 := IntWalk.i64_in _ (by omega)
    have s2 : (1 : Int) ≤ (k : Int) := by omega
    have s3 : ((k : Int) - 1) < (d.size : Int) := by omega
    have s4 : ((k : Int) - 1).toNat = k - 1 := by omega
    by_cases h1 : x1 = y1
    · subst h1
      by_cases h2' : x2 = y2
      · subst h2'
        go_wp2_with fail
        go_quiet (fail)
        clear s1 s2 s3 s4 c1 c2 c3 c4
        go_wp2_with fail
        have hw0 : wq.drewN nq = Go.Sort.putRowK encC 2 (Go.Sort.ahead w (q + nq)) g 0 d := by
         rw [← Hwq.out, World.drewN_drewN]; exact (Go.Sort.putRowK_self encC 2 (Go.Sort.ahead w (q + nq)) g 0 d HH.out).symm
        have Hw0 := hid hw0
        clear hw0
        generalize wq.drewN nq = w0 at *
        go_loopg [3, 5] d.size (fun g' s3 s5 wr => ∃ (kk k2 q2 : Nat) (dk : Array (Int × Int)), s3 = .int .i64 kk ∧ s5 = .int .i64 k2 ∧ 1 ≤ k2 ∧ k + k2 ≤ d.size ∧ d.size - (k + k2) ≤ g' ∧ wr = Go.Sort.putRowK encC 2 (Go.Sort.ahead w q2) g 0 dk ∧ Lib.CompInv d (k + k2) kk dk)
        case atStart => exact ⟨k, 1, q + nq, d, rfl, rfl, Nat.le_refl _, by omega, by omega, Hw0.out, Lib.CompInv.start A.out (Lib.keeps_neg (by omega) (by rw [B.out.1, B.out.2]))⟩
        case round =>
         obtain ⟨kk, k2, q2, dk, rfl, rfl, hk2, hle, hg2, hwr, hI⟩ := hrel
         have hkk := hI.lt
         have hds := hI.size
         have hHk : Go.Sort.HoldsK encC 2 wr g 0 dk := by rw [hwr]; exact Go.Sort.holdsK_putRowK encC 2 _ g 0 d dk HH.out hds
         have W2 := hid hwr
         have I2 := hid hI
         clear hwr Hw0
         by_cases hlt2 : k + k2 < d.size
         · obtain ⟨⟨cm1, cm2⟩, -⟩ := holds_pair hHk (i := k + k2) (by omega)
           obtain ⟨⟨cp1, cp2⟩, -⟩ := holds_pair hHk (i := k + k2 - 1) (by omega)
           obtain ⟨⟨ck1, ck2⟩, fk1, fk2⟩ := holds_pair hHk (i := kk) (by omega)
           rw [hI.high (k + k2) (by omega), show (k + k2) * 2 = k * 2 + k2 * 2 by omega] at cm1 cm2
           rw [hI.high (k + k2 - 1) (by omega), show (k + k2 - 1) * 2 = k * 2 + (k2 - 1) * 2 by omega] at cp1 cp2
           clear hHk hI
           generalize hu : d[k + k2]! = u at cm1 cm2
           generalize hv : d[k + k2 - 1]! = v at cp1 cp2
           generalize dk[kk]! = old at ck1 ck2
           have C := hid (And.intro hu hv)
           clear hu hv
           obtain ⟨u1, u2⟩ := u
           obtain ⟨v1, v2⟩ := v
           obtain ⟨old1, old2⟩ := old
           have cm1x := hid cm1
           have cm2x := hid cm2
           have s5 : IntKind.i64.wrap ((k2 : Int) - 1) = (k2 : Int) - 1 := IntWalk.i64_in _ (by omega)
           have s6 : (1 : Int) ≤ (k2 : Int) := by omega
           have s7 : ((k2 : Int) - 1) < ((d.size - k : Nat) : Int) := by omega
           have s8 : ((k2 : Int) - 1).toNat = k2 - 1 := by omega
           by_cases e1 : u1 = v1
           · subst e1
             by_cases e2 : u2 = v2
             · subst e2
               go_wp2_with fail
               go_quiet (fail)
               clear s5 s6 s7 s8 cm1 cm2 cp1 cp2 ck1 ck2 fk1 fk2
               go_wp2
               go_roundg (d.size - (k + (k2 + 1)))
               case measure => omega
               case rel => exact ⟨kk, k2 + 1, q2 + nq, dk, rfl, by go_num, by omega, by omega, Nat.le_refl _, by rw [W2.out]; exact Go.Sort.putRowK_drewN encC 2 w q2 nq g 0 dk, I2.out.skip (Lib.keeps_neg (by omega) (by rw [C.out.1, C.out.2]))⟩
             · have E := hid e2
               go_wp2_with fail
               go_quiet (fail)
               clear s5 s6 s7 s8 cm1 cm2 cp1 cp2
               have hwd : wr.drewN nq = Go.Sort.putRowK encC 2 (Go.Sort.ahead w (q2 + nq)) g 0 dk := by rw [W2.out]; exact Go.Sort.putRowK_drewN encC 2 w q2 nq g 0 dk
               have hst := store_pair (i := kk) (by omega) hwd (u1, u2)
               have ck1' : (wr.drewN nq).cell? ⟨g, kk * 2, none⟩ = some (.int .i64 old1) := ck1
               have ck2' : (wr.drewN nq).cell? ⟨g, kk * 2 + 1, none⟩ = some (.int .i64 old2) := ck2
               have fk1' : (wr.drewN nq).frozen? ⟨g, kk * 2, none⟩ = false := fk1
               have fk2' : (wr.drewN nq).frozen? ⟨g, kk * 2 + 1, none⟩ = false := fk2
               have Hst := hid hst
               have hm : wr.drewN nq = wr.drewN nq := rfl
               clear hst hwd hm ck1 ck2 fk1 fk2
               have cm3' : (wr.drewN nq).cell? ⟨g, k * 2 + k2 * 2, none⟩ = some (.int .i64 u1) := cm1x.out
               have cm4' : (wr.drewN nq).cell? ⟨g, k * 2 + k2 * 2 + 1, none⟩ = some (.int .i64 u2) := cm2x.out
               generalize wr.drewN nq = wz at *
               go_wp2
               go_roundg (d.size - (k + (k2 + 1)))
               case measure => omega
               case rel =>
                refine ⟨kk + 1, k2 + 1, q2 + nq, dk.setIfInBounds kk (u1, u2), by go_num, by go_num, by omega, by omega, Nat.le_refl _, Hst.out, ?_⟩
                have := I2.out.keep hlt2 (Lib.keeps_pos (by rw [C.out.1, C.out.2]; intro h; injection h with h1 h2; exact E.out h2))
                rwa [C.out.1] at this
           · have E := hid e1
             go_wp2_with fail
             go_quiet (fail)
             clear s5 s6 s7 s8 cm1 cm2 cp1 cp2
             have hwd : wr.drewN nq = Go.Sort.putRowK encC 2 (Go.Sort.ahead w (q2 + nq)) g 0 dk := by rw [W2.out]; exact Go.Sort.putRowK_drewN encC 2 w q2 nq g 0 dk
             have hst := store_pair (i := kk) (by omega) hwd (u1, u2)
             have ck1' : (wr.drewN nq).cell? ⟨g, kk * 2, none⟩ = some (.int .i64 old1) := ck1
             have ck2' : (wr.drewN nq).cell? ⟨g, kk * 2 + 1, none⟩ = some (.int .i64 old2) := ck2
             have fk1' : (wr.drewN nq).frozen? ⟨g, kk * 2, none⟩ = false := fk1
             have fk2' : (wr.drewN nq).frozen? ⟨g, kk * 2 + 1, none⟩ = false := fk2
             have Hst := hid hst
             have hm : wr.drewN nq = wr.drewN nq := rfl
             clear hst hwd hm ck1 ck2 fk1 fk2
             have cm3' : (wr.drewN nq).cell? ⟨g, k * 2 + k2 * 2, none⟩ = some (.int .i64 u1) := cm1x.out
             have cm4' : (wr.drewN nq).cell? ⟨g, k * 2 + k2 * 2 + 1, none⟩ = some (.int .i64 u2) := cm2x.out
             generalize wr.drewN nq = wz at *
             go_wp2
             go_roundg (d.size - (k + (k2 + 1)))
             case measure => omega
             case rel =>
              refine ⟨kk + 1, k2 + 1, q2 + nq, dk.setIfInBounds kk (u1, u2), by go_num, by go_num, by omega, by omega, Nat.le_refl _, Hst.out, ?_⟩
              have := I2.out.keep hlt2 (Lib.keeps_pos (by rw [C.out.1, C.out.2]; intro h; injection h with h1 h2; exact E.out h1))
              rwa [C.out.1] at this
         · have hend : k + k2 = d.size := by omega
           have hcl : ∀ ty, (Builtin.clear_ #[59] ty #[.slice (some ⟨g, kk * 2, none⟩) (d.size - kk) (cap - kk)]).run Tryz.prog wr = .ok (.tuple #[]) (wr.setCells g (kk * 2) (zs2 (d.size - kk))) := fun ty =>
            run_clear_pairs wr ty g (kk * 2) (d.size - kk) (cap - kk) (by omega)
             (fun j hj => by
               obtain ⟨⟨a1, a2⟩, -⟩ := holds_pair hHk (i := kk + j / 2) (by omega)
               rcases (by omega : j % 2 = 0 ∨ j % 2 = 1) with h0 | h0
               · rw [show kk * 2 + j = (kk + j / 2) * 2 from by omega, a1]; rfl
               · rw [show kk * 2 + j = (kk + j / 2) * 2 + 1 from by omega, a2]; rfl)
             (fun j hj => by
               obtain ⟨-, a1, a2⟩ := holds_pair hHk (i := kk + j / 2) (by omega)
               rcases (by omega : j % 2 = 0 ∨ j % 2 = 1) with h0 | h0
               · rw [show kk * 2 + j = (kk + j / 2) * 2 from by omega, a1]
               · rw [show kk * 2 + j = (kk + j / 2) * 2 + 1 from by omega, a2])
           clear hHk hI
           go_wp2
           go_ret
           have hI := I2.out
           rw [hend] at hI
           have hset : wr.setCells g (kk * 2) (zs2 (d.size - kk)) = Go.Sort.putRow id (Go.Sort.ahead w q2) g 0 (Go.Sort.setMany (Go.Sort.flatK encC 2 dk) (kk * 2) (zs2 (d.size - kk))) := by
            rw [W2.out]
            have := Go.Sort.setCells_putRow (Go.Sort.ahead w q2) g 0 (zs2 (d.size - kk)) (kk * 2) (Go.Sort.flatK encC 2 dk) (by rw [zs2_len, Go.Sort.size_flatK]; omega)
            rw [Nat.zero_add] at this
            exact this
           refine ⟨by rw [hI.len]; rfl, q2, _, hset, by simp [hds], ?_⟩
           exact take_pairs (dk := dk) (kk := kk) (fun t ht => by rw [Go.Sort.get_setMany _ _ _ _ (by rw [Go.Sort.size_flatK]; omega), if_neg (by omega)]) hI.len (fun j hj => hI.low j hj) (by omega) (by simp; omega)
      · have E := hid h2'
        go_wp2_with fail
        go_quiet (fail)
        clear s1 s2 s3 s4 c1 c2 c3 c4
        go_wp2
        go_roundg (d.size - (k + 1))
        case measure => omega
        case rel =>
         refine ⟨k + 1, q + nq, by omega, by omega, Nat.le_refl _, by go_num, ?_, fun j hj => ?_⟩
         · rw [← Hwq.out, World.drewN_drewN]
         · by_cases e : j = k
           · subst e
             exact Lib.keeps_pos (by rw [B.out.1, B.out.2]; intro h; injection h with h1 h2; exact E.out h2)
           · exact A.out j (by omega)
    · have E := hid h1
      go_wp2_with fail
      go_quiet (fail)
      clear s1 s2 s3 s4 c1 c2 c3 c4
      go_wp2
      go_roundg (d.size - (k + 1))
      case measure => omega
      case rel =>
       refine ⟨k + 1, q + nq, by omega, by omega, Nat.le_refl _, by go_num, ?_, fun j hj => ?_⟩
       · rw [← Hwq.out, World.drewN_drewN]
       · by_cases e : j = k
         · subst e
           exact Lib.keeps_pos (by rw [B.out.1, B.out.2]; intro h; injection h with h1 h2; exact E.out h1)
         · exact A.out j (by omega)
  · have : k = d.size := by omega
    subst this
    have hHd := hid hHq
    clear hHq
    go_wp2
    go_ret
    have e : Lib.compactUpTo d d.size = d.toList := by rw [Lib.compactUpTo_all d _ A.out, Lib.range_map_get]
    rw [e]
    refine ⟨by simp, q, Go.Sort.flatK encC 2 d, (Go.Sort.putRowK_self encC 2 (Go.Sort.ahead w q) g 0 d HH.out).symm, by simp, ?_⟩
    exact take_pairs (dk := d) (kk := d.size) (fun _ _ => rfl) (by simp) (fun j hj => by rw [getElem!_pos d j hj]; simp [hj]) (Nat.le_refl _) (by simp)
theorem put_row {w : World} {g q : Nat} {cur F : Array Value} (h1 : w.heap[g]? = some (.cells cur 58 (0, 0))) (hF : F.size ≤ cur.size) :
 (∃ cur', (Go.Sort.putRow id (Go.Sort.ahead w q) g 0 F).heap[g]? = some (.cells cur' 58 (0, 0)) ∧ cur'.size = cur.size ∧ ∀ m, m ≤ F.size → cur'.toList.take m = F.toList.take m) ∧ w.grownBy (Go.Sort.putRow id (Go.Sort.ahead w q) g 0 F) (some g) := by
 refine ⟨⟨Go.Sort.putCells id 0 F cur, ?_, by simp [Go.Sort.putCells], fun m hm => ?_⟩, ?_⟩
 · simp only [Go.Sort.putRow, Go.Sort.mapBlock, Go.Sort.ahead, Array.getElem?_modify, if_true, h1, Option.map_some, Go.Sort.onCells]
 · apply List.ext_getElem?
   intro t
   by_cases ht : t < m
   · rw [List.getElem?_take, if_pos ht, List.getElem?_take, if_pos ht, Array.getElem?_toList, Array.getElem?_toList, Go.Sort.putCells, Array.getElem?_mapIdx, Array.getElem?_eq_getElem (by omega), Array.getElem?_eq_getElem (by omega)]
     simp only [Option.map_some]
     rw [if_pos ⟨by omega, by omega⟩, Nat.sub_zero, getElem!_pos F t (by omega)]
     rfl
   · rw [List.getElem?_take, if_neg ht, List.getElem?_take, if_neg ht]
 · refine ⟨rfl, rfl, rfl, by simp [Go.Sort.putRow, Go.Sort.mapBlock, Go.Sort.ahead], fun k hk hne => ?_⟩
   simp only [Go.Sort.putRow, Go.Sort.mapBlock, Go.Sort.ahead, Array.getElem?_modify]
   rw [if_neg (by intro e; exact hne (by rw [e]))]
def cpt (cs : List (Int × Int)) : List (Int × Int) := Lib.compactUpTo cs.toArray cs.length
theorem cpt_len (cs : List (Int × Int)) : (cpt cs).length ≤ cs.length := by
 unfold cpt Lib.compactUpTo
 rw [List.length_map]
 exact Nat.le_trans (List.length_filter_le _ _) (by simp)
theorem cpt_short {cs : List (Int × Int)} (h : cs.length < 2) : cpt cs = cs := by
 have := Lib.compact_all cs (fun j hj => Lib.keeps_lt_one _ j (by omega))
 exact this
theorem compact_any (base n : Nat) (v : Value) (cs : List (Int × Int)) (w : World) (hn : cs.length = n) (h : Cops w base v cs) (hb : n < 100000) :
 ∃ C q, v = .slice C n q ∧ Calls Tryz.prog 178 #[.slice C n q] w fun e w' => ∃ C' q', e = .returned (.slice C' (cpt cs).length q') ∧ Cops w' base (.slice C' (cpt cs).length q') (cpt cs) ∧ w.grownBy w' v.ownBlock := by
 have hcopy := h
 obtain ⟨hl, h0 | ⟨g, cap, cur, rfl, hbg, h1, h2, h3, h4, h5⟩⟩ := h
 · obtain ⟨rfl, h0⟩ := h0
   have e0 : cs = [] := List.eq_nil_of_length_eq_zero h0
   subst e0
   simp at hn; subst hn
   refine ⟨none, 0, rfl, ?_⟩
   have hc : cpt [] = [] := cpt_short (by simp)
   rw [hc]
   go_enter Tryz.func178, Tryz.ntmps178
   go_wp2
   go_ret
   exact ⟨none, 0, rfl, World.ownsRow_nil _ _ _ _, grown_of_below (Below.refl _ _) _⟩
 · refine ⟨some ⟨g, 0, none⟩, cap, by rw [hn], ?_⟩
   by_cases hs : n < 2
   · rw [cpt_short (by omega)]
     have Hc := hid hcopy
     clear hcopy
     go_enter Tryz.func178, Tryz.ntmps178
     go_wp2
     go_ret
     exact ⟨some ⟨g, 0, none⟩, cap, by rw [hn]; rfl, Hc.out, grown_of_below (Below.refl _ _) _⟩
   · have hc := compact_arr g cap cs.toArray w (holds_of_row h1 h5) (by simp; omega) (by simp; omega) (by simp; omega)
     have hsz : cs.toArray.size = n := by simp [hn]
     rw [hsz] at hc
     refine hc.mono ?_
     rintro e w' ⟨he, q, F, hw, hF, ht⟩
     have hcpt : Lib.compactUpTo cs.toArray n = cpt cs := by unfold cpt; rw [hn]
     rw [hcpt] at he ht
     have hle := cpt_len cs
     obtain ⟨⟨cur', k1, k2, k3⟩, hgr⟩ := put_row (q := q) h1 (F := F) (by rw [hF, h4]; omega)
     rw [← hw] at k1 hgr
     refine ⟨some ⟨g, 0, none⟩, cap, he, ⟨by rw [pairs_length]; omega, .inr ⟨g, cap, cur', rfl, hbg, k1, by omega, h3, by rw [k2, h4], ?_⟩⟩, hgr⟩
     rw [k3 _ (by omega), ht]
end Go.Proofs.YtopkmeceakjocaaGreat
namespace Go.Proofs.YtopkmeceakjocaaGreat
open Go.ChangeShapes Go.WideShapes Go.ChangeAt Go.RowKit
theorem permitted_any (W : Int) (w : World) : Calls Tryz.prog 115 #[.int .i64 W] w fun e w' => e = .returned (.bool (decide (0 ≤ W) && decide (W ≤ 256))) ∧ w' = w := by
 by_cases h : 0 ≤ W
 · go_enter Tryz.func115, Tryz.ntmps115
   go_wp2
   go_ret
   exact ⟨by simp [h], rfl⟩
 · have t : decide (0 ≤ W) = false := by simpa using h
   have h2 : W < 0 := by omega
   go_enter Tryz.func115, Tryz.ntmps115
   go_wp2
   go_ret
   exact ⟨by simp, rfl⟩
theorem permitted_is (W : Int) (r : Bool) (w : World) (h : Hid ((decide (0 ≤ W) && decide (W ≤ 256)) = r)) : Calls Tryz.prog 115 #[.int .i64 W] w fun e w' => e = .returned (.bool r) ∧ w' = w := by
 rw [← h.out]; exact permitted_any W w
theorem inside_any (W b : Int) (w : World) : Calls Tryz.prog 180 #[.int .i64 W, .int .i64 b] w fun e w' => e = .returned (.bool (decide (0 ≤ b) && decide (b < W))) ∧ w' = w := by
 by_cases h : 0 ≤ b
 · go_enter Tryz.func180, Tryz.ntmps180
   go_wp2
   go_ret
   exact ⟨by simp [h], rfl⟩
 · have t : decide (0 ≤ b) = false := by simpa using h
   have h2 : b < 0 := by omega
   go_enter Tryz.func180, Tryz.ntmps180
   go_wp2
   go_ret
   exact ⟨by simp, rfl⟩
theorem inside_is (W b : Int) (r : Bool) (w : World) (h : Hid ((decide (0 ≤ b) && decide (b < W)) = r)) : Calls Tryz.prog 180 #[.int .i64 W, .int .i64 b] w fun e w' => e = .returned (.bool r) ∧ w' = w := by
 rw [← h.out]; exact inside_any W b w
theorem wordsOf_any (v : Nat) (w : World) (hv : v ≤ 256) : Calls Tryz.prog 116 #[.int .i64 v] w fun e w' => e = .returned (.int .i64 (Bs.nw v)) ∧ w' = w := by
 go_enter Tryz.func116, Tryz.ntmps116
 go_wp2
 go_ret
 exact ⟨ret_int (by unfold Bs.nw; omega), rfl⟩
theorem mask_any (k : Nat) (w : World) : Calls Tryz.prog 190 #[.int .i64 k] w fun e w' => e = .returned (.int .u64 (IntKind.u64.wrap (2 ^ (k % 64)))) ∧ w' = w := by
 have h1 : (0 : Int) ≤ k := by omega
 go_enter Tryz.func190, Tryz.ntmps190
 go_wp2
 go_ret
 exact ⟨ret_int (by simp), rfl⟩
theorem holds_any (W : Int) (A : Option Addr) (n c : Nat) (ws : List Nat) (k : Nat) (w : World) (hA : Arg w A n ws) (hk : k / 64 < n) (hk2 : k < 256) :
 Calls Tryz.prog 181 #[.agg #[.int .i64 W, .slice A n c], .int .i64 k] w fun e w' => e = .returned (.bool (Bs.bit ws k)) ∧ w' = w.alloc (.cells #[.int .i64 W, .slice A n c] 49) := by
 obtain ⟨ad, rfl, had, hcell⟩ := hA.lies.cell (words_get (i := k / 64) (by rw [hA.len]; exact hk))
 have hbit := test_bit_of hA.ok k
 generalize hx : Bs.wd ws (k / 64) = x at hcell hbit
 clear hx hA
 generalize Bs.bit ws k = r at hbit
 have hcell2 : (w.alloc (Obj.cells #[Value.int IntKind.i64 W, Value.slice (some ad) n c] 49)).cell? (ad.add (k / 64)) = some (.int .u64 x) :=
  (World.cell?_alloc_lt _ _ _ (by rw [add_block]; exact had)).trans hcell
 go_enter Tryz.func181, Tryz.ntmps181
 go_wp2
 go_ret
 exact ⟨rfl, rfl⟩
theorem valid_last (v : Nat) (ws : List Nat) (hv : v ≤ 256) (hl : ws.length = Bs.nw v) (ok : ∀ x ∈ ws, x < Bs.W64) :
 Bs.validB (v : Int) ws = (decide (v % 64 = 0) || decide (Bs.wd ws (ws.length - 1) / 2 ^ (v % 64) = 0)) := by
 rw [Bool.eq_iff_iff, Bs.validB_iff]
 simp only [Bool.or_eq_true, decide_eq_true_eq, Int.toNat_natCast]
 by_cases h0 : v % 64 = 0
 · refine ⟨fun _ => .inl h0, fun _ => ⟨by omega, by omega, hl, fun b hb => Bs.bit_out ?_⟩⟩
   rw [hl]; unfold Bs.nw; omega
 · have hn : ws.length - 1 = v / 64 := by rw [hl]; unfold Bs.nw; omega
   have hpos : 0 < 2 ^ (v % 64) := Nat.two_pow_pos _
   rw [hn]
   constructor
   · rintro ⟨_, _, _, h⟩
     refine .inr (Nat.div_eq_of_lt (Nat.lt_pow_two_of_testBit _ fun j hj => ?_))
     rcases Nat.lt_or_ge j 64 with hj2 | hj2
     · have := h (64 * (v / 64) + j) (by omega)
       unfold Bs.bit at this
       rw [show (64 * (v / 64) + j) / 64 = v / 64 from by omega, show (64 * (v / 64) + j) % 64 = j from by omega] at this
       exact this
     · exact Nat.testBit_lt_two_pow (Nat.lt_of_lt_of_le (Bs.wd_lt ok _) (by rw [Bs.W64_eq]; exact Nat.pow_le_pow_right (by decide) hj2))
   · rintro (h | h)
     · exact absurd h h0
     · refine ⟨by omega, by omega, hl, fun b hb => ?_⟩
       have hlt : Bs.wd ws (v / 64) < 2 ^ (v % 64) := by
        rcases Nat.div_eq_zero_iff.1 h with h' | h'
        · omega
        · exact h'
       by_cases e : b / 64 = v / 64
       · unfold Bs.bit
         rw [e]
         exact Nat.testBit_lt_two_pow (Nat.lt_of_lt_of_le hlt (Nat.pow_le_pow_right (by decide) (by omega)))
       · exact Bs.bit_out (by rw [hl]; unfold Bs.nw; omega)
theorem devValid_no (W : Int) (A : Option Addr) (n c : Nat) (ws : List Nat) (w : World) (h : (decide (0 ≤ W) && decide (W ≤ 256)) = false) :
 Calls Tryz.prog 81 #[.agg #[.int .i64 W, .slice A n c]] w fun e w' => e = .returned (.bool (Bs.validB W ws)) ∧ Below w.heap.size w w' := by
 have hr : Bs.validB W ws = false := by unfold Bs.validB; rw [h]; rfl
 rw [hr]
 have H := hid h
 clear hr h
 go_enter Tryz.func81, Tryz.ntmps81
 go_wp2_with fail
 go_quiet ((first | (go_at_call 115; exact Calls.quiet_of_same (permitted_is _ _ _ H)) | (go_at_call 116; fail)))
 go_wp2
 go_ret
 exact ⟨rfl, below_drewN ((Below.refl _ _).alloc (Nat.le_refl _) _) _⟩
theorem devValid_len (v : Nat) (A : Option Addr) (n c : Nat) (ws : List Nat) (w : World) (hA : Arg w A n ws) (hv : v ≤ 256) (h : n ≠ Bs.nw v) :
 Calls Tryz.prog 81 #[.agg #[.int .i64 v, .slice A n c]] w fun e w' => e = .returned (.bool (Bs.validB v ws)) ∧ Below w.heap.size w w' := by
 have hr : Bs.validB v ws = false := by
  cases hq : Bs.validB v ws with
  | false => rfl
  | true => exact absurd (by rw [← hA.len]; simpa using (Bs.validB_iff.1 hq).2.2.1) h
 have H := hid (show (decide ((0 : Int) ≤ v) && decide ((v : Int) ≤ 256)) = true by simp; omega)
 have t : ((n : Int) != (Bs.nw v : Nat)) = true := by simp; omega
 rw [hr]
 clear hr h hA
 go_enter Tryz.func81, Tryz.ntmps81
 go_wp2_with fail
 go_quiet ((first | (go_at_call 115; exact Calls.quiet_of_same (permitted_is _ _ _ H)) | (go_at_call 116; exact Calls.quiet_of_same (wordsOf_any _ _ hv))))
 go_wp2
 go_ret
 exact ⟨rfl, below_drewN ((Below.refl _ _).alloc (Nat.le_refl _) _) _⟩
theorem devValid_in (v : Nat) (A : Option Addr) (n c : Nat) (ws : List Nat) (w : World) (hA : Arg w A n ws) (hv : v ≤ 256) (h : n = Bs.nw v) :
 Calls Tryz.prog 81 #[.agg #[.int .i64 v, .slice A n c]] w fun e w' => e = .returned (.bool (Bs.validB v ws)) ∧ Below w.heap.size w w' := by
 have H := hid (show (decide ((0 : Int) ≤ v) && decide ((v : Int) ≤ 256)) = true by simp; omega)
 have t : ((n : Int) != (Bs.nw v : Nat)) = false := by simp [h]
 have hl := valid_last v ws hv (hA.len.trans h) hA.ok
 rw [hA.len] at hl
 by_cases h0 : v % 64 = 0
 · have hr : Bs.validB v ws = true := by rw [hl]; simp [h0]
   have t2 : (((v % 64 : Nat) : Int) == 0) = true := by simp [h0]
   have t3 : (((v : Int) % 64) == 0) = true := by simp; omega
   rw [hr]
   clear hr h hA hl
   go_enter Tryz.func81, Tryz.ntmps81
   go_wp2_with fail
   go_quiet ((first | (go_at_call 115; exact Calls.quiet_of_same (permitted_is _ _ _ H)) | (go_at_call 116; exact Calls.quiet_of_same (wordsOf_any _ _ hv))))
   go_wp2
   go_ret
   exact ⟨rfl, below_drewN ((Below.refl _ _).alloc (Nat.le_refl _) _) _⟩
 · have hn1 : 0 < n := by rw [h]; unfold Bs.nw; omega
   obtain ⟨ad, rfl, had, hcell⟩ := hA.lies.cell (words_get (i := n - 1) (by rw [hA.len]; omega))
   have hr : Bs.validB v ws = decide (Bs.wd ws (n - 1) / 2 ^ (v % 64) = 0) := by rw [hl]; simp [h0]
   have t3 : (((v : Int) % 64) == 0) = false := by simp; omega
   have hn5 : n ≤ 5 := by rw [h]; unfold Bs.nw; omega
   generalize hx : Bs.wd ws (n - 1) = x at hcell hr
   have hcell2 : (w.alloc (Obj.cells #[Value.int IntKind.i64 (v : Int), Value.slice (some ad) n c] 49)).cell? (ad.add (n - 1)) = some (.int .u64 x) :=
    (World.cell?_alloc_lt _ _ _ (by rw [add_block]; exact had)).trans hcell
   have he : ((x : Int) / 2 ^ (v % 64) == 0) = decide (x / 2 ^ (v % 64) = 0) := by
    rw [show ((x : Int) / 2 ^ (v % 64)) = ((x / 2 ^ (v % 64) : Nat) : Int) from by simp]
    generalize x / 2 ^ (v % 64) = q
    by_cases hq : q = 0 <;> simp [hq]
   rw [hr]
   generalize decide (x / 2 ^ (v % 64) = 0) = r at he
   clear hr h hA hl hx hcell
   go_enter Tryz.func81, Tryz.ntmps81
   go_wp2_with fail
   go_quiet ((first | (go_at_call 115; exact Calls.quiet_of_same (permitted_is _ _ _ H)) | (go_at_call 116; exact Calls.quiet_of_same (wordsOf_any _ _ hv))))
   go_wp2
   go_ret
   exact ⟨rfl, below_drewN ((Below.refl _ _).alloc (Nat.le_refl _) _) _⟩
theorem devValid_any (W : Int) (A : Option Addr) (n c : Nat) (ws : List Nat) (w : World) (hA : Arg w A n ws) :
 Calls Tryz.prog 81 #[.agg #[.int .i64 W, .slice A n c]] w fun e w' => e = .returned (.bool (Bs.validB W ws)) ∧ Below w.heap.size w w' := by
 cases h : (decide (0 ≤ W) && decide (W ≤ 256)) with
 | false => exact devValid_no W A n c ws w h
 | true =>
   simp at h
   obtain ⟨v, rfl⟩ := Int.eq_ofNat_of_zero_le h.1
   by_cases hn : n = Bs.nw v
   · exact devValid_in v A n c ws w hA (by omega) hn
   · exact devValid_len v A n c ws w hA (by omega) hn
structure Later (w0 : World) where
 wd : World
 keeps : Below w0.heap.size w0 wd
instance (w0 : World) : Nonempty (Later w0) := ⟨⟨w0, Below.refl _ _⟩⟩
theorem wp_region_below {P : Program} {id : Nat} {Q : Exit → Act → World → Prop} {a : Act} {w : World} {l : List Oper} (hm : P.follows .mixedOrders = true) (hB : Region.lexB .any l.toArray = true)
 (h : wpQuiet P l.toArray (fun w' => ∃ p : Later w, w' = p.wd) (fun a' => ∀ w', (∃ p : Later w, w' = p.wd) → Q .normal a' w') l a) : (Code.region id l.toArray true).wp P Q a w :=
 wp_region_quiet (C := fun w' => ∃ p : Later w, w' = p.wd) hm hB ⟨⟨_, (Below.refl _ _).drew⟩, rfl⟩ (by simpa using h)
theorem Later.call {P : Program} {f : FuncId} {args : Array Value} {w : World} {p : Later w} {v : Value}
 (h : Calls P f args p.wd fun e w' => e = .returned v ∧ Below p.wd.heap.size p.wd w') : Calls P f args p.wd fun e w'' => e = .returned v ∧ ∃ p' : Later w, w'' = p'.wd :=
 h.mono fun _ w' ⟨he, hb⟩ => ⟨he, ⟨w', p.keeps.trans (hb.mono p.keeps.size)⟩, rfl⟩
theorem Later.cell {w : World} {q : Addr} {v : Value} (hq : q.block < w.heap.size) (h : w.cell? q = some v) (p : Later w) : p.wd.cell? q = some v := (p.keeps.cell hq).trans h
end Go.Proofs.YtopkmeceakjocaaGreat
namespace Go.Proofs.YtopkmeceakjocaaGreat
set_option maxRecDepth 20000
open Go.ChangeShapes Go.WideShapes Go.ChangeAt Go.RowKit
theorem below_step {W w' w'' : World} (h : Below W.heap.size W w') (h2 : Below w'.heap.size w' w'') : Below W.heap.size W w'' := h.trans (h2.mono h.size)
theorem cmpC_neg (p q : Int × Int) : decide (0 ≤ cmpC p q) = !beforeB p q := by
 unfold cmpC orI cmpI beforeB
 rcases Int.lt_trichotomy p.1 q.1 with h | h | h
 · simp [h]
 · rw [h]; simp
   rcases Int.lt_trichotomy p.2 q.2 with h2 | h2 | h2
   · simp [h2]
   · rw [h2]; simp
   · have := Int.not_lt.2 (Int.le_of_lt h2); simp [this, h2]
 · have h1 := Int.not_lt.2 (Int.le_of_lt h)
   have h3 : p.1 ≠ q.1 := by omega
   simp [h1, h, h3]
theorem okAt_split {W : Int} {cs : List (Int × Int)} {j : Nat} {p1 p2 : Int} (h : okAt W cs j = (inW W (p1, p2) && (decide (j = 0) || beforeB (cs.getD (j - 1) (0, 0)) (p1, p2)))) :
 okAt W cs j = (inB W p1 && inB W p2 && (decide (j = 0) || beforeB (cs.getD (j - 1) (0, 0)) (p1, p2))) := by
 rw [h]; unfold inW inB; simp [Bool.and_assoc]
set_option maxHeartbeats 1600000 in
theorem devValidT_any (W V : Int) (A B C : Option Addr) (n c m d k q : Nat) (gs ks : List Nat) (cs : List (Int × Int)) (w : World) (hA : Arg w A n gs) (hB : Arg w B m ks) (hC : ArgC w C k cs) :
 Calls Tryz.prog 121 #[.agg #[.int .i64 W, .slice A n c, .int .i64 V, .slice B m d, .slice C k q]] w fun e w' => e = .returned (.bool (validT W gs V ks cs)) ∧ Below w.heap.size w w' := by
 have HA := hid hA; have HB := hid hB; have HC := hid hC
 clear hA hB hC
 cases hv : Bs.validB W gs with
 | false =>
   have hres : validT W gs V ks cs = false := by unfold validT; simp [hv]
   have Hres := hid hres; have Hv := hid hv
   clear hres hv
   go_enter Tryz.func121, Tryz.ntmps121
   go_wp2_with fail
   refine (devValid_any W A n c gs _ (HA.out.alloc _)).mono ?_
   rw [Hv.out]
   rintro e w1 ⟨rfl, hb1⟩
   have Hb1 := hid (((Below.refl w.heap.size w).alloc (Nat.le_refl _) _).trans (hb1.mono (by simp)))
   clear hb1
   go_wp2
   go_ret
   exact ⟨ret_bool Hres.out.symm, Hb1.out⟩
 | true =>
   have Hv := hid hv
   go_enter Tryz.func121, Tryz.ntmps121
   go_wp2_with fail
   refine (devValid_any W A n c gs _ (HA.out.alloc _)).mono ?_
   rw [Hv.out]
   rintro e w1 ⟨rfl, hb1⟩
   have hF := hid ((Fb.new w #[.int .i64 W, .slice A n c, .int .i64 V, .slice B m d, .slice C k q] 61).below hb1 (by simp))
   have Hb1 := hid (((Below.refl w.heap.size w).alloc (Nat.le_refl _) _).trans (hb1.mono (by simp)))
   clear hb1
   obtain ⟨c0, c1, c2, c3, c4⟩ := hF.out.five
   go_wp2_with fail
   refine (devValid_any V B m d ks _ (HB.out.below Hb1.out)).mono ?_
   cases hk : Bs.validB V ks with
   | false =>
     have hres : validT W gs V ks cs = false := by unfold validT; simp [hk]
     have Hres := hid hres
     clear hres hk hv
     rintro e w2 ⟨rfl, hb2⟩
     have hF2 := hid (hF.out.below hb2 hF.out.lt)
     have Hb2 := hid (Hb1.out.trans (hb2.mono Hb1.out.size))
     clear hb2 c0 c1 c2 c3 c4
     go_wp2
     go_ret
     exact ⟨ret_bool Hres.out.symm, Hb2.out⟩
   | true =>
     have Hk := hid hk
     clear hk hv
     rintro e w2 ⟨rfl, hb2⟩
     have hF2 := hid (hF.out.below hb2 hF.out.lt)
     have Hb2 := hid (Hb1.out.trans (hb2.mono Hb1.out.size))
     clear hb2 c0 c1 c2 c3 c4
     obtain ⟨c0, c1, c2, c3, c4⟩ := hF2.out.five
     by_cases hWV : W = V
     · have t1 : (W != V) = false := by simp [hWV]
       have HWV := hid hWV
       clear hWV
       by_cases hle : k ≤ 64
       · have hsp : validT W gs V ks cs = (List.range cs.length).all (okAt W cs) := by
          unfold validT; rw [Hv.out, Hk.out, HC.out.len]; simp [HWV.out, hle]
         have Hsp := hid hsp
         clear hsp
         go_wp2_with fail
         clear t1 c0 c1 c2 c3 c4
         go_loopw [3, 4, 33] (fun _ _ i wr => ∃ j : Nat, j ≤ k ∧ i = .int .i64 j ∧ Hid (∀ x, x < j → okAt W cs x = true) ∧ Hid (Fb wr w.heap.size #[.int .i64 W, .slice A n c, .int .i64 V, .slice B m d, .slice C k q] 61 ∧ Below w.heap.size w wr)) (fun _ _ i _ => k - (intOf i).toNat)
         case atStart => exact ⟨0, by omega, rfl, fun x h => by omega, hF2.out, Hb2.out⟩
         case round =>
          obtain ⟨j, hj, rfl, hb, hI⟩ := hrel
          obtain ⟨c0, c1, c2, c3, c4⟩ := hI.out.1.five
          by_cases hlt : j < k
          · have hget : cs[j]? = some (cs[j]'(by rw [HC.out.len]; exact hlt)) := List.getElem?_eq_getElem _
            have hok : okAt W cs j = (inW W (cs[j]'(by rw [HC.out.len]; exact hlt)) && (decide (j = 0) || beforeB (cs.getD (j - 1) (0, 0)) (cs[j]'(by rw [HC.out.len]; exact hlt)))) := by
             unfold okAt; rw [List.getD_eq_getElem?_getD (i := j), hget]; rfl
            generalize (cs[j]'(by rw [HC.out.len]; exact hlt)) = p at hget hok
            obtain ⟨p1, p2⟩ := p
            obtain ⟨ad, rfl, had, h1, h2⟩ := HC.out.cell hget
            have Hok := hid (okAt_split hok)
            clear hget hok
            have g1 : wr.cell? (ad.add (j * 2)) = some (.int .i64 p1) := (hI.out.2.cell (by rw [add_block]; exact had)).trans h1
            have g2 : wr.cell? ⟨(ad.add (j * 2)).block, (ad.add (j * 2)).off + 1, none⟩ = some (.int .i64 p2) := (hI.out.2.cell (by simp only [add_block]; exact had)).trans h2
            clear h1 h2
            have hF3 := hid ((hI.out.1.alloc (.cells #[.int .i64 p1, .int .i64 p2] 58)))
            have hB3 := hid ((hI.out.2.alloc hI.out.2.size (.cells #[.int .i64 p1, .int .i64 p2] 58)))
            have Hbx := hid (Fb.new wr #[.int .i64 p1, .int .i64 p2] 58)
            go_wp2_with fail
            clear c0 c1 c2 c3 c4 g1 g2
            generalize wr.alloc (.cells #[.int .i64 p1, .int .i64 p2] 58) = wv at *
            generalize wr.heap.size = gv at *
            have hz1 : w.heap.size < wv.heap.size := hF3.out.lt
            have hz2 : gv < wv.heap.size := Hbx.out.lt
            obtain ⟨c0, c1, c2, c3, c4⟩ := hF3.out.five
            obtain ⟨d0, d1⟩ := Hbx.out.two
            have l0 := Later.cell hz1 c0
            have l1 := Later.cell hz1 c1
            have l2 := Later.cell hz1 c2
            have l3 := Later.cell hz1 c3
            have l4 := Later.cell hz1 c4
            have b0 := Later.cell hz2 d0
            have b1 := Later.cell hz2 d1
            clear c0 c1 c2 c3 c4 d0 d1
            by_cases i1 : inB W p1 = false
            · have I1 := hid i1
              have E := hid (show validT W gs V ks cs = false by
               rw [Hsp.out]
               refine Bool.eq_false_iff.2 fun hall => ?_
               have := List.all_eq_true.1 hall j (List.mem_range.2 (by rw [HC.out.len]; exact hlt))
               rw [Hok.out, i1] at this
               simp at this)
              clear i1
              refine wp_region_below (by kernel_rfl) (by kernel_rfl) ?_
              repeat (go_big_quiet_step ((first
               | (go_at_call_of 151 p1; exact Later.call (by have h := tin_any W V A B (some ad) n c m d k q p1 ‹Later wv›.wd; rw [I1.out] at h; exact h)))))
              refine wpQuiet_nil ?_
              rintro _ ⟨pq, rfl⟩
              have Hcur := hid pq.keeps
              generalize pq.wd = wq at *
              clear pq l0 l1 l2 l3 l4 b0 b1
              go_wp2
              go_ret
              exact ⟨ret_bool E.out.symm, hB3.out.trans (Hcur.out.mono hB3.out.size)⟩
            · have i1' := (show inB W p1 = true by simpa using i1)
              have I1 := hid i1'
              clear i1
              by_cases i2 : inB W p2 = false
              · have I2 := hid i2
                have E := hid (show validT W gs V ks cs = false by
                 rw [Hsp.out]
                 refine Bool.eq_false_iff.2 fun hall => ?_
                 have := List.all_eq_true.1 hall j (List.mem_range.2 (by rw [HC.out.len]; exact hlt))
                 rw [Hok.out, i1', i2] at this
                 simp at this)
                clear i1' i2
                refine wp_region_below (by kernel_rfl) (by kernel_rfl) ?_
                repeat (go_big_quiet_step ((first
                 | (go_at_call_of 151 p1; exact Later.call (by have h := tin_any W V A B (some ad) n c m d k q p1 ‹Later wv›.wd; rw [I1.out] at h; exact h))
                 | (go_at_call_of 151 p2; exact Later.call (by have h := tin_any W V A B (some ad) n c m d k q p2 ‹Later wv›.wd; rw [I2.out] at h; exact h)))))
                refine wpQuiet_nil ?_
                rintro _ ⟨pq, rfl⟩
                have Hcur := hid pq.keeps
                generalize pq.wd = wq at *
                clear pq l0 l1 l2 l3 l4 b0 b1
                go_wp2
                go_ret
                exact ⟨ret_bool E.out.symm, hB3.out.trans (Hcur.out.mono hB3.out.size)⟩
              · have i2' := (show inB W p2 = true by simpa using i2)
                have I2 := hid i2'
                clear i2
                by_cases j0 : j = 0
                · have E := hid (show okAt W cs j = true by rw [Hok.out, i1', i2']; simp [j0])
                  have tj : decide (0 < (j : Int)) = false := by simp [j0]
                  have tj2 : decide (0 < j) = false := by simp [j0]
                  clear j0 i1' i2'
                  refine wp_region_below (by kernel_rfl) (by kernel_rfl) ?_
                  repeat (go_big_quiet_step ((first
                   | (go_at_call_of 151 p1; exact Later.call (by have h := tin_any W V A B (some ad) n c m d k q p1 ‹Later wv›.wd; rw [I1.out] at h; exact h))
                   | (go_at_call_of 151 p2; exact Later.call (by have h := tin_any W V A B (some ad) n c m d k q p2 ‹Later wv›.wd; rw [I2.out] at h; exact h)))))
                  refine wpQuiet_nil ?_
                  rintro _ ⟨pq, rfl⟩
                  have Hcur := hid pq.keeps
                  generalize pq.wd = wq at *
                  clear pq l0 l1 l2 l3 l4 b0 b1
                  clear tj tj2
                  go_wp2
                  go_roundw
                  case rel =>
                   refine ⟨j + 1, by omega, by go_num, fun x hx => ?_, hF3.out.below Hcur.out hF3.out.lt, hB3.out.trans (Hcur.out.mono hB3.out.size)⟩
                   by_cases e : x = j
                   · rw [e]; exact E.out
                   · exact hb.out x (by omega)
                  case measure => simp [intOf]; omega
                · have hget : cs[j - 1]? = some (cs[j - 1]'(by rw [HC.out.len]; omega)) := List.getElem?_eq_getElem _
                  have hok := Hok.out
                  rw [List.getD_eq_getElem?_getD (i := j - 1), hget] at hok
                  generalize (cs[j - 1]'(by rw [HC.out.len]; omega)) = p at hget hok
                  obtain ⟨q1, q2⟩ := p
                  obtain ⟨ad', e', _, h1, h2⟩ := HC.out.cell hget
                  cases e'
                  have hok2 : okAt W cs j = beforeB (q1, q2) (p1, p2) := by
                   rw [hok, i1', i2']; simp [j0]
                  have Hok2 := hid hok2
                  clear hget hok hok2
                  have r3 := (hB3.out.cell (p := ad.add ((j - 1) * 2)) (by rw [add_block]; exact had)).trans h1
                  have r4 := (hB3.out.cell (p := ⟨(ad.add ((j - 1) * 2)).block, (ad.add ((j - 1) * 2)).off + 1, none⟩) (by simp only [add_block]; exact had)).trans h2
                  have l5 := Later.cell (w := wv) (by rw [add_block]; omega) r3
                  have l6 := Later.cell (w := wv) (by simp only [add_block]; omega) r4
                  clear h1 h2 i1' i2' r3 r4
                  have tj : decide (0 < (j : Int)) = true := by simp; omega
                  have tj2 : decide (0 < j) = true := by simp; omega
                  have s1 : IntKind.i64.wrap ((j : Int) - 1) = (j : Int) - 1 := IntWalk.i64_in _ (by omega)
                  have s2 : (1 : Int) ≤ (j : Int) := by omega
                  have s3 : ((j : Int) - 1) < (k : Int) := by omega
                  have s4 : ((j : Int) - 1).toNat = j - 1 := by omega
                  refine wp_region_below (by kernel_rfl) (by kernel_rfl) ?_
                  repeat (go_big_quiet_step ((first
                   | (go_at_call_of 151 p1; exact Later.call (by have h := tin_any W V A B (some ad) n c m d k q p1 ‹Later wv›.wd; rw [I1.out] at h; exact h))
                   | (go_at_call_of 151 p2; exact Later.call (by have h := tin_any W V A B (some ad) n c m d k q p2 ‹Later wv›.wd; rw [I2.out] at h; exact h))
                   | (go_at_call 152; exact Later.call ((compare_any q1 q2 p1 p2 _).mono (fun _ _ h => ⟨h.1, h.2.2⟩))))))
                  refine wpQuiet_nil ?_
                  rintro _ ⟨pq, rfl⟩
                  have Hcur := hid pq.keeps
                  generalize pq.wd = wq at *
                  clear pq l0 l1 l2 l3 l4 b0 b1 l5 l6
                  clear s1 s2 s3 s4 tj tj2
                  cases hbf : beforeB (q1, q2) (p1, p2) with
                  | true =>
                    have E := hid (show okAt W cs j = true by rw [Hok2.out]; exact hbf)
                    have hq := cmpC_neg (q1, q2) (p1, p2)
                    rw [hbf] at hq
                    generalize cmpC (q1, q2) (p1, p2) = z at *
                    simp at hq
                    go_wp2
                    go_roundw
                    case rel =>
                     refine ⟨j + 1, by omega, by go_num, fun x hx => ?_, hF3.out.below Hcur.out hF3.out.lt, hB3.out.trans (Hcur.out.mono hB3.out.size)⟩
                     by_cases e : x = j
                     · rw [e]; exact E.out
                     · exact hb.out x (by omega)
                    case measure => simp [intOf]; omega
                  | false =>
                    have E := hid (show validT W gs V ks cs = false by
                     rw [Hsp.out]
                     refine Bool.eq_false_iff.2 fun hall => ?_
                     have := List.all_eq_true.1 hall j (List.mem_range.2 (by rw [HC.out.len]; exact hlt))
                     rw [Hok2.out, hbf] at this
                     exact absurd this (by simp))
                    have hq := cmpC_neg (q1, q2) (p1, p2)
                    rw [hbf] at hq
                    generalize cmpC (q1, q2) (p1, p2) = z at *
                    simp at hq
                    go_wp2
                    go_ret
                    exact ⟨ret_bool E.out.symm, hB3.out.trans (Hcur.out.mono hB3.out.size)⟩
          · have hjk : j = k := by omega
            have E := hid (show validT W gs V ks cs = true by
             rw [Hsp.out]
             refine List.all_eq_true.2 fun x hx => hb.out x ?_
             have := List.mem_range.1 hx
             rw [HC.out.len] at this
             omega)
            have Hw := hid hI.out.2
            clear hjk c0 c1 c2 c3 c4
            go_wp2
            go_ret
            exact ⟨ret_bool E.out.symm, Hw.out⟩
       · have E := hid (show validT W gs V ks cs = false by unfold validT; rw [HC.out.len]; simp [hle])
         have Hw := hid Hb2.out
         go_wp2
         go_ret
         exact ⟨ret_bool E.out.symm, Hw.out⟩
     · have t1 : (W != V) = true := by simp [hWV]
       have E := hid (show validT W gs V ks cs = false by unfold validT; simp [hWV])
       have Hw := hid Hb2.out
       go_wp2
       go_ret
       exact ⟨ret_bool E.out.symm, Hw.out⟩
theorem run_rows (n : Nat) (hn : n ≤ 100000) (w : World) :
 (Instr.makeSlice 47 (.int .i64 (n : Int)) (.int .i64 (n : Int))).run Tryz.prog w = .ok (.slice (some ⟨w.heap.size, 0, none⟩) n n) (w.alloc (.cells (words (List.replicate n 0)).toArray 106)) := by
 obtain ⟨i, hi, hz0, hz1, hz2⟩ := info_parts info62
 have h := run_make (P := Tryz.prog) w 47 106 i (.int .u64 0) Tryz.underlying47 hi hz0 .i64 .i64 n n (by omega) (by omega) (by rw [hz2]; omega) (by omega)
 rw [h, hz1]
 simp only [Int.toNat_natCast, Nat.mul_one]
 have e2 : madeCells (Value.int IntKind.u64 0).cells n = (words (List.replicate n 0)).toArray := by
  rw [← zeros_words]; rfl
 rw [e2]
structure OpOf (f : Nat → Nat → Nat) (fb : Bool → Bool → Bool) : Prop where
 lt : ∀ x y, x < Bs.W64 → y < Bs.W64 → f x y < Bs.W64
 bit : ∀ x y j, x < Bs.W64 → y < Bs.W64 → j < 64 → (f x y).testBit j = fb (x.testBit j) (y.testBit j)
 none : fb false false = false
def part (f : Nat → Nat → Nat) (ws xs : List Nat) (n k : Nat) : List Nat := (List.range n).map fun i => if i < k then f (Bs.wd ws i) (Bs.wd xs i) else 0
section
variable {f : Nat → Nat → Nat} {fb : Bool → Bool → Bool} {ws xs : List Nat} {n k : Nat}
theorem part_len : (part f ws xs n k).length = n := by simp [part]
theorem part_zero : part f ws xs n 0 = List.replicate n 0 := by
 refine List.ext_getElem (by simp [part]) fun i h1 h2 => ?_
 simp [part]
theorem part_set (_h : k < n) : (part f ws xs n k).set k (f (Bs.wd ws k) (Bs.wd xs k)) = part f ws xs n (k + 1) := by
 refine List.ext_getElem (by simp [part]) fun i h1 h2 => ?_
 rw [List.getElem_set]
 simp only [part, List.getElem_map, List.getElem_range]
 by_cases e : k = i
 · subst e; simp
 · rw [if_neg e]
   by_cases hi : i < k
   · rw [if_pos hi, if_pos (by omega)]
   · rw [if_neg hi, if_neg (by omega)]
theorem part_wd (i : Nat) (hi : i < n) : Bs.wd (part f ws xs n n) i = f (Bs.wd ws i) (Bs.wd xs i) := by
 rw [Bs.wd_get (by rw [part_len]; exact hi)]
 simp [part, hi]
theorem part_fit (H : OpOf f fb) {v : Nat} (h1 : Bs.Fit v ws) (h2 : Bs.Fit v xs) (hn : n = Bs.nw v) :
 Bs.Fit v (part f ws xs n n) ∧ ∀ i, i < v → Bs.bit (part f ws xs n n) i = fb (Bs.bit ws i) (Bs.bit xs i) := by
 have key : ∀ b, b / 64 < n → Bs.bit (part f ws xs n n) b = fb (Bs.bit ws b) (Bs.bit xs b) := fun b hb => by
  unfold Bs.bit
  rw [part_wd _ hb]
  exact H.bit _ _ _ (Bs.wd_lt h1.ok _) (Bs.wd_lt h2.ok _) (by omega)
 refine ⟨⟨by rw [part_len, hn], ?_, fun b hb => ?_⟩, fun i hi => key i (by rw [hn]; exact Bs.lt_nw hi)⟩
 · intro x hx
   unfold part at hx
   obtain ⟨i, _, rfl⟩ := List.mem_map.1 hx
   split
   · exact H.lt _ _ (Bs.wd_lt h1.ok _) (Bs.wd_lt h2.ok _)
   · decide
 · rcases Nat.lt_or_ge (b / 64) n with h | h
   · rw [key b h, h1.hi b hb, h2.hi b hb]; exact H.none
   · exact Bs.bit_out (by rw [part_len]; omega)
theorem part_done (H : OpOf f fb) {v : Nat} (h1 : Bs.Fit v ws) (h2 : Bs.Fit v xs) (hn : n = Bs.nw v) :
 part f ws xs n n = Bs.ofP v (fun i => fb (Bs.bit ws i) (Bs.bit xs i)) v := by
 obtain ⟨hf, hb⟩ := part_fit H h1 h2 hn
 refine Bs.ext hf (Bs.fit_ofP _ _ _ (Nat.le_refl _)) fun i hi => ?_
 rw [hb i hi, Bs.bit_ofP _ _ _ (Nat.le_refl _)]
 simp [hi]
end
def Comb (w : World) (W : Nat) (A B : Option Addr) (n c d g : Nat) (zs : List Nat) (wr : World) : Prop :=
 Box wr w.heap.size W A n c ∧ Box wr (w.heap.size + 1) W B n d ∧ Box wr (w.heap.size + 1 + 1) 0 none 0 0 ∧ Row wr g zs ∧ w.heap.size + 1 + 1 < g ∧ Below w.heap.size w wr
theorem Comb.drew {w wr : World} {W : Nat} {A B : Option Addr} {n c d g : Nat} {zs : List Nat} (h : Comb w W A B n c d g zs wr) : Comb w W A B n c d g zs wr.drew := by
 obtain ⟨h1, h2, h3, h4, h5, h6⟩ := h
 exact ⟨h1, h2, h3, h4, h5, h6.drew⟩
theorem Comb.set {w wr : World} {W : Nat} {A B : Option Addr} {n c d g : Nat} {zs : List Nat} (h : Comb w W A B n c d g zs wr) (k x : Nat) : Comb w W A B n c d g (zs.set k x) (wr.setCell ⟨g, k, none⟩ (.int .u64 x)) := by
 obtain ⟨h1, h2, h3, h4, h5, h6⟩ := h
 exact ⟨h1.far (by simp; omega) _, h2.far (by simp; omega) _, h3.far (by simp; omega) _, h4.set _ _, h5, h6.setCell (by simp; omega) _⟩
def unionW (x y : Nat) : Nat := x ||| y
theorem unionW_op : OpOf unionW (flag true true true) where
 lt x y h1 h2 := by
  unfold unionW; rw [Bs.W64_eq] at *; exact Nat.or_lt_two_pow h1 h2
 bit x y j h1 h2 hj := by
  unfold unionW
  rw [Nat.testBit_or]; cases x.testBit j <;> cases y.testBit j <;> rfl
 none := rfl
theorem union1_any (x y : Nat) (w : World) (hx : x < Bs.W64) (hy : y < Bs.W64) : Calls Tryz.prog 165 #[.int .u64 x, .int .u64 y] w fun e w' => e = .returned (.int .u64 (unionW x y : Nat)) ∧ w' = w := by
 have h := u64_or_nat x y hx hy
 generalize hz : unionW x y = z
 unfold unionW at hz
 rw [hz] at h
 clear hz hx hy
 go_enter Tryz.func165, Tryz.ntmps165
 go_wp2
 go_ret
 exact ⟨rfl, rfl⟩
theorem combUnion_bad1 (W V : Int) (A B : Option Addr) (n c m d : Nat) (ws xs : List Nat) (w : World) (hA : Arg w A n ws) (h : Bs.validB W ws = false) :
 Calls Tryz.prog 164 #[.agg #[.int .i64 W, .slice A n c], .agg #[.int .i64 V, .slice B m d], .func (Fn.func 165) #[] #[]] w (RetErr w (mixR (flag true true true) W ws V xs)) := by
 have hr : mixR (flag true true true) W ws V xs = (0, [], 1) := by unfold mixR; rw [if_pos (.inl h)]
 rw [hr]
 have HA := hid hA; have H := hid h
 clear hA h hr
 obtain ⟨hx1, hx2, hx3⟩ := box3 w W V A B n c m d
 have hx4 := below3 w (.cells #[.int .i64 W, .slice A n c] 49) (.cells #[.int .i64 V, .slice B m d] 49) (.cells #[.int .i64 0, .slice none 0 0] 49)
 have Hx3 := hid hx3; have Hx4 := hid hx4
 clear hx1 hx2 hx3 hx4
 go_enter Tryz.func164, Tryz.ntmps164
 go_wp2_with (go_at_call 81; refine (devValid_any W A n c ws _ (((HA.out.alloc _).alloc _).alloc _)).mono ?_; rw [H.out]; rintro e w1 ⟨rfl, hbl⟩; have hq := Hx3.out.below hbl (by simp); have hq0 := hq.c0; have hq1 := hq.c1; have hf0 := hq.f 0; have hf1 := hq.f 1; have Hbl := hid hbl; clear hbl hq)
 refine bodyPost_ret (v := .tuple #[.agg #[.int .i64 0, .slice none 0 0], .int .i64 1]) (by simp [results, Tryz.results164, go_sem, hq0, hq1]) rfl ⟨_, _, _, rfl, Arg.nil _ _, ?_⟩
 exact ((Hx4.out.trans (Hbl.out.mono (by simp; omega))).setCell (by simp; omega) _).setCell (by simp; omega) _
theorem combUnion_bad2 (W V : Int) (A B : Option Addr) (n c m d : Nat) (ws xs : List Nat) (w : World) (hA : Arg w A n ws) (hB : Arg w B m xs) (h : Bs.validB W ws = true) (h2 : Bs.validB V xs = false ∨ (Bs.validB V xs = true ∧ W ≠ V)) :
 Calls Tryz.prog 164 #[.agg #[.int .i64 W, .slice A n c], .agg #[.int .i64 V, .slice B m d], .func (Fn.func 165) #[] #[]] w (RetErr w (mixR (flag true true true) W ws V xs)) := by
 obtain ⟨u, r, hu, hr, hne⟩ : ∃ (u : Bool) (r : Int), Bs.validB V xs = u ∧ mixR (flag true true true) W ws V xs = (0, [], r) ∧ ((u = false ∧ r = 1) ∨ (u = true ∧ r = 2 ∧ (W != V) = true)) := by
  rcases h2 with h2 | ⟨h2, hne⟩
  · exact ⟨false, 1, h2, by unfold mixR; rw [if_pos (.inr h2)], .inl ⟨rfl, rfl⟩⟩
  · exact ⟨true, 2, h2, by unfold mixR; rw [if_neg (by simp [h, h2]), if_pos hne], .inr ⟨rfl, rfl, by simp [hne]⟩⟩
 rw [hr]
 have HA := hid hA; have HB := hid hB; have H := hid h; have H2 := hid hu
 clear hA hB h h2 hr hu
 obtain ⟨hx1, hx2, hx3⟩ := box3 w W V A B n c m d
 have hx4 := below3 w (.cells #[.int .i64 W, .slice A n c] 49) (.cells #[.int .i64 V, .slice B m d] 49) (.cells #[.int .i64 0, .slice none 0 0] 49)
 have Hx1 := hid hx1; have Hx2 := hid hx2; have Hx3 := hid hx3; have Hx4 := hid hx4
 clear hx1 hx2 hx3 hx4
 go_enter Tryz.func164, Tryz.ntmps164
 go_wp2_with fail
 refine (devValid_any W A n c ws _ (((HA.out.alloc _).alloc _).alloc _)).mono ?_
 rw [H.out]
 rintro e w1 ⟨rfl, hbl⟩
 have hq2 := Hx2.out.below hbl (by simp)
 have hq20 := hq2.c0
 have hq21 := hq2.c1
 have Hq1 := hid (Hx1.out.below hbl (by simp; omega))
 have Hq2 := hid hq2
 have Hq3 := hid (Hx3.out.below hbl (by simp))
 have Hb1 := hid (Hx4.out.trans (hbl.mono (by simp; omega)))
 have hz1 := hbl.size
 simp only [World.size_alloc] at hz1
 clear hbl hq2
 go_wp2_with fail
 refine (devValid_any V B m d xs _ (HB.out.below Hb1.out)).mono ?_
 rw [H2.out]
 rintro e w2 ⟨rfl, hbl⟩
 have hq := Hq3.out.below hbl (by omega)
 have hq0 := hq.c0
 have hq1 := hq.c1
 have hf0 := hq.f 0
 have hf1 := hq.f 1
 have hp := Hq1.out.below hbl (by omega)
 have hp0 := hp.c0
 have hp' := Hq2.out.below hbl (by omega)
 have hp1 := hp'.c0
 have Hb2 := hid (Hb1.out.trans (hbl.mono (by omega)))
 clear hbl hq hp hp' hq20 hq21
 rcases hne with ⟨rfl, rfl⟩ | ⟨rfl, rfl, hne⟩
 · go_wp2_with fail
   refine bodyPost_ret (v := .tuple #[.agg #[.int .i64 0, .slice none 0 0], .int .i64 1]) (by simp [results, Tryz.results164, go_sem, hq0, hq1]) rfl ⟨_, _, _, rfl, Arg.nil _ _, ?_⟩
   exact ((Hb2.out).setCell (by simp; omega) _).setCell (by simp; omega) _
 · go_wp2_with fail
   refine bodyPost_ret (v := .tuple #[.agg #[.int .i64 0, .slice none 0 0], .int .i64 2]) (by simp [results, Tryz.results164, go_sem, hq0, hq1]) rfl ⟨_, _, _, rfl, Arg.nil _ _, ?_⟩
   exact ((Hb2.out).setCell (by simp; omega) _).setCell (by simp; omega) _
theorem combUnion_in (W : Nat) (A B : Option Addr) (n c d : Nat) (ws xs : List Nat) (w : World) (hA : Arg w A n ws) (hB : Arg w B n xs) (h : Bs.validB W ws = true) (h2 : Bs.validB W xs = true) :
 Calls Tryz.prog 164 #[.agg #[.int .i64 W, .slice A n c], .agg #[.int .i64 W, .slice B n d], .func (Fn.func 165) #[] #[]] w (RetErr w (W, Bs.ofP W (fun i => flag true true true (Bs.bit ws i) (Bs.bit xs i)) W, 0)) := by
 have hf1 := Bs.fit_of_valid h hA.ok
 have hf2 := Bs.fit_of_valid h2 hB.ok
 rw [Int.toNat_natCast] at hf1 hf2
 have hn : n = Bs.nw W := by rw [← hf1.len]; exact hA.len.symm
 have hW : W ≤ 256 := by have := (Bs.validB_iff.1 h).2.1; omega
 have hn5 : n ≤ 5 := by rw [hn]; unfold Bs.nw; omega
 rw [← part_done unionW_op hf1 hf2 hn]
 have Hfit := hid (part_fit unionW_op hf1 hf2 hn).1
 have HA := hid hA; have HB := hid hB; have H := hid h; have H2 := hid h2; have Hf1 := hid hf1; have Hf2 := hid hf2
 have hne : ((W : Int) != W) = false := by simp
 have hm := run_rows n (by omega)
 clear hA hB h h2 hf1 hf2 hn hW
 obtain ⟨hx1, hx2, hx3⟩ := box3 w W W A B n c n d
 have hx4 := below3 w (.cells #[.int .i64 W, .slice A n c] 49) (.cells #[.int .i64 W, .slice B n d] 49) (.cells #[.int .i64 0, .slice none 0 0] 49)
 have Hx1 := hid hx1; have Hx2 := hid hx2; have Hx3 := hid hx3; have Hx4 := hid hx4
 clear hx1 hx2 hx3 hx4
 go_enter Tryz.func164, Tryz.ntmps164
 go_wp2_with fail
 refine (devValid_any W A n c ws _ (((HA.out.alloc _).alloc _).alloc _)).mono ?_
 rw [H.out]
 rintro e w1 ⟨rfl, hbl⟩
 have hq2 := Hx2.out.below hbl (by simp)
 have hq20 := hq2.c0
 have hq21 := hq2.c1
 have Hq1 := hid (Hx1.out.below hbl (by simp only [World.size_alloc]; omega))
 have Hq2 := hid hq2
 have Hq3 := hid (Hx3.out.below hbl (by simp))
 have Hb1 := hid (Hx4.out.trans (hbl.mono (by simp only [World.size_alloc]; omega)))
 have hz1 := hbl.size
 simp only [World.size_alloc] at hz1
 clear hbl hq2
 go_wp2_with fail
 refine (devValid_any W B n d xs _ (HB.out.below Hb1.out)).mono ?_
 rw [H2.out]
 rintro e w2 ⟨rfl, hbl⟩
 have hp := Hq1.out.below hbl (by omega)
 have hp0 := hp.c0
 have hp00 := hp.c1
 have hp' := Hq2.out.below hbl (by omega)
 have hp1 := hp'.c0
 have hinv : Comb w W A B n c d w2.heap.size (part unionW ws xs n 0) (w2.alloc (.cells (words (List.replicate n 0)).toArray 106)) := by
  rw [part_zero]
  have hz2 := hbl.size
  exact ⟨hp.alloc _, hp'.alloc _, (Hq3.out.below hbl (by omega)).alloc _, heap_alloc_new w2 _, by omega, (Hb1.out.trans (hbl.mono (by omega))).alloc (by omega) _⟩
 have Hinv := hid hinv
 have hz2 := hbl.size
 clear hbl hp hp' hinv hq20 hq21
 go_wp2_with fail
 clear hp0 hp00 hp1 hne hm Hq1 Hq2 Hq3 Hx1 Hx2 Hx3 Hx4 Hb1
 generalize w2.heap.size = g at Hinv hz2 ⊢
 go_loopw [9, 31] (fun _ i wr => ∃ k : Nat, k ≤ n ∧ i = .int .i64 k ∧ Hid (Comb w W A B n c d g (part unionW ws xs n k) wr)) (fun _ i _ => n - (intOf i).toNat)
 case atStart => exact ⟨0, by omega, rfl, Hinv⟩
 case round =>
  obtain ⟨k, hk, rfl, hG⟩ := hrel
  by_cases hlt : k < n
  · obtain ⟨ad, rfl, had, hcA⟩ := HA.out.lies.cell (words_get (i := k) (by rw [HA.out.len]; exact hlt))
    obtain ⟨bd, rfl, hbd, hcB⟩ := HB.out.lies.cell (words_get (i := k) (by rw [HB.out.len]; exact hlt))
    obtain ⟨g1, g2, g3, g4, g5, g6⟩ := hG.out
    have hc11 := g1.c1
    have hc21 := g2.c1
    have hcA2 := (g6.cell (p := ad.add k) (by rw [add_block]; exact had)).trans hcA
    have hcB2 := (g6.cell (p := bd.add k) (by rw [add_block]; exact hbd)).trans hcB
    have hx := Bs.wd_lt HA.out.ok k
    have hy := Bs.wd_lt HB.out.ok k
    have hst := hG.out.set k (unionW (Bs.wd ws k) (Bs.wd xs k))
    rw [part_set hlt] at hst
    have hcg := (g4.cell k).trans (words_get (by rw [part_len]; exact hlt))
    have hfg := g4.frozen k
    generalize Bs.wd ws k = x at hcA2 hx hst
    generalize Bs.wd xs k = y at hcB2 hy hst
    generalize Bs.wd (part unionW ws xs n k) k = z at hcg
    have Hst := hid hst; have Hx := hid hx; have Hy := hid hy
    clear g1 g2 g3 g4 g5 g6 hcA hcB had hbd hst hx hy Hinv HA HB H H2 Hf1 Hf2 Hfit hG
    go_wp2_with fail
    refine wp_region_still_tail 15 (by kernel_rfl) (by kernel_rfl) ?_
    simp only [List.take_succ_cons, List.take_zero, List.drop_succ_cons, List.drop_zero]
    repeat still_step
    still_call (union1_any _ _ _ Hx.out Hy.out)
    repeat still_step
    try refine wpStill_nil ?_
    change wpList _ _ _ _ _ wr.drew
    go_wp2
    go_roundw
    case rel => exact ⟨k + 1, by omega, by go_num, hid Hst.out.drew⟩
    case measure => simp [intOf]; omega
  · have hkn : k = n := by omega
    subst hkn
    obtain ⟨g1, g2, g3, g4, g5, g6⟩ := hG.out
    have hc10 := g1.c0
    have hr0 := g3.c0
    have hr1 := g3.c1
    have hf0 := g3.f 0
    have hf1 := g3.f 1
    have Hg4 := hid g4; have Hg6 := hid g6
    clear g1 g2 g3 g4 g6 Hinv hG
    go_wp2_with fail
    refine bodyPost_ret (v := .tuple #[.agg #[.int .i64 W, .slice (some ⟨g, 0, none⟩) k k], .int .i64 0]) (by simp [results, Tryz.results164, go_sem, hr0, hr1]) rfl ⟨_, _, _, rfl, ?_, ?_⟩
    · have hr := Row.arg ((Hg4.out.far (p := ⟨w.heap.size + 1 + 1, 0, none⟩) (by simp; omega) (.int .i64 W)).far (p := ⟨w.heap.size + 1 + 1, 1, none⟩) (by simp; omega) (.slice (some ⟨g, 0, none⟩) k k)) Hfit.out.ok
      rw [part_len] at hr
      exact hr
    · exact (Hg6.out.setCell (by simp; omega) _).setCell (by simp; omega) _
theorem combUnion_any (W V : Int) (A B : Option Addr) (n c m d : Nat) (ws xs : List Nat) (w : World) (hA : Arg w A n ws) (hB : Arg w B m xs) :
 Calls Tryz.prog 164 #[.agg #[.int .i64 W, .slice A n c], .agg #[.int .i64 V, .slice B m d], .func (Fn.func 165) #[] #[]] w (RetErr w (mixR (flag true true true) W ws V xs)) := by
 cases h : Bs.validB W ws with
 | false => exact combUnion_bad1 W V A B n c m d ws xs w hA h
 | true =>
   cases h2 : Bs.validB V xs with
   | false => exact combUnion_bad2 W V A B n c m d ws xs w hA hB h (.inl h2)
   | true =>
     by_cases hne : W = V
     · subst hne
       obtain ⟨v, rfl⟩ := Int.eq_ofNat_of_zero_le (Bs.validB_iff.1 h).1
       have hnm : n = m := by
        have e1 := (Bs.fit_of_valid h hA.ok).len
        have e2 := (Bs.fit_of_valid h2 hB.ok).len
        rw [← hA.len, ← hB.len, e1, e2]
       subst hnm
       have hr : mixR (flag true true true) (v : Int) ws (v : Int) xs = ((v : Int), Bs.ofP v (fun i => flag true true true (Bs.bit ws i) (Bs.bit xs i)) v, 0) := by
        unfold mixR; rw [if_neg (by simp [h, h2]), if_neg (by simp), Int.toNat_natCast]
       rw [hr]
       exact combUnion_in v A B n c d ws xs w hA hB h h2
     · exact combUnion_bad2 W V A B n c m d ws xs w hA hB h (.inr ⟨h2, hne⟩)
theorem devUnion_any (W V : Int) (A B : Option Addr) (n c m d : Nat) (ws xs : List Nat) (w : World) (hA : Arg w A n ws) (hB : Arg w B m xs) :
 Calls Tryz.prog 132 #[.agg #[.int .i64 W, .slice A n c], .agg #[.int .i64 V, .slice B m d]] w (RetErr w (mixR (flag true true true) W ws V xs)) := by
 have HA := hid hA; have HB := hid hB
 clear hA hB
 obtain ⟨hx1, hx2, hx3⟩ := box3 w W V A B n c m d
 have hx4 := below3 w (.cells #[.int .i64 W, .slice A n c] 49) (.cells #[.int .i64 V, .slice B m d] 49) (.cells #[.int .i64 0, .slice none 0 0] 49)
 have Hx3 := hid hx3; have Hx4 := hid hx4
 clear hx1 hx2 hx3 hx4
 generalize hr : mixR (flag true true true) W ws V xs = r
 have Hr := hid hr
 clear hr
 go_enter Tryz.func132, Tryz.ntmps132
 go_wp2_with fail
 refine (combUnion_any W V A B n c m d ws xs _ (HA.out.below Hx4.out) (HB.out.below Hx4.out)).mono ?_
 rw [Hr.out]
 rintro e w1 ⟨A1, n1, c1, rfl, ha, hb⟩
 have hq := Hx3.out.below hb (by simp)
 have hq0 := hq.c0
 have hq1 := hq.c1
 have hf0 := hq.f 0
 have hf1 := hq.f 1
 have Ha := hid ha; have Hb := hid hb; have Hq := hid hq
 clear hq ha hb
 go_wp2_with fail
 refine bodyPost_ret (v := .tuple #[.agg #[.int .i64 r.1, .slice A1 n1 c1], .int .i64 r.2.2]) (by simp [results, Tryz.results132, go_sem, hq0, hq1]) rfl ⟨A1, n1, c1, rfl, ?_, ?_⟩
 · exact Hq.out.store Ha.out _ _
 · exact ((Hx4.out.trans (Hb.out.mono (by simp only [World.size_alloc]; omega))).setCell (by simp; omega) _).setCell (by simp; omega) _
def interW (x y : Nat) : Nat := x &&& y
theorem interW_op : OpOf interW (flag false false true) where
 lt x y h1 h2 := by
  unfold interW; rw [Bs.W64_eq] at *; exact Nat.and_lt_two_pow _ h2
 bit x y j h1 h2 hj := by
  unfold interW
  rw [Nat.testBit_and]; cases x.testBit j <;> cases y.testBit j <;> rfl
 none := rfl
theorem inter1_any (x y : Nat) (w : World) (hx : x < Bs.W64) (hy : y < Bs.W64) : Calls Tryz.prog 194 #[.int .u64 x, .int .u64 y] w fun e w' => e = .returned (.int .u64 (interW x y : Nat)) ∧ w' = w := by
 have h := u64_and_nat x y hx hy
 generalize hz : interW x y = z
 unfold interW at hz
 rw [hz] at h
 clear hz hx hy
 go_enter Tryz.func194, Tryz.ntmps194
 go_wp2
 go_ret
 exact ⟨rfl, rfl⟩
theorem combInter_bad1 (W V : Int) (A B : Option Addr) (n c m d : Nat) (ws xs : List Nat) (w : World) (hA : Arg w A n ws) (h : Bs.validB W ws = false) :
 Calls Tryz.prog 164 #[.agg #[.int .i64 W, .slice A n c], .agg #[.int .i64 V, .slice B m d], .func (Fn.func 194) #[] #[]] w (RetErr w (mixR (flag false false true) W ws V xs)) := by
 have hr : mixR (flag false false true) W ws V xs = (0, [], 1) := by unfold mixR; rw [if_pos (.inl h)]
 rw [hr]
 have HA := hid hA; have H := hid h
 clear hA h hr
 obtain ⟨hx1, hx2, hx3⟩ := box3 w W V A B n c m d
 have hx4 := below3 w (.cells #[.int .i64 W, .slice A n c] 49) (.cells #[.int .i64 V, .slice B m d] 49) (.cells #[.int .i64 0, .slice none 0 0] 49)
 have Hx3 := hid hx3; have Hx4 := hid hx4
 clear hx1 hx2 hx3 hx4
 go_enter Tryz.func164, Tryz.ntmps164
 go_wp2_with (go_at_call 81; refine (devValid_any W A n c ws _ (((HA.out.alloc _).alloc _).alloc _)).mono ?_; rw [H.out]; rintro e w1 ⟨rfl, hbl⟩; have hq := Hx3.out.below hbl (by simp); have hq0 := hq.c0; have hq1 := hq.c1; have hf0 := hq.f 0; have hf1 := hq.f 1; have Hbl := hid hbl; clear hbl hq)
 refine bodyPost_ret (v := .tuple #[.agg #[.int .i64 0, .slice none 0 0], .int .i64 1]) (by simp [results, Tryz.results164, go_sem, hq0, hq1]) rfl ⟨_, _, _, rfl, Arg.nil _ _, ?_⟩
 exact ((Hx4.out.trans (Hbl.out.mono (by simp; omega))).setCell (by simp; omega) _).setCell (by simp; omega) _
theorem combInter_bad2 (W V : Int) (A B : Option Addr) (n c m d : Nat) (ws xs : List Nat) (w : World) (hA : Arg w A n ws) (hB : Arg w B m xs) (h : Bs.validB W ws = true) (h2 : Bs.validB V xs = false ∨ (Bs.validB V xs = true ∧ W ≠ V)) :
 Calls Tryz.prog 164 #[.agg #[.int .i64 W, .slice A n c], .agg #[.int .i64 V, .slice B m d], .func (Fn.func 194) #[] #[]] w (RetErr w (mixR (flag false false true) W ws V xs)) := by
 obtain ⟨u, r, hu, hr, hne⟩ : ∃ (u : Bool) (r : Int), Bs.validB V xs = u ∧ mixR (flag false false true) W ws V xs = (0, [], r) ∧ ((u = false ∧ r = 1) ∨ (u = true ∧ r = 2 ∧ (W != V) = true)) := by
  rcases h2 with h2 | ⟨h2, hne⟩
  · exact ⟨false, 1, h2, by unfold mixR; rw [if_pos (.inr h2)], .inl ⟨rfl, rfl⟩⟩
  · exact ⟨true, 2, h2, by unfold mixR; rw [if_neg (by simp [h, h2]), if_pos hne], .inr ⟨rfl, rfl, by simp [hne]⟩⟩
 rw [hr]
 have HA := hid hA; have HB := hid hB; have H := hid h; have H2 := hid hu
 clear hA hB h h2 hr hu
 obtain ⟨hx1, hx2, hx3⟩ := box3 w W V A B n c m d
 have hx4 := below3 w (.cells #[.int .i64 W, .slice A n c] 49) (.cells #[.int .i64 V, .slice B m d] 49) (.cells #[.int .i64 0, .slice none 0 0] 49)
 have Hx1 := hid hx1; have Hx2 := hid hx2; have Hx3 := hid hx3; have Hx4 := hid hx4
 clear hx1 hx2 hx3 hx4
 go_enter Tryz.func164, Tryz.ntmps164
 go_wp2_with fail
 refine (devValid_any W A n c ws _ (((HA.out.alloc _).alloc _).alloc _)).mono ?_
 rw [H.out]
 rintro e w1 ⟨rfl, hbl⟩
 have hq2 := Hx2.out.below hbl (by simp)
 have hq20 := hq2.c0
 have hq21 := hq2.c1
 have Hq1 := hid (Hx1.out.below hbl (by simp; omega))
 have Hq2 := hid hq2
 have Hq3 := hid (Hx3.out.below hbl (by simp))
 have Hb1 := hid (Hx4.out.trans (hbl.mono (by simp; omega)))
 have hz1 := hbl.size
 simp only [World.size_alloc] at hz1
 clear hbl hq2
 go_wp2_with fail
 refine (devValid_any V B m d xs _ (HB.out.below Hb1.out)).mono ?_
 rw [H2.out]
 rintro e w2 ⟨rfl, hbl⟩
 have hq := Hq3.out.below hbl (by omega)
 have hq0 := hq.c0
 have hq1 := hq.c1
 have hf0 := hq.f 0
 have hf1 := hq.f 1
 have hp := Hq1.out.below hbl (by omega)
 have hp0 := hp.c0
 have hp' := Hq2.out.below hbl (by omega)
 have hp1 := hp'.c0
 have Hb2 := hid (Hb1.out.trans (hbl.mono (by omega)))
 clear hbl hq hp hp' hq20 hq21
 rcases hne with ⟨rfl, rfl⟩ | ⟨rfl, rfl, hne⟩
 · go_wp2_with fail
   refine bodyPost_ret (v := .tuple #[.agg #[.int .i64 0, .slice none 0 0], .int .i64 1]) (by simp [results, Tryz.results164, go_sem, hq0, hq1]) rfl ⟨_, _, _, rfl, Arg.nil _ _, ?_⟩
   exact ((Hb2.out).setCell (by simp; omega) _).setCell (by simp; omega) _
 · go_wp2_with fail
   refine bodyPost_ret (v := .tuple #[.agg #[.int .i64 0, .slice none 0 0], .int .i64 2]) (by simp [results, Tryz.results164, go_sem, hq0, hq1]) rfl ⟨_, _, _, rfl, Arg.nil _ _, ?_⟩
   exact ((Hb2.out).setCell (by simp; omega) _).setCell (by simp; omega) _
theorem combInter_in (W : Nat) (A B : Option Addr) (n c d : Nat) (ws xs : List Nat) (w : World) (hA : Arg w A n ws) (hB : Arg w B n xs) (h : Bs.validB W ws = true) (h2 : Bs.validB W xs = true) :
 Calls Tryz.prog 164 #[.agg #[.int .i64 W, .slice A n c], .agg #[.int .i64 W, .slice B n d], .func (Fn.func 194) #[] #[]] w (RetErr w (W, Bs.ofP W (fun i => flag false false true (Bs.bit ws i) (Bs.bit xs i)) W, 0)) := by
 have hf1 := Bs.fit_of_valid h hA.ok
 have hf2 := Bs.fit_of_valid h2 hB.ok
 rw [Int.toNat_natCast] at hf1 hf2
 have hn : n = Bs.nw W := by rw [← hf1.len]; exact hA.len.symm
 have hW : W ≤ 256 := by have := (Bs.validB_iff.1 h).2.1; omega
 have hn5 : n ≤ 5 := by rw [hn]; unfold Bs.nw; omega
 rw [← part_done interW_op hf1 hf2 hn]
 have Hfit := hid (part_fit interW_op hf1 hf2 hn).1
 have HA := hid hA; have HB := hid hB; have H := hid h; have H2 := hid h2; have Hf1 := hid hf1; have Hf2 := hid hf2
 have hne : ((W : Int) != W) = false := by simp
 have hm := run_rows n (by omega)
 clear hA hB h h2 hf1 hf2 hn hW
 obtain ⟨hx1, hx2, hx3⟩ := box3 w W W A B n c n d
 have hx4 := below3 w (.cells #[.int .i64 W, .slice A n c] 49) (.cells #[.int .i64 W, .slice B n d] 49) (.cells #[.int .i64 0, .slice none 0 0] 49)
 have Hx1 := hid hx1; have Hx2 := hid hx2; have Hx3 := hid hx3; have Hx4 := hid hx4
 clear hx1 hx2 hx3 hx4
 go_enter Tryz.func164, Tryz.ntmps164
 go_wp2_with fail
 refine (devValid_any W A n c ws _ (((HA.out.alloc _).alloc _).alloc _)).mono ?_
 rw [H.out]
 rintro e w1 ⟨rfl, hbl⟩
 have hq2 := Hx2.out.below hbl (by simp)
 have hq20 := hq2.c0
 have hq21 := hq2.c1
 have Hq1 := hid (Hx1.out.below hbl (by simp only [World.size_alloc]; omega))
 have Hq2 := hid hq2
 have Hq3 := hid (Hx3.out.below hbl (by simp))
 have Hb1 := hid (Hx4.out.trans (hbl.mono (by simp only [World.size_alloc]; omega)))
 have hz1 := hbl.size
 simp only [World.size_alloc] at hz1
 clear hbl hq2
 go_wp2_with fail
 refine (devValid_any W B n d xs _ (HB.out.below Hb1.out)).mono ?_
 rw [H2.out]
 rintro e w2 ⟨rfl, hbl⟩
 have hp := Hq1.out.below hbl (by omega)
 have hp0 := hp.c0
 have hp00 := hp.c1
 have hp' := Hq2.out.below hbl (by omega)
 have hp1 := hp'.c0
 have hinv : Comb w W A B n c d w2.heap.size (part interW ws xs n 0) (w2.alloc (.cells (words (List.replicate n 0)).toArray 106)) := by
  rw [part_zero]
  have hz2 := hbl.size
  exact ⟨hp.alloc _, hp'.alloc _, (Hq3.out.below hbl (by omega)).alloc _, heap_alloc_new w2 _, by omega, (Hb1.out.trans (hbl.mono (by omega))).alloc (by omega) _⟩
 have Hinv := hid hinv
 have hz2 := hbl.size
 clear hbl hp hp' hinv hq20 hq21
 go_wp2_with fail
 clear hp0 hp00 hp1 hne hm Hq1 Hq2 Hq3 Hx1 Hx2 Hx3 Hx4 Hb1
 generalize w2.heap.size = g at Hinv hz2 ⊢
 go_loopw [9, 31] (fun _ i wr => ∃ k : Nat, k ≤ n ∧ i = .int .i64 k ∧ Hid (Comb w W A B n c d g (part interW ws xs n k) wr)) (fun _ i _ => n - (intOf i).toNat)
 case atStart => exact ⟨0, by omega, rfl, Hinv⟩
 case round =>
  obtain ⟨k, hk, rfl, hG⟩ := hrel
  by_cases hlt : k < n
  · obtain ⟨ad, rfl, had, hcA⟩ := HA.out.lies.cell (words_get (i := k) (by rw [HA.out.len]; exact hlt))
    obtain ⟨bd, rfl, hbd, hcB⟩ := HB.out.lies.cell (words_get (i := k) (by rw [HB.out.len]; exact hlt))
    obtain ⟨g1, g2, g3, g4, g5, g6⟩ := hG.out
    have hc11 := g1.c1
    have hc21 := g2.c1
    have hcA2 := (g6.cell (p := ad.add k) (by rw [add_block]; exact had)).trans hcA
    have hcB2 := (g6.cell (p := bd.add k) (by rw [add_block]; exact hbd)).trans hcB
    have hx := Bs.wd_lt HA.out.ok k
    have hy := Bs.wd_lt HB.out.ok k
    have hst := hG.out.set k (interW (Bs.wd ws k) (Bs.wd xs k))
    rw [part_set hlt] at hst
    have hcg := (g4.cell k).trans (words_get (by rw [part_len]; exact hlt))
    have hfg := g4.frozen k
    generalize Bs.wd ws k = x at hcA2 hx hst
    generalize Bs.wd xs k = y at hcB2 hy hst
    generalize Bs.wd (part interW ws xs n k) k = z at hcg
    have Hst := hid hst; have Hx := hid hx; have Hy := hid hy
    clear g1 g2 g3 g4 g5 g6 hcA hcB had hbd hst hx hy Hinv HA HB H H2 Hf1 Hf2 Hfit hG
    go_wp2_with fail
    refine wp_region_still_tail 15 (by kernel_rfl) (by kernel_rfl) ?_
    simp only [List.take_succ_cons, List.take_zero, List.drop_succ_cons, List.drop_zero]
    repeat still_step
    still_call (inter1_any _ _ _ Hx.out Hy.out)
    repeat still_step
    try refine wpStill_nil ?_
    change wpList _ _ _ _ _ wr.drew
    go_wp2
    go_roundw
    case rel => exact ⟨k + 1, by omega, by go_num, hid Hst.out.drew⟩
    case measure => simp [intOf]; omega
  · have hkn : k = n := by omega
    subst hkn
    obtain ⟨g1, g2, g3, g4, g5, g6⟩ := hG.out
    have hc10 := g1.c0
    have hr0 := g3.c0
    have hr1 := g3.c1
    have hf0 := g3.f 0
    have hf1 := g3.f 1
    have Hg4 := hid g4; have Hg6 := hid g6
    clear g1 g2 g3 g4 g6 Hinv hG
    go_wp2_with fail
    refine bodyPost_ret (v := .tuple #[.agg #[.int .i64 W, .slice (some ⟨g, 0, none⟩) k k], .int .i64 0]) (by simp [results, Tryz.results164, go_sem, hr0, hr1]) rfl ⟨_, _, _, rfl, ?_, ?_⟩
    · have hr := Row.arg ((Hg4.out.far (p := ⟨w.heap.size + 1 + 1, 0, none⟩) (by simp; omega) (.int .i64 W)).far (p := ⟨w.heap.size + 1 + 1, 1, none⟩) (by simp; omega) (.slice (some ⟨g, 0, none⟩) k k)) Hfit.out.ok
      rw [part_len] at hr
      exact hr
    · exact (Hg6.out.setCell (by simp; omega) _).setCell (by simp; omega) _
theorem combInter_any (W V : Int) (A B : Option Addr) (n c m d : Nat) (ws xs : List Nat) (w : World) (hA : Arg w A n ws) (hB : Arg w B m xs) :
 Calls Tryz.prog 164 #[.agg #[.int .i64 W, .slice A n c], .agg #[.int .i64 V, .slice B m d], .func (Fn.func 194) #[] #[]] w (RetErr w (mixR (flag false false true) W ws V xs)) := by
 cases h : Bs.validB W ws with
 | false => exact combInter_bad1 W V A B n c m d ws xs w hA h
 | true =>
   cases h2 : Bs.validB V xs with
   | false => exact combInter_bad2 W V A B n c m d ws xs w hA hB h (.inl h2)
   | true =>
     by_cases hne : W = V
     · subst hne
       obtain ⟨v, rfl⟩ := Int.eq_ofNat_of_zero_le (Bs.validB_iff.1 h).1
       have hnm : n = m := by
        have e1 := (Bs.fit_of_valid h hA.ok).len
        have e2 := (Bs.fit_of_valid h2 hB.ok).len
        rw [← hA.len, ← hB.len, e1, e2]
       subst hnm
       have hr : mixR (flag false false true) (v : Int) ws (v : Int) xs = ((v : Int), Bs.ofP v (fun i => flag false false true (Bs.bit ws i) (Bs.bit xs i)) v, 0) := by
        unfold mixR; rw [if_neg (by simp [h, h2]), if_neg (by simp), Int.toNat_natCast]
       rw [hr]
       exact combInter_in v A B n c d ws xs w hA hB h h2
     · exact combInter_bad2 W V A B n c m d ws xs w hA hB h (.inr ⟨h2, hne⟩)
theorem devInter_any (W V : Int) (A B : Option Addr) (n c m d : Nat) (ws xs : List Nat) (w : World) (hA : Arg w A n ws) (hB : Arg w B m xs) :
 Calls Tryz.prog 186 #[.agg #[.int .i64 W, .slice A n c], .agg #[.int .i64 V, .slice B m d]] w (RetErr w (mixR (flag false false true) W ws V xs)) := by
 have HA := hid hA; have HB := hid hB
 clear hA hB
 obtain ⟨hx1, hx2, hx3⟩ := box3 w W V A B n c m d
 have hx4 := below3 w (.cells #[.int .i64 W, .slice A n c] 49) (.cells #[.int .i64 V, .slice B m d] 49) (.cells #[.int .i64 0, .slice none 0 0] 49)
 have Hx3 := hid hx3; have Hx4 := hid hx4
 clear hx1 hx2 hx3 hx4
 generalize hr : mixR (flag false false true) W ws V xs = r
 have Hr := hid hr
 clear hr
 go_enter Tryz.func186, Tryz.ntmps186
 go_wp2_with fail
 refine (combInter_any W V A B n c m d ws xs _ (HA.out.below Hx4.out) (HB.out.below Hx4.out)).mono ?_
 rw [Hr.out]
 rintro e w1 ⟨A1, n1, c1, rfl, ha, hb⟩
 have hq := Hx3.out.below hb (by simp)
 have hq0 := hq.c0
 have hq1 := hq.c1
 have hf0 := hq.f 0
 have hf1 := hq.f 1
 have Ha := hid ha; have Hb := hid hb; have Hq := hid hq
 clear hq ha hb
 go_wp2_with fail
 refine bodyPost_ret (v := .tuple #[.agg #[.int .i64 r.1, .slice A1 n1 c1], .int .i64 r.2.2]) (by simp [results, Tryz.results186, go_sem, hq0, hq1]) rfl ⟨A1, n1, c1, rfl, ?_, ?_⟩
 · exact Hq.out.store Ha.out _ _
 · exact ((Hx4.out.trans (Hb.out.mono (by simp only [World.size_alloc]; omega))).setCell (by simp; omega) _).setCell (by simp; omega) _
def diffW (x y : Nat) : Nat := x &&& (18446744073709551615 - y)
theorem diffW_op : OpOf diffW (flag true false false) where
 lt x y h1 h2 := by
  unfold diffW; exact Nat.lt_of_le_of_lt Nat.and_le_left h1
 bit x y j h1 h2 hj := by
  unfold diffW
  rw [Nat.testBit_and, show 18446744073709551615 - y = 2 ^ 64 - (y + 1) from by omega, Nat.testBit_two_pow_sub_succ (by rw [Bs.W64_eq] at h2; exact h2)]
  cases x.testBit j <;> cases y.testBit j <;> simp [flag, hj]
 none := rfl
theorem diff1_any (x y : Nat) (w : World) (hx : x < Bs.W64) (hy : y < Bs.W64) : Calls Tryz.prog 182 #[.int .u64 x, .int .u64 y] w fun e w' => e = .returned (.int .u64 (diffW x y : Nat)) ∧ w' = w := by
 have h := u64_andNot_nat x y hx hy
 generalize hz : diffW x y = z
 unfold diffW at hz
 rw [hz] at h
 clear hz hx hy
 go_enter Tryz.func182, Tryz.ntmps182
 go_wp2
 go_ret
 exact ⟨rfl, rfl⟩
theorem combDiff_bad1 (W V : Int) (A B : Option Addr) (n c m d : Nat) (ws xs : List Nat) (w : World) (hA : Arg w A n ws) (h : Bs.validB W ws = false) :
 Calls Tryz.prog 164 #[.agg #[.int .i64 W, .slice A n c], .agg #[.int .i64 V, .slice B m d], .func (Fn.func 182) #[] #[]] w (RetErr w (mixR (flag true false false) W ws V xs)) := by
 have hr : mixR (flag true false false) W ws V xs = (0, [], 1) := by unfold mixR; rw [if_pos (.inl h)]
 rw [hr]
 have HA := hid hA; have H := hid h
 clear hA h hr
 obtain ⟨hx1, hx2, hx3⟩ := box3 w W V A B n c m d
 have hx4 := below3 w (.cells #[.int .i64 W, .slice A n c] 49) (.cells #[.int .i64 V, .slice B m d] 49) (.cells #[.int .i64 0, .slice none 0 0] 49)
 have Hx3 := hid hx3; have Hx4 := hid hx4
 clear hx1 hx2 hx3 hx4
 go_enter Tryz.func164, Tryz.ntmps164
 go_wp2_with (go_at_call 81; refine (devValid_any W A n c ws _ (((HA.out.alloc _).alloc _).alloc _)).mono ?_; rw [H.out]; rintro e w1 ⟨rfl, hbl⟩; have hq := Hx3.out.below hbl (by simp); have hq0 := hq.c0; have hq1 := hq.c1; have hf0 := hq.f 0; have hf1 := hq.f 1; have Hbl := hid hbl; clear hbl hq)
 refine bodyPost_ret (v := .tuple #[.agg #[.int .i64 0, .slice none 0 0], .int .i64 1]) (by simp [results, Tryz.results164, go_sem, hq0, hq1]) rfl ⟨_, _, _, rfl, Arg.nil _ _, ?_⟩
 exact ((Hx4.out.trans (Hbl.out.mono (by simp; omega))).setCell (by simp; omega) _).setCell (by simp; omega) _
theorem combDiff_bad2 (W V : Int) (A B : Option Addr) (n c m d : Nat) (ws xs : List Nat) (w : World) (hA : Arg w A n ws) (hB : Arg w B m xs) (h : Bs.validB W ws = true) (h2 : Bs.validB V xs = false ∨ (Bs.validB V xs = true ∧ W ≠ V)) :
 Calls Tryz.prog 164 #[.agg #[.int .i64 W, .slice A n c], .agg #[.int .i64 V, .slice B m d], .func (Fn.func 182) #[] #[]] w (RetErr w (mixR (flag true false false) W ws V xs)) := by
 obtain ⟨u, r, hu, hr, hne⟩ : ∃ (u : Bool) (r : Int), Bs.validB V xs = u ∧ mixR (flag true false false) W ws V xs = (0, [], r) ∧ ((u = false ∧ r = 1) ∨ (u = true ∧ r = 2 ∧ (W != V) = true)) := by
  rcases h2 with h2 | ⟨h2, hne⟩
  · exact ⟨false, 1, h2, by unfold mixR; rw [if_pos (.inr h2)], .inl ⟨rfl, rfl⟩⟩
  · exact ⟨true, 2, h2, by unfold mixR; rw [if_neg (by simp [h, h2]), if_pos hne], .inr ⟨rfl, rfl, by simp [hne]⟩⟩
 rw [hr]
 have HA := hid hA; have HB := hid hB; have H := hid h; have H2 := hid hu
 clear hA hB h h2 hr hu
 obtain ⟨hx1, hx2, hx3⟩ := box3 w W V A B n c m d
 have hx4 := below3 w (.cells #[.int .i64 W, .slice A n c] 49) (.cells #[.int .i64 V, .slice B m d] 49) (.cells #[.int .i64 0, .slice none 0 0] 49)
 have Hx1 := hid hx1; have Hx2 := hid hx2; have Hx3 := hid hx3; have Hx4 := hid hx4
 clear hx1 hx2 hx3 hx4
 go_enter Tryz.func164, Tryz.ntmps164
 go_wp2_with fail
 refine (devValid_any W A n c ws _ (((HA.out.alloc _).alloc _).alloc _)).mono ?_
 rw [H.out]
 rintro e w1 ⟨rfl, hbl⟩
 have hq2 := Hx2.out.below hbl (by simp)
 have hq20 := hq2.c0
 have hq21 := hq2.c1
 have Hq1 := hid (Hx1.out.below hbl (by simp; omega))
 have Hq2 := hid hq2
 have Hq3 := hid (Hx3.out.below hbl (by simp))
 have Hb1 := hid (Hx4.out.trans (hbl.mono (by simp; omega)))
 have hz1 := hbl.size
 simp only [World.size_alloc] at hz1
 clear hbl hq2
 go_wp2_with fail
 refine (devValid_any V B m d xs _ (HB.out.below Hb1.out)).mono ?_
 rw [H2.out]
 rintro e w2 ⟨rfl, hbl⟩
 have hq := Hq3.out.below hbl (by omega)
 have hq0 := hq.c0
 have hq1 := hq.c1
 have hf0 := hq.f 0
 have hf1 := hq.f 1
 have hp := Hq1.out.below hbl (by omega)
 have hp0 := hp.c0
 have hp' := Hq2.out.below hbl (by omega)
 have hp1 := hp'.c0
 have Hb2 := hid (Hb1.out.trans (hbl.mono (by omega)))
 clear hbl hq hp hp' hq20 hq21
 rcases hne with ⟨rfl, rfl⟩ | ⟨rfl, rfl, hne⟩
 · go_wp2_with fail
   refine bodyPost_ret (v := .tuple #[.agg #[.int .i64 0, .slice none 0 0], .int .i64 1]) (by simp [results, Tryz.results164, go_sem, hq0, hq1]) rfl ⟨_, _, _, rfl, Arg.nil _ _, ?_⟩
   exact ((Hb2.out).setCell (by simp; omega) _).setCell (by simp; omega) _
 · go_wp2_with fail
   refine bodyPost_ret (v := .tuple #[.agg #[.int .i64 0, .slice none 0 0], .int .i64 2]) (by simp [results, Tryz.results164, go_sem, hq0, hq1]) rfl ⟨_, _, _, rfl, Arg.nil _ _, ?_⟩
   exact ((Hb2.out).setCell (by simp; omega) _).setCell (by simp; omega) _
theorem combDiff_in (W : Nat) (A B : Option Addr) (n c d : Nat) (ws xs : List Nat) (w : World) (hA : Arg w A n ws) (hB : Arg w B n xs) (h : Bs.validB W ws = true) (h2 : Bs.validB W xs = true) :
 Calls Tryz.prog 164 #[.agg #[.int .i64 W, .slice A n c], .agg #[.int .i64 W, .slice B n d], .func (Fn.func 182) #[] #[]] w (RetErr w (W, Bs.ofP W (fun i => flag true false false (Bs.bit ws i) (Bs.bit xs i)) W, 0)) := by
 have hf1 := Bs.fit_of_valid h hA.ok
 have hf2 := Bs.fit_of_valid h2 hB.ok
 rw [Int.toNat_natCast] at hf1 hf2
 have hn : n = Bs.nw W := by rw [← hf1.len]; exact hA.len.symm
 have hW : W ≤ 256 := by have := (Bs.validB_iff.1 h).2.1; omega
 have hn5 : n ≤ 5 := by rw [hn]; unfold Bs.nw; omega
 rw [← part_done diffW_op hf1 hf2 hn]
 have Hfit := hid (part_fit diffW_op hf1 hf2 hn).1
 have HA := hid hA; have HB := hid hB; have H := hid h; have H2 := hid h2; have Hf1 := hid hf1; have Hf2 := hid hf2
 have hne : ((W : Int) != W) = false := by simp
 have hm := run_rows n (by omega)
 clear hA hB h h2 hf1 hf2 hn hW
 obtain ⟨hx1, hx2, hx3⟩ := box3 w W W A B n c n d
 have hx4 := below3 w (.cells #[.int .i64 W, .slice A n c] 49) (.cells #[.int .i64 W, .slice B n d] 49) (.cells #[.int .i64 0, .slice none 0 0] 49)
 have Hx1 := hid hx1; have Hx2 := hid hx2; have Hx3 := hid hx3; have Hx4 := hid hx4
 clear hx1 hx2 hx3 hx4
 go_enter Tryz.func164, Tryz.ntmps164
 go_wp2_with fail
 refine (devValid_any W A n c ws _ (((HA.out.alloc _).alloc _).alloc _)).mono ?_
 rw [H.out]
 rintro e w1 ⟨rfl, hbl⟩
 have hq2 := Hx2.out.below hbl (by simp)
 have hq20 := hq2.c0
 have hq21 := hq2.c1
 have Hq1 := hid (Hx1.out.below hbl (by simp only [World.size_alloc]; omega))
 have Hq2 := hid hq2
 have Hq3 := hid (Hx3.out.below hbl (by simp))
 have Hb1 := hid (Hx4.out.trans (hbl.mono (by simp only [World.size_alloc]; omega)))
 have hz1 := hbl.size
 simp only [World.size_alloc] at hz1
 clear hbl hq2
 go_wp2_with fail
 refine (devValid_any W B n d xs _ (HB.out.below Hb1.out)).mono ?_
 rw [H2.out]
 rintro e w2 ⟨rfl, hbl⟩
 have hp := Hq1.out.below hbl (by omega)
 have hp0 := hp.c0
 have hp00 := hp.c1
 have hp' := Hq2.out.below hbl (by omega)
 have hp1 := hp'.c0
 have hinv : Comb w W A B n c d w2.heap.size (part diffW ws xs n 0) (w2.alloc (.cells (words (List.replicate n 0)).toArray 106)) := by
  rw [part_zero]
  have hz2 := hbl.size
  exact ⟨hp.alloc _, hp'.alloc _, (Hq3.out.below hbl (by omega)).alloc _, heap_alloc_new w2 _, by omega, (Hb1.out.trans (hbl.mono (by omega))).alloc (by omega) _⟩
 have Hinv := hid hinv
 have hz2 := hbl.size
 clear hbl hp hp' hinv hq20 hq21
 go_wp2_with fail
 clear hp0 hp00 hp1 hne hm Hq1 Hq2 Hq3 Hx1 Hx2 Hx3 Hx4 Hb1
 generalize w2.heap.size = g at Hinv hz2 ⊢
 go_loopw [9, 31] (fun _ i wr => ∃ k : Nat, k ≤ n ∧ i = .int .i64 k ∧ Hid (Comb w W A B n c d g (part diffW ws xs n k) wr)) (fun _ i _ => n - (intOf i).toNat)
 case atStart => exact ⟨0, by omega, rfl, Hinv⟩
 case round =>
  obtain ⟨k, hk, rfl, hG⟩ := hrel
  by_cases hlt : k < n
  · obtain ⟨ad, rfl, had, hcA⟩ := HA.out.lies.cell (words_get (i := k) (by rw [HA.out.len]; exact hlt))
    obtain ⟨bd, rfl, hbd, hcB⟩ := HB.out.lies.cell (words_get (i := k) (by rw [HB.out.len]; exact hlt))
    obtain ⟨g1, g2, g3, g4, g5, g6⟩ := hG.out
    have hc11 := g1.c1
    have hc21 := g2.c1
    have hcA2 := (g6.cell (p := ad.add k) (by rw [add_block]; exact had)).trans hcA
    have hcB2 := (g6.cell (p := bd.add k) (by rw [add_block]; exact hbd)).trans hcB
    have hx := Bs.wd_lt HA.out.ok k
    have hy := Bs.wd_lt HB.out.ok k
    have hst := hG.out.set k (diffW (Bs.wd ws k) (Bs.wd xs k))
    rw [part_set hlt] at hst
    have hcg := (g4.cell k).trans (words_get (by rw [part_len]; exact hlt))
    have hfg := g4.frozen k
    generalize Bs.wd ws k = x at hcA2 hx hst
    generalize Bs.wd xs k = y at hcB2 hy hst
    generalize Bs.wd (part diffW ws xs n k) k = z at hcg
    have Hst := hid hst; have Hx := hid hx; have Hy := hid hy
    clear g1 g2 g3 g4 g5 g6 hcA hcB had hbd hst hx hy Hinv HA HB H H2 Hf1 Hf2 Hfit hG
    go_wp2_with fail
    refine wp_region_still_tail 15 (by kernel_rfl) (by kernel_rfl) ?_
    simp only [List.take_succ_cons, List.take_zero, List.drop_succ_cons, List.drop_zero]
    repeat still_step
    still_call (diff1_any _ _ _ Hx.out Hy.out)
    repeat still_step
    try refine wpStill_nil ?_
    change wpList _ _ _ _ _ wr.drew
    go_wp2
    go_roundw
    case rel => exact ⟨k + 1, by omega, by go_num, hid Hst.out.drew⟩
    case measure => simp [intOf]; omega
  · have hkn : k = n := by omega
    subst hkn
    obtain ⟨g1, g2, g3, g4, g5, g6⟩ := hG.out
    have hc10 := g1.c0
    have hr0 := g3.c0
    have hr1 := g3.c1
    have hf0 := g3.f 0
    have hf1 := g3.f 1
    have Hg4 := hid g4; have Hg6 := hid g6
    clear g1 g2 g3 g4 g6 Hinv hG
    go_wp2_with fail
    refine bodyPost_ret (v := .tuple #[.agg #[.int .i64 W, .slice (some ⟨g, 0, none⟩) k k], .int .i64 0]) (by simp [results, Tryz.results164, go_sem, hr0, hr1]) rfl ⟨_, _, _, rfl, ?_, ?_⟩
    · have hr := Row.arg ((Hg4.out.far (p := ⟨w.heap.size + 1 + 1, 0, none⟩) (by simp; omega) (.int .i64 W)).far (p := ⟨w.heap.size + 1 + 1, 1, none⟩) (by simp; omega) (.slice (some ⟨g, 0, none⟩) k k)) Hfit.out.ok
      rw [part_len] at hr
      exact hr
    · exact (Hg6.out.setCell (by simp; omega) _).setCell (by simp; omega) _
theorem combDiff_any (W V : Int) (A B : Option Addr) (n c m d : Nat) (ws xs : List Nat) (w : World) (hA : Arg w A n ws) (hB : Arg w B m xs) :
 Calls Tryz.prog 164 #[.agg #[.int .i64 W, .slice A n c], .agg #[.int .i64 V, .slice B m d], .func (Fn.func 182) #[] #[]] w (RetErr w (mixR (flag true false false) W ws V xs)) := by
 cases h : Bs.validB W ws with
 | false => exact combDiff_bad1 W V A B n c m d ws xs w hA h
 | true =>
   cases h2 : Bs.validB V xs with
   | false => exact combDiff_bad2 W V A B n c m d ws xs w hA hB h (.inl h2)
   | true =>
     by_cases hne : W = V
     · subst hne
       obtain ⟨v, rfl⟩ := Int.eq_ofNat_of_zero_le (Bs.validB_iff.1 h).1
       have hnm : n = m := by
        have e1 := (Bs.fit_of_valid h hA.ok).len
        have e2 := (Bs.fit_of_valid h2 hB.ok).len
        rw [← hA.len, ← hB.len, e1, e2]
       subst hnm
       have hr : mixR (flag true false false) (v : Int) ws (v : Int) xs = ((v : Int), Bs.ofP v (fun i => flag true false false (Bs.bit ws i) (Bs.bit xs i)) v, 0) := by
        unfold mixR; rw [if_neg (by simp [h, h2]), if_neg (by simp), Int.toNat_natCast]
       rw [hr]
       exact combDiff_in v A B n c d ws xs w hA hB h h2
     · exact combDiff_bad2 W V A B n c m d ws xs w hA hB h (.inr ⟨h2, hne⟩)
theorem devDiff_any (W V : Int) (A B : Option Addr) (n c m d : Nat) (ws xs : List Nat) (w : World) (hA : Arg w A n ws) (hB : Arg w B m xs) :
 Calls Tryz.prog 160 #[.agg #[.int .i64 W, .slice A n c], .agg #[.int .i64 V, .slice B m d]] w (RetErr w (mixR (flag true false false) W ws V xs)) := by
 have HA := hid hA; have HB := hid hB
 clear hA hB
 obtain ⟨hx1, hx2, hx3⟩ := box3 w W V A B n c m d
 have hx4 := below3 w (.cells #[.int .i64 W, .slice A n c] 49) (.cells #[.int .i64 V, .slice B m d] 49) (.cells #[.int .i64 0, .slice none 0 0] 49)
 have Hx3 := hid hx3; have Hx4 := hid hx4
 clear hx1 hx2 hx3 hx4
 generalize hr : mixR (flag true false false) W ws V xs = r
 have Hr := hid hr
 clear hr
 go_enter Tryz.func160, Tryz.ntmps160
 go_wp2_with fail
 refine (combDiff_any W V A B n c m d ws xs _ (HA.out.below Hx4.out) (HB.out.below Hx4.out)).mono ?_
 rw [Hr.out]
 rintro e w1 ⟨A1, n1, c1, rfl, ha, hb⟩
 have hq := Hx3.out.below hb (by simp)
 have hq0 := hq.c0
 have hq1 := hq.c1
 have hf0 := hq.f 0
 have hf1 := hq.f 1
 have Ha := hid ha; have Hb := hid hb; have Hq := hid hq
 clear hq ha hb
 go_wp2_with fail
 refine bodyPost_ret (v := .tuple #[.agg #[.int .i64 r.1, .slice A1 n1 c1], .int .i64 r.2.2]) (by simp [results, Tryz.results160, go_sem, hq0, hq1]) rfl ⟨A1, n1, c1, rfl, ?_, ?_⟩
 · exact Hq.out.store Ha.out _ _
 · exact ((Hx4.out.trans (Hb.out.mono (by simp only [World.size_alloc]; omega))).setCell (by simp; omega) _).setCell (by simp; omega) _
theorem slicesEq_any (A B : Option Addr) (n c m d : Nat) (xs ys : List Nat) (w : World) (hA : Arg w A n xs) (hB : Arg w B m ys) (hn : n ≤ maxLen) :
 Calls Tryz.prog 124 #[.slice A n c, .slice B m d] w fun e w' => e = .returned (.bool (decide (xs = ys))) ∧ Below w.heap.size w w' := by
 by_cases hnm : n = m
 · subst hnm
   unfold maxLen at hn
   have HA := hid hA; have HB := hid hB
   have t2 : ((n : Int) != (n : Int)) = false := by simp
   clear hA hB
   go_enter Tryz.func124, Tryz.ntmps124
   go_wp2
   clear t2
   go_loopw [5, 13] (fun _ i wr => ∃ k : Nat, k ≤ n ∧ i = .int .i64 k ∧ Hid (∀ j, j < k → Bs.wd xs j = Bs.wd ys j) ∧ ∃ q : Nat, wr = w.drewN q) (fun _ i _ => n - (intOf i).toNat)
   case atStart => exact ⟨0, by omega, rfl, fun j h => by omega, 0, rfl⟩
   case round =>
    obtain ⟨k, hk, rfl, hb, q, rfl⟩ := hrel
    by_cases hlt : k < n
    · obtain ⟨ad, rfl, had, hcA⟩ := HA.out.lies.cell (words_get (i := k) (by rw [HA.out.len]; exact hlt))
      obtain ⟨bd, rfl, hbd, hcB⟩ := HB.out.lies.cell (words_get (i := k) (by rw [HB.out.len]; exact hlt))
      generalize hx : Bs.wd xs k = x at hcA
      generalize hy : Bs.wd ys k = y at hcB
      have Hx := hid hx; have Hy := hid hy
      clear hx hy
      have hk0 : (0 : Int) ≤ k := by omega
      have hkn : (k : Int).toNat = k := by omega
      have hk1 : (k : Int) < n := by omega
      by_cases hxy : x = y
      · have t : ((x : Int) != (y : Int)) = false := by simp [hxy]
        have t' : (x != y) = false := by simp [hxy]
        have Hxy := hid hxy
        clear hxy
        go_wp2_with fail
        go_quiet (fail)
        go_wp2
        go_roundw
        case rel =>
         refine ⟨k + 1, by omega, by go_num, fun j hj => ?_, _, rfl⟩
         by_cases e : j = k
         · rw [e, Hx.out, Hy.out]; exact Hxy.out
         · exact hb.out j (by omega)
        case measure => simp [intOf]; omega
      · have t : ((x : Int) != (y : Int)) = true := by simp; omega
        have t' : (x != y) = true := by simp [hxy]
        have Hxy := hid hxy
        clear hxy
        go_wp2_with fail
        go_quiet (fail)
        go_wp2
        go_ret
        refine ⟨ret_bool ?_, below_drewN (below_drewN (Below.refl _ _) _) _⟩
        have : xs ≠ ys := by rintro rfl; exact Hxy.out (Hx.out.symm.trans Hy.out)
        simp [this]
    · go_wp2
      go_ret
      refine ⟨ret_bool ?_, below_drewN (Below.refl _ _) _⟩
      have e : xs = ys := wd_ext (HA.out.len.trans HB.out.len.symm) fun j hj => hb.out j (by have := HA.out.len; omega)
      rw [e]; simp
 · have hres : decide (xs = ys) = false := by
    have : xs ≠ ys := by rintro rfl; exact hnm (hA.len.symm.trans hB.len)
    simp [this]
   have t2 : ((n : Int) != (m : Int)) = true := by simp; omega
   have t3 : (n != m) = true := by simp; omega
   rw [hres]
   clear hres hA hB hnm
   go_enter Tryz.func124, Tryz.ntmps124
   go_wp2
   go_ret
   exact ⟨rfl, Below.refl _ _⟩
theorem devEqual_any (W V : Int) (A B : Option Addr) (n c m d : Nat) (ws xs : List Nat) (w : World) (hA : Arg w A n ws) (hB : Arg w B m xs) (hn : n ≤ maxLen) :
 Calls Tryz.prog 97 #[.agg #[.int .i64 W, .slice A n c], .agg #[.int .i64 V, .slice B m d]] w fun e w' => e = .returned (.bool (equalB W ws V xs)) ∧ Below w.heap.size w w' := by
 obtain ⟨hx1, hx2⟩ := box2 w W V A B n c m d
 have hx4 := below2 w (.cells #[.int .i64 W, .slice A n c] 49) (.cells #[.int .i64 V, .slice B m d] 49)
 have Hx1 := hid hx1; have Hx2 := hid hx2; have Hx4 := hid hx4
 have HA := hid hA; have HB := hid hB
 clear hx1 hx2 hx4 hA hB
 generalize hv : Bs.validB W ws = v
 generalize hu : Bs.validB V xs = u
 have hres : equalB W ws V xs = (v && u && sameB W ws V xs) := by unfold equalB; rw [hv, hu]
 have Hres := hid hres; have Hv := hid hv; have Hu := hid hu
 clear hres hv hu
 go_enter Tryz.func97, Tryz.ntmps97
 go_wp2_with fail
 refine (devValid_any W A n c ws _ (HA.out.below Hx4.out)).mono ?_
 rw [Hv.out]
 rintro e w1 ⟨rfl, hb⟩
 have Hb := hid (Hx4.out.trans (hb.mono (by simp only [World.size_alloc]; omega)))
 have hy2 := Hx2.out.below hb (by simp)
 have hc20 := hy2.c0
 have hc21 := hy2.c1
 have Hy1 := hid (Hx1.out.below hb (by simp only [World.size_alloc]; omega))
 have Hy2 := hid hy2
 have hz1 := hb.size
 simp only [World.size_alloc] at hz1
 clear hb hy2
 cases v with
 | false =>
   go_wp2_with fail
   go_ret
   exact ⟨ret_bool (by rw [Hres.out]; rfl), Hb.out⟩
 | true =>
   go_wp2_with fail
   refine (devValid_any V B m d xs _ (HB.out.below Hb.out)).mono ?_
   rw [Hu.out]
   rintro e w2 ⟨rfl, hb⟩
   have Hb2 := hid (Hb.out.trans (hb.mono (by omega)))
   have hy1 := Hy1.out.below hb (by omega)
   have hy2 := Hy2.out.below hb (by omega)
   have hc10 := hy1.c0
   have hc11 := hy1.c1
   have hc20' := hy2.c0
   have hc21' := hy2.c1
   have hz2 := hb.size
   clear hb hy1 hy2 hc20 hc21
   cases u with
   | false =>
     go_wp2_with fail
     go_ret
     exact ⟨ret_bool (by rw [Hres.out]; rfl), Hb2.out⟩
   | true =>
     by_cases hWV : W = V
     · have t : (W == V) = true := by simp [hWV]
       have HWV := hid hWV
       clear hWV
       go_wp2_with fail
       refine (slicesEq_any A B n c m d ws xs _ (HA.out.below Hb2.out) (HB.out.below Hb2.out) hn).mono ?_
       rintro e w3 ⟨rfl, hb⟩
       have Hb3 := hid (Hb2.out.trans (hb.mono (by omega)))
       clear hb
       go_wp2_with fail
       go_ret
       exact ⟨ret_bool (by rw [Hres.out]; unfold sameB; simp [HWV.out]), Hb3.out⟩
     · have t : (W == V) = false := by simp [hWV]
       have HWV := hid hWV
       clear hWV
       go_wp2_with fail
       go_ret
       exact ⟨ret_bool (by rw [Hres.out]; unfold sameB; simp [HWV.out]), Hb2.out⟩
theorem devHas_any (W : Int) (A : Option Addr) (n c : Nat) (ws : List Nat) (b : Int) (w : World) (hA : Arg w A n ws) :
 Calls Tryz.prog 159 #[.agg #[.int .i64 W, .slice A n c], .int .i64 b] w fun e w' => e = .returned (.bool (Bs.hasB W ws b)) ∧ Below w.heap.size w w' := by
 have HA := hid hA
 have Hx := hid (Box.new w W A n c)
 have Hb0 := hid ((Below.refl w.heap.size w).alloc (Nat.le_refl _) (.cells #[.int .i64 W, .slice A n c] 49))
 generalize hr0 : Bs.hasB W ws b = r0
 have Hr0 := hid hr0
 clear hA hr0
 go_enter Tryz.func159, Tryz.ntmps159
 go_wp2_with fail
 refine (devValid_any W A n c ws _ (HA.out.alloc _)).mono ?_
 cases hv : Bs.validB W ws with
 | false =>
   have hr : Bs.hasB W ws b = false := by unfold Bs.hasB; rw [hv]; rfl
   have Hr := hid hr
   rintro e w1 ⟨rfl, hb⟩
   have Hb := hid (Hb0.out.trans (hb.mono (by simp)))
   clear hb hr hv
   go_wp2_with fail
   go_ret
   exact ⟨ret_bool (Hr.out.symm.trans Hr0.out), Hb.out⟩
 | true =>
   rintro e w1 ⟨rfl, hb⟩
   have hx := Hx.out.below hb (by simp)
   have hc0 := hx.c0
   have hc1 := hx.c1
   have Hb := hid (Hb0.out.trans (hb.mono (by simp)))
   have hW := (Bs.validB_iff.1 hv).2.1
   have hf := Bs.fit_of_valid hv HA.out.ok
   have Hv := hid hv
   clear hb hx hv
   cases hi : (decide (0 ≤ b) && decide (b < W)) with
   | false =>
     have hr : Bs.hasB W ws b = false := by unfold Bs.hasB; rw [Bool.and_assoc, Bool.and_assoc, ← Bool.and_assoc (decide _), hi]; simp
     have Hr := hid hr
     have Hi := hid hi
     clear hi hr hf hW
     go_wp2_with (go_at_call 180; refine (inside_is _ _ _ _ Hi).mono ?_; rintro e w2 ⟨rfl, rfl⟩)
     go_ret
     exact ⟨ret_bool (Hr.out.symm.trans Hr0.out), Hb.out⟩
   | true =>
     have h2 := hi
     simp at h2
     obtain ⟨k, rfl⟩ := Int.eq_ofNat_of_zero_le h2.1
     have hk : k / 64 < n := by rw [← HA.out.len, hf.len]; exact Bs.lt_nw (by omega)
     have hr : Bs.hasB W ws (k : Int) = Bs.bit ws k := by unfold Bs.hasB; rw [Hv.out]; simp [h2.2]
     have Hr := hid hr
     have hk2 : k < 256 := by omega
     have Hi := hid hi
     clear hi hr hf hW h2
     go_wp2_with (first
      | (go_at_call 180; refine (inside_is _ _ _ _ Hi).mono ?_; rintro e w2 ⟨rfl, rfl⟩)
      | (go_at_call 181; refine (holds_any W A n c ws k _ (HA.out.below Hb.out) hk hk2).mono ?_; rintro e w2 ⟨rfl, rfl⟩))
     go_ret
     exact ⟨ret_bool (Hr.out.symm.trans Hr0.out), Hb.out.alloc Hb.out.size _⟩
end Go.Proofs.YtopkmeceakjocaaGreat
namespace Go.Proofs.YtopkmeceakjocaaGreat
set_option maxRecDepth 10000
open Go.ChangeShapes Go.WideShapes Go.ChangeAt Go.RowKit
theorem Arg.cells {w w1 : World} {ad : Addr} {n : Nat} {ws : List Nat} (h : Arg w (some ad) n ws) (hb : Below w.heap.size w w1) : ∀ j u, (words ws)[j]? = some u → w1.cell? (ad.add j) = some u := by
 intro j u hu
 obtain ⟨ad', e, hlt, hc⟩ := h.lies.cell hu
 injection e with e
 subst e
 exact (hb.cell (by rw [add_block]; exact hlt)).trans hc
theorem info62' : (Tryz.prog.info? 106).map (fun i => (i.zero, i.size, i.bytes)) = some (some (.int .u64 0), 1, 8) := by kernel_rfl
theorem empty_own (w : World) (base k : Nat) (h : base ≤ w.heap.size) (hk : k = w.heap.size) : (w.alloc (.cells #[] 106)).ownsRow base 106 1 (.slice (some ⟨k, 0, none⟩) 0 0) 0 [] := by
 subst hk; exact World.ownsRow_lit w #[] 0 h (by simp [maxLen]) rfl
theorem some_ne {a b : Nat} (h : a ≠ b) : some a ≠ some b := fun e => h (by injection e)
theorem Box.own_ne {w : World} {b g : Nat} {W : Int} {A : Option Addr} {n c base m d : Nat} {xs : List Value} (h : Box w b W A n c) (ho : w.ownsRow base 106 1 (.slice (some ⟨g, 0, none⟩) m d) m xs) : g ≠ b := by
 rintro rfl
 rcases ho.2 with ⟨hv, _⟩ | ⟨g', cap, cur, hv, _, hg, _⟩
 · cases hv
 · injection hv with h1 _ _
   injection h1 with h1
   injection h1 with h1
   subst h1
   unfold Box at h
   rw [h] at hg
   injection hg with hg
   injection hg with _ hg
   cases hg
theorem own_ge {w : World} {g base m d : Nat} {xs : List Value} (ho : w.ownsRow base 106 1 (.slice (some ⟨g, 0, none⟩) m d) m xs) : base ≤ g ∧ g < w.heap.size := ho.lt g rfl
theorem words_set (ws : List Nat) (j x : Nat) : (words ws).set j (.int .u64 (x : Int)) = words (ws.set j x) := by
 unfold words u64; rw [List.map_set]
theorem after_app {w W1 w3 : World} {g0 : Nat} (hB : Below w.heap.size w W1) (hg : W1.grownBy w3 (some g0)) (h0 : w.heap.size ≤ g0) : Below w.heap.size w w3 :=
 hB.grown hg hB.size (by intro k hk; injection hk with hk; omega)
end Go.Proofs.YtopkmeceakjocaaGreat
