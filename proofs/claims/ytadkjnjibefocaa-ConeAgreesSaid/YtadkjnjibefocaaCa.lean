/- Texts that the proof leans on, merged. -/
import Derived.Test.YtadkjnjibefocaaOf
import Derived.Test.YtadkjnjibefocaaTimg
import Derived.Deep.RegionWith
import Derived.Deep.DeepCutAuto
import Derived.Deep.AppendLies
import Derived.Deep.RegionHeld3
import Derived.Deep.RegionLaw
import Derived.Test.YtadkjnjibefocaaDev
import Derived.Lib.SliceRun
import Derived.Test.YtadkjnjibefocaaDvT
import Derived.Test.YtadkjnjibefocaaSym
import Derived.Deep.DeepMust
import Derived.Lib.LazyBuf
import Derived.Test.YtadkjnjibefocaaTtab
import Derived.Test.YtadkjnjibefocaaVar
import Derived.Lib.AppendZeros
import Derived.Deep.QuietTactic
import Derived.BigQuiet
import Derived.Test.YtadkjnjibefocaaGpu
namespace Go.Proofs.Ytadkjnjibefocaa
open Go.ChangeShapes Go.WideShapes Go.ChangeAt Go.RowKit

def equalB (W : Int) (ws : List Nat) (V : Int) (xs : List Nat) : Bool := Bs.validB W ws && Bs.validB V xs && sameB W ws V xs

theorem box2 (w : World) (W V : Int) (A B : Option Addr) (n c m d : Nat) :
    Box ((w.alloc (.cells #[.int .i64 W, .slice A n c] 47)).alloc (.cells #[.int .i64 V, .slice B m d] 47)) w.heap.size W A n c ∧
    Box ((w.alloc (.cells #[.int .i64 W, .slice A n c] 47)).alloc (.cells #[.int .i64 V, .slice B m d] 47)) (w.heap.size + 1) V B m d := by
  refine ⟨(Box.new w _ _ _ _).alloc _, ?_⟩
  have h := Box.new (w.alloc (.cells #[.int .i64 W, .slice A n c] 47)) V B m d
  rw [World.size_alloc] at h; exact h
theorem below2 (w : World) (a b : Obj) : Below w.heap.size w ((w.alloc a).alloc b) := ((Below.refl _ _).alloc (Nat.le_refl _) _).alloc (by simp) _

def subsetB (W : Int) (ws : List Nat) (V : Int) (xs : List Nat) : Bool :=
  decide ((mixR (flag true false false) W ws V xs).2.2 = 0) && decide ((memsB (mixR (flag true false false) W ws V xs).1 (mixR (flag true false false) W ws V xs).2.1).length = 0)

end Go.Proofs.Ytadkjnjibefocaa

namespace Go.Proofs.Ytadkjnjibefocaa
open Go.ChangeShapes Go.WideShapes Go.ChangeAt Go.RowKit

/-- A valid set of width W came back; nothing but the tape has changed. -/
def GenSetW (w : World) (T W : Nat) (e : Ending) (w' : World) : Prop :=
  ∃ (ad : Addr) (n c : Nat) (ws : List Nat), e = .returned (.agg #[.int .i64 W, .slice (some ad) n c]) ∧ Bs.Fit W ws ∧ Arg w' (some ad) n ws ∧ Tape w' T ∧ w.grownBy w' (some T)

theorem Growing.tape {w wr w' : World} {T b r v : Nat} (h : Growing w T b r v wr) (ht : Tape w' T) (hg : wr.grownBy w' (some T)) (hTw : T < w.heap.size) (hb : T ≠ b) (hr : T ≠ r) : Growing w T b r v w' := by
  obtain ⟨g, ws, h1, h2, h3, h4, h5, h6, h7⟩ := h
  exact ⟨g, ws, h1, h2.grown hg (by simp; omega), (hg.block g h3.lt (by simp; omega)).trans h3, h4, h5.grown hg (by simp; omega), ht, grown_trans h7 hg⟩
theorem Growing.put {w wr w5 : World} {T b r v g5 : Nat} {zs : List Nat} (h : Growing w T b r v wr) (hT : T < w.heap.size) (hbw : w.heap.size ≤ b) (hbr : b ≠ r) (hf : Bs.Fit v zs) (hg : wr.heap.size ≤ g5) (hrow : Row w5 g5 zs) (hb : Below wr.heap.size wr w5) :
    Growing w T b r v ((w5.setCell ⟨b, 0, none⟩ (.int .i64 v)).setCell ⟨b, 1, none⟩ (.slice (some ⟨g5, 0, none⟩) (Bs.nw v) (Bs.nw v))) := by
  obtain ⟨g, ws, h1, h2, h3, h4, h5, h6, h7⟩ := h
  have l2 := h2.lt
  have l5 := h5.lt
  have l7 := h7.size
  exact ⟨g5, zs, hf, (h2.below hb l2).set _ _ _ _, (hrow.far (by simp; omega) _).far (by simp; omega) _, by omega, ((h5.below hb l5).far (by simp; omega) _).far (by simp; omega) _, ((h6.below hb (by omega)).far (by simp; omega) _).far (by simp; omega) _, grown_set_new (grown_set_new (grown_trans h7 (grown_of_below hb _)) (by simpa using hbw) _) (by simpa using hbw) _⟩

set_option maxHeartbeats 1600000 in
theorem set_any (T W : Nat) (w : World) (ht : Tape w T) (hW : W ≤ 256) : Calls Try.prog 16 #[.pointer (some ⟨T, 0, none⟩), .int .i64 W] w (GenSetW w T W) := by
  have Ht := hid ht
  have hTl := ht.lt
  clear ht
  go_enter Try.func16, Try.ntmps16
  go_wp2_with fail
  refine (refEmpty_any W _ (by omega)).mono ?_
  rintro e w2 ⟨g, rfl, hg, hrow, hb2⟩
  rw [len_emp]
  have hz2 := hb2.size
  rw [World.size_alloc] at hz2 hg
  have hinv : Growing w T w2.heap.size w.heap.size W (w2.alloc (.cells #[.int .i64 W, .slice (some ⟨g, 0, none⟩) (Bs.nw W) (Bs.nw W)] 47)) :=
    ⟨g, Bs.emp W, Bs.fit_emp W, Box.new _ _ _ _ _, hrow.alloc _, by omega, ((Box.new w 0 none 0 0).below hb2 (by simp)).alloc _, ((Ht.out.alloc _).below hb2 (by rw [World.size_alloc]; omega)).alloc _,
      grown_trans (grown_trans (grown_of_below ((Below.refl _ _).alloc (Nat.le_refl _) _) _) (grown_of_below hb2 _)) (grown_of_below ((Below.refl _ _).alloc (Nat.le_refl _) _) _)⟩
  have Hinv := hid hinv
  clear hinv hrow hb2 hg
  go_wp2_with fail
  go_loopw [6] (fun i wr => ∃ k : Nat, k ≤ W ∧ i = .int .i64 k ∧ Hid (Growing w T w2.heap.size w.heap.size W wr)) (fun i _ => W - (intOf i).toNat)
  case atStart => exact ⟨0, by omega, rfl, Hinv⟩
  case round =>
    obtain ⟨k, hk, rfl, hG⟩ := hrel
    by_cases hlt : k < W
    · have htt : Tape wr T := by obtain ⟨g, ws, h1, h2, h3, h4, h5, h6, h7⟩ := hG.out; exact h6
      have Htt := hid htt
      clear htt
      go_wp2_with fail
      refine (next_any T 3 _ Htt.out (by omega)).mono ?_
      rintro e w4 ⟨r4, rfl, h40, h41, ht4, hg4, hs4⟩
      have hG4 := hid (hG.out.tape ht4 hg4 hTl (by omega) (by omega))
      clear h41 ht4 hg4 hs4
      by_cases h1 : r4 = 1
      · have t : (r4 == 1) = true := by simp [h1]
        clear h1
        obtain ⟨g2, ws, hfit, hbox, hrow, hgg, hbr, htt4, hgr⟩ := hG4.out
        have hc0 := hbox.c0
        have hc1 := hbox.c1
        have Hfit := hid hfit; have Hrow := hid hrow; have Hbox := hid hbox
        clear hfit hbox hrow hgg hbr htt4 hgr
        go_wp2_with fail
        refine (refPut_any W _ _ _ ws k _ ⟨(Row.arg Hrow.out Hfit.out.ok).lies, Hfit.out.len, Hfit.out.ok⟩ (by omega) Hfit.out.len hlt).mono ?_
        rintro e w5 ⟨g5, rfl, hg5, hrow5, hb5⟩
        obtain ⟨⟨hc50, hc51⟩, hf50, hf51⟩ := box_stores Hbox.out hb5
        have hfin := hG4.out.put hTl (by omega) (by omega) (Bs.fit_put Hfit.out hlt) hg5 hrow5 hb5
        rw [show (Bs.put ws k).length = Bs.nw W from by rw [Bs.length_put]; exact Hfit.out.len]
        have Hfin := hid hfin
        clear hfin hrow5 hb5
        go_wp2_with fail
        go_roundw
        case rel => exact ⟨k + 1, by omega, by go_num, Hfin⟩
        case measure => simp [intOf]; omega
      · have t : (r4 == 1) = false := by simp [h1]
        clear h1
        go_wp2_with fail
        go_roundw
        case rel => exact ⟨k + 1, by omega, by go_num, hG4⟩
        case measure => simp [intOf]; omega
    · have hkW : k = W := by omega
      subst hkW
      obtain ⟨g2, ws, hfit, hbox, hrow, hgg, hbr, htt, hgr⟩ := hG.out
      have hb0 := hbox.c0
      have hb1 := hbox.c1
      have hc0 := hbr.c0
      have hc1 := hbr.c1
      have hf0 := hbr.f 0
      have hf1 := hbr.f 1
      have hgl := hrow.lt
      have hne := hbr.row_ne hrow
      have Hrow := hid hrow; have Hfit := hid hfit; have Htt := hid htt; have Hgr := hid hgr; have Hbr := hid hbr
      clear hrow hfit htt hgr hbr hbox
      go_wp2
      refine bodyPost_ret (v := .agg #[.int .i64 k, .slice (some ⟨g2, 0, none⟩) (Bs.nw k) (Bs.nw k)]) (by simp [results, Try.results16, go_sem, hc0, hc1]) rfl ⟨_, _, _, ws, rfl, Hfit.out, ?_, ?_, ?_⟩
      · have hr := (Row.arg ((Hrow.out.far (p := ⟨w.heap.size, 0, none⟩) hne (.int .i64 k)).far (p := ⟨w.heap.size, 1, none⟩) hne (.slice (some ⟨g2, 0, none⟩) (Bs.nw k) (Bs.nw k))) Hfit.out.ok)
        exact ⟨hr.lies, Hfit.out.len, Hfit.out.ok⟩
      · exact (Htt.out.far (by simp; omega) _).far (by simp; omega) _
      · exact grown_set_new (grown_set_new Hgr.out (by simp) _) (by simp) _
end Go.Proofs.Ytadkjnjibefocaa

namespace Go.Proofs.Ytadkjnjibefocaa
set_option maxRecDepth 20000
open Go.ChangeShapes Go.WideShapes Go.ChangeAt Go.RowKit

/-- P3.3: the killed bits below k of the canonical function. -/
def killTo (zero : List Nat) (one : Nat → List Nat) (W k : Nat) : List Nat := Bs.ofP W (fun i => decide (i < k) && (!Bs.bit (one i) i || Bs.bit zero i)) W
def copyB (zero : List Nat) (one : Nat → List Nat) (a b : Nat) : Bool := decide (a ≠ b) && Bs.bit (one a) b && !Bs.bit zero b
/-- The copies from a to bits below b. -/
def copsRow (zero : List Nat) (one : Nat → List Nat) (a : Nat) : Nat → List (Int × Int)
  | 0 => []
  | b + 1 => if copyB zero one a b then copsRow zero one a b ++ [((a : Int), (b : Int))] else copsRow zero one a b
/-- The copies from bits below a. -/
def copsTo (zero : List Nat) (one : Nat → List Nat) (W : Nat) : Nat → List (Int × Int)
  | 0 => []
  | a + 1 => copsTo zero one W a ++ copsRow zero one a W
theorem fit_killTo (zero : List Nat) (one : Nat → List Nat) (W k : Nat) : Bs.Fit W (killTo zero one W k) := Bs.fit_ofP _ _ _ (Nat.le_refl _)
theorem killTo_zero (zero : List Nat) (one : Nat → List Nat) (W : Nat) : killTo zero one W 0 = Bs.emp W := by
  unfold killTo
  exact (Bs.ofP_congr fun i _ => by simp).trans (Bs.ofP_false W W)
theorem killTo_yes {zero : List Nat} {one : Nat → List Nat} {W k : Nat} (h : (!Bs.bit (one k) k || Bs.bit zero k) = true) (hk : k < W) : Bs.put (killTo zero one W k) k = killTo zero one W (k + 1) := by
  unfold killTo
  rw [Bs.put_ofP _ hk]
  refine Bs.ofP_congr fun i _ => ?_
  by_cases e : i = k
  · subst e
    simp only [h, Nat.lt_irrefl, decide_false, decide_true, Bool.or_true, Bool.and_true, Nat.lt_succ_self]
  · have : (i < k + 1) = (i < k) := by apply propext; omega
    simp [e, this]
theorem killTo_no {zero : List Nat} {one : Nat → List Nat} {W k : Nat} (h : (!Bs.bit (one k) k || Bs.bit zero k) = false) : killTo zero one W (k + 1) = killTo zero one W k := by
  unfold killTo
  refine Bs.ofP_congr fun i _ => ?_
  by_cases e : i = k
  · subst e; rw [h]; simp
  · have : (i < k + 1) = (i < k) := by apply propext; omega
    simp [this]
theorem copsRow_len (zero : List Nat) (one : Nat → List Nat) (a b : Nat) : (copsRow zero one a b).length ≤ b := by
  induction b with
  | zero => simp [copsRow]
  | succ b ih =>
    unfold copsRow; split
    · rw [List.length_append]; simp; omega
    · omega
theorem copsTo_len (zero : List Nat) (one : Nat → List Nat) (W a : Nat) : (copsTo zero one W a).length ≤ a * W := by
  induction a with
  | zero => simp [copsTo]
  | succ a ih =>
    unfold copsTo
    rw [List.length_append, Nat.succ_mul]
    have := copsRow_len zero one a W
    omega

theorem copsRow_no {zero : List Nat} {one : Nat → List Nat} {a b : Nat} (h : copyB zero one a b = false) : copsRow zero one a (b + 1) = copsRow zero one a b := by
  show (if copyB zero one a b then _ else _) = _
  rw [h]; rfl
theorem copsRow_yes {zero : List Nat} {one : Nat → List Nat} {a b : Nat} (h : copyB zero one a b = true) : copsRow zero one a (b + 1) = copsRow zero one a b ++ [((a : Int), (b : Int))] := by
  show (if copyB zero one a b then _ else _) = _
  rw [h]; rfl
theorem cops_bound (zero : List Nat) (one : Nat → List Nat) {W a b : Nat} (hW : W ≤ 256) (ha : a ≤ 256) (hb : b ≤ 256) : (copsTo zero one W a ++ copsRow zero one a b).length ≤ 70000 := by
  have h1 := copsTo_len zero one W a
  have h2 := copsRow_len zero one a b
  have h3 : a * W ≤ 256 * 256 := Nat.mul_le_mul ha hW
  rw [List.length_append]; omega

/-- A row of its own that holds copies. -/
def Cops (w : World) (base : Nat) (v : Value) (cs : List (Int × Int)) : Prop := w.ownsRow base 62 2 v cs.length (pairs cs)
theorem pairs_snoc (cs : List (Int × Int)) (a b : Int) : pairs (cs ++ [(a, b)]) = pairs cs ++ [.int .i64 a, .int .i64 b] := by simp [pairs]
theorem info35 : (Try.prog.info? 62).map (fun i => (i.zero, i.size, i.bytes)) = some (some (.agg #[.int .i64 0, .int .i64 0]), 2, 16) := by kernel_rfl

section
variable {w wr w' : World} {W : Nat} {Z A : Option Addr} {n c d T : Nat} {kill kill' : List Nat} {cs : List (Int × Int)}
end

/-- A function and a Bool came back. -/
def RetFun (w : World) (W : Int) (Z : Option Addr) (n c : Nat) (kill : List Nat) (cs : List (Int × Int)) (ok : Bool) (e : Ending) (w' : World) : Prop :=
  ∃ (B : Option Addr) (m d : Nat) (C : Option Addr) (q : Nat), e = .returned (.tuple #[.agg #[.int .i64 W, .slice Z n c, .int .i64 W, .slice B m d, .slice C cs.length q], .bool ok]) ∧ Arg w' B m kill ∧ ArgC w' C cs.length cs ∧ Below w.heap.size w w'

theorem fun_done {w wr : World} {W : Nat} {Z : Option Addr} {n c T gk mk ek : Nat} {kill : List Nat} {cs : List (Int × Int)} {Ck : Option Addr} {qk : Nat} (hk : Bs.Fit W kill)
    (b2 : Row wr gk kill) (b3 : mk = Bs.nw W) (b4 : Cops wr (T + 1) (.slice Ck cs.length qk) cs) (b5 : w.heap.size + 1 < T)
    (b7 : Fb wr (w.heap.size + 1) #[.int .i64 0, .slice none 0 0, .int .i64 0, .slice none 0 0, .slice none 0 0] 51) (b8 : Below w.heap.size w wr) :
    Arg (((((wr.setCell ⟨w.heap.size + 1, 0, none⟩ (.int .i64 W)).setCell ⟨w.heap.size + 1, 1, none⟩ (.slice Z n c)).setCell ⟨w.heap.size + 1, 2, none⟩ (.int .i64 W)).setCell ⟨w.heap.size + 1, 3, none⟩ (.slice (some ⟨gk, 0, none⟩) mk ek)).setCell ⟨w.heap.size + 1, 4, none⟩ (.slice Ck cs.length qk)) (some ⟨gk, 0, none⟩) mk kill ∧
    ArgC (((((wr.setCell ⟨w.heap.size + 1, 0, none⟩ (.int .i64 W)).setCell ⟨w.heap.size + 1, 1, none⟩ (.slice Z n c)).setCell ⟨w.heap.size + 1, 2, none⟩ (.int .i64 W)).setCell ⟨w.heap.size + 1, 3, none⟩ (.slice (some ⟨gk, 0, none⟩) mk ek)).setCell ⟨w.heap.size + 1, 4, none⟩ (.slice Ck cs.length qk)) Ck cs.length cs ∧
    Below w.heap.size w (((((wr.setCell ⟨w.heap.size + 1, 0, none⟩ (.int .i64 W)).setCell ⟨w.heap.size + 1, 1, none⟩ (.slice Z n c)).setCell ⟨w.heap.size + 1, 2, none⟩ (.int .i64 W)).setCell ⟨w.heap.size + 1, 3, none⟩ (.slice (some ⟨gk, 0, none⟩) mk ek)).setCell ⟨w.heap.size + 1, 4, none⟩ (.slice Ck cs.length qk)) := by
  have hne := b7.row_ne (by decide) b2
  have r : ∀ {wx : World} (j : Nat) (u : Value), Row wx gk kill → Row (wx.setCell ⟨w.heap.size + 1, j, none⟩ u) gk kill := fun j u h => h.far hne u
  have k : ∀ {wx : World} (j : Nat) (u : Value), Below w.heap.size w wx → Below w.heap.size w (wx.setCell ⟨w.heap.size + 1, j, none⟩ u) := fun j u h => h.setCell (by simp) u
  have key : ∀ {wx : World} (j : Nat) (u : Value), Cops wx (T + 1) (.slice Ck cs.length qk) cs → Cops (wx.setCell ⟨w.heap.size + 1, j, none⟩ u) (T + 1) (.slice Ck cs.length qk) cs := fun {wx} j u hx =>
    World.ownsRow.kept hx (setCell_grown wx _ u) (by
      cases hv : (Value.slice Ck cs.length qk).ownBlock with
      | none => exact .inl rfl
      | some k => exact .inr (by have := own_base hx k hv; simp only [ne_eq, Option.some.injEq]; omega))
  have e1 := r 4 (.slice Ck cs.length qk) (r 3 (.slice (some ⟨gk, 0, none⟩) mk ek) (r 2 (.int .i64 W) (r 1 (.slice Z n c) (r 0 (.int .i64 W) b2))))
  have e2 := key 4 (.slice Ck cs.length qk) (key 3 (.slice (some ⟨gk, 0, none⟩) mk ek) (key 2 (.int .i64 W) (key 1 (.slice Z n c) (key 0 (.int .i64 W) b4))))
  exact ⟨⟨(e1.arg hk.ok).lies, by rw [b3]; exact hk.len, hk.ok⟩, ⟨own_at e2, rfl⟩, k _ _ (k _ _ (k _ _ (k _ _ (k _ _ b8))))⟩

end Go.Proofs.Ytadkjnjibefocaa

namespace Go.Proofs.Ytadkjnjibefocaa
set_option maxRecDepth 10000
open Go.ChangeShapes Go.WideShapes Go.ChangeAt Go.RowKit

/-- append onto a row of the call's own that is not nil, as a step of a region: where the new slice lies. -/
theorem step_app {P : Program} {ops : Array Oper} {o : Oper} {a : Act} {w : World} {K : Act → World → Prop} {Q : Exit → Act → World → Prop} {E : Prop} (hgd : o.guard = none) (s x : Operand) (t : TypeId)
    (ho : o.op = .call { callee := .builtin .append, args := #[s, x], argTypes := #[t, t] })
    (base : Nat) (e : TypeId) (i : TypeInfo) (z : Value) (bytes : Nat) (ht : P.underlying t = some (.slice e)) (hi : P.info? e = some i) (hz : i.zero = some z)
    (hsize : i.size = 1) (hby : i.bytes = bytes) (hzs : z.cells.size = 1)
    (g0 n c0 : Nat) (xs : List Value) (hs : a.eval s = .slice (some ⟨g0, 0, none⟩) n c0) (hown : w.ownsRow base e 1 (.slice (some ⟨g0, 0, none⟩) n c0) n xs)
    (ad : Addr) (m c : Nat) (news : List Value) (hx : a.eval x = .slice (some ad) m c) (hl : news.length = m) (hnews : ∀ j u, news[j]? = some u → w.cell? (ad.add j) = some u) (h1 : ∀ u ∈ news, u.oneCell' = true)
    (h63 : n + m ≤ maxLen) (hbytes : (n + m) * bytes ≤ 140737488355328) (hbase : base ≤ w.heap.size)
    (h : ∀ g cap w', w'.ownsRow base e 1 (.slice (some ⟨g, 0, none⟩) (n + m) cap) (n + m) (xs ++ news) → w.grownBy w' (some g0) → (g = g0 ∨ g = w.heap.size) → K (a.put o.dst (.slice (some ⟨g, 0, none⟩) (n + m) cap)) w') :
    if Region.wanted o (yielded ops a.tmps) = true then Oper.wp P o a w K Q else E := by
  have hw : Region.wanted o (yielded ops a.tmps) = true := by simp [Region.wanted, hgd]
  rw [if_pos hw]
  obtain ⟨v', w', hrun, h2, h3, h4, h5⟩ := run_append_own_at (P := P) w base t o.type e i z 1 bytes ht hi hz hsize hby hzs (by decide) (.slice (some ⟨g0, 0, none⟩) n c0) n xs hown ad m c news (by omega) hnews h1 h63 hbytes hbase
  have hne : v' ≠ .slice none 0 0 := by intro hv; exact absurd (h4.1 hv).1 (by simp)
  rcases h2.2 with ⟨hv, _⟩ | ⟨g, cap, cur, rfl, hb⟩
  · exact absurd hv hne
  · have h5' : g = g0 ∨ g = w.heap.size := by simpa [Value.ownBlock] using h5
    unfold Oper.wp execOp
    simp only [ho, resolve, invoke, builtin, Sem.run_bind, Sem.run_pure, Result.andThen_ok, List.map_toArray, List.map_cons, List.map_nil, hs, hx, hrun]
    exact h g cap w' h2 h3 h5'

theorem Arg.cells {w w1 : World} {ad : Addr} {n : Nat} {ws : List Nat} (h : Arg w (some ad) n ws) (hb : Below w.heap.size w w1) : ∀ j u, (words ws)[j]? = some u → w1.cell? (ad.add j) = some u := by
  intro j u hu
  obtain ⟨ad', e, hlt, hc⟩ := h.lies.cell hu
  injection e with e
  subst e
  exact (hb.cell (by rw [add_block]; exact hlt)).trans hc

theorem info62' : (Try.prog.info? 72).map (fun i => (i.zero, i.size, i.bytes)) = some (some (.int .u64 0), 1, 8) := by kernel_rfl

/-- Some set came back; nothing but the tape has changed. -/
def GenAny (w : World) (T : Nat) (e : Ending) (w' : World) : Prop :=
  ∃ (W : Int) (ad : Addr) (n c : Nat) (ws : List Nat), e = .returned (.agg #[.int .i64 W, .slice (some ad) n c]) ∧ n ≤ 60 ∧ Arg w' (some ad) n ws ∧ Tape w' T ∧ w.grownBy w' (some T)

/-- The copy that is spoiled: its variable b, its own words, the result's cell, the tape. -/
def Spoiled (w : World) (T b : Nat) (V : Int) (g n c : Nat) (ws : List Nat) (wr : World) : Prop :=
  Box wr b V (some ⟨g, 0, none⟩) n c ∧ wr.ownsRow (w.heap.size + 1 + 1) 72 1 (.slice (some ⟨g, 0, none⟩) n c) n (words ws) ∧ (∀ x ∈ ws, x < Bs.W64) ∧ w.heap.size + 1 + 1 ≤ b ∧ Box wr (w.heap.size + 1) 0 none 0 0 ∧ Tape wr T ∧ w.grownBy wr (some T)

theorem empty_own (w : World) (base k : Nat) (h : base ≤ w.heap.size) (hk : k = w.heap.size) : (w.alloc (.cells #[] 72)).ownsRow base 72 1 (.slice (some ⟨k, 0, none⟩) 0 0) 0 [] := by
  subst hk; exact World.ownsRow_lit w #[] 0 h (by simp [maxLen]) rfl
theorem Box.at_new {w : World} {W : Int} {A : Option Addr} {n c k : Nat} (hk : k = w.heap.size) : Box (w.alloc (.cells #[.int .i64 W, .slice A n c] 47)) k W A n c := by
  subst hk; exact Box.new _ _ _ _ _
theorem Box.drew {w : World} {b : Nat} {W : Int} {A : Option Addr} {n c : Nat} (h : Box w b W A n c) : Box w.drew b W A n c := h

theorem ord1 (w : World) (W : Int) (A : Option Addr) (n c : Nat) :
    World.ownsRow (World.drew (((w.alloc (.cells #[.int .i64 W, .slice A n c] 47)).alloc (.cells #[.int .i64 0, .slice none 0 0] 47)).alloc (.cells #[] 72))) (w.heap.size + 1 + 1) 72 1 (.slice (some ⟨w.heap.size + 1 + 1, 0, none⟩) 0 0) 0 [] ∧
    Box (World.drew (((w.alloc (.cells #[.int .i64 W, .slice A n c] 47)).alloc (.cells #[.int .i64 0, .slice none 0 0] 47)).alloc (.cells #[] 72))) w.heap.size W A n c ∧
    Box (World.drew (((w.alloc (.cells #[.int .i64 W, .slice A n c] 47)).alloc (.cells #[.int .i64 0, .slice none 0 0] 47)).alloc (.cells #[] 72))) (w.heap.size + 1) 0 none 0 0 ∧
    Below w.heap.size w (World.drew (((w.alloc (.cells #[.int .i64 W, .slice A n c] 47)).alloc (.cells #[.int .i64 0, .slice none 0 0] 47)).alloc (.cells #[] 72))) :=
  ⟨(empty_own _ _ _ (by simp) (by simp)).drew, (((Box.new w _ _ _ _).alloc _).alloc _).drew, ((Box.at_new (by simp)).alloc _).drew, ((below2 w _ _).alloc (by simp only [World.size_alloc]; omega) _).drew⟩
theorem ord2 (w : World) (W : Int) (A : Option Addr) (n c : Nat) :
    World.ownsRow (World.drew ((((w.alloc (.cells #[.int .i64 W, .slice A n c] 47)).alloc (.cells #[.int .i64 0, .slice none 0 0] 47)).alloc (.cells #[] 72)).alloc (.cells #[.int .i64 0, .slice none 0 0] 47))) (w.heap.size + 1 + 1) 72 1 (.slice (some ⟨w.heap.size + 1 + 1, 0, none⟩) 0 0) 0 [] ∧
    Box (World.drew ((((w.alloc (.cells #[.int .i64 W, .slice A n c] 47)).alloc (.cells #[.int .i64 0, .slice none 0 0] 47)).alloc (.cells #[] 72)).alloc (.cells #[.int .i64 0, .slice none 0 0] 47))) w.heap.size W A n c ∧
    Box (World.drew ((((w.alloc (.cells #[.int .i64 W, .slice A n c] 47)).alloc (.cells #[.int .i64 0, .slice none 0 0] 47)).alloc (.cells #[] 72)).alloc (.cells #[.int .i64 0, .slice none 0 0] 47))) (w.heap.size + 1) 0 none 0 0 ∧
    Box (World.drew ((((w.alloc (.cells #[.int .i64 W, .slice A n c] 47)).alloc (.cells #[.int .i64 0, .slice none 0 0] 47)).alloc (.cells #[] 72)).alloc (.cells #[.int .i64 0, .slice none 0 0] 47))) (w.heap.size + 1 + 1 + 1) 0 none 0 0 ∧
    Below w.heap.size w (World.drew ((((w.alloc (.cells #[.int .i64 W, .slice A n c] 47)).alloc (.cells #[.int .i64 0, .slice none 0 0] 47)).alloc (.cells #[] 72)).alloc (.cells #[.int .i64 0, .slice none 0 0] 47))) :=
  ⟨((empty_own _ _ _ (by simp) (by simp)).alloc _).drew, ((((Box.new w _ _ _ _).alloc _).alloc _).alloc _).drew, (((Box.at_new (by simp)).alloc _).alloc _).drew, (Box.at_new (by simp)).drew, (((below2 w _ _).alloc (by simp only [World.size_alloc]; omega) _).alloc (by simp only [World.size_alloc]; omega) _).drew⟩
theorem ord3 (w : World) (W : Int) (A : Option Addr) (n c : Nat) :
    World.ownsRow (World.drew ((((w.alloc (.cells #[.int .i64 W, .slice A n c] 47)).alloc (.cells #[.int .i64 0, .slice none 0 0] 47)).alloc (.cells #[.int .i64 0, .slice none 0 0] 47)).alloc (.cells #[] 72))) (w.heap.size + 1 + 1) 72 1 (.slice (some ⟨w.heap.size + 1 + 1 + 1, 0, none⟩) 0 0) 0 [] ∧
    Box (World.drew ((((w.alloc (.cells #[.int .i64 W, .slice A n c] 47)).alloc (.cells #[.int .i64 0, .slice none 0 0] 47)).alloc (.cells #[.int .i64 0, .slice none 0 0] 47)).alloc (.cells #[] 72))) w.heap.size W A n c ∧
    Box (World.drew ((((w.alloc (.cells #[.int .i64 W, .slice A n c] 47)).alloc (.cells #[.int .i64 0, .slice none 0 0] 47)).alloc (.cells #[.int .i64 0, .slice none 0 0] 47)).alloc (.cells #[] 72))) (w.heap.size + 1) 0 none 0 0 ∧
    Box (World.drew ((((w.alloc (.cells #[.int .i64 W, .slice A n c] 47)).alloc (.cells #[.int .i64 0, .slice none 0 0] 47)).alloc (.cells #[.int .i64 0, .slice none 0 0] 47)).alloc (.cells #[] 72))) (w.heap.size + 1 + 1) 0 none 0 0 ∧
    Below w.heap.size w (World.drew ((((w.alloc (.cells #[.int .i64 W, .slice A n c] 47)).alloc (.cells #[.int .i64 0, .slice none 0 0] 47)).alloc (.cells #[.int .i64 0, .slice none 0 0] 47)).alloc (.cells #[] 72))) :=
  ⟨(empty_own _ _ _ (by simp only [World.size_alloc]; omega) (by simp)).drew, ((((Box.new w _ _ _ _).alloc _).alloc _).alloc _).drew, (((Box.at_new (by simp)).alloc _).alloc _).drew, ((Box.at_new (by simp)).alloc _).drew, (((below2 w _ _).alloc (by simp only [World.size_alloc]; omega) _).alloc (by simp only [World.size_alloc]; omega) _).drew⟩

theorem some_ne {a b : Nat} (h : a ≠ b) : some a ≠ some b := fun e => h (by injection e)
theorem cell_farS (w : World) {b g i j : Nat} (h : g ≠ b) (u : Value) : (w.setCell ⟨b, j, none⟩ u).cell? ⟨g, i, none⟩ = w.cell? ⟨g, i, none⟩ :=
  World.cell?_setCell_other w _ _ u (by intro e; injection e with e; exact h e.symm)
theorem Box.own_ne {w : World} {b g : Nat} {W : Int} {A : Option Addr} {n c base m d : Nat} {xs : List Value} (h : Box w b W A n c) (ho : w.ownsRow base 72 1 (.slice (some ⟨g, 0, none⟩) m d) m xs) : g ≠ b := by
  rintro rfl
  rcases ho.2 with ⟨hv, _⟩ | ⟨g', cap, cur, hv, _, hg, _⟩
  · cases hv
  · injection hv with h1 _ _
    injection h1 with h1
    injection h1 with h1
    subst h1
    unfold Box at h
    rw [h] at hg
    injection hg with hg
    injection hg with _ hg
    cases hg
theorem own_far {w : World} {b g base m d : Nat} {xs : List Value} (ho : w.ownsRow base 72 1 (.slice (some ⟨g, 0, none⟩) m d) m xs) (hne : g ≠ b) (j : Nat) (u : Value) : (w.setCell ⟨b, j, none⟩ u).ownsRow base 72 1 (.slice (some ⟨g, 0, none⟩) m d) m xs :=
  ho.kept (grown_set w b rfl u) (.inr (some_ne hne))
theorem own_ge {w : World} {g base m d : Nat} {xs : List Value} (ho : w.ownsRow base 72 1 (.slice (some ⟨g, 0, none⟩) m d) m xs) : base ≤ g ∧ g < w.heap.size := ho.lt g rfl
/-- Storing a new width and new words into the spoiled copy's variable. -/
theorem Spoiled.store {w wr : World} {T b : Nat} {V V' : Int} {A : Option Addr} {n c g' n' c' : Nat} {ws' : List Nat} (h : Box wr b V A n c) (hown : wr.ownsRow (w.heap.size + 1 + 1) 72 1 (.slice (some ⟨g', 0, none⟩) n' c') n' (words ws'))
    (hok : ∀ x ∈ ws', x < Bs.W64) (hb : w.heap.size + 1 + 1 ≤ b) (hr : Box wr (w.heap.size + 1) 0 none 0 0) (ht : Tape wr T) (hT : T < w.heap.size) (hg : w.grownBy wr (some T)) :
    Spoiled w T b V' g' n' c' ws' ((wr.setCell ⟨b, 0, none⟩ (.int .i64 V')).setCell ⟨b, 1, none⟩ (.slice (some ⟨g', 0, none⟩) n' c')) := by
  have hne := h.own_ne hown
  exact ⟨h.set _ _ _ _, own_far (own_far hown hne 0 _) hne 1 _, hok, hb, (hr.far (by simp; omega) _).far (by simp; omega) _, (ht.far (by simp; omega) _).far (by simp; omega) _, grown_set_new (grown_set_new hg (by simp; omega) _) (by simp; omega) _⟩
theorem Spoiled.tape {w wr w' : World} {T b : Nat} {V : Int} {g n c : Nat} {ws : List Nat} (h : Spoiled w T b V g n c ws wr) (hT : T < w.heap.size) (ht : Tape w' T) (hg : wr.grownBy w' (some T)) : Spoiled w T b V g n c ws w' := by
  obtain ⟨h1, h2, h3, h4, h5, _, h7⟩ := h
  have hge := own_ge h2
  refine ⟨h1.grown hg (some_ne (by omega)), h2.kept hg (.inr (some_ne ?_)), h3, h4, h5.grown hg (some_ne (by omega)), ht, grown_trans h7 hg⟩
  show g ≠ T
  omega
theorem Spoiled.drew {w wr : World} {T b : Nat} {V : Int} {g n c : Nat} {ws : List Nat} (h : Spoiled w T b V g n c ws wr) : Spoiled w T b V g n c ws wr.drew := by
  obtain ⟨h1, h2, h3, h4, h5, h6, h7⟩ := h
  exact ⟨h1, h2.drew, h3, h4, h5, h6.keep fun _ _ => rfl, grown_trans h7 (grown_drew _ _)⟩
theorem Spoiled.alloc {w wr : World} {T b : Nat} {V : Int} {g n c : Nat} {ws : List Nat} (h : Spoiled w T b V g n c ws wr) (o : Obj) : Spoiled w T b V g n c ws (wr.alloc o) := by
  obtain ⟨h1, h2, h3, h4, h5, h6, h7⟩ := h
  exact ⟨h1.alloc _, h2.alloc _, h3, h4, h5.alloc _, h6.alloc _, grown_trans h7 (grown_of_below ((Below.refl _ _).alloc (Nat.le_refl _) _) _)⟩
theorem Spoiled.width {w wr : World} {T b : Nat} {V : Int} {g n c : Nat} {ws : List Nat} (h : Spoiled w T b V g n c ws wr) (hT : T < w.heap.size) (V' : Int) : Spoiled w T b V' g n c ws (wr.setCell ⟨b, 0, none⟩ (.int .i64 V')) := by
  obtain ⟨h1, h2, h3, h4, h5, h6, h7⟩ := h
  have hne := h1.own_ne h2
  refine ⟨?_, own_far h2 hne 0 _, h3, h4, h5.far (by simp; omega) _, h6.far (by simp; omega) _, grown_set_new h7 (by simp; omega) _⟩
  unfold Box at h1 ⊢
  simp [World.setCell, Array.getElem?_modify, h1]
theorem Spoiled.slice {w wr : World} {T b : Nat} {V : Int} {A : Option Addr} {n c g' n' c' : Nat} {ws' : List Nat} (h1 : Box wr b V A n c) (h2 : wr.ownsRow (w.heap.size + 1 + 1) 72 1 (.slice (some ⟨g', 0, none⟩) n' c') n' (words ws'))
    (h3 : ∀ x ∈ ws', x < Bs.W64) (h4 : w.heap.size + 1 + 1 ≤ b) (h5 : Box wr (w.heap.size + 1) 0 none 0 0) (h6 : Tape wr T) (hT : T < w.heap.size) (h7 : w.grownBy wr (some T)) :
    Spoiled w T b V g' n' c' ws' (wr.setCell ⟨b, 1, none⟩ (.slice (some ⟨g', 0, none⟩) n' c')) := by
  have hne := h1.own_ne h2
  refine ⟨?_, own_far h2 hne 1 _, h3, h4, h5.far (by simp; omega) _, h6.far (by simp; omega) _, grown_set_new h7 (by simp; omega) _⟩
  unfold Box at h1 ⊢
  simp [World.setCell, Array.getElem?_modify, h1]
theorem Spoiled.vars {w wr : World} {T b : Nat} {V : Int} {g n c : Nat} {ws : List Nat} (h : Spoiled w T b V g n c ws wr) :
    ((wr.cell? ⟨b, 0, none⟩ = some (.int .i64 V) ∧ wr.cell? ⟨b, 1, none⟩ = some (.slice (some ⟨g, 0, none⟩) n c)) ∧ wr.frozen? ⟨b, 0, none⟩ = false ∧ wr.frozen? ⟨b, 1, none⟩ = false) ∧
    ((wr.cell? ⟨w.heap.size + 1, 0, none⟩ = some (.int .i64 0) ∧ wr.cell? ⟨w.heap.size + 1, 1, none⟩ = some (.slice none 0 0)) ∧ wr.frozen? ⟨w.heap.size + 1, 0, none⟩ = false ∧ wr.frozen? ⟨w.heap.size + 1, 1, none⟩ = false) ∧ w.heap.size + 1 ≠ b ∧ ws.length = n := by
  obtain ⟨h1, h2, h3, h4, h5, h6, h7⟩ := h
  exact ⟨⟨⟨h1.c0, h1.c1⟩, h1.f 0, h1.f 1⟩, ⟨⟨h5.c0, h5.c1⟩, h5.f 0, h5.f 1⟩, by omega, by have := h2.1; rw [words_len] at this; omega⟩
/-- The copy is handed back. -/
theorem Spoiled.done {w wr : World} {T b : Nat} {V : Int} {g n c : Nat} {ws : List Nat} (h : Spoiled w T b V g n c ws wr) (hT : T < w.heap.size) (hn : n ≤ 60) :
    GenAny w T (.returned (.agg #[.int .i64 V, .slice (some ⟨g, 0, none⟩) n c])) ((wr.setCell ⟨w.heap.size + 1, 0, none⟩ (.int .i64 V)).setCell ⟨w.heap.size + 1, 1, none⟩ (.slice (some ⟨g, 0, none⟩) n c)) := by
  obtain ⟨h1, h2, h3, h4, h5, h6, h7⟩ := h
  have hne := h5.own_ne h2
  have ho := own_far (own_far h2 hne 0 (.int .i64 V)) hne 1 (.slice (some ⟨g, 0, none⟩) n c)
  obtain ⟨A, c'', e, hat, hl⟩ := own_slice ho
  injection e with e1 e2 e3
  subst e1
  exact ⟨V, _, n, c, ws, rfl, hn, ⟨hat, by rw [← hl, words_len], h3⟩, (h6.far (by simp; omega) _).far (by simp; omega) _, grown_set_new (grown_set_new h7 (by simp) _) (by simp) _⟩
theorem wrap_small (k : Nat) (h : k < 64) : IntKind.u64.wrap (k : Int) = k := IntWalk.u64_in _ (by omega)
theorem words_snoc (ws : List Nat) (k : Nat) (h : k < 64) : words ws ++ [.int .u64 (IntKind.u64.wrap (k : Int))] = words (ws ++ [k]) := by
  rw [wrap_small k h]; simp [words, u64]
theorem words_set (ws : List Nat) (j x : Nat) : (words ws).set j (.int .u64 (x : Int)) = words (ws.set j x) := by
  unfold words u64; rw [List.map_set]
/-- Storing one word of the spoiled copy. -/
theorem Spoiled.word {w wr : World} {T b : Nat} {V : Int} {g n c : Nat} {ws : List Nat} (h : Spoiled w T b V g n c ws wr) (hT : T < w.heap.size) (j x : Nat) (hx : x < Bs.W64) : Spoiled w T b V g n c (ws.set j x) (wr.setCell ⟨g, j, none⟩ (.int .u64 (x : Int))) := by
  obtain ⟨h1, h2, h3, h4, h5, h6, h7⟩ := h
  have hne := h1.own_ne h2
  have hge := own_ge h2
  have hs := h2.stored j (.int .u64 (x : Int))
  rw [words_set] at hs
  refine ⟨h1.far (by simpa using Ne.symm hne) _, hs.1, ?_, h4, h5.far (by simp; omega) _, h6.far (by simp; omega) _, grown_set_new h7 (by simp; omega) _⟩
  intro y hy
  rcases List.mem_or_eq_of_mem_set hy with h | h
  · exact h3 y h
  · subst h; exact hx
theorem Spoiled.atWord {w wr : World} {T b : Nat} {V : Int} {g n c : Nat} {ws : List Nat} (h : Spoiled w T b V g n c ws wr) {j : Nat} (hj : j < n) :
    (wr.cell? ⟨g, j, none⟩ = some (.int .u64 (Bs.wd ws j)) ∧ wr.frozen? ⟨g, j, none⟩ = false) ∧ Bs.wd ws j < Bs.W64 ∧ g ≠ b := by
  obtain ⟨h1, h2, h3, h4, h5, h6, h7⟩ := h
  have hl : ws.length = n := by have := h2.1; rw [words_len] at this; omega
  exact ⟨⟨by rw [h2.cellAt j (by omega)]; exact words_get (by omega), h2.frozenAt j⟩, Bs.wd_lt h3 j, h1.own_ne h2⟩
theorem after_app {w W1 w3 : World} {g0 : Nat} (hB : Below w.heap.size w W1) (hg : W1.grownBy w3 (some g0)) (h0 : w.heap.size ≤ g0) : Below w.heap.size w w3 :=
  hB.grown hg hB.size (by intro k hk; injection hk with hk; omega)

set_option maxHeartbeats 1600000 in
theorem spoil_any (T : Nat) (W : Int) (ad : Addr) (n c : Nat) (ws : List Nat) (w : World) (ht : Tape w T) (hA : Arg w (some ad) n ws) (hn : n ≤ 50) (hW0 : 0 ≤ W) (hW1 : W ≤ 256) :
    Calls Try.prog 27 #[.pointer (some ⟨T, 0, none⟩), .agg #[.int .i64 W, .slice (some ad) n c]] w (GenAny w T) := by
  have hTl := ht.lt
  obtain ⟨i0, hi, hz0, hz1, hz2⟩ := info_parts info62'
  have Hi := hid hi; have Hz0 := hid hz0; have Hz1 := hid hz1; have Hz2 := hid hz2
  have HA := hid hA; have Ht := hid ht
  clear hA ht hi hz0 hz1 hz2
  go_enter Try.func27, Try.ntmps27
  go_upto_region 1 with fail
  go_cut [5] (fun s5 wc => ∃ b g c' : Nat, s5 = .pointer (some ⟨b, 0, none⟩) ∧ Hid (Spoiled w T b W g n c' ws wc))
  case first =>
    go_region_held3 (fun w' => w'.cell? ⟨w.heap.size, 0, none⟩ = some (.int .i64 W) ∧ w'.cell? ⟨w.heap.size, 1, none⟩ = some (.slice (some ad) n c))
      (first | go_keep | (refine ⟨?_, ?_⟩ <;> (rw [cell_farS _ (by omega), cell_farS _ (by omega)]; assumption)))
      (first
        | ((refine step_app (by rfl) _ _ 45 (by rfl) (w.heap.size + 1 + 1) 72 i0 _ 8 Try.underlying45 Hi.out Hz0.out Hz1.out Hz2.out rfl (w.heap.size + 1 + 1) 0 0 [] (by rfl)
              (by exact (ord1 w W (some ad) n c).1)
              ad n c (words ws) (by rfl) (by rw [words_len]; exact HA.out.len)
              (by exact HA.out.cells (ord1 w W (some ad) n c).2.2.2)
              (words_one ws) (by unfold maxLen; omega) (by omega) (by simp) ?_)
           intro g3 c3 w3 hown3 hgr3 hat3
           have hbx := (ord1 w W (some ad) n c).2.1.grown hgr3 (some_ne (by omega))
           have hbr := (ord1 w W (some ad) n c).2.2.1.grown hgr3 (some_ne (by omega))
           have hbw := after_app (ord1 w W (some ad) n c).2.2.2 hgr3 (by omega)
           have k0 := hbx.c0
           have k1 := hbx.c1
           have hown4 : w3.ownsRow (w.heap.size + 1 + 1) 72 1 (.slice (some ⟨g3, 0, none⟩) n c3) n (words ws) := (by simpa using hown3); have Hown3 := hid hown4; have hz3 := hbw.size; have hlt3 := hbr.lt; have Hbr := hid hbr; have Hbw := hid hbw
           clear hown3 hown4 hgr3 hbx hbr hbw)
        | ((refine step_app (by rfl) _ _ 45 (by rfl) (w.heap.size + 1 + 1) 72 i0 _ 8 Try.underlying45 Hi.out Hz0.out Hz1.out Hz2.out rfl (w.heap.size + 1 + 1) 0 0 [] (by rfl)
              (by exact (ord2 w W (some ad) n c).1)
              ad n c (words ws) (by rfl) (by rw [words_len]; exact HA.out.len)
              (by exact HA.out.cells (ord2 w W (some ad) n c).2.2.2.2)
              (words_one ws) (by unfold maxLen; omega) (by omega) (by simp) ?_)
           intro g3 c3 w3 hown3 hgr3 hat3
           have hbx := (ord2 w W (some ad) n c).2.1.grown hgr3 (some_ne (by omega))
           have hbr := (ord2 w W (some ad) n c).2.2.1.grown hgr3 (some_ne (by omega))
           have hb5 := (ord2 w W (some ad) n c).2.2.2.1.grown hgr3 (some_ne (by omega))
           have hbw := after_app (ord2 w W (some ad) n c).2.2.2.2 hgr3 (by omega)
           have k0 := hbx.c0
           have k1 := hbx.c1
           have k2 := hb5.c0
           have k3 := hb5.c1
           have k4 := hb5.f 0
           have k5 := hb5.f 1
           have Hb5 := hid hb5
           clear hb5
           have hown4 : w3.ownsRow (w.heap.size + 1 + 1) 72 1 (.slice (some ⟨g3, 0, none⟩) n c3) n (words ws) := (by simpa using hown3); have Hown3 := hid hown4; have hz3 := hbw.size; have hlt3 := hbr.lt; have Hbr := hid hbr; have Hbw := hid hbw
           clear hown3 hown4 hgr3 hbx hbr hbw)
        | ((refine step_app (by rfl) _ _ 45 (by rfl) (w.heap.size + 1 + 1) 72 i0 _ 8 Try.underlying45 Hi.out Hz0.out Hz1.out Hz2.out rfl (w.heap.size + 1 + 1 + 1) 0 0 [] (by rfl)
              (by exact (ord3 w W (some ad) n c).1)
              ad n c (words ws) (by rfl) (by rw [words_len]; exact HA.out.len)
              (by exact HA.out.cells (ord3 w W (some ad) n c).2.2.2.2)
              (words_one ws) (by unfold maxLen; omega) (by omega) (by simp) ?_)
           intro g3 c3 w3 hown3 hgr3 hat3
           have hbx := (ord3 w W (some ad) n c).2.1.grown hgr3 (some_ne (by omega))
           have hbr := (ord3 w W (some ad) n c).2.2.1.grown hgr3 (some_ne (by omega))
           have hb5 := (ord3 w W (some ad) n c).2.2.2.1.grown hgr3 (some_ne (by omega))
           have hbw := after_app (ord3 w W (some ad) n c).2.2.2.2 hgr3 (by omega)
           have k0 := hbx.c0
           have k1 := hbx.c1
           have k2 := hb5.c0
           have k3 := hb5.c1
           have k4 := hb5.f 0
           have k5 := hb5.f 1
           have Hb5 := hid hb5
           clear hb5
           have hown4 : w3.ownsRow (w.heap.size + 1 + 1) 72 1 (.slice (some ⟨g3, 0, none⟩) n c3) n (words ws) := (by simpa using hown3); have Hown3 := hid hown4; have hz3 := hbw.size; have hlt3 := hbr.lt; have Hbr := hid hbr; have Hbw := hid hbw
           clear hown3 hown4 hgr3 hbx hbr hbw)
        )
    · go_wp2_with fail
      go_meet
      exact ⟨_, g3, c3, rfl, hid ⟨Box.new _ _ _ _ _, Hown3.out.alloc _, HA.out.ok, by omega, Hbr.out.alloc _, (Ht.out.below Hbw.out hTl).alloc _, grown_of_below (Hbw.out.alloc hz3 _) _⟩⟩
    · go_wp2_with fail
      go_meet
      exact ⟨_, g3, c3, rfl, hid (Spoiled.store Hb5.out Hown3.out HA.out.ok (by omega) Hbr.out (Ht.out.below Hbw.out hTl) hTl (grown_of_below Hbw.out _))⟩
    · go_wp2_with fail
      go_meet
      exact ⟨_, g3, c3, rfl, hid (Spoiled.store Hb5.out Hown3.out HA.out.ok (by omega) Hbr.out (Ht.out.below Hbw.out hTl) hTl (grown_of_below Hbw.out _))⟩
  case rest =>
    obtain ⟨b, g, c', rfl, hS⟩ := hcut
    have htt := hS.out.2.2.2.2.2.1
    have Htt := hid htt
    clear htt HA Ht
    go_wp2_with fail
    refine (next_any T 4 _ Htt.out (by omega)).mono ?_
    rintro e w4 ⟨r4, rfl, h40, h41, ht4, hg4, hs4⟩
    have hS4 := hid (hS.out.tape hTl ht4 hg4)
    clear h41 ht4 hg4 hs4 hS Htt
    obtain ⟨⟨⟨x0, x1⟩, y0, y1⟩, ⟨⟨u0, u1⟩, v0, v1⟩, hne, hlen⟩ := hS4.out.vars
    have Hlen := hid hlen
    clear hlen
    by_cases c0 : r4 = 0
    · have t0 : (r4 == 0) = true := by simp [c0]
      clear c0
      go_wp2_with fail
      go_region_with (first
        | (go_at_call 7
           go_must (
           refine (next_any T 5 _ (by exact hS4.out.drew.2.2.2.2.2.1) (by omega)).mono ?_
           rintro e w5 ⟨r5, rfl, h50, h51, ht5, hg5, hs5⟩
           have hr5 : r5 < 5 := (by omega)
           have hS5 := hid (hS4.out.drew.tape hTl ht5 hg5)
           have hS6 := hid (hS5.out.width hTl (W + (r5 - 2)))
           obtain ⟨⟨⟨x0, x1⟩, y0, y1⟩, ⟨⟨u0, u1⟩, v0, v1⟩, hne, hlen⟩ := hS5.out.vars
           clear h51 ht5 hg5 hs5 hlen)))
      all_goals
        obtain ⟨_, ⟨⟨z0, z1⟩, _⟩, _⟩ := hS6.out.vars
        go_wp2_with fail
        exact bodyPost_ret (v := .agg #[.int .i64 (W + (r5 - 2)), .slice (some ⟨g, 0, none⟩) n c']) (by simp [results, Try.results27, go_sem, z0, z1]) rfl (hS6.out.done hTl (by omega))
    · have t0 : (r4 == 0) = false := by simp [c0]
      clear c0
      by_cases c1 : r4 = 1
      · have t1 : (r4 == 1) = true := by simp [c1]
        clear c1
        go_wp2_with fail
        go_region_law (first
          | ((refine step_app (by rfl) _ _ 45 (by rfl) (w.heap.size + 1 + 1) 72 i0 _ 8 Try.underlying45 Hi.out Hz0.out Hz1.out Hz2.out rfl g n c' (words ws) (by rfl)
                (by exact (hS5.out.alloc _).2.1)
                ⟨w5.heap.size, 0, none⟩ 1 1 [.int .u64 (IntKind.u64.wrap (k5 : Int))] (by rfl) rfl (by exact new_one _ _ _) (one_int _ _) (by unfold maxLen; omega) (by omega) (by have := own_ge hS5.out.2.1; simp only [World.size_alloc]; omega) ?_)
             intro g3 c3 w3 hown3 hgr3 hat3
             rw [words_snoc _ _ (by omega)] at hown3
             have hq := hS5.out.alloc (.cells #[.int .u64 (IntKind.u64.wrap (k5 : Int))] 72)
             have hqo := hq.1.own_ne hq.2.1
             have hqg := own_ge hS5.out.2.1
             have hbx3 := hq.1.grown hgr3 (some_ne (by omega))
             have hbr3 := hq.2.2.2.2.1.grown hgr3 (some_ne (by omega))
             have htp3 : Tape w3 T := hq.2.2.2.2.2.1.keep (fun k hk => hgr3.block k (by have := hq.2.2.2.2.2.1.lt; omega) (some_ne (by omega)))
             have hgw3 : w.grownBy w3 (some T) := ⟨hgr3.os.trans hq.2.2.2.2.2.2.os, hgr3.tape.trans hq.2.2.2.2.2.2.tape, hgr3.output.trans hq.2.2.2.2.2.2.output, Nat.le_trans hq.2.2.2.2.2.2.size hgr3.size, fun i hi hi2 => (hgr3.block i (by have := hq.2.2.2.2.2.2.size; omega) (some_ne (by omega))).trans (hq.2.2.2.2.2.2.block i hi hi2)⟩
             have hS6 := hid (Spoiled.slice (ws' := ws ++ [k5]) hbx3 hown3 (by intro x hx; rcases List.mem_append.1 hx with h | h; exact hq.2.2.1 x h; simp at h; subst h; unfold Bs.W64; omega) hq.2.2.2.1 hbr3 htp3 hTl hgw3)
             have x0 := hbx3.c0
             have x1 := hbx3.c1
             have y1 := hbx3.f 1
             obtain ⟨_, ⟨⟨z0, z1⟩, z2, z3⟩, z4, _⟩ := hS6.out.vars
             have u0 := hbr3.c0
             have u1 := hbr3.c1
             have v0 := hbr3.f 0
             have v1 := hbr3.f 1
             clear hown3 hgr3 hq hbx3 hbr3 htp3 hgw3)
          | (go_simp
             go_at_call 7
             go_must (
             refine (next_any T 2 _ (by exact hS4.out.drew.2.2.2.2.2.1) (by omega)).mono ?_
             rintro e w5 ⟨r5, rfl, h50, h51, ht5, hg5, hs5⟩
             obtain ⟨k5, rfl⟩ := Int.eq_ofNat_of_zero_le h50
             have hr5 : k5 < 2 := (by omega)
             have hS5 := hid (hS4.out.drew.tape hTl ht5 hg5)
             have hbl5 := hS5.out.1.lt
             obtain ⟨⟨⟨x0, x1⟩, y0, y1⟩, ⟨⟨u0, u1⟩, v0, v1⟩, hne, hlen⟩ := hS5.out.vars
             clear h51 ht5 hg5 hs5 hlen)))
        all_goals
          go_wp2_with fail
          exact bodyPost_ret (v := .agg #[.int .i64 W, .slice (some ⟨g3, 0, none⟩) (n + 1) c3]) (by simp [results, Try.results27, go_sem, z0, z1]) rfl (hS6.out.done hTl (by omega))
      · have t1 : (r4 == 1) = false := by simp [c1]
        clear c1
        by_cases c2 : r4 = 2
        · have t2 : (r4 == 2) = true := by simp [c2]
          clear c2
          by_cases hn0 : 0 < n
          · obtain ⟨m, rfl⟩ : ∃ m, n = m + 1 := ⟨n - 1, by omega⟩
            have hj : m < m + 1 := by omega
            obtain ⟨⟨q0, q1⟩, q2, q3⟩ := hS4.out.atWord hj
            generalize hx : Bs.wd ws m = x at q0 q2
            have Hx := hid hx; have Q2 := hid q2
            clear hx q2
            have hwr : IntKind.i64.wrap (m : Int) = m := IntWalk.i64_in _ (by omega)
            have hm0 : (0 : Int) ≤ m := by omega
            have hm1 : (m : Int).toNat = m := by omega
            have hm2 : (m : Int) < (m : Int) + 1 := by omega
            go_wp2_with fail
            go_region_with (first
              | (go_at_call 7
                 go_must (
                 refine (next_any T 64 _ (by exact hS4.out.drew.2.2.2.2.2.1) (by omega)).mono ?_
                 rintro e w5 ⟨r5, rfl, h50, h51, ht5, hg5, hs5⟩
                 obtain ⟨k5, rfl⟩ := Int.eq_ofNat_of_zero_le h50
                 have hr5 : k5 < 64 := (by omega)
                 have hS5 := hid (hS4.out.drew.tape hTl ht5 hg5)
                 obtain ⟨⟨⟨x0, x1⟩, y0, y1⟩, ⟨⟨u0, u1⟩, v0, v1⟩, hne, hlen⟩ := hS5.out.vars
                 obtain ⟨⟨q0, q1⟩, q2, q3⟩ := hS5.out.atWord hj
                 rw [Hx.out] at q0
                 have hS6 := hid (hS5.out.word hTl m (x ||| 2 ^ k5) (Nat.or_lt_two_pow (n := 64) Q2.out (Nat.pow_lt_pow_right (by decide) hr5)))
                 have hw6 : IntKind.u64.wrap (2 ^ min (IntKind.u64.wrap (k5 : Int)).toNat 64) = IntKind.u64.wrap (2 ^ k5) := (by rw [wrap_small k5 hr5, Int.toNat_natCast, Nat.min_eq_left (by omega)])
                 have hw7 : bits BinOp.or IntKind.u64 (x : Int) (IntKind.u64.wrap (2 ^ min (IntKind.u64.wrap (k5 : Int)).toNat 64)) = ((x ||| 2 ^ k5 : Nat) : Int) := (by rw [hw6]; exact or_bit x k5 Q2.out hr5)
                 have Hw7 := hid hw7
                 clear h51 ht5 hg5 hs5 hlen q2 hw6 hw7)))
            all_goals
              rw [Hw7.out]
              obtain ⟨⟨⟨x0, x1⟩, y0, y1⟩, ⟨⟨z0, z1⟩, z2, z3⟩, hne, hlen⟩ := hS6.out.vars
              have Hlen6 := hid hlen
              clear hlen
              go_wp2_with fail
              exact bodyPost_ret (v := .agg #[.int .i64 W, .slice (some ⟨g, 0, none⟩) (m + 1) c']) (by simp [results, Try.results27, go_sem, z0, z1]) rfl (hS6.out.done hTl (by omega))
          · have t3 : decide (0 < (n : Int)) = false := by simp; omega
            go_wp2_with fail
            exact bodyPost_ret (v := .agg #[.int .i64 W, .slice (some ⟨g, 0, none⟩) n c']) (by simp [results, Try.results27, go_sem, u0, u1]) rfl (hS4.out.done hTl (by omega))
        · have t2 : (r4 == 2) = false := by simp [c2]
          clear c2
          go_wp2_with fail
          refine (next_any T 4 _ (hS4.out.alloc _).2.2.2.2.2.1 (by omega)).mono ?_
          rintro e w5 ⟨r5, rfl, h50, h51, ht5, hg5, hs5⟩
          obtain ⟨v, hv⟩ : ∃ v : Int, w5.cell? ⟨w4.heap.size, r5.toNat, none⟩ = some (.int .i64 v) := by
            have hh := heap_alloc_new w4 (Obj.cells #[.int .i64 (-1), .int .i64 257, .int .i64 320, .int .i64 0] 3)
            have hblk := hg5.block w4.heap.size (by rw [World.size_alloc]; omega) (some_ne (by have := hS4.out.2.2.2.2.2.1.lt; omega))
            rw [hh] at hblk
            have h4 : r5 = 0 ∨ r5 = 1 ∨ r5 = 2 ∨ r5 = 3 := by omega
            rcases h4 with rfl | rfl | rfl | rfl
            · exact ⟨-1, by simp [World.cell?, hblk]⟩
            · exact ⟨257, by simp [World.cell?, hblk]⟩
            · exact ⟨320, by simp [World.cell?, hblk]⟩
            · exact ⟨0, by simp [World.cell?, hblk]⟩
          have hr5 : r5 < 4 := by omega
          have hS5 := hid ((hS4.out.alloc _).tape hTl ht5 hg5)
          have hS6 := hid (hS5.out.width hTl v)
          obtain ⟨⟨⟨x0, x1⟩, y0, y1⟩, ⟨⟨u0, u1⟩, v0, v1⟩, hne, hlen⟩ := hS5.out.vars
          obtain ⟨_, ⟨⟨z0, z1⟩, _⟩, _⟩ := hS6.out.vars
          clear h51 ht5 hg5 hs5 hlen
          go_wp2_with fail
          exact bodyPost_ret (v := .agg #[.int .i64 v, .slice (some ⟨g, 0, none⟩) n c']) (by simp [results, Try.results27, go_sem, z0, z1]) rfl (hS6.out.done hTl (by omega))
end Go.Proofs.Ytadkjnjibefocaa

namespace Go.Proofs.Ytadkjnjibefocaa
set_option maxRecDepth 20000
open Go.ChangeShapes Go.WideShapes Go.ChangeAt Go.RowKit

end Go.Proofs.Ytadkjnjibefocaa

namespace Go.Proofs.Ytadkjnjibefocaa
set_option maxRecDepth 20000
open Go.ChangeShapes Go.WideShapes Go.ChangeAt Go.RowKit

end Go.Proofs.Ytadkjnjibefocaa

namespace Go.Proofs.Ytadkjnjibefocaa
set_option maxRecDepth 20000
open Go.ChangeShapes Go.WideShapes Go.ChangeAt Go.RowKit

def emptyR (W : Int) : Int × List Nat × Int := if W < 0 ∨ 256 < W then (0, [], 3) else (W, Bs.emp W.toNat, 0)
def fullR (W : Int) : Int × List Nat × Int := if W < 0 ∨ 256 < W then (0, [], 3) else (W, Bs.ofP W.toNat (fun _ => true) W.toNat, 0)
def withR (W : Int) (ws : List Nat) (b : Int) : Int × List Nat × Int :=
  if Bs.validB W ws = false then (0, [], 1) else if b < 0 ∨ W ≤ b then (0, [], 3) else (W, Bs.put ws b.toNat, 0)
def withoutR (W : Int) (ws : List Nat) (b : Int) : Int × List Nat × Int :=
  if Bs.validB W ws = false then (0, [], 1) else if b < 0 ∨ W ≤ b then (0, [], 3) else (W, Bs.ofP W.toNat (fun i => Bs.bit ws i && !decide (i = b.toNat)) W.toNat, 0)

theorem boxB (w : World) (W : Int) (A : Option Addr) (n c : Nat) :
    Box ((w.alloc (.cells #[.int .i64 W, .slice A n c] 47)).alloc (.cells #[.int .i64 0, .slice none 0 0] 47)) w.heap.size W A n c ∧
    Box ((w.alloc (.cells #[.int .i64 W, .slice A n c] 47)).alloc (.cells #[.int .i64 0, .slice none 0 0] 47)) (w.heap.size + 1) 0 none 0 0 := box2 w W 0 A none n c 0 0

theorem without_eq (v k : Nat) (ws : List Nat) (hv : Bs.validB (v : Int) ws = true) (hk : k < v) :
    mixR (flag true false false) (v : Int) ws (v : Int) (Bs.put (Bs.emp v) k) = withoutR (v : Int) ws (k : Int) := by
  have hW : v ≤ 256 := by have := (Bs.validB_iff.1 hv).2.1; omega
  have hf := Bs.fit_put (Bs.fit_emp v) hk
  have h2 := Bs.valid_of_fit hf hW
  unfold mixR withoutR
  rw [if_neg (by simp [hv, h2]), if_neg (by simp), if_neg (by simp [hv]), if_neg (by omega), Int.toNat_natCast, Int.toNat_natCast]
  congr 2
  refine Bs.ofP_congr fun i _ => ?_
  rw [Bs.bit_put _ _ _ (by rw [(Bs.fit_emp v).len]; exact Bs.lt_nw hk), Bs.bit_emp]
  simp [flag]

/-- Block g holds n words of the call's own. -/
def OwnW (w : World) (base g n c : Nat) (ws : List Nat) : Prop := w.ownsRow base 72 1 (.slice (some ⟨g, 0, none⟩) n c) n (words ws)
theorem OwnW.len {w : World} {base g n c : Nat} {ws : List Nat} (h : OwnW w base g n c ws) : ws.length = n := by
  have := h.1; rw [words_len] at this; omega
theorem OwnW.ge {w : World} {base g n c : Nat} {ws : List Nat} (h : OwnW w base g n c ws) : base ≤ g ∧ g < w.heap.size := own_ge h
theorem OwnW.arg {w : World} {base g n c : Nat} {ws : List Nat} (h : OwnW w base g n c ws) (ok : ∀ x ∈ ws, x < Bs.W64) : Arg w (some ⟨g, 0, none⟩) n ws :=
  ⟨.inr ⟨_, rfl, h.ge.2, h.cells rfl⟩, h.len, ok⟩
theorem OwnW.below {w w' : World} {base g n c : Nat} {ws : List Nat} (h : OwnW w base g n c ws) (hb : Below w.heap.size w w') : OwnW w' base g n c ws := own_below h hb
theorem OwnW.far {w : World} {base g n c : Nat} {ws : List Nat} (h : OwnW w base g n c ws) {p : Addr} (hp : g ≠ p.block) (u : Value) : OwnW (w.setCell p u) base g n c ws :=
  World.ownsRow.kept h (grown_set w p.block rfl u) (.inr (some_ne hp))
theorem Row.own {w : World} {g base : Nat} {ws : List Nat} (h : Row w g ws) (hb : base ≤ g) (hl : ws.length ≤ 1000) : OwnW w base g ws.length ws.length ws :=
  ⟨by simp [words_len], .inr ⟨g, ws.length, _, rfl, hb, h, Nat.le_refl _, by unfold maxLen; omega, by simp [words_len], by rw [Nat.mul_one, ← words_len]; exact List.take_length⟩⟩

end Go.Proofs.Ytadkjnjibefocaa

namespace Go.Proofs.Ytadkjnjibefocaa
set_option maxRecDepth 20000
open Go.ChangeShapes Go.WideShapes Go.ChangeAt Go.RowKit

theorem OwnW.less {w : World} {base base' g n c : Nat} {ws : List Nat} (h : OwnW w base g n c ws) (hb : base' ≤ base) : OwnW w base' g n c ws := by
  refine ⟨h.1, ?_⟩
  rcases h.2 with h' | ⟨g', cap, cur, h1, h2, h3⟩
  · exact .inl h'
  · exact .inr ⟨g', cap, cur, h1, Nat.le_trans hb h2, h3⟩

/-- A set that is being filled in variable b, its words in block g; the result's cell r is still empty. -/
def Filling (w : World) (b r v g n c : Nat) (zs : List Nat) (wr : World) : Prop :=
  Box wr b v (some ⟨g, 0, none⟩) n c ∧ OwnW wr w.heap.size g n c zs ∧ w.heap.size ≤ b ∧ b ≠ r ∧ w.heap.size ≤ r ∧ Box wr r 0 none 0 0 ∧ Below w.heap.size w wr
theorem Filling.put {w wr w5 : World} {b r v g n c : Nat} {zs zs' : List Nat} (h : Filling w b r v g n c zs wr) (ho : OwnW w5 w.heap.size g n c zs') (hg : wr.grownBy w5 (some g)) : Filling w b r v g n c zs' w5 := by
  obtain ⟨h1, h2, h3, h4, h5, h6, h7⟩ := h
  have e1 := h1.own_ne h2
  have e2 := h6.own_ne h2
  have hge := h2.ge
  exact ⟨h1.grown hg (some_ne (Ne.symm e1)), ho, h3, h4, h5, h6.grown hg (some_ne (Ne.symm e2)), h7.grown hg h7.size (by intro k hk; injection hk with hk; omega)⟩
theorem Filling.start {w w2 : World} {g r v n c : Nat} {zs : List Nat} (ho : OwnW w2 w.heap.size g n c zs) (hr : Box w2 r 0 none 0 0) (hr2 : w.heap.size ≤ r) (hb : Below w.heap.size w w2) :
    Filling w w2.heap.size r v g n c zs (w2.alloc (.cells #[.int .i64 v, .slice (some ⟨g, 0, none⟩) n c] 47)) := by
  have := hr.lt
  exact ⟨Box.new _ _ _ _ _, ho.below ((Below.refl _ _).alloc (Nat.le_refl _) _), hb.size, by omega, hr2, hr.alloc _, hb.alloc hb.size _⟩
theorem Filling.cells {w wr : World} {b r v g n c : Nat} {zs : List Nat} (h : Filling w b r v g n c zs wr) :
    ((wr.cell? ⟨b, 0, none⟩ = some (.int .i64 v) ∧ wr.cell? ⟨b, 1, none⟩ = some (.slice (some ⟨g, 0, none⟩) n c)) ∧ (wr.cell? ⟨r, 0, none⟩ = some (.int .i64 0) ∧ wr.cell? ⟨r, 1, none⟩ = some (.slice none 0 0))) ∧ (wr.frozen? ⟨r, 0, none⟩ = false ∧ wr.frozen? ⟨r, 1, none⟩ = false) ∧ b ≠ r := by
  obtain ⟨h1, h2, h3, h4, h5, h6, h7⟩ := h
  exact ⟨⟨⟨h1.c0, h1.c1⟩, h6.c0, h6.c1⟩, ⟨h6.f 0, h6.f 1⟩, h4⟩
/-- The set is stored into the result's cell. -/
theorem Filling.done {w wr : World} {b r v g n c : Nat} {zs : List Nat} (h : Filling w b r v g n c zs wr) (ok : ∀ x ∈ zs, x < Bs.W64) :
    Arg ((wr.setCell ⟨r, 0, none⟩ (.int .i64 v)).setCell ⟨r, 1, none⟩ (.slice (some ⟨g, 0, none⟩) n c)) (some ⟨g, 0, none⟩) n zs ∧
      Below w.heap.size w ((wr.setCell ⟨r, 0, none⟩ (.int .i64 v)).setCell ⟨r, 1, none⟩ (.slice (some ⟨g, 0, none⟩) n c)) := by
  obtain ⟨h1, h2, h3, h4, h5, h6, h7⟩ := h
  have e2 := h6.own_ne h2
  exact ⟨((h2.far (p := ⟨r, 0, none⟩) e2 _).far (p := ⟨r, 1, none⟩) e2 _).arg ok, (h7.setCell (by simpa using h5) _).setCell (by simpa using h5) _⟩

end Go.Proofs.Ytadkjnjibefocaa

namespace Go.Proofs.Ytadkjnjibefocaa
set_option maxRecDepth 20000
open Go.ChangeShapes Go.WideShapes Go.ChangeAt Go.RowKit

/-- The bits that the copies from members lead to. -/
def tgt (W : Int) (ss : List Nat) (cs : List (Int × Int)) : List Int := (cs.filter fun p => Bs.hasB W ss p.1).map (·.2)
theorem tgt_snoc (W : Int) (ss : List Nat) (cs : List (Int × Int)) (p : Int × Int) : tgt W ss (cs ++ [p]) = tgt W ss cs ++ (if Bs.hasB W ss p.1 then [p.2] else []) := by
  unfold tgt; rw [List.filter_append, List.map_append]
  by_cases h : Bs.hasB W ss p.1 <;> simp [h]
theorem tgt_len (W : Int) (ss : List Nat) (cs : List (Int × Int)) : (tgt W ss cs).length ≤ cs.length := by
  unfold tgt; rw [List.length_map]; exact List.length_filter_le _ _
theorem mem_tgt {W : Int} {ss : List Nat} {cs : List (Int × Int)} {b : Int} : b ∈ tgt W ss cs ↔ ∃ a, (a, b) ∈ cs ∧ Bs.hasB W ss a = true := by
  unfold tgt; simp only [List.mem_map, List.mem_filter]
  constructor
  · rintro ⟨⟨a, c⟩, ⟨h1, h2⟩, rfl⟩; exact ⟨a, h1, h2⟩
  · rintro ⟨a, h1, h2⟩; exact ⟨(a, b), ⟨h1, h2⟩, rfl⟩

theorem mixR_ok (f : Bool → Bool → Bool) {W : Nat} {ws xs : List Nat} (hW : W ≤ 256) (h1 : Bs.Fit W ws) (h2 : Bs.Fit W xs) :
    mixR f W ws W xs = ((W : Int), Bs.ofP W (fun i => f (Bs.bit ws i) (Bs.bit xs i)) W, 0) := by
  unfold mixR
  rw [if_neg (by simp [Bs.valid_of_fit h1 hW, Bs.valid_of_fit h2 hW]), if_neg (by simp), Int.toNat_natCast]

theorem dev_value {W : Nat} (hW : W ≤ 256) {gs ks ss : List Nat} {cs : List (Int × Int)} (hk : Bs.Fit W ks) (hs : Bs.Fit W ss) (hc : ∀ p ∈ cs, inW W p = true) :
    orR W gs (orR W (Bs.ofP W (fun i => flag true false false (Bs.bit ss i) (Bs.bit ks i)) W) (Bs.ofP W (fun i => decide ((i : Int) ∈ tgt W ss cs)) W)) = valR gs ss (folB W ks cs) W := by
  unfold orR valR
  refine Bs.ofP_congr fun i hi => ?_
  rw [Bs.bit_ofP _ _ _ (Nat.le_refl _), Bs.bit_ofP _ _ _ (Nat.le_refl _), Bs.bit_ofP _ _ _ (Nat.le_refl _)]
  congr 1
  simp only [hi, decide_true, Bool.true_and]
  apply Bool.eq_iff_iff.2
  rw [List.any_eq_true]
  simp only [Bool.or_eq_true, decide_eq_true_eq, mem_tgt]
  constructor
  · rintro (h | ⟨a, ha, hb⟩)
    · refine ⟨i, List.mem_range.2 hi, ?_⟩
      unfold folB
      rw [Bs.hasB_nat hk hW]
      revert h
      cases Bs.bit ss i <;> cases Bs.bit ks i <;> simp [flag]
    · have h1 := hc _ ha
      simp [inW] at h1
      obtain ⟨x, rfl⟩ := Int.eq_ofNat_of_zero_le h1.1.1
      rw [Bs.hasB_nat hs hW] at hb
      refine ⟨x, List.mem_range.2 (by omega), ?_⟩
      unfold folB
      simp [hb, ha]
  · rintro ⟨x, hx, h⟩
    rw [List.mem_range] at hx
    unfold folB at h
    rw [Bs.hasB_nat hk hW] at h
    simp only [Bool.and_eq_true, Bool.or_eq_true, decide_eq_true_eq, Bool.not_eq_true'] at h
    obtain ⟨h1, ⟨h2, h3⟩ | h2⟩ := h
    · have : x = i := by omega
      subst this
      left; simp [flag, h1, h3]
    · exact .inr ⟨x, h2, by rw [Bs.hasB_nat hs hW]; exact h1⟩
theorem tgt_of {W : Nat} (hW : W ≤ 256) {ss : List Nat} {cs : List (Int × Int)} (hc : ∀ p ∈ cs, inW W p = true) :
    ofR W (tgt W ss cs) = ((W : Int), Bs.ofP W (fun i => decide ((i : Int) ∈ tgt W ss cs)) W, 0) := by
  unfold ofR
  rw [if_neg (by omega), if_neg, Int.toNat_natCast]
  intro h
  obtain ⟨b, hb, h2⟩ := List.any_eq_true.1 h
  obtain ⟨a, ha, _⟩ := mem_tgt.1 hb
  have h1 := hc _ ha
  simp [inW] at h1
  simp at h2
  omega
theorem inW_of_ok {W : Int} {cs : List (Int × Int)} (h : ∀ i, i < cs.length → okAt W cs i = true) : ∀ p ∈ cs, inW W p = true := by
  intro p hp
  obtain ⟨i, hi, e⟩ := List.getElem_of_mem hp
  have := h i hi
  unfold okAt at this
  rw [List.getD_eq_getElem?_getD, List.getElem?_eq_getElem hi, Option.getD_some, e] at this
  simp only [Bool.and_eq_true] at this
  exact this.1

section
variable {w : World} {W V X : Int} {A B C D : Option Addr} {n c m d k q x y : Nat} {wr w' : World}
theorem Applying.grown {row : Option Nat} (h : Applying w W V X A B C D n c m d k q x y wr) (hg : wr.grownBy w' row) (hr : ∀ g, row = some g → w.heap.size + 3 ≤ g) : Applying w W V X A B C D n c m d k q x y w' := by
  have ne : ∀ b, b < w.heap.size + 3 → some b ≠ row := fun b hb e => by have := hr b e.symm; omega
  exact ⟨h.1.grown hg (ne _ (by omega)), h.2.1.grown hg (ne _ (by omega)), h.2.2.1.grown hg (ne _ (by omega)), h.2.2.2.grown hg h.2.2.2.size (fun g e => by have := hr g e; omega)⟩
end
/-- While the targets are gathered. -/
def Aiming (w : World) (W V X : Int) (A B C D : Option Addr) (n c m d k q x y : Nat) (v : Value) (l : List Int) (wr : World) : Prop :=
  Applying w W V X A B C D n c m d k q x y wr ∧ wr.ownsRow (w.heap.size + 3) 3 1 v l.length (ints l) ∧ w.heap.size + 3 ≤ wr.heap.size
theorem Aiming.below {w : World} {W V X : Int} {A B C D : Option Addr} {n c m d k q x y : Nat} {v : Value} {l : List Int} {wr w' : World} (h : Aiming w W V X A B C D n c m d k q x y v l wr) (hb : Below wr.heap.size wr w') :
    Aiming w W V X A B C D n c m d k q x y v l w' := ⟨h.1.below hb, own_below h.2.1 hb, by have := hb.size; have := h.2.2; omega⟩
theorem Aiming.push {w : World} {W V X : Int} {A B C D : Option Addr} {n c m d k q x y : Nat} {v v' : Value} {l : List Int} {b : Int} {o : Obj} {wr w' : World} (h : Aiming w W V X A B C D n c m d k q x y v l wr)
    (ho : w'.ownsRow (w.heap.size + 3) 3 1 v' (l.length + 1) (ints l ++ [.int .i64 b])) (hg : (wr.alloc o).grownBy w' v.ownBlock) : Aiming w W V X A B C D n c m d k q x y v' (l ++ [b]) w' := by
  have h' := h.below ((Below.refl _ _).alloc (Nat.le_refl _) o)
  refine ⟨h'.1.grown hg (fun g e => (h.2.1.lt g e).1), ?_, ?_⟩
  · rw [ints_snoc, List.length_append]; exact ho
  · have := hg.size; have := h'.2.2; omega

end Go.Proofs.Ytadkjnjibefocaa

namespace Go.Proofs.Ytadkjnjibefocaa
set_option maxRecDepth 20000
set_option linter.unusedVariables false
set_option linter.unusedSimpArgs false
open Go.ChangeShapes Go.WideShapes Go.ChangeAt Go.RowKit

theorem one_int1 (x : Int) : ∀ u ∈ [Value.int .i64 x], u.oneCell' = true := by intro u hu; simp at hu; subst hu; rfl
theorem int_new (w : World) (x : Int) (t : Nat) : ∀ (j : Nat) (u : Value), [Value.int .i64 x][j]? = some u → (w.alloc (.cells #[.int .i64 x] t)).cell? ((⟨w.heap.size, 0, none⟩ : Addr).add j) = some u := by
  intro j u h
  have hb := Fb.new w #[.int .i64 x] t
  rw [add_of, hb.cell]
  simpa using h
theorem one_ints (l : List Int) : ∀ u ∈ ints l, u.oneCell' = true := by
  intro u hu
  unfold ints at hu
  obtain ⟨x, _, rfl⟩ := List.mem_map.1 hu
  rfl
/-- A row came back. -/
def RetIR (w : World) (ex : List (Option Nat)) (l : List Int) (e : Ending) (w' : World) : Prop :=
  ∃ y : RH, e = .returned (.slice y.A y.n y.c) ∧ y.l = l ∧ RHok w' ex y ∧ y.n ≤ y.c ∧ Below w.heap.size w w'
theorem RetIR.own {w w' : World} {ex : List (Option Nat)} {l : List Int} {A : Option Addr} {n c : Nat} (hex : ∀ k, some k ∈ ex → k < w.heap.size) (ho : w'.ownsRow w.heap.size 3 1 (.slice A n c) n (ints l)) (hl : l.length = n) (hn : n ≤ 200000) (hb : Below w.heap.size w w') :
    RetIR w ex l (.returned (.slice A n c)) w' := by
  refine ⟨⟨A, n, c, l⟩, rfl, rfl, ⟨EAt.own ho (fun g hg hm => by have := hex g hm; have := (ho.lt g hg).1; omega), hl, by show n ≤ _; omega⟩, ?_, hb⟩
  rcases ho.2 with ⟨e, h0⟩ | ⟨g, cap, cur, e, _, _, h1, _⟩
  · show n ≤ c; omega
  · injection e with _ _ e3
    show n ≤ c; omega
theorem ins_take {l : List Int} {v a : Int} {k : Nat} (h : ∀ x ∈ l.take k, x < v) (ha : l[k]? = some a) (hlt : a < v) : ∀ x ∈ l.take (k + 1), x < v := by
  intro x hx
  rw [List.take_add_one, ha] at hx
  rcases List.mem_append.1 hx with hx | hx
  · exact h x hx
  · simp at hx; subst hx; exact hlt
theorem add_nil (a : Addr) : a.add 0 = a := by
  obtain ⟨b, o, p⟩ := a
  cases p <;> simp [Addr.add]
theorem int_new1 (w : World) (o : Obj) (x : Int) (t : Nat) : ∀ (j : Nat) (u : Value), [Value.int .i64 x][j]? = some u → ((w.alloc o).alloc (.cells #[.int .i64 x] t)).cell? ((⟨w.heap.size + 1, 0, none⟩ : Addr).add j) = some u := by
  intro j u h
  have := int_new (w.alloc o) x t j u h
  rw [World.size_alloc] at this
  exact this
theorem own_capn {w : World} {base ty k g n cap : Nat} {xs : List Value} (h : w.ownsRow base ty k (.slice (some ⟨g, 0, none⟩) n cap) n xs) : n ≤ cap := by
  rcases h.2 with ⟨e, h0⟩ | ⟨g2, cap2, cur, e, _, _, h1, _⟩
  · omega
  · injection e with _ _ e3; omega
theorem own_step {w W w5 : World} {v : Value} {ty k n : Nat} {xs : List Value} (hB : Below w.heap.size w W) (ho : W.ownsRow w.heap.size ty k v n xs) (hg : W.grownBy w5 v.ownBlock) : Below w.heap.size w w5 := hB.grown hg hB.size (fun k hk => (ho.lt k hk).1)
theorem ints_take (l : List Int) (k : Nat) : ints (l.take k) = (ints l).take k := by simp [ints, List.map_take]
set_option maxHeartbeats 6400000 in
theorem insert_any (x : RH) (v : Int) (ex : List (Option Nat)) (w : World) (h : RHok w ex x) (hcap : x.n ≤ x.c) (hn : x.n ≤ 100000) (hex : ∀ k, some k ∈ ex → k < w.heap.size) :
    Calls Try.prog 14 #[.slice x.A x.n x.c, .int .i64 v] w (RetIR w ex (insI x.l v)) := by
  obtain ⟨i1, hi, hz0, hz1, hz2⟩ := info_parts info3
  have Hi := hid hi; have Hz0 := hid hz0; have Hz1 := hid hz1; have Hz2 := hid hz2
  clear hi hz0 hz1 hz2
  have HX := hid h
  have HL := hid h.len
  have Hex := hid hex
  clear h hex
  obtain ⟨A, n, c, l⟩ := x
  simp only at *
  have hb1 := (Below.refl w.heap.size w).alloc (Nat.le_refl _) (.cells #[] 3)
  have HB1 := hid hb1
  have HO := hid (World.ownsRow_lit (base := w.heap.size) (e := 3) (size := 1) w #[] 0 (Nat.le_refl _) (by unfold maxLen; omega) rfl)
  clear hb1
  go_enter Try.func14, Try.ntmps14
  go_wp2_with fail
  go_loop [5] (fun iv => ∃ k : Nat, k ≤ n ∧ iv = .int .i64 k ∧ Hid (∀ z ∈ l.take k, z < v)) (fun iv => n - (intOf iv).toNat)
  case atStart => exact ⟨0, by omega, rfl, hid (by simp)⟩
  case round =>
    obtain ⟨k, hk, rfl, hP⟩ := hrel
    by_cases hlt : k < n
    · obtain ⟨a, ha, -⟩ := get_at HL.out hlt
      obtain ⟨ad, hA, had, hc⟩ := HX.out.cell ha
      simp only at hA
      subst hA
      have Ha := hid ha
      clear ha
      by_cases h1 : a < v
      · as_aux_lemma =>
          have Hr := hid (ins_take hP.out Ha.out h1)
          go_wp2_with fail
          go_round
          case rel => exact ⟨k + 1, by omega, by go_num, Hr⟩
          case measure => simp [intOf]; omega
      · by_cases h2 : a = v
        · as_aux_lemma =>
            subst h2
            have Hr := hid (insI_hit hP.out Ha.out)
            go_wp2_with fail
            go_ret
            exact ⟨⟨some ad, n, c, l⟩, rfl, Hr.out.symm, HX.out, hcap, Below.refl _ _⟩
        · have Hr := hid (insI_put hP.out Ha.out (by omega))
          have t1 : (a == v) = false := by simpa using h2
          have hkc : k < c := by omega
          have Hal := hid (fun (v : World) (hb : Below w.heap.size w v) (j : Nat) (u : Value) (hj : (ints l)[j]? = some u) => show v.cell? (ad.add j) = some u by
            rcases HX.out.lies with h | ⟨ad2, e, hs, hcc⟩
            · rw [h] at hj; simp at hj
            · obtain rfl := Option.some.inj e
              exact (hb.cell (p := ad.add j) (by rw [add_block]; exact hs.1)).trans (hcc j u hj))
          have Hlen := hid (show (l.take k ++ v :: l.drop k).length = n + 1 by rw [List.length_append, List.length_take, List.length_cons, List.length_drop, HL.out]; omega)
          have Hdl := hid (show (ints (l.drop k)).length = (n - k) * 1 by unfold ints; rw [List.length_map, List.length_drop, HL.out]; omega)
          have Hdc := hid (fun (u : World) (hb : Below w.heap.size w u) (j : Nat) (z : Value) (hj : (ints (l.drop k))[j]? = some z) => show u.cell? ((ad.add k).add j) = some z by
            rw [Go.Deep.add_add]
            refine Hal.out u hb (k + j) z ?_
            unfold ints at hj ⊢
            rw [List.getElem?_map, List.getElem?_drop] at hj
            rw [List.getElem?_map]; exact hj)
          by_cases hk0 : k = 0
          · subst hk0
            have hc0 : w.cell? ad = some (.int .i64 a) := by rw [add_nil] at hc; exact hc
            have Hr2 := hid Hr.out
            as_aux_lemma =>
              go_wp2_with (
                first
                | (
                 at_builtin
                 refine wpList_append_lies _ rfl _ _ 22 rfl w.heap.size 3 i1 _ 1 8 Try.underlying22 Hi.out Hz0.out Hz1.out Hz2.out rfl (by decide) _ 0 [] rfl (HO.out.alloc _) ⟨w.heap.size + 1, 0, none⟩ 1 1 [Value.int .i64 v] rfl rfl (int_new1 w (.cells #[] 3) v 3) (one_int1 _) (by omega) (by unfold maxLen; omega) (by omega) (by rw [World.size_alloc]; have := (HB1.out).size; omega) _ rfl ?_
                 intro g5 cap5 w5 hown5 hgr5 hat5 hlt5
                 try rw [Nat.zero_add] at hown5
                 try rw [List.nil_append] at hown5
                 have HB5 := hid (own_step ((HB1.out).alloc (HB1.out).size (.cells #[Value.int .i64 v] 3)) (HO.out.alloc _) hgr5)
                 have H5 := hid hown5
                 have hcp5 := own_capn hown5
                 clear hown5 hgr5 hat5 hlt5)
                | (
                 at_builtin
                 refine wpList_append_lies _ rfl _ _ 22 rfl w.heap.size 3 i1 _ 1 8 Try.underlying22 Hi.out Hz0.out Hz1.out Hz2.out rfl (by decide) _ 1 [Value.int .i64 v] rfl H5.out ad n c (ints l) rfl (by unfold ints; rw [List.length_map, HL.out]; omega) (Hal.out _ HB5.out) (one_ints _) (by omega) (by unfold maxLen; omega) (by omega) (HB5.out).size _ rfl ?_
                 intro g7 cap7 w7 hown7 hgr7 hat7 hlt7
                 try rw [Nat.zero_add] at hown7
                 try rw [List.nil_append] at hown7
                 have HB7 := hid (own_step (HB5.out) H5.out hgr7)
                 have H7 := hid hown7
                 clear hown7 hgr7 hat7 hlt7))
              go_ret
              exact RetIR.own Hex.out (by rw [Hr.out]; have := H7.out; simpa [ints] using this) (by rw [Hr.out]; have := Hlen.out; omega) (by omega) HB7.out
          ·
            have Htk := hid (show (ints (l.take k)).length = k * 1 by unfold ints; rw [List.length_map, List.length_take, HL.out]; omega)
            have Htc := hid (fun (u : World) (hb : Below w.heap.size w u) (j : Nat) (z : Value) (hj : (ints (l.take k))[j]? = some z) => show u.cell? (ad.add j) = some z by
              refine Hal.out u hb j z ?_
              rw [ints_take, List.getElem?_take] at hj
              split at hj
              · exact hj
              · cases hj)
            as_aux_lemma =>
              go_wp2_with (
                first
                | (
                 at_builtin
                 refine wpList_append_lies _ rfl _ _ 22 rfl w.heap.size 3 i1 _ 1 8 Try.underlying22 Hi.out Hz0.out Hz1.out Hz2.out rfl (by decide) _ 0 [] rfl HO.out ad k c (ints (l.take k)) rfl Htk.out (Htc.out _ HB1.out) (one_ints _) (by omega) (by unfold maxLen; omega) (by omega) (HB1.out).size _ rfl ?_
                 intro g3 cap3 w3 hown3 hgr3 hat3 hlt3
                 try rw [Nat.zero_add] at hown3
                 try rw [List.nil_append] at hown3
                 have HB3 := hid (own_step (HB1.out) HO.out hgr3)
                 have H3 := hid hown3
                 clear hown3 hgr3 hat3 hlt3
                 clear HO)
                | (
                 at_builtin
                 refine wpList_append_lies _ rfl _ _ 22 rfl w.heap.size 3 i1 _ 1 8 Try.underlying22 Hi.out Hz0.out Hz1.out Hz2.out rfl (by decide) _ k (ints (l.take k)) rfl (H3.out.alloc _) ⟨(w3).heap.size, 0, none⟩ 1 1 [Value.int .i64 v] rfl rfl (int_new (w3) v 3) (one_int1 _) (by omega) (by unfold maxLen; omega) (by omega) (by rw [World.size_alloc]; have := (HB3.out).size; omega) _ rfl ?_
                 intro g5 cap5 w5 hown5 hgr5 hat5 hlt5
                 try rw [Nat.zero_add] at hown5
                 try rw [List.nil_append] at hown5
                 have HB5 := hid (own_step ((HB3.out).alloc (HB3.out).size (.cells #[Value.int .i64 v] 3)) (H3.out.alloc _) hgr5)
                 have H5 := hid hown5
                 have hcp5 := own_capn hown5
                 clear hown5 hgr5 hat5 hlt5
                 clear H3)
                | (
                 at_builtin
                 refine wpList_append_lies _ rfl _ _ 22 rfl w.heap.size 3 i1 _ 1 8 Try.underlying22 Hi.out Hz0.out Hz1.out Hz2.out rfl (by decide) _ (k + 1) (ints (l.take k) ++ [Value.int .i64 v]) rfl H5.out (ad.add k) (n - k) (c - k) (ints (l.drop k)) rfl Hdl.out (Hdc.out _ HB5.out) (one_ints _) (by omega) (by unfold maxLen; omega) (by omega) (HB5.out).size _ rfl ?_
                 intro g7 cap7 w7 hown7 hgr7 hat7 hlt7
                 try rw [Nat.zero_add] at hown7
                 try rw [List.nil_append] at hown7
                 have HB7 := hid (own_step (HB5.out) H5.out hgr7)
                 have H7 := hid hown7
                 clear hown7 hgr7 hat7 hlt7))
              go_ret
              exact RetIR.own Hex.out (by rw [Hr.out]; have := H7.out; simpa [ints] using this) (by rw [Hr.out]; have := Hlen.out; omega) (by omega) HB7.out
    · obtain rfl : k = n := by omega
      have Hr := hid (insI_end (l := l) (n := v) (by have := hP.out; rw [List.take_of_length_le (by rw [HL.out]; omega)] at this; exact this))
      have Hlen := hid (show (l ++ [v]).length = k + 1 by rw [List.length_append, HL.out]; rfl)
      have Hex2 := Hex
      by_cases h0 : k = 0
      · subst h0
        have Hl0 := hid (show l = [] from List.length_eq_zero_iff.1 HL.out)
        rcases A with _ | ad
        all_goals
          by_cases hc0 : c = 0
          · as_aux_lemma =>
              subst hc0
              go_wp2_with (
                first
                | (
                 at_builtin
                 refine wpList_append_lies _ rfl _ _ 22 rfl w.heap.size 3 i1 _ 1 8 Try.underlying22 Hi.out Hz0.out Hz1.out Hz2.out rfl (by decide) _ 0 [] rfl (HO.out.alloc _) ⟨w.heap.size + 1, 0, none⟩ 1 1 [Value.int .i64 v] rfl rfl (int_new1 w (.cells #[] 3) v 3) (one_int1 _) (by omega) (by unfold maxLen; omega) (by omega) (by rw [World.size_alloc]; have := (HB1.out).size; omega) _ rfl ?_
                 intro g5 cap5 w5 hown5 hgr5 hat5 hlt5
                 try rw [Nat.zero_add] at hown5
                 try rw [List.nil_append] at hown5
                 have HB5 := hid (own_step ((HB1.out).alloc (HB1.out).size (.cells #[Value.int .i64 v] 3)) (HO.out.alloc _) hgr5)
                 have H5 := hid hown5
                 have hcp5 := own_capn hown5
                 clear hown5 hgr5 hat5 hlt5))
              go_ret
              exact RetIR.own Hex.out (by rw [Hr.out, Hl0.out]; have := H5.out; simpa [ints] using this) (by rw [Hr.out, Hl0.out]; rfl) (by omega) HB5.out
          · as_aux_lemma =>
              have hcp : 0 < c := by omega
              go_wp2_with (
                first
                | (
                 at_builtin
                 refine wpList_append_lies _ rfl _ _ 22 rfl w.heap.size 3 i1 _ 1 8 Try.underlying22 Hi.out Hz0.out Hz1.out Hz2.out rfl (by decide) _ 0 [] rfl (HO.out.alloc _) ⟨w.heap.size + 1, 0, none⟩ 1 1 [Value.int .i64 v] rfl rfl (int_new1 w (.cells #[] 3) v 3) (one_int1 _) (by omega) (by unfold maxLen; omega) (by omega) (by rw [World.size_alloc]; have := (HB1.out).size; omega) _ rfl ?_
                 intro g5 cap5 w5 hown5 hgr5 hat5 hlt5
                 try rw [Nat.zero_add] at hown5
                 try rw [List.nil_append] at hown5
                 have HB5 := hid (own_step ((HB1.out).alloc (HB1.out).size (.cells #[Value.int .i64 v] 3)) (HO.out.alloc _) hgr5)
                 have H5 := hid hown5
                 have hcp5 := own_capn hown5
                 clear hown5 hgr5 hat5 hlt5))
              go_ret
              exact RetIR.own Hex.out (by rw [Hr.out, Hl0.out]; have := H5.out; simpa [ints] using this) (by rw [Hr.out, Hl0.out]; rfl) (by omega) HB5.out
      · obtain ⟨ad, rfl, had, hc⟩ : ∃ ad, A = some ad ∧ Safe w ex ad.block ∧ ∀ j u, (ints l)[j]? = some u → w.cell? (ad.add j) = some u := by
          rcases HX.out.lies with h | h
          · have h := congrArg List.length h; simp [ints] at h; have := HL.out; rw [h] at this; simp at this; omega
          · exact h
        have Htk := hid (show (ints l).length = k * 1 by unfold ints; rw [List.length_map, HL.out]; omega)
        have Htc := hid (fun (u : World) (hb : Below w.heap.size w u) (j : Nat) (z : Value) (hj : (ints l)[j]? = some z) => show u.cell? (ad.add j) = some z from (hb.cell (p := ad.add j) (by rw [add_block]; exact had.1)).trans (hc j z hj))
        clear hc had
        by_cases hkc : k = c
        · as_aux_lemma =>
            subst hkc
            go_wp2_with (
              first
              | (
               at_builtin
               refine wpList_append_lies _ rfl _ _ 22 rfl w.heap.size 3 i1 _ 1 8 Try.underlying22 Hi.out Hz0.out Hz1.out Hz2.out rfl (by decide) _ 0 [] rfl HO.out ad k k (ints l) rfl Htk.out (Htc.out _ HB1.out) (one_ints _) (by omega) (by unfold maxLen; omega) (by omega) (HB1.out).size _ rfl ?_
               intro g3 cap3 w3 hown3 hgr3 hat3 hlt3
               try rw [Nat.zero_add] at hown3
               try rw [List.nil_append] at hown3
               have HB3 := hid (own_step (HB1.out) HO.out hgr3)
               have H3 := hid hown3
               clear hown3 hgr3 hat3 hlt3
               clear HO)
              | (
               at_builtin
               refine wpList_append_lies _ rfl _ _ 22 rfl w.heap.size 3 i1 _ 1 8 Try.underlying22 Hi.out Hz0.out Hz1.out Hz2.out rfl (by decide) _ k (ints l) rfl (H3.out.alloc _) ⟨(w3).heap.size, 0, none⟩ 1 1 [Value.int .i64 v] rfl rfl (int_new (w3) v 3) (one_int1 _) (by omega) (by unfold maxLen; omega) (by omega) (by rw [World.size_alloc]; have := (HB3.out).size; omega) _ rfl ?_
               intro g5 cap5 w5 hown5 hgr5 hat5 hlt5
               try rw [Nat.zero_add] at hown5
               try rw [List.nil_append] at hown5
               have HB5 := hid (own_step ((HB3.out).alloc (HB3.out).size (.cells #[Value.int .i64 v] 3)) (H3.out.alloc _) hgr5)
               have H5 := hid hown5
               have hcp5 := own_capn hown5
               clear hown5 hgr5 hat5 hlt5
               clear H3))
            go_ret
            exact RetIR.own Hex.out (by rw [Hr.out]; have := H5.out; simpa [ints] using this) (by rw [Hr.out]; have := Hlen.out; omega) (by omega) HB5.out
        · as_aux_lemma =>
            have hkc2 : k < c := by omega
            go_wp2_with (
              first
              | (
               at_builtin
               refine wpList_append_lies _ rfl _ _ 22 rfl w.heap.size 3 i1 _ 1 8 Try.underlying22 Hi.out Hz0.out Hz1.out Hz2.out rfl (by decide) _ 0 [] rfl HO.out ad k c (ints l) rfl Htk.out (Htc.out _ HB1.out) (one_ints _) (by omega) (by unfold maxLen; omega) (by omega) (HB1.out).size _ rfl ?_
               intro g3 cap3 w3 hown3 hgr3 hat3 hlt3
               try rw [Nat.zero_add] at hown3
               try rw [List.nil_append] at hown3
               have HB3 := hid (own_step (HB1.out) HO.out hgr3)
               have H3 := hid hown3
               clear hown3 hgr3 hat3 hlt3
               clear HO)
              | (
               at_builtin
               refine wpList_append_lies _ rfl _ _ 22 rfl w.heap.size 3 i1 _ 1 8 Try.underlying22 Hi.out Hz0.out Hz1.out Hz2.out rfl (by decide) _ k (ints l) rfl (H3.out.alloc _) ⟨(w3).heap.size, 0, none⟩ 1 1 [Value.int .i64 v] rfl rfl (int_new (w3) v 3) (one_int1 _) (by omega) (by unfold maxLen; omega) (by omega) (by rw [World.size_alloc]; have := (HB3.out).size; omega) _ rfl ?_
               intro g5 cap5 w5 hown5 hgr5 hat5 hlt5
               try rw [Nat.zero_add] at hown5
               try rw [List.nil_append] at hown5
               have HB5 := hid (own_step ((HB3.out).alloc (HB3.out).size (.cells #[Value.int .i64 v] 3)) (H3.out.alloc _) hgr5)
               have H5 := hid hown5
               have hcp5 := own_capn hown5
               clear hown5 hgr5 hat5 hlt5
               clear H3))
            go_ret
            exact RetIR.own Hex.out (by rw [Hr.out]; have := H5.out; simpa [ints] using this) (by rw [Hr.out]; have := Hlen.out; omega) (by omega) HB5.out
end Go.Proofs.Ytadkjnjibefocaa

namespace Go.Proofs.Ytadkjnjibefocaa
set_option maxRecDepth 20000
set_option linter.unusedVariables false

theorem bit_valR (gs ss : List Nat) (f : Int → Int → Bool) (W i : Nat) : Bs.bit (valR gs ss f W) i = (decide (i < W) && (Bs.bit gs i || (List.range W).any fun x => Bs.bit ss x && f x i)) := by
  unfold valR; rw [Bs.bit_ofP _ _ _ (Nat.le_refl _)]
theorem bit_valR_iff {gs ss : List Nat} {f : Int → Int → Bool} {W i : Nat} (hi : i < W) : Bs.bit (valR gs ss f W) i = true ↔ (Bs.bit gs i = true ∨ ∃ x, x < W ∧ Bs.bit ss x = true ∧ f x i = true) := by
  rw [bit_valR]
  simp only [hi, decide_true, Bool.true_and, Bool.or_eq_true, List.any_eq_true, List.mem_range, Bool.and_eq_true]
theorem bit_orR_iff {ws xs : List Nat} {W i : Nat} (hi : i < W) : Bs.bit (orR W ws xs) i = true ↔ (Bs.bit ws i = true ∨ Bs.bit xs i = true) := by
  unfold orR
  rw [Bs.bit_ofP _ _ _ (Nat.le_refl _)]
  simp only [hi, decide_true, Bool.true_and, Bool.or_eq_true]
theorem bit_orR {W i : Nat} {a b : List Nat} (hi : i < W) : Bs.bit (orR W a b) i = (Bs.bit a i || Bs.bit b i) := by
  unfold orR
  rw [Bs.bit_ofP _ _ _ (Nat.le_refl _)]
  simp [hi]
/-- The value of a function. -/
def vl (v : Nat) (gs ks : List Nat) (cs : List (Int × Int)) (ss : List Nat) : List Nat := valR gs ss (folB v ks cs) v
theorem fit_vl (v : Nat) (gs ks : List Nat) (cs : List (Int × Int)) (ss : List Nat) : Bs.Fit v (vl v gs ks cs ss) := fit_valR _ _ _ _
theorem vl_or {v : Nat} (gs ks : List Nat) (cs : List (Int × Int)) (a b : List Nat) : vl v gs ks cs (orR v a b) = orR v (vl v gs ks cs a) (vl v gs ks cs b) := by
  refine Bs.ext (fit_vl _ _ _ _ _) (fit_orR _ _ _) fun i hi => ?_
  unfold vl
  apply Bool.eq_iff_iff.2
  rw [bit_valR_iff hi, bit_orR_iff hi, bit_valR_iff hi, bit_valR_iff hi]
  constructor
  · rintro (h | ⟨x, hx, h1, h2⟩)
    · exact .inl (.inl h)
    · rcases (bit_orR_iff hx).1 h1 with h3 | h3
      · exact .inl (.inr ⟨x, hx, h3, h2⟩)
      · exact .inr (.inr ⟨x, hx, h3, h2⟩)
  · rintro ((h | ⟨x, hx, h1, h2⟩) | (h | ⟨x, hx, h1, h2⟩))
    · exact .inl h
    · exact .inr ⟨x, hx, (bit_orR_iff hx).2 (.inl h1), h2⟩
    · exact .inl h
    · exact .inr ⟨x, hx, (bit_orR_iff hx).2 (.inr h1), h2⟩
end Go.Proofs.Ytadkjnjibefocaa

namespace Go.Proofs.Ytadkjnjibefocaa
set_option maxRecDepth 20000
set_option linter.unusedVariables false
set_option linter.unusedSimpArgs false

/-- A function of a width. -/
structure Pf where
  gs : List Nat
  ks : List Nat
  cs : List (Int × Int)
def Pf.vl (f : Pf) (v : Nat) (ss : List Nat) : List Nat := Ytadkjnjibefocaa.vl v f.gs f.ks f.cs ss
/-- A web: the width, the sets, the arcs into each unknown. -/
structure PW where
  v : Nat
  bd : List (List Nat)
  arcs : List (List (Nat × Pf))
def at0 (l : List (List Nat)) (m : Nat) : List Nat := l.getD m []
/-- A set joined with what follows from these arcs. -/
def side (v : Nat) (vals : List (List Nat)) (s : List Nat) (l : List (Nat × Pf)) : List Nat := l.foldl (fun s a => orR v s (a.2.vl v (at0 vals a.1))) s
theorem side_cons (v : Nat) (vals : List (List Nat)) (s : List Nat) (a : Nat × Pf) (l : List (Nat × Pf)) : side v vals s (a :: l) = side v vals (orR v s (a.2.vl v (at0 vals a.1))) l := rfl
theorem side_snoc (v : Nat) (vals : List (List Nat)) (s : List Nat) (a : Nat × Pf) (l : List (Nat × Pf)) : side v vals s (l ++ [a]) = orR v (side v vals s l) (a.2.vl v (at0 vals a.1)) := by
  unfold side; rw [List.foldl_append]; rfl
theorem fit_side {v : Nat} {vals : List (List Nat)} {s : List Nat} {l : List (Nat × Pf)} (hs : Bs.Fit v s) : Bs.Fit v (side v vals s l) := by
  induction l generalizing s with
  | nil => exact hs
  | cons a l ih => rw [side_cons]; exact ih (Bs.fit_ofP _ _ _ (Nat.le_refl _))
theorem bit_side {v i : Nat} (hi : i < v) (vals : List (List Nat)) (l : List (Nat × Pf)) (s : List Nat) : Bs.bit (side v vals s l) i = true ↔ (Bs.bit s i = true ∨ ∃ a ∈ l, Bs.bit (a.2.vl v (at0 vals a.1)) i = true) := by
  induction l generalizing s with
  | nil => simp [side]
  | cons a l ih =>
    rw [side_cons, ih, bit_orR hi, Bool.or_eq_true]
    constructor
    · rintro ((h | h) | ⟨b, hb, h⟩)
      · exact .inl h
      · exact .inr ⟨a, List.mem_cons_self, h⟩
      · exact .inr ⟨b, List.mem_cons_of_mem _ hb, h⟩
    · rintro (h | ⟨b, hb, h⟩)
      · exact .inl (.inl h)
      · rcases List.mem_cons.1 hb with rfl | hb
        · exact .inl (.inr h)
        · exact .inr ⟨b, hb, h⟩
theorem Pf.mono (f : Pf) {v i : Nat} (hi : i < v) {ss ts : List Nat} (h : ∀ i, i < v → Bs.bit ss i = true → Bs.bit ts i = true) (hb : Bs.bit (f.vl v ss) i = true) : Bs.bit (f.vl v ts) i = true := by
  unfold Pf.vl Ytadkjnjibefocaa.vl at *
  rw [bit_valR_iff hi] at *
  rcases hb with h1 | ⟨x, hx, h1, h2⟩
  · exact .inl h1
  · exact .inr ⟨x, hx, h x hx h1, h2⟩
/-- The number of unknowns, and the right side of one. -/
def PW.n (w : PW) : Nat := w.arcs.length
def PW.right (w : PW) (vals : List (List Nat)) (k : Nat) : List Nat := side w.v vals (at0 w.bd k) (w.arcs.getD k [])
def PW.rights (w : PW) (vals : List (List Nat)) : List (List Nat) := (List.range w.n).map fun k => w.right vals k
structure PW.Ok (w : PW) : Prop where
  len : w.bd.length = w.n
  fit : ∀ s ∈ w.bd, Bs.Fit w.v s
/-- Values of all unknowns. -/
structure PW.Vals (w : PW) (vals : List (List Nat)) : Prop where
  len : vals.length = w.n
  fit : ∀ s ∈ vals, Bs.Fit w.v s
theorem at0_mem {l : List (List Nat)} {k : Nat} (h : k < l.length) : at0 l k ∈ l := by
  unfold at0; rw [List.getD_eq_getElem?_getD, List.getElem?_eq_getElem h]; exact List.getElem_mem _
theorem at0_get {l : List (List Nat)} {k : Nat} {s : List Nat} (h : l[k]? = some s) : at0 l k = s := by
  unfold at0; rw [List.getD_eq_getElem?_getD, h]; rfl
theorem at0_map {n : Nat} {f : Nat → List Nat} {k : Nat} (h : k < n) : at0 ((List.range n).map f) k = f k := at0_get (by rw [List.getElem?_map, List.getElem?_range h]; rfl)
theorem vals_ext {n : Nat} {a b : List (List Nat)} (ha : a.length = n) (hb : b.length = n) (h : ∀ k, k < n → at0 a k = at0 b k) : a = b := by
  apply List.ext_getElem?
  intro k
  by_cases hk : k < n
  · have := h k hk
    unfold at0 at this
    rw [List.getD_eq_getElem?_getD, List.getD_eq_getElem?_getD, List.getElem?_eq_getElem (by omega), List.getElem?_eq_getElem (by omega)] at this
    rw [List.getElem?_eq_getElem (by omega), List.getElem?_eq_getElem (by omega)]
    simpa using this
  · rw [List.getElem?_eq_none (by omega), List.getElem?_eq_none (by omega)]
theorem PW.Vals.at {w : PW} {vals : List (List Nat)} (h : w.Vals vals) {k : Nat} (hk : k < w.n) : Bs.Fit w.v (at0 vals k) := h.fit _ (at0_mem (by rw [h.len]; exact hk))
theorem PW.map_vals (w : PW) {f : Nat → List Nat} (h : ∀ k, k < w.n → Bs.Fit w.v (f k)) : w.Vals ((List.range w.n).map f) :=
  ⟨by simp, fun s hs => by obtain ⟨k, hk, rfl⟩ := List.mem_map.1 hs; exact h k (List.mem_range.1 hk)⟩
theorem PW.Ok.right {w : PW} (h : w.Ok) (vals : List (List Nat)) {k : Nat} (hk : k < w.n) : Bs.Fit w.v (w.right vals k) := fit_side (h.fit _ (at0_mem (by rw [h.len]; exact hk)))
theorem PW.Ok.rights {w : PW} (h : w.Ok) (vals : List (List Nat)) : w.Vals (w.rights vals) := w.map_vals fun k hk => h.right vals hk
/-- One list of values is contained in another. -/
def LeV (w : PW) (a b : List (List Nat)) : Prop := ∀ k, k < w.n → ∀ i, i < w.v → Bs.bit (at0 a k) i = true → Bs.bit (at0 b k) i = true
theorem LeV.refl (w : PW) (a : List (List Nat)) : LeV w a a := fun _ _ _ _ h => h
theorem LeV.trans {w : PW} {a b c : List (List Nat)} (h : LeV w a b) (h2 : LeV w b c) : LeV w a c := fun k hk i hi hb => h2 k hk i hi (h k hk i hi hb)
theorem LeV.antisymm {w : PW} {a b : List (List Nat)} (ha : w.Vals a) (hb : w.Vals b) (h : LeV w a b) (h2 : LeV w b a) : a = b :=
  vals_ext ha.len hb.len fun k hk => Bs.ext (ha.at hk) (hb.at hk) fun i hi => Bool.eq_iff_iff.2 ⟨h k hk i hi, h2 k hk i hi⟩
/-- All arcs begin at unknowns. -/
def PW.In (w : PW) : Prop := ∀ l ∈ w.arcs, ∀ a ∈ l, a.1 < w.n
theorem PW.In.at {w : PW} (h : w.In) {k : Nat} {a : Nat × Pf} (ha : a ∈ w.arcs.getD k []) : a.1 < w.n := by
  rw [List.getD_eq_getElem?_getD] at ha
  cases e : w.arcs[k]? with
  | none => rw [e] at ha; simp at ha
  | some l => rw [e] at ha; exact h l (List.mem_of_getElem? e) a ha
theorem PW.right_mono {w : PW} (hw : w.In) {a b : List (List Nat)} (h : LeV w a b) {k i : Nat} (hi : i < w.v) (hb : Bs.bit (w.right a k) i = true) : Bs.bit (w.right b k) i = true := by
  unfold PW.right at *
  rw [bit_side hi] at *
  rcases hb with h1 | ⟨c, hc, h1⟩
  · exact .inl h1
  · exact .inr ⟨c, hc, c.2.mono hi (fun j hj hs => h c.1 (hw.at hc) j hj hs) h1⟩
theorem PW.rights_at {w : PW} {vals : List (List Nat)} {k : Nat} (hk : k < w.n) : at0 (w.rights vals) k = w.right vals k := at0_map hk
theorem PW.rights_mono {w : PW} (hw : w.In) {a b : List (List Nat)} (h : LeV w a b) : LeV w (w.rights a) (w.rights b) := fun k hk i hi hb => by
  rw [PW.rights_at hk] at *; exact PW.right_mono hw h hi hb
/-- The rounds. -/
def PW.round (w : PW) : Nat → List (List Nat)
  | 0 => (List.range w.n).map fun _ => Bs.emp w.v
  | k + 1 => w.rights (w.round k)
theorem PW.round_vals {w : PW} (h : w.Ok) (k : Nat) : w.Vals (w.round k) := by
  cases k with
  | zero => exact w.map_vals fun _ _ => Bs.fit_emp _
  | succ k => exact h.rights _
theorem PW.round_up {w : PW} (hw : w.In) (k : Nat) : LeV w (w.round k) (w.round (k + 1)) := by
  induction k with
  | zero => intro k hk i hi hb; rw [PW.round, at0_map hk, Bs.bit_emp] at hb; cases hb
  | succ k ih => exact PW.rights_mono hw ih
theorem PW.round_at {w : PW} {k m : Nat} (hm : m < w.n) : at0 (w.round (k + 1)) m = w.right (w.round k) m := PW.rights_at hm
/-- What the package does for a round: only the arcs from what has changed. -/
def PW.adv (w : PW) (vals : List (List Nat)) (ch : Nat → Bool) (k : Nat) : List Nat := side w.v vals (at0 vals k) ((w.arcs.getD k []).filter fun a => ch a.1)
def PW.advs (w : PW) (vals : List (List Nat)) (ch : Nat → Bool) : List (List Nat) := (List.range w.n).map fun k => w.adv vals ch k
theorem PW.adv_round {w : PW} (h : w.Ok) (hw : w.In) (k : Nat) (ch : Nat → Bool) (hch : ∀ m, m < w.n → (ch m = true ↔ at0 (w.round k) m ≠ at0 (w.round (k + 1)) m)) : w.advs (w.round (k + 1)) ch = w.round (k + 2) := by
  refine vals_ext (n := w.n) (by simp [PW.advs]) (PW.round_vals h _).len fun m hm => ?_
  rw [PW.advs, at0_map hm, PW.round_at hm]
  refine Bs.ext (fit_side ((PW.round_vals h (k + 1)).at hm)) (h.right _ hm) fun i hi => Bool.eq_iff_iff.2 ?_
  have hup := PW.round_up hw (k + 1) m hm i hi
  unfold PW.adv
  rw [bit_side hi]
  constructor
  · rintro (h1 | ⟨a, ha, h1⟩)
    · have := hup h1
      rw [PW.round_at (k := k + 1) hm] at this
      exact this
    · unfold PW.right
      rw [bit_side hi]
      exact .inr ⟨a, (List.mem_filter.1 ha).1, h1⟩
  · intro h1
    unfold PW.right at h1
    rw [bit_side hi] at h1
    rcases h1 with h1 | ⟨a, ha, h1⟩
    · refine .inl ?_
      rw [PW.round_at hm]
      unfold PW.right
      rw [bit_side hi]
      exact .inl h1
    · by_cases hc : ch a.1 = true
      · exact .inr ⟨a, List.mem_filter.2 ⟨ha, hc⟩, h1⟩
      · have he : at0 (w.round k) a.1 = at0 (w.round (k + 1)) a.1 := Classical.byContradiction fun hne => hc ((hch _ (hw.at ha)).2 hne)
        refine .inl ?_
        rw [PW.round_at hm]
        unfold PW.right
        rw [bit_side hi]
        exact .inr ⟨a, ha, by rw [he]; exact h1⟩
def cntB (W : Nat) (ws : List Nat) : Nat := ((List.range W).filter (Bs.bit ws)).length
/-- The bits that are missing. -/
def PW.left (w : PW) (a : List (List Nat)) : Nat := ((List.range w.n).map fun k => w.v - cntB w.v (at0 a k)).sum
theorem sum_lt {n : Nat} {f g : Nat → Nat} (h : ∀ k, k < n → f k ≤ g k) {m : Nat} (hm : m < n) (h1 : f m < g m) : ((List.range n).map f).sum < ((List.range n).map g).sum := by
  induction n with
  | zero => omega
  | succ n ih =>
    simp only [List.range_succ, List.map_append, List.sum_append, List.map_cons, List.map_nil, List.sum_cons, List.sum_nil]
    have hle : ((List.range n).map f).sum ≤ ((List.range n).map g).sum := by
      clear ih hm h1 m
      induction n with
      | zero => simp
      | succ n ih =>
        simp only [List.range_succ, List.map_append, List.sum_append, List.map_cons, List.map_nil, List.sum_cons, List.sum_nil]
        have := ih fun k hk => h k (by omega)
        have := h n (by omega)
        omega
    have hn := h n (by omega)
    by_cases e : m = n
    · subst e; omega
    · have := ih (fun k hk => h k (by omega)) (by omega)
      omega
theorem cntB_mono {W : Nat} {a b : List Nat} (h : ∀ i, i < W → Bs.bit a i = true → Bs.bit b i = true) : cntB W a ≤ cntB W b := by
  unfold cntB
  induction W with
  | zero => simp
  | succ W ih =>
    have := ih fun i hi => h i (by omega)
    have hW := h W (by omega)
    simp only [List.range_succ, List.filter_append, List.length_append, List.filter_cons, List.filter_nil]
    split
    · next h1 => rw [if_pos (hW h1)]; simp only [List.length_cons]; omega
    · simp only [List.length_nil]; omega
theorem cntB_eq {W : Nat} {a b : List Nat} (h : ∀ i, i < W → Bs.bit a i = true → Bs.bit b i = true) (he : cntB W a = cntB W b) : ∀ i, i < W → Bs.bit a i = Bs.bit b i := by
  induction W with
  | zero => intro i hi; omega
  | succ W ih =>
    have hm := cntB_mono (W := W) fun i hi => h i (by omega)
    have hW := h W (by omega)
    have e : ∀ c : List Nat, cntB (W + 1) c = cntB W c + if Bs.bit c W then 1 else 0 := fun c => by
      unfold cntB
      simp only [List.range_succ, List.filter_append, List.length_append, List.filter_cons, List.filter_nil]
      split <;> simp
    rw [e, e] at he
    have key : Bs.bit a W = Bs.bit b W ∧ cntB W a = cntB W b := by
      cases ha : Bs.bit a W with
      | true => rw [ha, hW ha] at he; exact ⟨(hW ha).symm, by omega⟩
      | false =>
        cases hb : Bs.bit b W with
        | false => rw [ha, hb] at he; exact ⟨rfl, by simpa using he⟩
        | true => rw [ha, hb] at he; simp at he; omega
    intro i hi
    by_cases e2 : i = W
    · subst e2; exact key.1
    · exact ih (fun j hj => h j (by omega)) key.2 i (by omega)
theorem cntB_lt2 {W : Nat} {a b : List Nat} (ha : Bs.Fit W a) (hb : Bs.Fit W b) (h : ∀ i, i < W → Bs.bit a i = true → Bs.bit b i = true) (hne : a ≠ b) : cntB W a < cntB W b := by
  have h1 := cntB_mono h
  rcases Nat.lt_or_ge (cntB W a) (cntB W b) with h2 | h2
  · exact h2
  · exact absurd (Bs.ext ha hb (cntB_eq h (by omega))) hne
theorem PW.left_lt {w : PW} {a b : List (List Nat)} (ha : w.Vals a) (hb : w.Vals b) (h : LeV w a b) {m : Nat} (hm : m < w.n) (hne : at0 a m ≠ at0 b m) : w.left b < w.left a := by
  have hle : ∀ k, k < w.n → cntB w.v (at0 a k) ≤ cntB w.v (at0 b k) := fun k hk => cntB_mono (fun x hx => h k hk x hx)
  have hmx : ∀ k, cntB w.v (at0 b k) ≤ w.v := fun k => by unfold cntB; exact Nat.le_trans (List.length_filter_le _ _) (by simp)
  have hlt : cntB w.v (at0 a m) < cntB w.v (at0 b m) := cntB_lt2 (ha.at hm) (hb.at hm) (fun i hi => h m hm i hi) hne
  exact sum_lt (fun k hk => by have := hle k hk; omega) hm (by have := hmx m; omega)
/-- There are at most as many rounds as bits. -/
theorem PW.left_empty (w : PW) : w.left (w.round 0) ≤ w.n * w.v := by
  unfold PW.left
  have : ∀ n, ((List.range n).map fun k => w.v - cntB w.v (at0 (w.round 0) k)).sum ≤ n * w.v := fun n => by
    induction n with
    | zero => simp
    | succ n ih =>
      simp only [List.range_succ, List.map_append, List.sum_append, List.map_cons, List.map_nil, List.sum_cons, List.sum_nil]
      rw [Nat.succ_mul]
      omega
  exact this _
/-- From a round that is the next one on, nothing changes; and what is contained in its own right sides from above contains every round. -/
theorem PW.round_least {w : PW} (hw : w.In) {b : List (List Nat)} (h : LeV w (w.rights b) b) (k : Nat) : LeV w (w.round k) b := by
  induction k with
  | zero => intro k hk i hi hb; rw [PW.round, at0_map hk, Bs.bit_emp] at hb; cases hb
  | succ k ih => exact (PW.rights_mono hw ih).trans h
end Go.Proofs.Ytadkjnjibefocaa

namespace Go.Proofs.Ytadkjnjibefocaa
set_option maxRecDepth 20000
set_option linter.unusedVariables false
set_option linter.unusedSimpArgs false

/-- K is the first round that equals the next one. -/
structure PW.Last (w : PW) (K : Nat) : Prop where
  fix : w.round (K + 1) = w.round K
  before : ∀ k, k < K → w.round (k + 1) ≠ w.round k
theorem PW.Last.unique {w : PW} {K J : Nat} (h : w.Last K) (h2 : w.Last J) : K = J := by
  rcases Nat.lt_trichotomy K J with h3 | h3 | h3
  · exact absurd h.fix (h2.before K h3)
  · exact h3
  · exact absurd h2.fix (h.before J h3)
theorem PW.fixed {w : PW} {K : Nat} (h : w.round (K + 1) = w.round K) (j : Nat) : w.round (K + j) = w.round K := by
  induction j with
  | zero => rfl
  | succ j ih => show w.rights (w.round (K + j)) = _; rw [ih]; exact h
theorem PW.Last.all {w : PW} {K : Nat} (h : w.Last K) {j : Nat} (hj : K ≤ j) : w.round j = w.round K := by
  have := PW.fixed h.fix (j - K)
  rwa [show K + (j - K) = j by omega] at this
theorem differ_at {w : PW} {a b : List (List Nat)} (ha : w.Vals a) (hb : w.Vals b) (h : a ≠ b) : ∃ m, m < w.n ∧ at0 a m ≠ at0 b m :=
  Classical.byContradiction fun hno => h (vals_ext ha.len hb.len fun k hk => Classical.byContradiction fun hne => hno ⟨k, hk, hne⟩)
theorem PW.left_round {w : PW} (h : w.Ok) (hw : w.In) {K : Nat} (hb : ∀ k, k < K → w.round (k + 1) ≠ w.round k) : K + w.left (w.round K) ≤ w.n * w.v := by
  induction K with
  | zero => have := w.left_empty; omega
  | succ K ih =>
    have h1 := ih fun k hk => hb k (by omega)
    obtain ⟨m, hm, hne⟩ := differ_at (PW.round_vals h K) (PW.round_vals h (K + 1)) (fun e => hb K (by omega) e.symm)
    have := PW.left_lt (PW.round_vals h K) (PW.round_vals h (K + 1)) (PW.round_up hw K) hm hne
    omega
theorem PW.Last.few {w : PW} (h : w.Ok) (hw : w.In) {K : Nat} (hK : w.Last K) : K ≤ w.n * w.v := by
  have := PW.left_round h hw hK.before; omega
theorem PW.last (w : PW) (h : w.Ok) (hw : w.In) : ∃ K, w.Last K := by
  refine Classical.byContradiction fun hno => ?_
  have key : ∀ K, ∀ k, k < K → w.round (k + 1) ≠ w.round k := by
    intro K
    induction K with
    | zero => intro k hk; omega
    | succ K ih =>
      intro k hk
      by_cases e : k = K
      · subst e; exact fun he => hno ⟨k, he, ih⟩
      · exact ih k (by omega)
  have := PW.left_round h hw (key (w.n * w.v + 1))
  omega
/-- The least solution is a solution, and contained in whatever contains its own right sides. -/
theorem PW.Last.sol {w : PW} {K : Nat} (h : w.Last K) : w.rights (w.round K) = w.round K := h.fix
theorem PW.Last.least {w : PW} (hw : w.In) {K : Nat} {b : List (List Nat)} (hb : LeV w (w.rights b) b) : LeV w (w.round K) b := PW.round_least hw hb K
/-- The union of values. -/
def orV (v n : Nat) (a b : List (List Nat)) : List (List Nat) := (List.range n).map fun k => orR v (at0 a k) (at0 b k)
theorem Pf.vl_or (f : Pf) (v : Nat) (a b : List Nat) : f.vl v (orR v a b) = orR v (f.vl v a) (f.vl v b) := Ytadkjnjibefocaa.vl_or _ _ _ _ _
theorem orR_four (v : Nat) (a b c d : List Nat) : orR v (orR v a b) (orR v c d) = orR v (orR v a c) (orR v b d) := by
  refine Bs.ext (fit_orR _ _ _) (fit_orR _ _ _) fun i hi => ?_
  rw [bit_orR hi, bit_orR hi, bit_orR hi, bit_orR hi, bit_orR hi, bit_orR hi]
  cases Bs.bit a i <;> cases Bs.bit b i <;> cases Bs.bit c i <;> cases Bs.bit d i <;> rfl
theorem side_or {v : Nat} {a b c : List (List Nat)} (l : List (Nat × Pf)) (s t : List Nat) (h : ∀ x ∈ l, at0 c x.1 = orR v (at0 a x.1) (at0 b x.1)) :
    side v c (orR v s t) l = orR v (side v a s l) (side v b t l) := by
  induction l generalizing s t with
  | nil => rfl
  | cons x l ih =>
    rw [side_cons, side_cons, side_cons, h x List.mem_cons_self, Pf.vl_or, orR_four]
    exact ih _ _ fun y hy => h y (List.mem_cons_of_mem _ hy)
theorem PW.round_or {w1 w2 w3 : PW} (hw : w1.In) (h2 : w2.arcs = w1.arcs) (h3 : w3.arcs = w1.arcs) (hv2 : w2.v = w1.v) (hv3 : w3.v = w1.v)
    (hb : ∀ k, k < w1.n → at0 w3.bd k = orR w1.v (at0 w1.bd k) (at0 w2.bd k)) (k : Nat) : w3.round k = orV w1.v w1.n (w1.round k) (w2.round k) := by
  have n2 : w2.n = w1.n := by unfold PW.n; rw [h2]
  have n3 : w3.n = w1.n := by unfold PW.n; rw [h3]
  induction k with
  | zero =>
    refine vals_ext (n := w1.n) (by simp [PW.round, n3]) (by simp [orV]) fun m hm => ?_
    rw [PW.round, at0_map (by rw [n3]; exact hm), orV, at0_map hm, PW.round, PW.round, at0_map hm, at0_map (by rw [n2]; exact hm), hv2, hv3]
    refine Bs.ext (Bs.fit_emp _) (fit_orR _ _ _) fun i hi => ?_
    rw [bit_orR hi, Bs.bit_emp]; rfl
  | succ k ih =>
    refine vals_ext (n := w1.n) (by simp [PW.round, PW.rights, n3]) (by simp [orV]) fun m hm => ?_
    rw [PW.round_at (by rw [n3]; exact hm), orV, at0_map hm, PW.round_at hm, PW.round_at (by rw [n2]; exact hm)]
    unfold PW.right
    rw [hv2, hv3, h2, h3, hb m hm]
    refine side_or _ _ _ fun x hx => ?_
    rw [ih, orV, at0_map (hw.at hx)]
theorem PW.last_or {w1 w2 w3 : PW} (hw : w1.In) (h2 : w2.arcs = w1.arcs) (h3 : w3.arcs = w1.arcs) (hv2 : w2.v = w1.v) (hv3 : w3.v = w1.v)
    (hb : ∀ k, k < w1.n → at0 w3.bd k = orR w1.v (at0 w1.bd k) (at0 w2.bd k)) {K1 K2 K3 : Nat} (l1 : w1.Last K1) (l2 : w2.Last K2) (l3 : w3.Last K3) :
    w3.round K3 = orV w1.v w1.n (w1.round K1) (w2.round K2) := by
  have := PW.round_or hw h2 h3 hv2 hv3 hb (K1 + K2 + K3)
  rwa [l1.all (by omega), l2.all (by omega), l3.all (by omega)] at this
end Go.Proofs.Ytadkjnjibefocaa

namespace Go.Proofs.Ytadkjnjibefocaa
set_option maxRecDepth 20000
set_option linter.unusedVariables false
set_option linter.unusedSimpArgs false
open Go.ChangeShapes Go.WideShapes Go.ChangeAt Go.RowKit

/-- An arc. -/
structure AH where
  m : Int
  f : FH
def AH.cells (x : AH) : List Value := [.int .i64 x.m, .int .i64 x.f.G.W, .slice x.f.G.A x.f.G.n x.f.G.c, .int .i64 x.f.K.W, .slice x.f.K.A x.f.K.n x.f.K.c, .slice x.f.C x.f.k x.f.q]
theorem AH.cells_len (x : AH) : x.cells.length = 6 := rfl
/-- A row of arcs. -/
structure AL where
  A : Option Addr
  n : Nat
  c : Nat
  l : List AH
def AL.v (x : AL) : Value := .slice x.A x.n x.c
structure ALok (w : World) (ex : List (Option Nat)) (x : AL) : Prop where
  lies : EAt w ex x.A (x.l.flatMap AH.cells)
  len : x.l.length = x.n
  few : x.n ≤ 9223372036854775807
  all : ∀ y ∈ x.l, FHok w ex y.f
section
variable {w w' : World} {ex ex' : List (Option Nat)} {x : AL}
theorem ALok.go (h : ALok w ex x) (hg : Go2 w ex w' ex') : ALok w' ex' x := ⟨h.lies.go hg, h.len, h.few, fun y hy => (h.all y hy).go hg⟩
theorem ALok.below (h : ALok w ex x) (hb : Below w.heap.size w w') : ALok w' ex x := h.go (Go2.below hb)
theorem ALok.cell (h : ALok w ex x) {i : Nat} {y : AH} (hi : x.l[i]? = some y) : ∃ ad : Addr, x.A = some ad ∧ ad.block < w.heap.size ∧ w.cell? (ad.add (i * 6)) = some (.int .i64 y.m) ∧ w.cell? ⟨(ad.add (i * 6)).block, (ad.add (i * 6)).off + 1, none⟩ = some (.int .i64 y.f.G.W) ∧
    w.cell? ⟨(ad.add (i * 6)).block, (ad.add (i * 6)).off + 2, none⟩ = some (.slice y.f.G.A y.f.G.n y.f.G.c) ∧ w.cell? ⟨(ad.add (i * 6)).block, (ad.add (i * 6)).off + 3, none⟩ = some (.int .i64 y.f.K.W) ∧ w.cell? ⟨(ad.add (i * 6)).block, (ad.add (i * 6)).off + 4, none⟩ = some (.slice y.f.K.A y.f.K.n y.f.K.c) ∧
    w.cell? ⟨(ad.add (i * 6)).block, (ad.add (i * 6)).off + 5, none⟩ = some (.slice y.f.C y.f.k y.f.q) := by
  obtain ⟨ad, h1, h2, h3⟩ := h.lies.str AH.cells_len hi (by decide)
  refine ⟨ad, h1, h2.1, h3 0 (by decide), ?_, ?_, ?_, ?_, ?_⟩
  · rw [addk _ _ _ (by decide)]; exact h3 1 (by decide)
  · rw [addk _ _ _ (by decide)]; exact h3 2 (by decide)
  · rw [addk _ _ _ (by decide)]; exact h3 3 (by decide)
  · rw [addk _ _ _ (by decide)]; exact h3 4 (by decide)
  · rw [addk _ _ _ (by decide)]; exact h3 5 (by decide)
end
/-- A row of rows of arcs. -/
structure AM where
  A : Option Addr
  n : Nat
  c : Nat
  l : List AL
structure AMok (w : World) (ex : List (Option Nat)) (x : AM) : Prop where
  lies : EAt w ex x.A (x.l.map AL.v)
  len : x.l.length = x.n
  few : x.n ≤ 9223372036854775807
  all : ∀ y ∈ x.l, ALok w ex y
section
variable {w w' : World} {ex ex' : List (Option Nat)} {x : AM}
theorem AMok.go (h : AMok w ex x) (hg : Go2 w ex w' ex') : AMok w' ex' x := ⟨h.lies.go hg, h.len, h.few, fun y hy => (h.all y hy).go hg⟩
theorem AMok.below (h : AMok w ex x) (hb : Below w.heap.size w w') : AMok w' ex x := h.go (Go2.below hb)
theorem AMok.cell (h : AMok w ex x) {i : Nat} {y : AL} (hi : x.l[i]? = some y) : ∃ ad : Addr, x.A = some ad ∧ ad.block < w.heap.size ∧ w.cell? (ad.add i) = some (.slice y.A y.n y.c) := by
  obtain ⟨ad, h1, h2, h3⟩ := h.lies.one (i := i) (u := AL.v y) (by rw [List.getElem?_map, hi]; rfl)
  exact ⟨ad, h1, h2.1, h3⟩
end
/-- A web. -/
structure WB where
  W : Int
  B : ZL
  I : AM
def WB.a (x : WB) : Value := .agg #[.int .i64 x.W, .slice x.B.A x.B.n x.B.c, .slice x.I.A x.I.n x.I.c]
structure WBok (w : World) (ex : List (Option Nat)) (x : WB) : Prop where
  b : ZLok w ex x.B
  i : AMok w ex x.I
theorem WBok.go {w w' : World} {ex ex' : List (Option Nat)} {x : WB} (h : WBok w ex x) (hg : Go2 w ex w' ex') : WBok w' ex' x := ⟨h.b.go hg, h.i.go hg⟩
theorem WBok.below {w w' : World} {ex : List (Option Nat)} {x : WB} (h : WBok w ex x) (hb : Below w.heap.size w w') : WBok w' ex x := h.go (Go2.below hb)
/-- The values of it. -/
def FH.pf (f : FH) : Pf := ⟨f.G.ws, f.K.ws, f.cs⟩
def AH.pa (a : AH) : Nat × Pf := (a.m.toNat, a.f.pf)
def AL.pa (r : AL) : List (Nat × Pf) := r.l.map AH.pa
def WB.pw (x : WB) : PW := ⟨x.W.toNat, x.B.l.map ZH.ws, x.I.l.map AL.pa⟩
/-- A function of width v. -/
structure FOk (v : Nat) (f : FH) : Prop where
  w1 : f.G.W = v
  w2 : f.K.W = v
  ok : validT v f.G.ws v f.K.ws f.cs = true
/-- A valid web of width v with n unknowns. -/
structure WOk (x : WB) (v n : Nat) : Prop where
  w : x.W = v
  v256 : v ≤ 256
  n256 : n ≤ 256
  bn : x.B.n = n
  inn : x.I.n = n
  bd : ∀ s ∈ x.B.l, s.W = v ∧ Bs.Fit v s.ws
  arcs : ∀ r ∈ x.I.l, r.n ≤ 256 ∧ ∀ a ∈ r.l, (0 ≤ a.m ∧ a.m < n) ∧ FOk v a.f
/-- Values of width v. -/
structure VOk (y : ZL) (v n : Nat) : Prop where
  n : y.n = n
  all : ∀ s ∈ y.l, s.W = v ∧ Bs.Fit v s.ws
def ZL.vs (y : ZL) : List (List Nat) := y.l.map ZH.ws
theorem ZL.vs_at {y : ZL} {i : Nat} {s : ZH} (h : y.l[i]? = some s) : at0 y.vs i = s.ws := at0_get (by unfold ZL.vs; rw [List.getElem?_map, h]; rfl)
theorem WB.arcs_at {x : WB} {i : Nat} {r : AL} (h : x.I.l[i]? = some r) : x.pw.arcs.getD i [] = r.pa := by
  unfold WB.pw
  simp only
  rw [List.getD_eq_getElem?_getD, List.getElem?_map, h]; rfl
theorem side_take {v : Nat} {vals : List (List Nat)} {s : List Nat} {r : AL} {j : Nat} {a : AH} (h : r.l[j]? = some a) : side v vals s ((r.l.take (j + 1)).map AH.pa) = orR v (side v vals s ((r.l.take j).map AH.pa)) (a.f.pf.vl v (at0 vals a.m.toNat)) := by
  rw [List.take_add_one, h, List.map_append]
  exact side_snoc _ _ _ _ _
end Go.Proofs.Ytadkjnjibefocaa

namespace Go.Proofs.Ytadkjnjibefocaa
set_option maxRecDepth 20000
set_option linter.unusedVariables false
set_option linter.unusedSimpArgs false
open Go.ChangeShapes Go.WideShapes Go.ChangeAt Go.RowKit

theorem ret_b {a b : Bool} (h : a = b) : Ending.returned (.bool b) = Ending.returned (.bool a) := by rw [h]
theorem ret_i {a b : Int} (h : a = b) : Ending.returned (.int .i64 b) = Ending.returned (.int .i64 a) := by rw [h]
theorem ascG_cons (N : Nat) (p a : Int) (l : List Int) : ascG N p (a :: l) = if a ≤ p then false else if (N : Int) ≤ a then false else ascG N a l := rfl
theorem drop_at {α : Type} {l : List α} {k : Nat} {a : α} (h : l[k]? = some a) : l.drop k = a :: l.drop (k + 1) := by
  obtain ⟨h1, h2⟩ := List.getElem?_eq_some_iff.1 h
  rw [List.drop_eq_getElem_cons h1, h2]
theorem tot_take {S : List (List Int)} {k : Nat} {l : List Int} (h : S[k]? = some l) : tot (S.take (k + 1)) = tot (S.take k) + l.length := by
  unfold tot; rw [List.take_add_one, h, List.map_append, List.sum_append]; simp
set_option maxHeartbeats 1600000 in
theorem count_any (x : LH) (ex : List (Option Nat)) (w : World) (h : LHok w ex x) (hN : x.n ≤ 100000) (hr : ∀ y ∈ x.l, y.n ≤ 100000) :
    Calls Try.prog 45 #[.slice x.A x.n x.c] w fun e w' => e = .returned (.int .i64 (tot x.v : Nat)) ∧ w = w' := by
  have HX := hid h
  have HR := hid hr
  have HL := hid h.len
  have Hat := hid (fun (k : Nat) (y : RH) (hy : x.l[k]? = some y) => LH.at hy)
  have Hvl := hid (LH.vlen x)
  clear h hr
  generalize hv : LH.v x = v at *
  clear hv
  obtain ⟨A, n, c, l⟩ := x
  simp only at *
  go_enter Try.func45, Try.ntmps45
  go_wp2_with fail
  go_loop [3, 5, 8] (fun sv _ iv => ∃ (k t : Nat), k ≤ n ∧ iv = .int .i64 k ∧ sv = .int .i64 t ∧ t ≤ k * 100000 ∧ Hid (t = tot (v.take k))) (fun _ _ iv => n - (intOf iv).toNat)
  case atStart => exact ⟨0, 0, by omega, rfl, rfl, by omega, hid rfl⟩
  case round =>
    obtain ⟨k, t, hk, rfl, rfl, ht, hE⟩ := hrel
    by_cases hlt : k < n
    · obtain ⟨y, hy, hym⟩ := get_at HL.out hlt
      obtain ⟨ad, hA, had, hc⟩ := HX.out.cell hy
      simp only at hA
      subst hA
      have hyn := HR.out y hym
      have Ht := hid (show t + y.n = tot (v.take (k + 1)) by rw [tot_take (Hat.out k y hy), ← hE.out, (HX.out.all y hym).len])
      clear hy hym
      obtain ⟨yA, yn, yc, yl⟩ := y
      simp only at *
      go_wp2_with fail
      go_round
      case rel => exact ⟨k + 1, t + yn, by omega, by go_num, by go_num, by omega, Ht⟩
      case measure => simp [intOf]; omega
    · obtain rfl : k = n := by omega
      have Ht := hid (show t = tot v by rw [hE.out, List.take_of_length_le (by rw [Hvl.out, HL.out]; omega)])
      go_wp2_with fail
      go_ret
      exact ⟨ret_i (by rw [Ht.out]), rfl⟩
/-- The lists of dependencies are permitted. -/
def linkB (S : List (List Int)) : Bool := decide (1 ≤ S.length) && decide (S.length ≤ 256) && S.all (risB S.length) && decide (tot S ≤ 1024)
theorem ascG_len {N : Nat} {l : List Int} {p : Int} (h0 : -1 ≤ p) (h1 : p < N) (h : ascG N p l = true) : (l.length : Int) ≤ N - 1 - p := by
  induction l generalizing p with
  | nil => simp; omega
  | cons a l ih =>
    rw [ascG_cons] at h
    split at h
    · cases h
    · split at h
      · cases h
      · have := ih (p := a) (by omega) (by omega) h
        simp only [List.length_cons]
        omega
theorem risB_len {N : Nat} {l : List Int} (h : risB N l = true) : l.length ≤ N := by
  have := ascG_len (N := N) (by omega) (by omega) h
  omega
set_option maxHeartbeats 3200000 in
theorem linked_any (x : LH) (ex : List (Option Nat)) (w : World) (h : LHok w ex x) :
    Calls Try.prog 41 #[.slice x.A x.n x.c] w fun e w' => e = .returned (.bool (linkB x.v)) ∧ w = w' := by
  have HX := hid h
  have HL := hid h.len
  have hfew := h.few
  have Hat := hid (fun (k : Nat) (y : RH) (hy : x.l[k]? = some y) => LH.at hy)
  have Hvl := hid (LH.vlen x)
  have HC := hid (fun (hn : x.n ≤ 100000) (hr : ∀ y ∈ x.l, y.n ≤ 100000) => count_any x ex w h hn hr)
  clear h
  generalize hv : LH.v x = v at *
  have Hv := hid hv
  clear hv
  obtain ⟨A, n, c, l⟩ := x
  simp only at *
  have Hn := hid (show v.length = n by rw [Hvl.out, HL.out])
  go_enter Try.func41, Try.ntmps41
  by_cases h1 : n < 1 ∨ 256 < n
  · have Hr := hid (show linkB v = false by
      unfold linkB
      rw [Hn.out]
      rcases h1 with h1 | h1
      · simp [show ¬ 1 ≤ n by omega]
      · simp [show ¬ n ≤ 256 by omega])
    by_cases h2 : n < 1
    · go_wp2_with fail
      go_ret
      exact ⟨ret_b Hr.out, rfl⟩
    · have h3 : 256 < n := by omega
      clear h1
      go_wp2_with fail
      go_ret
      exact ⟨ret_b Hr.out, rfl⟩
  · have h2 : 1 ≤ n := by omega
    have h3 : n ≤ 256 := by omega
    clear h1
    go_wp2_with fail
    go_loop [4, 5, 7, 18] (fun _ _ _ iv => ∃ k : Nat, k ≤ n ∧ iv = .int .i64 k ∧ Hid (∀ y ∈ v.take k, risB n y = true)) (fun _ _ _ iv => n - (intOf iv).toNat)
    case atStart => exact ⟨0, by omega, rfl, hid (by simp)⟩
    case round =>
      obtain ⟨k, hk, rfl, hE⟩ := hrel
      by_cases hlt : k < n
      · obtain ⟨y, hy, hym⟩ := get_at HL.out hlt
        obtain ⟨ad, hA, had, hc⟩ := HX.out.cell hy
        simp only at hA
        subst hA
        have Hy := hid (Hat.out k y hy)
        have HY := hid (HX.out.all y hym)
        clear hy hym
        obtain ⟨yA, yn, yc, yl⟩ := y
        simp only at *
        have hyf := HY.out.few
        simp only at hyf
        go_wp2_with fail
        go_loop [5, 7, 24] (fun pv _ jv => ∃ (j : Nat) (p : Int), j ≤ yn ∧ jv = .int .i64 j ∧ pv = .int .i64 p ∧ Hid (risB n yl = ascG n p (yl.drop j))) (fun _ _ jv => yn - (intOf jv).toNat)
        case atStart => exact ⟨0, -1, by omega, rfl, rfl, hid rfl⟩
        case round =>
          obtain ⟨j, p, hj, rfl, rfl, hP⟩ := hrel
          by_cases hlj : j < yn
          · obtain ⟨a, ha, -⟩ := get_at HY.out.len hlj
            obtain ⟨ad2, hA2, had2, hc2⟩ := HY.out.cell ha
            simp only at hA2
            subst hA2
            have Hd := hid (drop_at ha)
            clear ha
            by_cases h4 : a ≤ p
            · have Hr0 := hid (show risB n yl = false by rw [hP.out, Hd.out, ascG_cons, if_pos h4])
              have Hr := hid (show linkB v = false by
                unfold linkB
                rw [Hn.out, show v.all (risB n) = false from List.all_eq_false.2 ⟨_, List.mem_of_getElem? Hy.out, by rw [Hr0.out]; decide⟩]
                simp)
              go_wp2_with fail
              go_ret
              exact ⟨ret_b Hr.out, rfl⟩
            · by_cases h5 : (n : Int) ≤ a
              · have Hr0 := hid (show risB n yl = false by rw [hP.out, Hd.out, ascG_cons, if_neg h4, if_pos h5])
                have Hr := hid (show linkB v = false by
                  unfold linkB
                  rw [Hn.out, show v.all (risB n) = false from List.all_eq_false.2 ⟨_, List.mem_of_getElem? Hy.out, by rw [Hr0.out]; decide⟩]
                  simp)
                go_wp2_with fail
                go_ret
                exact ⟨ret_b Hr.out, rfl⟩
              · have Hr := hid (show risB n yl = ascG n a (yl.drop (j + 1)) by rw [hP.out, Hd.out, ascG_cons, if_neg h4, if_neg h5])
                go_wp2_with fail
                go_round
                case rel => exact ⟨j + 1, a, by omega, by go_num, rfl, Hr⟩
                case measure => simp [intOf]; omega
          · have Hr0 := hid (show risB n yl = true by rw [hP.out, List.drop_of_length_le (by have e := HY.out.len; simp only at e; omega)]; rfl)
            have Hr := hid (show ∀ y ∈ v.take (k + 1), risB n y = true from fun y hy => by
              rw [List.take_add_one, Hy.out] at hy
              rcases List.mem_append.1 hy with hy | hy
              · exact hE.out y hy
              · simp at hy; subst hy; exact Hr0.out)
            go_wp2_with fail
            go_round
            case rel => exact ⟨k + 1, by omega, by go_num, Hr⟩
            case measure => simp [intOf]; omega
      · obtain rfl : k = n := by omega
        have Hall := hid (show ∀ y ∈ v, risB k y = true from fun y hy => hE.out y (by rw [List.take_of_length_le (by rw [Hn.out]; omega)]; exact hy))
        have Hr := hid (show linkB v = decide (tot v ≤ 1024) by
          unfold linkB
          rw [Hn.out, List.all_eq_true.2 Hall.out]
          simp [h2, h3])
        have HC2 := hid (HC.out (by omega) (fun y hy => by
          have h6 := Hall.out y.l (by rw [← Hv.out]; exact List.mem_map.2 ⟨y, hy, rfl⟩)
          have h7 := risB_len h6
          rw [(HX.out.all y hy).len] at h7
          omega))
        clear HC
        go_wp2_with fail
        refine HC2.out.mono ?_
        rintro e w1 ⟨rfl, rfl⟩
        go_wp2_with fail
        go_ret
        refine ⟨ret_b ?_, rfl⟩
        rw [Hr.out]
        apply Bool.eq_iff_iff.2
        simp only [decide_eq_true_eq]
        omega
set_option maxHeartbeats 1600000 in
theorem fits_any (x : FH) (W : Int) (ex : List (Option Nat)) (w : World) (h : FHok w ex x) :
    Calls Try.prog 43 #[x.a, .int .i64 W] w fun e w' => e = .returned (.bool (x.vB && decide (x.G.W = W))) ∧ Below w.heap.size w w' := by
  have HA := hid h.arg
  clear h
  obtain ⟨⟨V0, A, n, c, gs⟩, ⟨V, B, m, d, ks⟩, C, k, q, cs⟩ := x
  unfold FH.a FH.vB at *
  simp only at *
  have Hb0 := hid ((Below.refl w.heap.size w).alloc (Nat.le_refl _) (.cells #[.int .i64 V0, .slice A n c, .int .i64 V, .slice B m d, .slice C k q] 51))
  have HF := hid (Fb.new w #[.int .i64 V0, .slice A n c, .int .i64 V, .slice B m d, .slice C k q] 51)
  have HA1 := hid (HA.out.below Hb0.out)
  go_enter Try.func43, Try.ntmps43
  go_wp2_with fail
  refine (devValidT_any V0 V A B C n c m d k q gs ks cs _ HA1.out.gen HA1.out.kill HA1.out.cops).mono ?_
  generalize w.alloc (.cells #[.int .i64 V0, .slice A n c, .int .i64 V, .slice B m d, .slice C k q] 51) = w0 at *
  cases hv : validT V0 gs V ks cs with
  | false =>
    rintro e w1 ⟨rfl, hb1⟩
    have Hb := hid (Hb0.out.trans (hb1.mono Hb0.out.size))
    have Hr := hid (show (validT V0 gs V ks cs && decide (V0 = W)) = false by rw [hv]; rfl)
    clear hv hb1
    go_wp2_with fail
    go_ret
    exact ⟨ret_b Hr.out, Hb.out⟩
  | true =>
    rintro e w1 ⟨rfl, hb1⟩
    have Hb := hid (Hb0.out.trans (hb1.mono Hb0.out.size))
    obtain ⟨c0, c1, c2, c3, c4⟩ := (HF.out.below hb1 HF.out.lt).five
    have Hr := hid (show (validT V0 gs V ks cs && decide (V0 = W)) = (V0 == W) by rw [hv]; rfl)
    clear hv hb1 c1 c2 c3 c4
    go_wp2_with fail
    go_ret
    exact ⟨ret_b Hr.out, Hb.out⟩
end Go.Proofs.Ytadkjnjibefocaa

namespace Go.Proofs.Ytadkjnjibefocaa
set_option maxRecDepth 20000
set_option linter.unusedVariables false
set_option linter.unusedSimpArgs false
open Go.ChangeShapes Go.WideShapes Go.ChangeAt Go.RowKit

theorem Fb.four {w : World} {g t : Nat} {a b c d : Value} (h : Fb w g #[a, b, c, d] t) :
    w.cell? ⟨g, 0, none⟩ = some a ∧ w.cell? ⟨g, 1, none⟩ = some b ∧ w.cell? ⟨g, 2, none⟩ = some c ∧ w.cell? ⟨g, 3, none⟩ = some d := ⟨h.cell 0, h.cell 1, h.cell 2, h.cell 3⟩
/-- A valid set of this width. -/
def zfitB (W : Int) (y : ZH) : Bool := Bs.validB y.W y.ws && decide (y.W = W)
theorem all_take {α : Type} {p : α → Bool} {l : List α} {k : Nat} {y : α} (h : ∀ x ∈ l.take k, p x = true) (hy : l[k]? = some y) (hp : p y = true) : ∀ x ∈ l.take (k + 1), p x = true := by
  intro x hx
  rw [List.take_add_one, hy] at hx
  rcases List.mem_append.1 hx with hx | hx
  · exact h x hx
  · simp at hx; subst hx; exact hp
theorem all_no {α : Type} {p : α → Bool} {l : List α} {k : Nat} {y : α} (hy : l[k]? = some y) (hp : p y = false) : l.all p = false := List.all_eq_false.2 ⟨y, List.mem_of_getElem? hy, by rw [hp]; decide⟩
theorem all_yes {α : Type} {p : α → Bool} {l : List α} {n : Nat} (hl : l.length = n) (h : ∀ x ∈ l.take n, p x = true) : l.all p = true := List.all_eq_true.2 fun x hx => h x (by rw [List.take_of_length_le (by omega)]; exact hx)
set_option maxHeartbeats 3200000 in
theorem allFit_any (x : ZL) (n0 : Nat) (W : Int) (ex : List (Option Nat)) (w : World) (h : ZLok w ex x) (hn0 : n0 ≤ 9223372036854775807) :
    Calls Try.prog 42 #[.slice x.A x.n x.c, .int .i64 n0, .int .i64 W] w fun e w' => e = .returned (.bool (decide (x.n = n0) && x.l.all (zfitB W))) ∧ Below w.heap.size w w' := by
  have HX := hid h
  have HL := hid h.len
  have hfew := h.few
  clear h
  obtain ⟨A, n, c, l⟩ := x
  simp only at *
  go_enter Try.func42, Try.ntmps42
  by_cases h1 : n = n0
  · subst h1
    have t1 : ((n : Int) != (n : Int)) = false := by simp
    have Hd := hid (show (decide (n = n) && l.all (zfitB W)) = l.all (zfitB W) by simp)
    generalize hR : (decide (n = n) && l.all (zfitB W)) = R at *
    clear hR
    go_wp2_with fail
    clear t1
    go_loopw [8, 15] (fun _ iv wr => ∃ k : Nat, k ≤ n ∧ iv = .int .i64 k ∧ Hid (Below w.heap.size w wr) ∧ Hid (∀ y ∈ l.take k, zfitB W y = true)) (fun _ iv _ => n - (intOf iv).toNat)
    case atStart => exact ⟨0, by omega, rfl, hid (Below.refl _ _), hid (by simp)⟩
    case round =>
      obtain ⟨k, hk, rfl, HB, hE⟩ := hrel
      by_cases hlt : k < n
      · obtain ⟨y, hy, hym⟩ := get_at HL.out hlt
        have HXr := hid (HX.out.below HB.out)
        obtain ⟨ad, hA, had, c0, c1⟩ := HXr.out.cell hy
        simp only at hA
        subst hA
        have HY := hid ((HXr.out.all y hym).arg)
        have Hno := hid (fun hp : zfitB W y = false => Hd.out.trans (all_no hy hp))
        have Hyes := hid (fun hp : zfitB W y = true => all_take hE.out hy hp)
        clear hy hym
        obtain ⟨V, yA, yn, yc, ys⟩ := y
        unfold zfitB at Hno Hyes
        simp only at *
        have HB1 := hid (HB.out.alloc HB.out.size (.cells #[.int .i64 V, .slice yA yn yc] 47))
        have Hbx := hid (Fb.new wr #[.int .i64 V, .slice yA yn yc] 47)
        have HYa := hid (HY.out.alloc (.cells #[.int .i64 V, .slice yA yn yc] 47))
        clear HY
        go_wp2_with fail
        clear c0 c1
        refine (devValid_any V yA yn yc ys _ HYa.out).mono ?_
        generalize wr.alloc (.cells #[.int .i64 V, .slice yA yn yc] 47) = wv at *
        generalize wr.heap.size = gv at *
        cases hv : Bs.validB V ys with
        | false =>
          rintro e w1 ⟨rfl, hb1⟩
          have Hr := hid (Hno.out (by rw [hv]; rfl))
          have Hb := hid (HB1.out.trans (hb1.mono HB1.out.size))
          clear hv hb1 Hno Hyes
          go_wp2_with fail
          go_ret
          exact ⟨ret_b Hr.out, Hb.out⟩
        | true =>
          rintro e w1 ⟨rfl, hb1⟩
          have Hb := hid (HB1.out.trans (hb1.mono HB1.out.size))
          obtain ⟨d0, d1⟩ := (Hbx.out.below hb1 Hbx.out.lt).two
          clear hb1 d1
          by_cases h2 : V = W
          · have t2 : (V != W) = false := by simp [h2]
            have Hr := hid (Hyes.out (by rw [hv, h2]; simp))
            clear hv Hno Hyes h2
            go_wp2_with fail
            go_round
            case rel => exact ⟨k + 1, by omega, by go_num, Hb, Hr⟩
            case measure => simp [intOf]; omega
          · have t2 : (V != W) = true := by simp [h2]
            have Hr := hid (Hno.out (by rw [hv]; simp [h2]))
            clear hv Hno Hyes h2
            go_wp2_with fail
            go_ret
            exact ⟨ret_b Hr.out, Hb.out⟩
      · obtain rfl : k = n := by omega
        have Hr := hid (Hd.out.trans (all_yes HL.out hE.out))
        go_wp2_with fail
        go_ret
        exact ⟨ret_b Hr.out, HB.out⟩
  · have t1 : ((n : Int) != (n0 : Int)) = true := by simp; omega
    have Hr := hid (show (decide (n = n0) && l.all (zfitB W)) = false by simp [h1])
    clear h1
    go_wp2_with fail
    go_ret
    exact ⟨ret_b Hr.out, Below.refl _ _⟩
/-- A valid function of this width. -/
def ffitB (W : Int) (x : FH) : Bool := x.vB && decide (x.G.W = W)
/-- P10.2: which systems are valid. -/
def sysB (s : SY) : Bool := decide (s.T.n = s.D.n) && linkB s.D.v && (decide (s.B.n = s.D.n) && s.B.l.all (zfitB s.W)) && s.T.l.all (ffitB s.W)
def SY.box (s : SY) : Array Value := #[.int .i64 s.W, .slice s.D.A s.D.n s.D.c, .slice s.T.A s.T.n s.T.c, .slice s.B.A s.B.n s.B.c]
set_option maxHeartbeats 6400000 in
theorem validS_any (s : SY) (ex : List (Option Nat)) (w : World) (h : SYok w ex s) :
    Calls Try.prog 33 #[s.a] w fun e w' => e = .returned (.bool (sysB s)) ∧ Below w.heap.size w w' := by
  have hdn := h.d.few
  have htn := h.t.few
  have hbn := h.b.few
  have HS := hid h
  have HTl := hid h.t.len
  clear h
  have Hlk := hid (fun (v : World) (hv : Below w.heap.size w v) => linked_any s.D ex v (HS.out.d.below hv))
  have Haf := hid (fun (v : World) (hv : Below w.heap.size w v) => allFit_any s.B s.D.n s.W ex v (HS.out.b.below hv) hdn)
  obtain ⟨W, D, T, B⟩ := s
  have HR : Hid (sysB ⟨W, D, T, B⟩ = (decide (T.n = D.n) && linkB D.v && (decide (B.n = D.n) && B.l.all (zfitB W)) && T.l.all (ffitB W))) := hid rfl
  generalize sysB ⟨W, D, T, B⟩ = R at *
  unfold SY.a at *
  simp only at *
  generalize hk : linkB D.v = kb at *
  generalize hf : (decide (B.n = D.n) && B.l.all (zfitB W)) = fb at *
  clear hk hf
  obtain ⟨DA, dn, dc, dl⟩ := D
  obtain ⟨TA, tn, tc, tl⟩ := T
  obtain ⟨BA, bn, bc, bl⟩ := B
  simp only at *
  have HB0 := hid ((Below.refl w.heap.size w).alloc (Nat.le_refl _) (.cells #[.int .i64 W, .slice DA dn dc, .slice TA tn tc, .slice BA bn bc] 27))
  have HG := hid (Fb.new w #[.int .i64 W, .slice DA dn dc, .slice TA tn tc, .slice BA bn bc] 27)
  go_enter Try.func33, Try.ntmps33
  by_cases h1 : tn = dn
  · subst h1
    have t1 : ((tn : Int) != (tn : Int)) = false := by simp
    go_wp2_with fail
    refine (Hlk.out _ HB0.out).mono ?_
    generalize w.alloc (.cells #[.int .i64 W, .slice DA tn dc, .slice TA tn tc, .slice BA bn bc] 27) = w0 at *
    rintro e w1 ⟨rfl, rfl⟩
    obtain ⟨c0, c1, c2, c3⟩ := HG.out.four
    cases kb with
    | false =>
      as_aux_lemma =>
        have Hr := hid (show R = false by rw [HR.out]; simp)
        go_wp2_with fail
        go_ret
        exact ⟨ret_b Hr.out, HB0.out⟩
    | true =>
      go_wp2_with fail
      refine (Haf.out _ HB0.out).mono ?_
      rintro e w1 ⟨rfl, hb1⟩
      have HB1 := hid (HB0.out.trans (hb1.mono HB0.out.size))
      have HG1 := hid (HG.out.below hb1 HG.out.lt)
      clear hb1 c0 c1 c2 c3
      obtain ⟨c0, c1, c2, c3⟩ := HG1.out.four
      cases fb with
      | false =>
        as_aux_lemma =>
          have Hr := hid (show R = false by rw [HR.out]; simp)
          go_wp2_with fail
          go_ret
          exact ⟨ret_b Hr.out, HB1.out⟩
      | true =>
        have HR2 := hid (show R = tl.all (ffitB W) by rw [HR.out]; simp)
        go_wp2_with fail
        clear t1 c0 c1 c2 c3
        go_loopw [5, 32] (fun _ iv wr => ∃ k : Nat, k ≤ tn ∧ iv = .int .i64 k ∧ Hid (Below w.heap.size w wr ∧ Fb wr w.heap.size #[.int .i64 W, .slice DA tn dc, .slice TA tn tc, .slice BA bn bc] 27) ∧ Hid (∀ y ∈ tl.take k, ffitB W y = true)) (fun _ iv _ => tn - (intOf iv).toNat)
        case atStart => exact ⟨0, by omega, rfl, hid ⟨HB1.out, HG1.out⟩, hid (by simp)⟩
        case round =>
          obtain ⟨k, hk, rfl, HB, hE⟩ := hrel
          by_cases hlt : k < tn
          · obtain ⟨y, hy, hym⟩ := get_at HTl.out hlt
            have HXr := hid (HS.out.t.below HB.out.1)
            obtain ⟨ad, hA, had, e0, e1, e2, e3, e4⟩ := HXr.out.cell hy
            simp only at hA
            subst hA
            have HY := hid (HXr.out.all y hym)
            have Hno := hid (fun hp : ffitB W y = false => HR2.out.trans (all_no hy hp))
            have Hyes := hid (fun hp : ffitB W y = true => all_take hE.out hy hp)
            have Hft := hid (fun (v : World) (hv : Below wr.heap.size wr v) => fits_any y W ex v (HY.out.below hv))
            clear hy hym HY
            obtain ⟨⟨V0, yA, yn, yc, gs⟩, ⟨V, zA, zn, zc, ks⟩, C, q, r, cs⟩ := y
            unfold ffitB at Hno Hyes
            generalize hb : (FH.vB ⟨⟨V0, yA, yn, yc, gs⟩, ⟨V, zA, zn, zc, ks⟩, C, q, r, cs⟩ && decide ((⟨⟨V0, yA, yn, yc, gs⟩, ⟨V, zA, zn, zc, ks⟩, C, q, r, cs⟩ : FH).G.W = W)) = bb at *
            clear hb
            unfold FH.a at *
            simp only at *
            have HB2 := hid (HB.out.1.alloc HB.out.1.size (.cells #[.int .i64 V0, .slice yA yn yc, .int .i64 V, .slice zA zn zc, .slice C q r] 51))
            have hba := (Below.refl wr.heap.size wr).alloc (Nat.le_refl _) (.cells #[.int .i64 V0, .slice yA yn yc, .int .i64 V, .slice zA zn zc, .slice C q r] 51)
            have Hba := hid hba
            have HG2 := hid (HB.out.2.below hba HB.out.2.lt)
            clear hba
            obtain ⟨c0, c1, c2, c3⟩ := HG2.out.four
            go_wp2_with fail
            refine (Hft.out _ Hba.out).mono ?_
            clear e0 e1 e2 e3 e4
            generalize wr.alloc (.cells #[.int .i64 V0, .slice yA yn yc, .int .i64 V, .slice zA zn zc, .slice C q r] 51) = wv at *
            rintro e w2 ⟨rfl, hb2⟩
            have HB3 := hid (HB2.out.trans (hb2.mono HB2.out.size))
            have HG3 := hid (HG2.out.below hb2 HG2.out.lt)
            clear hb2 c0 c1 c2 c3
            cases bb with
            | false =>
              as_aux_lemma =>
                have Hr := hid (Hno.out rfl)
                go_wp2_with fail
                go_ret
                exact ⟨ret_b Hr.out, HB3.out⟩
            | true =>
              have Hr := hid (Hyes.out rfl)
              go_wp2_with fail
              go_round
              case rel => exact ⟨k + 1, by omega, by go_num, hid ⟨HB3.out, HG3.out⟩, Hr⟩
              case measure => simp [intOf]; omega
          · obtain rfl : k = tn := by omega
            have Hr := hid (HR2.out.trans (all_yes HTl.out hE.out))
            go_wp2_with fail
            go_ret
            exact ⟨ret_b Hr.out, HB.out.1⟩
  · have t1 : ((tn : Int) != (dn : Int)) = true := by simp; omega
    have Hr := hid (show R = false by rw [HR.out]; simp [h1])
    clear h1
    go_wp2_with fail
    go_ret
    exact ⟨ret_b Hr.out, HB0.out⟩
end Go.Proofs.Ytadkjnjibefocaa

namespace Go.Proofs.Ytadkjnjibefocaa
set_option maxRecDepth 20000
set_option linter.unusedVariables false
set_option linter.unusedSimpArgs false
open Go.ChangeShapes Go.WideShapes Go.ChangeAt Go.RowKit

/-- Cells that lie in a block of the call's own. -/
def NewAt (w w' : World) (A : Option Addr) (xs : List Value) : Prop := ∀ ex : List (Option Nat), (∀ k, some k ∈ ex → k < w.heap.size) → EAt w' ex A xs
theorem NewAt.own {w w' : World} {ty k n c : Nat} {A : Option Addr} {xs : List Value} (h : w'.ownsRow w.heap.size ty k (.slice A n c) n xs) : NewAt w w' A xs := fun ex hex =>
  EAt.own h fun g hg hm => by have := hex g hm; have := (h.lt g hg).1; omega
theorem NewAt.nil (w w' : World) (A : Option Addr) : NewAt w w' A [] := fun ex _ => EAt.nil _ _ _
theorem NewAt.below {w w' w'' : World} {A : Option Addr} {xs : List Value} (h : NewAt w w' A xs) (hb : Below w'.heap.size w' w'') : NewAt w w'' A xs := fun ex hex => (h ex hex).go (Go2.below hb)
theorem NewAt.back {w0 w w' : World} {A : Option Addr} {xs : List Value} (h : NewAt w w' A xs) (hz : w0.heap.size ≤ w.heap.size) : NewAt w0 w' A xs := fun ex hex => h ex fun k hk => by have := hex k hk; omega
def RetW (w : World) (n : Nat) (ws : List Nat) (e : Ending) (w' : World) : Prop := ∃ (A' : Option Addr) (c' : Nat), e = .returned (.slice A' n c') ∧ NewAt w w' A' (words ws) ∧ Below w.heap.size w w'
end Go.Proofs.Ytadkjnjibefocaa

namespace Go.Proofs.Ytadkjnjibefocaa
set_option maxRecDepth 20000
set_option linter.unusedVariables false
set_option linter.unusedSimpArgs false
open Go.ChangeShapes Go.WideShapes Go.ChangeAt Go.RowKit

/-- A set came back, its words in a block of the call's own. -/
def RetZ (w : World) (W : Int) (n : Nat) (ws : List Nat) (e : Ending) (w' : World) : Prop :=
  ∃ (A' : Option Addr) (c' : Nat), e = .returned (.agg #[.int .i64 W, .slice A' n c']) ∧ NewAt w w' A' (words ws) ∧ Below w.heap.size w w'
theorem NewAt.set {w0 w w' : World} {A : Option Addr} {xs : List Value} (h : NewAt w w' A xs) {b : Nat} (hb : b < w.heap.size) (hz : w0.heap.size ≤ w.heap.size) (j i : Nat) (u v : Value) :
    NewAt w0 ((w'.setCell ⟨b, j, none⟩ u).setCell ⟨b, i, none⟩ v) A xs := fun ex hex => by
  have h1 := h (some b :: ex) (fun k hk => by
    rcases List.mem_cons.1 hk with e | hk
    · have := Option.some.inj e; omega
    · have := hex k hk; omega)
  have h2 := h1.go (Go2.same (setCell_grown w' ⟨b, j, none⟩ u) (.inr (List.mem_cons_self)))
  have h3 := h2.go (Go2.same (setCell_grown _ ⟨b, i, none⟩ v) (.inr (List.mem_cons_self)))
  exact h3.go (Go2.less _ fun k hk => List.mem_cons_of_mem _ hk)
end Go.Proofs.Ytadkjnjibefocaa

namespace Go.Proofs.Ytadkjnjibefocaa
set_option maxRecDepth 20000
set_option linter.unusedVariables false
set_option linter.unusedSimpArgs false
open Go.ChangeShapes Go.WideShapes Go.ChangeAt Go.RowKit

theorem pairs_oneE (cs : List (Int × Int)) : ∀ u ∈ pairs cs, u.oneCell' = true := by
  intro u hu
  unfold pairs at hu
  obtain ⟨p, _, hp⟩ := List.mem_flatMap.1 hu
  simp at hp
  rcases hp with rfl | rfl <;> rfl
theorem ArgC.cellsE {w w' : World} {ad : Addr} {n : Nat} {cs : List (Int × Int)} (h : ArgC w (some ad) n cs) (hb : Below w.heap.size w w') : ∀ j u, (pairs cs)[j]? = some u → w'.cell? (ad.add j) = some u := by
  intro j u hu
  rcases h.lies with h0 | ⟨ad', e, hl, hc⟩
  · rw [h0] at hu; simp at hu
  · cases e
    exact (hb.cell (by rw [add_block]; exact hl)).trans (hc j u hu)
theorem info35E : (Try.prog.info? 62).map (fun i => (i.zero, i.size, i.bytes)) = some (some (.agg #[.int .i64 0, .int .i64 0]), 2, 16) := by kernel_rfl
theorem empty_ownE (w : World) : (w.alloc (.cells #[] 62)).ownsRow w.heap.size 62 2 (.slice (some ⟨w.heap.size, 0, none⟩) 0 0) 0 [] := World.ownsRow_lit w #[] 0 (Nat.le_refl _) (by simp [maxLen]) rfl
def RetP (w : World) (n : Nat) (cs : List (Int × Int)) (e : Ending) (w' : World) : Prop := ∃ (A' : Option Addr) (c' : Nat), e = .returned (.slice A' n c') ∧ NewAt w w' A' (pairs cs) ∧ Below w.heap.size w w'
end Go.Proofs.Ytadkjnjibefocaa

namespace Go.Proofs.Ytadkjnjibefocaa
set_option maxRecDepth 20000
set_option linter.unusedVariables false
set_option linter.unusedSimpArgs false
open Go.ChangeShapes Go.WideShapes Go.ChangeAt Go.RowKit

theorem Fb.frz {w : World} {g t : Nat} {cs : Array Value} (h : Fb w g cs t) : w.frozen? ⟨g, 0, none⟩ = false ∧ w.frozen? ⟨g, 1, none⟩ = false ∧ w.frozen? ⟨g, 2, none⟩ = false ∧ w.frozen? ⟨g, 3, none⟩ = false ∧ w.frozen? ⟨g, 4, none⟩ = false :=
  ⟨h.frozen 0, h.frozen 1, h.frozen 2, h.frozen 3, h.frozen 4⟩
/-- Cells in a block from N on. -/
def NewN (N : Nat) (w' : World) (A : Option Addr) (xs : List Value) : Prop := ∀ ex : List (Option Nat), (∀ k, some k ∈ ex → k < N) → EAt w' ex A xs
theorem NewN.below {N : Nat} {w' w'' : World} {A : Option Addr} {xs : List Value} (h : NewN N w' A xs) (hb : Below w'.heap.size w' w'') : NewN N w'' A xs := fun ex hex => (h ex hex).go (Go2.below hb)
theorem NewAt.num {N : Nat} {w w' : World} {A : Option Addr} {xs : List Value} (h : NewAt w w' A xs) (hz : N ≤ w.heap.size) : NewN N w' A xs := fun ex hex => h ex fun k hk => by have := hex k hk; omega
def put5 (w : World) (R : Nat) (a b c d e : Value) : World := ((((w.setCell ⟨R, 0, none⟩ a).setCell ⟨R, 1, none⟩ b).setCell ⟨R, 2, none⟩ c).setCell ⟨R, 3, none⟩ d).setCell ⟨R, 4, none⟩ e
theorem NewN.put5 {N : Nat} {w0 w' : World} {A : Option Addr} {xs : List Value} (h : NewN N w' A xs) {R : Nat} (hb : R < N) (hz : w0.heap.size ≤ N) (a b c d e : Value) : NewAt w0 (put5 w' R a b c d e) A xs := fun ex hex => by
  have h1 := h (some R :: ex) (fun k hk => by
    rcases List.mem_cons.1 hk with e | hk
    · have := Option.some.inj e; omega
    · have := hex k hk; omega)
  have s : ∀ (v : World) (j : Nat) (u : Value), EAt v (some R :: ex) A xs → EAt (v.setCell ⟨R, j, none⟩ u) (some R :: ex) A xs := fun v j u hv =>
    hv.go (Go2.same (setCell_grown v ⟨R, j, none⟩ u) (.inr (List.mem_cons_self)))
  exact (s _ _ _ (s _ _ _ (s _ _ _ (s _ _ _ (s _ _ _ h1))))).go (Go2.less _ fun k hk => List.mem_cons_of_mem _ hk)
/-- While a function is copied: its box, the result's box, the function itself. -/
structure Ctw (w0 : World) (x : FH) (v : World) : Prop where
  bx : Fb v w0.heap.size #[.int .i64 x.G.W, .slice x.G.A x.G.n x.G.c, .int .i64 x.K.W, .slice x.K.A x.K.n x.K.c, .slice x.C x.k x.q] 51
  rs : Fb v (w0.heap.size + 1) #[.int .i64 0, .slice none 0 0, .int .i64 0, .slice none 0 0, .slice none 0 0] 51
  arg : FArg v x.G.A x.G.n x.K.A x.K.n x.C x.k x.G.ws x.K.ws x.cs
  bel : Below w0.heap.size w0 v
  sz : w0.heap.size + 2 ≤ v.heap.size
theorem Ctw.below {w0 v u : World} {x : FH} (h : Ctw w0 x v) (hb : Below v.heap.size v u) : Ctw w0 x u :=
  ⟨h.bx.below hb h.bx.lt, h.rs.below hb h.rs.lt, h.arg.below hb, below_step h.bel hb, by have := hb.size; have := h.sz; omega⟩
theorem Ctw.start {w0 : World} {x : FH} {ex : List (Option Nat)} (h : FHok w0 ex x) :
    Ctw w0 x ((w0.alloc (.cells #[.int .i64 x.G.W, .slice x.G.A x.G.n x.G.c, .int .i64 x.K.W, .slice x.K.A x.K.n x.K.c, .slice x.C x.k x.q] 51)).alloc (.cells #[.int .i64 0, .slice none 0 0, .int .i64 0, .slice none 0 0, .slice none 0 0] 51)) := by
  have hb := (Below.refl w0.heap.size w0).alloc (Nat.le_refl _) (.cells #[.int .i64 x.G.W, .slice x.G.A x.G.n x.G.c, .int .i64 x.K.W, .slice x.K.A x.K.n x.K.c, .slice x.C x.k x.q] 51)
  have hb2 := hb.alloc hb.size (.cells #[.int .i64 0, .slice none 0 0, .int .i64 0, .slice none 0 0, .slice none 0 0] 51)
  refine ⟨(Fb.new w0 _ _).alloc _, ?_, h.arg.below hb2, hb2, by simp only [World.size_alloc]; omega⟩
  have := Fb.new (w0.alloc (.cells #[.int .i64 x.G.W, .slice x.G.A x.G.n x.G.c, .int .i64 x.K.W, .slice x.K.A x.K.n x.K.c, .slice x.C x.k x.q] 51)) #[.int .i64 0, .slice none 0 0, .int .i64 0, .slice none 0 0, .slice none 0 0] 51
  rwa [World.size_alloc] at this
/-- A function came back whose parts lie in blocks of the call's own. -/
def RetF (w : World) (x : FH) (e : Ending) (w' : World) : Prop :=
  ∃ (A' : Option Addr) (c' : Nat) (B' : Option Addr) (d' : Nat) (C' : Option Addr) (q' : Nat), e = .returned (.agg #[.int .i64 x.G.W, .slice A' x.G.n c', .int .i64 x.K.W, .slice B' x.K.n d', .slice C' x.k q']) ∧
    (NewAt w w' A' (words x.G.ws) ∧ NewAt w w' B' (words x.K.ws) ∧ NewAt w w' C' (pairs x.cs)) ∧ Below w.heap.size w w'
end Go.Proofs.Ytadkjnjibefocaa

namespace Go.Proofs.Ytadkjnjibefocaa
set_option maxRecDepth 20000
set_option linter.unusedVariables false
set_option linter.unusedSimpArgs false
open Go.ChangeShapes Go.WideShapes Go.ChangeAt Go.RowKit

def z0 : ZH := ⟨0, none, 0, 0, []⟩
theorem made_sets (n : Nat) : madeCells (Value.agg #[.int .i64 0, .slice none 0 0]).cells (n * 2) = ((List.replicate n z0).flatMap ZH.cs).toArray := by
  rw [show (Value.agg #[.int .i64 0, .slice none 0 0]).cells = #[Value.int .i64 0, .slice none 0 0] from rfl]
  have hl := flat_len ZH.cs_len (List.replicate n z0)
  rw [List.length_replicate] at hl
  unfold madeCells
  apply Array.ext
  · rw [Array.size_map, Array.size_range, List.size_toArray, hl]
  · intro j h1 h2
    rw [Array.getElem_map, Array.getElem_range, List.getElem_toArray]
    show (#[Value.int .i64 0, .slice none 0 0] : Array Value)[j % 2]! = _
    rw [List.size_toArray, hl] at h2
    have hi : (List.replicate n z0)[j / 2]? = some z0 := List.getElem?_replicate_of_lt (by omega)
    have hc := flat_cell ZH.cs_len hi (j := j % 2) (Nat.mod_lt _ (by decide))
    have e : j / 2 * 2 + j % 2 = j := by omega
    rw [e] at hc
    have hb : ((List.replicate n z0).flatMap ZH.cs)[j]? = some (((List.replicate n z0).flatMap ZH.cs)[j]'(by rw [hl]; exact h2)) := List.getElem?_eq_getElem _
    rw [hb] at hc
    have h4 : j % 2 < 2 := Nat.mod_lt _ (by decide)
    generalize j % 2 = i at h4 hc ⊢
    match i, h4 with
    | 0, _ => exact (Option.some.inj hc).symm
    | 1, _ => exact (Option.some.inj hc).symm
theorem infoSet : (Try.prog.info? 47).map (fun i => (i.zero, i.size, i.bytes)) = some (some (.agg #[.int .i64 0, .slice none 0 0]), 2, 32) := by kernel_rfl
theorem run_mksets (n : Nat) (hn : n ≤ 100000) (w : World) :
    (Instr.makeSlice 25 (.int .i64 (n : Int)) (.int .i64 (n : Int))).run Try.prog w = .ok (.slice (some ⟨w.heap.size, 0, none⟩) n n) (w.alloc (.cells ((List.replicate n z0).flatMap ZH.cs).toArray 47)) := by
  obtain ⟨i, hi, hz0, hz1, hz2⟩ := info_parts infoSet
  have h := run_make (P := Try.prog) w 25 47 i (.agg #[.int .i64 0, .slice none 0 0]) Try.underlying25 hi hz0 .i64 .i64 n n (by omega) (by omega) (by rw [hz2]; omega) (by omega)
  rw [h, hz1]
  simp only [Int.toNat_natCast]
  rw [made_sets]
/-- A block that holds the cells of sets, and the words of them. -/
structure VRow (w : World) (g N : Nat) (l : List ZH) : Prop where
  fb : Fb w g (l.flatMap ZH.cs).toArray 47
  len : l.length = N
  all : ∀ z ∈ l, Arg w z.A z.n z.ws
theorem VRow.below {w w' : World} {g N : Nat} {l : List ZH} (h : VRow w g N l) (hb : Below w.heap.size w w') : VRow w' g N l := ⟨h.fb.below hb h.fb.lt, h.len, fun z hz => (h.all z hz).below hb⟩
theorem VRow.lt {w : World} {g N : Nat} {l : List ZH} (h : VRow w g N l) : g < w.heap.size := h.fb.lt
/-- No cell of such a row is a word. -/
theorem flat_no_word (l : List ZH) (j : Nat) (x : Int) : (l.flatMap ZH.cs)[j]? ≠ some (.int .u64 x) := by
  intro h
  have hl := flat_len ZH.cs_len l
  have hj : j < l.length * 2 := by
    have := (List.getElem?_eq_some_iff.1 h).1
    omega
  have hi : l[j / 2]? = some (l[j / 2]'(by omega)) := List.getElem?_eq_getElem _
  have hc := flat_cell ZH.cs_len hi (j := j % 2) (Nat.mod_lt _ (by decide))
  rw [show j / 2 * 2 + j % 2 = j by omega, h] at hc
  have h4 : j % 2 < 2 := Nat.mod_lt _ (by decide)
  generalize j % 2 = i at h4 hc
  match i, h4 with
  | 0, _ => simp [ZH.cs] at hc
  | 1, _ => simp [ZH.cs] at hc
theorem VRow.not_word {w : World} {g N : Nat} {l : List ZH} (h : VRow w g N l) {p : Addr} {x : Int} (hp : w.cell? p = some (.int .u64 x)) : p.block ≠ g := by
  rintro rfl
  have h1 := h.fb
  unfold Fb at h1
  unfold World.cell? at hp
  rw [h1] at hp
  simp only [] at hp
  split at hp
  · simp at hp
  · exact flat_no_word l _ x (by simpa using hp)
theorem VRow.arg_far {w : World} {g N : Nat} {l : List ZH} (h : VRow w g N l) {A : Option Addr} {n : Nat} {ws : List Nat} (ha : Arg w A n ws) : ws = [] ∨ ∀ ad, A = some ad → ad.block ≠ g := by
  cases ws with
  | nil => exact .inl rfl
  | cons x ws =>
    refine .inr fun ad e => ?_
    obtain ⟨ad', e', _, hc⟩ := ha.lies.cell (j := 0) (u := .int .u64 x) rfl
    rw [e] at e'
    obtain rfl := Option.some.inj e'
    have := h.not_word hc
    rwa [add_block] at this
/-- Writing into the row's block leaves all words alone. -/
theorem VRow.arg_set {w : World} {g N : Nat} {l : List ZH} (h : VRow w g N l) {A : Option Addr} {n : Nat} {ws : List Nat} (ha : Arg w A n ws) (j : Nat) (u : Value) : Arg (w.setCell ⟨g, j, none⟩ u) A n ws := ha.far (h.arg_far ha) u
theorem flat_setV {l : List ZH} {k : Nat} (hk : k < l.length) (z : ZH) : ((l.flatMap ZH.cs).set (k * 2) (.int .i64 z.W)).set (k * 2 + 1) (.slice z.A z.n z.c) = (l.set k z).flatMap ZH.cs := by
  induction l generalizing k with
  | nil => simp at hk
  | cons y l ih =>
    cases k with
    | zero => simp [ZH.cs]
    | succ k =>
      have := ih (k := k) (by simpa using hk)
      rw [List.flatMap_cons, List.set_cons_succ, List.flatMap_cons, ← this, show (k + 1) * 2 = 2 + k * 2 by omega]
      simp [ZH.cs, show 2 + k * 2 = k * 2 + 1 + 1 by omega, show 2 + k * 2 + 1 = k * 2 + 1 + 1 + 1 by omega]
/-- An element is written. -/
theorem VRow.put {w : World} {g N : Nat} {l : List ZH} (h : VRow w g N l) {k : Nat} (hk : k < N) {z : ZH} (hz : Arg w z.A z.n z.ws) : VRow ((w.setCell ⟨g, k * 2, none⟩ (.int .i64 z.W)).setCell ⟨g, k * 2 + 1, none⟩ (.slice z.A z.n z.c)) g N (l.set k z) := by
  have e : ∀ {A : Option Addr} {n : Nat} {ws : List Nat}, Arg w A n ws → Arg ((w.setCell ⟨g, k * 2, none⟩ (.int .i64 z.W)).setCell ⟨g, k * 2 + 1, none⟩ (.slice z.A z.n z.c)) A n ws := fun ha =>
    (ha.far (p := ⟨g, k * 2, none⟩) (h.arg_far ha) _).far (p := ⟨g, k * 2 + 1, none⟩) (h.arg_far ha) _
  refine ⟨?_, by rw [List.length_set]; exact h.len, fun y hy => ?_⟩
  · have h1 := (h.fb.set (k * 2) (.int .i64 z.W)).set (k * 2 + 1) (.slice z.A z.n z.c)
    have h2 : (((l.flatMap ZH.cs).toArray.setIfInBounds (k * 2) (.int .i64 z.W)).setIfInBounds (k * 2 + 1) (.slice z.A z.n z.c)) = ((l.set k z).flatMap ZH.cs).toArray := by
      rw [← flat_setV (by rw [h.len]; exact hk) z]
      simp
    rw [← h2]
    exact h1
  · rcases List.mem_or_eq_of_mem_set hy with hy | rfl
    · exact e (h.all y hy)
    · exact e hz
/-- Another row is written. -/
theorem VRow.other {w : World} {g N g' N' : Nat} {l l' : List ZH} (h : VRow w g N l) (h' : VRow w g' N' l') (hne : g ≠ g') (j : Nat) (u : Value) : VRow (w.setCell ⟨g', j, none⟩ u) g N l :=
  ⟨h.fb.far hne u, h.len, fun z hz => h'.arg_set (h.all z hz) j u⟩
theorem VRow.zl {w : World} {g N : Nat} {l : List ZH} (h : VRow w g N l) (hN : N ≤ 100000) : ZLok w [] ⟨some ⟨g, 0, none⟩, N, N, l⟩ :=
  ⟨EAt.fb h.fb (by simp) (fun j u hu => by simpa using hu), h.len, by show N ≤ _; omega, fun z hz => ⟨by
    rcases (h.all z hz).lies with e | ⟨ad, e, hb, hc⟩
    · exact .inl e
    · exact .inr ⟨ad, e, ⟨hb, by simp⟩, hc⟩, (h.all z hz).len, (h.all z hz).ok⟩⟩
theorem VRow.cells {w : World} {g N : Nat} {l : List ZH} (h : VRow w g N l) {k : Nat} {z : ZH} (hk : l[k]? = some z) : w.cell? ⟨g, k * 2, none⟩ = some (.int .i64 z.W) ∧ w.cell? ⟨g, k * 2 + 1, none⟩ = some (.slice z.A z.n z.c) := by
  have h0 := flat_cell ZH.cs_len hk (j := 0) (by decide)
  have h1 := flat_cell ZH.cs_len hk (j := 1) (by decide)
  rw [Nat.add_zero] at h0
  constructor
  · rw [h.fb.cell]; simpa [ZH.cs] using h0
  · rw [h.fb.cell]; simpa [ZH.cs] using h1
theorem VRow.new (w : World) (N : Nat) : VRow (w.alloc (.cells ((List.replicate N z0).flatMap ZH.cs).toArray 47)) w.heap.size N (List.replicate N z0) :=
  ⟨Fb.new w _ _, List.length_replicate, fun z hz => by
    obtain ⟨_, rfl⟩ := List.mem_replicate.1 hz
    exact Arg.nil _ _⟩
end Go.Proofs.Ytadkjnjibefocaa

namespace Go.Proofs.Ytadkjnjibefocaa
set_option maxRecDepth 20000
open Go.ChangeShapes Go.WideShapes Go.ChangeAt Go.RowKit

theorem run_app_none (w : World) (C A : Option Addr) (n qr m q : Nat) (h : n ≤ qr) (hm : m = 0) (ty : TypeId) : (Builtin.append_ #[49, 49] ty #[.slice C n qr, .slice A m q]).run Try.prog w = .ok (.slice C n qr) w := by
  subst hm
  cases C with
  | none => cases A with
    | none => go_simp
    | some a => go_simp
  | some g => cases A with
    | none => go_simp
    | some a => go_simp
theorem pairs_app (a b : List (Int × Int)) : pairs (a ++ b) = pairs a ++ pairs b := by simp [pairs]
theorem pairs_one (cs : List (Int × Int)) : ∀ u ∈ pairs cs, u.oneCell' = true := by
  intro u hu
  unfold pairs at hu
  obtain ⟨p, _, hp⟩ := List.mem_flatMap.1 hu
  simp at hp
  rcases hp with rfl | rfl <;> rfl
theorem ArgC.cells {w w' : World} {ad : Addr} {n : Nat} {cs : List (Int × Int)} (h : ArgC w (some ad) n cs) (hb : Below w.heap.size w w') : ∀ j u, (pairs cs)[j]? = some u → w'.cell? (ad.add j) = some u := by
  intro j u hu
  rcases h.lies with h0 | ⟨ad', e, hl, hc⟩
  · rw [h0] at hu; simp at hu
  · cases e
    exact (hb.cell (by rw [add_block]; exact hl)).trans (hc j u hu)
end Go.Proofs.Ytadkjnjibefocaa

namespace Go.Proofs.Ytadkjnjibefocaa
set_option maxRecDepth 20000
set_option linter.unusedVariables false
set_option linter.unusedSimpArgs false
open Go.ChangeShapes Go.WideShapes Go.ChangeAt Go.RowKit

/-- A block that holds bools. -/
structure BRow (w : World) (g N : Nat) (bs : List Bool) : Prop where
  fb : Fb w g (bs.map Value.bool).toArray 4
  len : bs.length = N
theorem BRow.below {w w' : World} {g N : Nat} {bs : List Bool} (h : BRow w g N bs) (hb : Below w.heap.size w w') : BRow w' g N bs := ⟨h.fb.below hb h.fb.lt, h.len⟩
theorem BRow.cell {w : World} {g N : Nat} {bs : List Bool} (h : BRow w g N bs) {k : Nat} {b : Bool} (hk : bs[k]? = some b) : w.cell? ⟨g, k, none⟩ = some (.bool b) := by
  rw [h.fb.cell]
  simp [hk]
theorem BRow.put {w : World} {g N : Nat} {bs : List Bool} (h : BRow w g N bs) (k : Nat) (b : Bool) : BRow (w.setCell ⟨g, k, none⟩ (.bool b)) g N (bs.set k b) := by
  refine ⟨?_, by rw [List.length_set]; exact h.len⟩
  have h1 := h.fb.set k (.bool b)
  have h2 : ((bs.map Value.bool).toArray.setIfInBounds k (.bool b)) = ((bs.set k b).map Value.bool).toArray := by
    rw [List.map_set]; simp
  rw [← h2]
  exact h1
theorem BRow.not_word {w : World} {g N : Nat} {bs : List Bool} (h : BRow w g N bs) {p : Addr} {x : Int} (hp : w.cell? p = some (.int .u64 x)) : p.block ≠ g := by
  rintro rfl
  have h1 := h.fb
  unfold Fb at h1
  unfold World.cell? at hp
  rw [h1] at hp
  simp only [] at hp
  split at hp
  · simp at hp
  · simp at hp
theorem BRow.arg_far {w : World} {g N : Nat} {bs : List Bool} (h : BRow w g N bs) {A : Option Addr} {n : Nat} {ws : List Nat} (ha : Arg w A n ws) : ws = [] ∨ ∀ ad, A = some ad → ad.block ≠ g := by
  cases ws with
  | nil => exact .inl rfl
  | cons x ws =>
    refine .inr fun ad e => ?_
    obtain ⟨ad', e', _, hc⟩ := ha.lies.cell (j := 0) (u := .int .u64 x) rfl
    rw [e] at e'
    obtain rfl := Option.some.inj e'
    have := h.not_word hc
    rwa [add_block] at this
/-- Writing bools leaves rows of sets alone. -/
theorem VRow.bools {w : World} {g N g' N' : Nat} {l : List ZH} {bs : List Bool} (h : VRow w g N l) (h' : BRow w g' N' bs) (hne : g ≠ g') (j : Nat) (u : Value) : VRow (w.setCell ⟨g', j, none⟩ u) g N l :=
  ⟨h.fb.far hne u, h.len, fun z hz => (h.all z hz).far (h'.arg_far (h.all z hz)) u⟩
theorem BRow.sets {w : World} {g N g' N' : Nat} {l : List ZH} {bs : List Bool} (h : BRow w g N bs) (hne : g ≠ g') (j : Nat) (u : Value) : BRow (w.setCell ⟨g', j, none⟩ u) g N bs := ⟨h.fb.far hne u, h.len⟩
theorem infoBool : (Try.prog.info? 4).map (fun i => (i.zero, i.size, i.bytes)) = some (some (.bool false), 1, 1) := by kernel_rfl
theorem run_mkbools (n : Nat) (hn : n ≤ 100000) (w : World) :
    (Instr.makeSlice 66 (.int .i64 (n : Int)) (.int .i64 (n : Int))).run Try.prog w = .ok (.slice (some ⟨w.heap.size, 0, none⟩) n n) (w.alloc (.cells ((List.replicate n false).map Value.bool).toArray 4)) := by
  obtain ⟨i, hi, hz0, hz1, hz2⟩ := info_parts infoBool
  have h := run_make (P := Try.prog) w 66 4 i (.bool false) Try.underlying66 hi hz0 .i64 .i64 n n (by omega) (by omega) (by rw [hz2]; omega) (by omega)
  rw [h, hz1]
  simp only [Int.toNat_natCast, Nat.mul_one]
  have e2 : madeCells (Value.bool false).cells n = ((List.replicate n false).map Value.bool).toArray := by
    apply Array.toList_inj.1
    rw [show (Value.bool false).cells = #[Value.bool false] from rfl, toList_madeCells_one]
    simp
  rw [e2]
theorem BRow.new (w : World) (N : Nat) : BRow (w.alloc (.cells ((List.replicate N false).map Value.bool).toArray 4)) w.heap.size N (List.replicate N false) := ⟨Fb.new w _ _, List.length_replicate⟩
end Go.Proofs.Ytadkjnjibefocaa

namespace Go.Proofs.Ytadkjnjibefocaa
set_option maxRecDepth 20000
set_option linter.unusedVariables false
set_option linter.unusedSimpArgs false
open Go.ChangeShapes Go.WideShapes Go.ChangeAt Go.RowKit

section
variable {α : Type} [DecidableEq α]
def eqD (l m : List α) : Bool := decide (l = m)
theorem eqD_len {l m : List α} (h : l.length ≠ m.length) : eqD l m = false := by unfold eqD; rw [decide_eq_false_iff_not]; rintro rfl; exact h rfl
theorem eqD_no {l m : List α} {k : Nat} {a b : α} (ha : l[k]? = some a) (hb : m[k]? = some b) (h : a ≠ b) : eqD l m = false := by
  unfold eqD; rw [decide_eq_false_iff_not]; rintro rfl; rw [ha] at hb; exact h (Option.some.inj hb)
theorem eqD_yes {l m : List α} {n : Nat} (hl : l.length = n) (hm : m.length = n) (h : ∀ j, j < n → l[j]? = m[j]?) : eqD l m = true := by
  unfold eqD; rw [decide_eq_true_eq]
  apply List.ext_getElem?
  intro j
  by_cases hj : j < n
  · exact h j hj
  · rw [List.getElem?_eq_none (by omega), List.getElem?_eq_none (by omega)]
omit [DecidableEq α] in
theorem eqD_step {l m : List α} {k : Nat} {a b : α} (h : ∀ j, j < k → l[j]? = m[j]?) (ha : l[k]? = some a) (hb : m[k]? = some b) (e : a = b) : ∀ j, j < k + 1 → l[j]? = m[j]? := by
  intro j hj
  by_cases e2 : j = k
  · subst e2; rw [ha, hb, e]
  · exact h j (by omega)
end
/-- It returned this, and only draws were made. -/
def RetQ (w : World) (v : Value) (e : Ending) (w' : World) : Prop := e = .returned v ∧ ∃ q : Nat, w' = w.drewN q
theorem RetQ.mk {w : World} {b c : Bool} {q : Nat} (h : c = b) : RetQ w (.bool c) (.returned (.bool b)) (w.drewN q) := ⟨by rw [h], q, rfl⟩
theorem RetQ.mk2 {w : World} {b c : Bool} {q r : Nat} (h : c = b) : RetQ w (.bool c) (.returned (.bool b)) ((w.drewN q).drewN r) := ⟨by rw [h], q + r, World.drewN_drewN _ _ _⟩
theorem RetQ.mk0 {w : World} {b c : Bool} (h : c = b) : RetQ w (.bool c) (.returned (.bool b)) w := ⟨by rw [h], 0, rfl⟩
set_option maxHeartbeats 1600000 in
theorem ints7_any (x y : RH) (ex ey : List (Option Nat)) (w : World) (hx : RHok w ex x) (hy : RHok w ey y) :
    Calls Try.prog 23 #[.slice x.A x.n x.c, .slice y.A y.n y.c] w (RetQ w (.bool (eqD x.l y.l))) := by
  have hn := hx.few
  have hm := hy.few
  have HX := hid hx
  have HY := hid hy
  have HL := hid hx.len
  have HM := hid hy.len
  clear hx hy
  obtain ⟨A, n, c, l⟩ := x
  obtain ⟨B, m, c2, l2⟩ := y
  simp only at *
  by_cases hlen : n = m
  · subst hlen
    go_enter Try.func23, Try.ntmps23
    go_wp2_with fail
    go_loopw [5] (fun iv wr => ∃ (k q : Nat), k ≤ n ∧ iv = .int .i64 k ∧ wr = w.drewN q ∧ Hid (∀ j, j < k → l[j]? = l2[j]?)) (fun iv _ => n - (intOf iv).toNat)
    case atStart => exact ⟨0, 0, by omega, rfl, rfl, hid (fun j h => by omega)⟩
    case round =>
      obtain ⟨k, q, hk, rfl, rfl, hE⟩ := hrel
      by_cases hlt : k < n
      · obtain ⟨a, ha, -⟩ := get_at HL.out hlt
        obtain ⟨b, hb, -⟩ := get_at HM.out hlt
        obtain ⟨ad, hA, had, hc⟩ := HX.out.cell ha
        obtain ⟨ad2, hB, had2, hc2⟩ := HY.out.cell hb
        simp only at hA hB
        subst hA
        subst hB
        have Ha := hid ha
        have Hb := hid hb
        clear ha hb
        by_cases h1 : a = b
        · subst h1
          have Hr := hid (eqD_step hE.out Ha.out Hb.out rfl)
          clear hE
          go_wp2_with fail
          go_quiet (fail)
          go_wp2_with fail
          go_roundw
          case rel => exact ⟨k + 1, _, by omega, by go_num, rfl, Hr⟩
          case measure => simp [intOf]; omega
        · have Hr := hid (eqD_no Ha.out Hb.out h1)
          have t1 : (a == b) = false := by simpa using h1
          have t2 : (a != b) = true := by simpa using h1
          clear hE h1
          go_wp2_with fail
          go_quiet (fail)
          go_wp2_with fail
          go_ret
          exact RetQ.mk2 Hr.out
      · obtain rfl : k = n := by omega
        have Hr := hid (eqD_yes HL.out HM.out hE.out)
        clear hE
        go_wp2_with fail
        go_ret
        exact RetQ.mk Hr.out
  · have Hr := hid (eqD_len (l := l) (m := l2) (by rw [HL.out, HM.out]; exact hlen))
    have t1 : ((n : Int) == (m : Int)) = false := by simp; omega
    have t2 : ((n : Int) != (m : Int)) = true := by simp; omega
    clear hlen
    go_enter Try.func23, Try.ntmps23
    go_wp2_with fail
    go_ret
    exact RetQ.mk0 Hr.out
def hasI (l : List Int) (n : Int) : Bool := l.contains n
theorem hasI_hit {l : List Int} {k : Nat} {a : Int} (h : l[k]? = some a) : hasI l a = true := by
  unfold hasI; simp; exact List.mem_of_getElem? h
theorem hasI_none {l : List Int} {n : Int} {m : Nat} (hl : l.length = m) (h : ∀ j x, j < m → l[j]? = some x → x ≠ n) : hasI l n = false := by
  unfold hasI
  simp only [List.contains_eq_mem, decide_eq_false_iff_not]
  intro hm
  obtain ⟨j, hj⟩ := List.getElem?_of_mem hm
  exact h j n (by have := (List.getElem?_eq_some_iff.1 hj).1; omega) hj rfl
theorem hasI_step {l : List Int} {k : Nat} {a n : Int} (h : ∀ j x, j < k → l[j]? = some x → x ≠ n) (ha : l[k]? = some a) (e : a ≠ n) : ∀ j x, j < k + 1 → l[j]? = some x → x ≠ n := by
  intro j x hj hx
  by_cases e2 : j = k
  · subst e2; rw [ha] at hx; exact Option.some.inj hx ▸ e
  · exact h j x (by omega) hx
set_option maxHeartbeats 1600000 in
theorem has_any (x : RH) (v : Int) (ex : List (Option Nat)) (w : World) (h : RHok w ex x) :
    Calls Try.prog 20 #[.slice x.A x.n x.c, .int .i64 v] w fun e w' => e = .returned (.bool (hasI x.l v)) ∧ w = w' := by
  have hn := h.few
  have HX := hid h
  have HL := hid h.len
  clear h
  obtain ⟨A, n, c, l⟩ := x
  simp only at *
  go_enter Try.func20, Try.ntmps20
  go_wp2_with fail
  go_loop [5] (fun iv => ∃ (k : Nat), k ≤ n ∧ iv = .int .i64 k ∧ Hid (∀ j x, j < k → l[j]? = some x → x ≠ v)) (fun iv => n - (intOf iv).toNat)
  case atStart => exact ⟨0, by omega, rfl, hid (fun j x h => by omega)⟩
  case round =>
    obtain ⟨k, hk, rfl, hE⟩ := hrel
    by_cases hlt : k < n
    · obtain ⟨a, ha, -⟩ := get_at HL.out hlt
      obtain ⟨ad, hA, had, hc⟩ := HX.out.cell ha
      simp only at hA
      subst hA
      have Ha := hid ha
      clear ha
      by_cases h1 : a = v
      · subst h1
        have Hr := hid (hasI_hit Ha.out)
        clear hE
        go_wp2_with fail
        go_ret
        exact ⟨ret_b Hr.out, rfl⟩
      · have Hr := hid (hasI_step hE.out Ha.out h1)
        have t1 : (a == v) = false := by simpa using h1
        clear hE h1
        go_wp2_with fail
        go_round
        case rel => exact ⟨k + 1, by omega, by go_num, Hr⟩
        case measure => simp [intOf]; omega
    · obtain rfl : k = n := by omega
      have Hr := hid (hasI_none HL.out hE.out)
      clear hE
      go_wp2_with fail
      go_ret
      exact ⟨ret_b Hr.out, rfl⟩
end Go.Proofs.Ytadkjnjibefocaa

namespace Go.Proofs.Ytadkjnjibefocaa
set_option maxRecDepth 20000
set_option linter.unusedVariables false
set_option linter.unusedSimpArgs false
open Go.ChangeShapes Go.WideShapes Go.ChangeAt Go.RowKit

theorem below_drewN (w : World) (q : Nat) : Below w.heap.size w (w.drewN q) := ⟨rfl, rfl, rfl, Nat.le_refl _, fun _ _ => rfl⟩
set_option maxHeartbeats 3200000 in
theorem rising_yes (x : RH) (N : Nat) (ex : List (Option Nat)) (w : World) (h : RHok w ex x) (hr : RisP N x.l) (hN : N ≤ 9223372036854775807) :
    Calls Try.prog 30 #[.slice x.A x.n x.c, .int .i64 N] w fun e w' => e = .returned (.bool true) ∧ Below w.heap.size w w' := by
  have hn := h.few
  have HX := hid h
  have HL := hid h.len
  have HR := hid hr
  clear h hr
  obtain ⟨A, n, c, l⟩ := x
  simp only at *
  go_enter Try.func30, Try.ntmps30
  go_wp2_with fail
  go_loopw [5] (fun iv wr => ∃ (k q : Nat), k ≤ n ∧ iv = .int .i64 k ∧ wr = w.drewN q) (fun iv _ => n - (intOf iv).toNat)
  case atStart => exact ⟨0, 0, by omega, rfl, rfl⟩
  case round =>
    obtain ⟨k, q, hk, rfl, rfl⟩ := hrel
    by_cases hlt : k < n
    · obtain ⟨a, ha, ham⟩ := get_at HL.out hlt
      obtain ⟨ad, hA, had, hc⟩ := HX.out.cell ha
      simp only at hA
      subst hA
      obtain ⟨a0, a1⟩ := HR.out.2 a ham
      have Ha := hid ha
      clear ha ham
      have t1 : decide (a < 0) = false := by simp; omega
      have t2 : decide ((N : Int) ≤ a) = false := by simp; omega
      by_cases hk0 : k = 0
      · have t5 : decide (0 < (k : Int)) = false := by simp; omega
        have t5n : decide (0 < k) = false := by simp; omega
        clear hk0
        as_aux_lemma =>
          go_wp2_with fail
          go_quiet (fail)
          go_wp2_with fail
          go_roundw
          case rel => exact ⟨k + 1, _, by omega, by go_num, rfl⟩
          case measure => simp [intOf]; omega
      · obtain ⟨p, hp, -⟩ := get_at HL.out (show k - 1 < n by omega)
        obtain ⟨ad2, hA2, -, hc2⟩ := HX.out.cell hp
        obtain rfl := Option.some.inj hA2
        have hpa : p < a := by
          have h1 := List.pairwise_iff_getElem.1 HR.out.1 (k - 1) k (List.getElem?_eq_some_iff.1 hp).1 (List.getElem?_eq_some_iff.1 Ha.out).1 (by omega)
          rwa [(List.getElem?_eq_some_iff.1 hp).2, (List.getElem?_eq_some_iff.1 Ha.out).2] at h1
        clear hp
        have e1 : ((k : Int) - 1).toNat = k - 1 := by omega
        have e2 : 1 ≤ (k : Int) := by omega
        have e3 : (k : Int) - 1 < n := by omega
        have e4 : IntKind.i64.wrap ((k : Int) - 1) = (k : Int) - 1 := IntWalk.i64_in _ (by omega)
        have e5 : 0 < (k : Int) := by omega
        have t5 : decide (0 < (k : Int)) = true := by simp; omega
        have t5n : decide (0 < k) = true := by simp; omega
        have e2n : 1 ≤ k := by omega
        have t6 : decide (a ≤ p) = false := by simp; omega
        as_aux_lemma =>
          go_wp2_with fail
          go_quiet (fail)
          go_wp2_with fail
          go_roundw
          case rel => exact ⟨k + 1, _, by omega, by go_num, rfl⟩
          case measure => simp [intOf]; omega
    · obtain rfl : k = n := by omega
      go_wp2_with fail
      go_ret
      exact ⟨rfl, below_drewN _ _⟩
end Go.Proofs.Ytadkjnjibefocaa
