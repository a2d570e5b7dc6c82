/- The package's canonical: the canonical function of what is generated, killed and copied. -/
import Derived.Test.YtmbelhdkaepohaaCan
import Derived.Test.YtmbelhdkaepohaaDWo
import Derived.Test.YtmbelhdkaepohaaCln
import Derived.Test.YtmbelhdkaepohaaSan3
namespace Go.Proofs.Ytmbelhdkaepohaa
set_option maxRecDepth 20000
open Go.ChangeShapes Go.WideShapes Go.ChangeAt Go.RowKit

/-- A function and an error came back. -/
def RetT (w : World) (W : Int) (gs ks : List Nat) (cs : List (Int × Int)) (err : Int) (e : Ending) (w' : World) : Prop :=
  ∃ (A : Option Addr) (n c : Nat) (B : Option Addr) (m d : Nat) (C : Option Addr) (q : Nat), e = .returned (.tuple #[.agg #[.int .i64 W, .slice A n c, .int .i64 W, .slice B m d, .slice C cs.length q], .int .i64 err]) ∧
    Arg w' A n gs ∧ Arg w' B m ks ∧ ArgC w' C cs.length cs ∧ Below w.heap.size w w'

/-- Words that lie in old memory, or in a block of the call's own. -/
def KW (wr : World) (lo base : Nat) (A : Option Addr) (n : Nat) (zs : List Nat) : Prop := zs.length = n ∧ (At wr lo A (words zs) ∨ ∃ g c, A = some ⟨g, 0, none⟩ ∧ OwnW wr base g n c zs)
section
variable {wr w' : World} {lo base : Nat} {A : Option Addr} {n : Nat} {zs : List Nat}
theorem KW.below (h : KW wr lo base A n zs) (hlo : lo ≤ wr.heap.size) (hb : Below wr.heap.size wr w') : KW w' lo base A n zs := by
  refine ⟨h.1, ?_⟩
  rcases h.2 with h | ⟨g, c, e, h⟩
  · exact .inl (h.keep (fun p hp => hb.cell (by omega)) (Nat.le_refl _))
  · exact .inr ⟨g, c, e, own_below h hb⟩
theorem KW.far (h : KW wr lo base A n zs) {p : Addr} (h1 : lo ≤ p.block) (h2 : p.block < base) (u : Value) : KW (wr.setCell p u) lo base A n zs := by
  refine ⟨h.1, ?_⟩
  rcases h.2 with h | ⟨g, c, e, h⟩
  · exact .inl (At.far h h1 u)
  · exact .inr ⟨g, c, e, h.far (by have := h.ge.1; omega) u⟩
theorem KW.grown {v : Value} {cs : List (Int × Int)} {m : Nat} (h : KW wr lo base A n zs) (hlo : lo ≤ base) (hc : wr.ownsRow base 48 2 v m (pairs cs)) (hg : wr.grownBy w' v.ownBlock) (hl : lo ≤ wr.heap.size) : KW w' lo base A n zs := by
  refine ⟨h.1, ?_⟩
  rcases h.2 with h | ⟨g, c, e, h⟩
  · refine .inl (h.keep (fun p hp => World.cell?_of_block (hg.block p.block (by omega) ?_)) (Nat.le_refl _))
    intro e; have := own_base hc p.block e.symm; omega
  · refine .inr ⟨g, c, e, World.ownsRow.kept h hg (.inr ?_)⟩
    intro e2
    rcases hc.2 with ⟨rfl, _⟩ | ⟨g2, cap, cur, rfl, _, h35, _⟩
    · cases e2
    · rcases h.2 with ⟨h0, _⟩ | ⟨g3, cap3, cur3, h0, _, h62, _⟩
      · cases h0
      · injection h0 with h0
        injection h0 with h0
        injection h0 with h0
        subst h0
        have : g = g2 := by simpa [Value.ownBlock] using e2
        subst this
        rw [h62] at h35
        cases h35
theorem KW.arg (h : KW wr lo base A n zs) (hl : lo ≤ wr.heap.size) (ok : ∀ x ∈ zs, x < Bs.W64) : Arg wr A n zs := by
  rcases h.2 with h1 | ⟨g, c, rfl, h1⟩
  · exact ⟨h1.more hl, h.1, ok⟩
  · exact h1.arg ok
end

/-- What is killed so far. -/
def killJ (W : Nat) (ks : List Nat) (cs : List (Int × Int)) : List Nat := Bs.ofP W (fun i => Bs.bit ks i && !decide (((i : Int), (i : Int)) ∈ cs)) W
theorem fit_killJ (W : Nat) (ks : List Nat) (cs : List (Int × Int)) : Bs.Fit W (killJ W ks cs) := Bs.fit_ofP _ _ _ (Nat.le_refl _)
theorem killJ_nil {W : Nat} {ks : List Nat} (h : Bs.Fit W ks) : killJ W ks [] = ks := by
  unfold killJ
  exact (Bs.ofP_congr fun i _ => by simp).trans (Bs.ofP_bit h)
theorem killJ_self {W : Nat} {ks : List Nat} {cs : List (Int × Int)} {b : Nat} (hb : b < W) : killJ W ks (cs ++ [((b : Int), (b : Int))]) = cutB (killJ W ks cs) b := by
  rw [cut_eq (fit_killJ W ks cs) hb]
  refine Bs.ofP_congr fun i hi => ?_
  unfold killJ
  rw [Bs.bit_ofP _ _ _ (Nat.le_refl _)]
  simp only [hi, decide_true, Bool.true_and]
  by_cases e : i = b
  · subst e; simp
  · have : ¬((i : Int) = (b : Int)) := by omega
    simp [e, this]
theorem killJ_other {W : Nat} {ks : List Nat} {cs : List (Int × Int)} {p1 p2 : Int} (h : p1 ≠ p2) : killJ W ks (cs ++ [(p1, p2)]) = killJ W ks cs := by
  refine Bs.ofP_congr fun i hi => ?_
  have : ¬((i : Int) = p1 ∧ (i : Int) = p2) := by omega
  simp [this]
theorem killC_eq {W : Nat} {gs ks : List Nat} {cs : List (Int × Int)} : orR W (killJ W ks cs) gs = killC W gs ks cs := by
  unfold orR killC
  refine Bs.ofP_congr fun i hi => ?_
  unfold killJ
  rw [Bs.bit_ofP _ _ _ (Nat.le_refl _)]
  simp [hi]

/-- While the copies are looked through. -/
def Caning (w : World) (W : Nat) (A : Option Addr) (n c : Nat) (v : Value) (rs : List (Int × Int)) (zs : List Nat) (wr : World) : Prop :=
  Box wr w.heap.size W A n c ∧ (∃ (B : Option Addr) (m d : Nat), Box wr (w.heap.size + 1) W B m d ∧ KW wr w.heap.size (w.heap.size + 3) B m zs) ∧ Fb wr (w.heap.size + 2) #[.int .i64 0, .slice none 0 0, .int .i64 0, .slice none 0 0, .slice none 0 0] 28 ∧
    Cops wr (w.heap.size + 3) v rs ∧ Below w.heap.size w wr ∧ w.heap.size + 3 ≤ wr.heap.size
section
variable {w wr w' : World} {W : Nat} {A : Option Addr} {n c : Nat} {v : Value} {rs : List (Int × Int)} {zs : List Nat}
theorem Caning.below (h : Caning w W A n c v rs zs wr) (hb : Below wr.heap.size wr w') : Caning w W A n c v rs zs w' := by
  obtain ⟨h1, ⟨B, m, d, h2, h3⟩, h4, h5, h6, h7⟩ := h
  exact ⟨h1.below hb h1.lt, ⟨B, m, d, h2.below hb h2.lt, h3.below h6.size hb⟩, h4.below hb h4.lt, own_below h5 hb, h6.trans (hb.mono h6.size), by have := hb.size; omega⟩
theorem Cops.setLow {wx : World} {base : Nat} {v : Value} {rs : List (Int × Int)} (hx : Cops wx base v rs) {p : Addr} (hp : p.block < base) (u : Value) : Cops (wx.setCell p u) base v rs :=
  World.ownsRow.kept hx (setCell_grown wx p u) (by
    cases hv : v.ownBlock with
    | none => exact .inl rfl
    | some k => exact .inr (by have := own_base hx k hv; simp only [ne_eq, Option.some.injEq]; omega))
/-- The kill set is stored anew. -/
theorem Caning.kill {B' : Option Addr} {m' : Nat} (d' : Nat) {zs' : List Nat} (h : Caning w W A n c v rs zs wr) (hk : KW wr w.heap.size (w.heap.size + 3) B' m' zs') :
    Caning w W A n c v rs zs' ((wr.setCell ⟨w.heap.size + 1, 0, none⟩ (.int .i64 W)).setCell ⟨w.heap.size + 1, 1, none⟩ (.slice B' m' d')) := by
  obtain ⟨h1, ⟨B, m, d, h2, h3⟩, h4, h5, h6, h7⟩ := h
  refine ⟨(h1.far (by simp) _).far (by simp) _, ⟨B', m', d', h2.set _ _ _ _, (hk.far (by simp) (by simp) _).far (by simp) (by simp) _⟩, (h4.far (by simp) _).far (by simp) _, (h5.setLow (by simp) _).setLow (by simp) _, (h6.setCell (by simp) _).setCell (by simp) _, ?_⟩
  simpa [World.setCell] using h7
/-- The row of copies changes. -/
theorem Caning.row {v' : Value} {rs' : List (Int × Int)} (h : Caning w W A n c v rs zs wr) (hg : wr.grownBy w' v.ownBlock) (hc : Cops w' (w.heap.size + 3) v' rs') : Caning w W A n c v' rs' zs w' := by
  obtain ⟨h1, ⟨B, m, d, h2, h3⟩, h4, h5, h6, h7⟩ := h
  have ne : ∀ b, b < w.heap.size + 3 → some b ≠ v.ownBlock := fun b hb e => by have := own_base h5 b e.symm; omega
  exact ⟨h1.grown hg (ne _ (by omega)), ⟨B, m, d, h2.grown hg (ne _ (by omega)), h3.grown (by omega) h5 hg h6.size⟩, h4.grown hg (ne _ (by omega)), hc, h6.grown hg h6.size (fun k e => by have := own_base h5 k e; omega), by have := hg.size; omega⟩
theorem Caning.start (w : World) (W : Nat) (A B : Option Addr) (n c m d : Nat) {ks : List Nat} (hB : Arg w B m ks) :
    Caning w W A n c (.slice none 0 0) [] ks (((w.alloc (.cells #[.int .i64 W, .slice A n c] 25)).alloc (.cells #[.int .i64 W, .slice B m d] 25)).alloc (.cells #[.int .i64 0, .slice none 0 0, .int .i64 0, .slice none 0 0, .slice none 0 0] 28)) := by
  have b1 := ((Box.new w W A n c).alloc (.cells #[.int .i64 W, .slice B m d] 25)).alloc (.cells #[.int .i64 0, .slice none 0 0, .int .i64 0, .slice none 0 0, .slice none 0 0] 28)
  have b2 := (Box.new (w.alloc (.cells #[.int .i64 W, .slice A n c] 25)) W B m d).alloc (.cells #[.int .i64 0, .slice none 0 0, .int .i64 0, .slice none 0 0, .slice none 0 0] 28)
  have b3 := Fb.new ((w.alloc (.cells #[.int .i64 W, .slice A n c] 25)).alloc (.cells #[.int .i64 W, .slice B m d] 25)) #[.int .i64 0, .slice none 0 0, .int .i64 0, .slice none 0 0, .slice none 0 0] 28
  have bl := below3 w (.cells #[.int .i64 W, .slice A n c] 25) (.cells #[.int .i64 W, .slice B m d] 25) (.cells #[.int .i64 0, .slice none 0 0, .int .i64 0, .slice none 0 0, .slice none 0 0] 28)
  simp only [World.size_alloc] at b2 b3
  exact ⟨b1, ⟨B, m, d, b2, hB.len, .inl (hB.lies.keep (fun p hp => bl.cell hp) (Nat.le_refl _))⟩, b3, World.ownsRow_nil _ _ _ _, bl, by simp⟩
end
end Go.Proofs.Ytmbelhdkaepohaa
