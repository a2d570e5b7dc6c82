/- slices.SortFunc over copies, by the package's compare: the row holds the same copies in order, and nothing else changes but new memory. -/
import Derived.Test.YtmbelhdkaepohaaShelf
import Derived.Test.YtmbelhdkaepohaaTfun
import Derived.Test.YtmbelhdkaepohaaDc
namespace Go.Proofs.Ytmbelhdkaepohaa
set_option maxRecDepth 20000
open Go.ChangeShapes Go.WideShapes Go.ChangeAt Go.RowKit

def encC (p : Int × Int) : List Value := [.int .i64 p.1, .int .i64 p.2]
theorem cmpC_lt (p q : Int × Int) : Go.Proofs.ltOf cmpC p q = beforeB p q := by
  unfold Go.Proofs.ltOf cmpC orI cmpI beforeB
  rcases Int.lt_trichotomy p.1 q.1 with h | h | h
  · simp [h]
  · rw [h]; simp
    rcases Int.lt_trichotomy p.2 q.2 with h2 | h2 | h2
    · simp [h2]
    · rw [h2]; simp
    · have := Int.not_lt.2 (Int.le_of_lt h2); simp [this, h2]
  · have h1 := Int.not_lt.2 (Int.le_of_lt h)
    have h3 : p.1 ≠ q.1 := by omega
    simp [h1, h, h3]
theorem before_irrefl (p : Int × Int) : beforeB p p = false := by unfold beforeB; simp
theorem before_trans {p q r : Int × Int} (h1 : beforeB p q = true) (h2 : beforeB q r = true) : beforeB p r = true := by
  unfold beforeB at *; simp at *; omega
theorem before_not {p q : Int × Int} (h1 : beforeB p q = false) (h2 : beforeB q p = false) : p = q := by
  unfold beforeB at *
  simp at h1 h2
  have e1 : p.1 = q.1 := by omega
  have e2 : p.2 = q.2 := by omega
  exact Prod.ext e1 e2
theorem swoC : Go.Sort.SWO (Go.Proofs.ltOf cmpC) where
  irrefl x := by rw [cmpC_lt]; exact before_irrefl x
  trans x y z h1 h2 := by rw [cmpC_lt] at *; exact before_trans h1 h2
  ntrans x y z h1 h2 := by
    rw [cmpC_lt] at *
    unfold beforeB at *
    simp at *
    omega

theorem world3 (w : World) (a b c : Obj) (n : Nat) : (((w.alloc a).alloc b).drewN n).alloc c = Go.Sort.grow (w.drewN n) #[a, b, c] := by
  unfold World.alloc World.drewN Go.Sort.grow
  have e : ((w.heap.push a).push b).push c = w.heap ++ #[a, b, c] := Array.toList_inj.1 (by simp)
  simp only [e]
theorem cmpLaysC (blk off size : Nat) (w : World) : Go.Proofs.CmpLays Try.prog 62 #[] encC 2 cmpC blk off size w := by
  intro m os dk hs x y
  generalize Go.Proofs.sortWorldK encC 2 w blk off m dk os = W
  refine (compare_any x.1 x.2 y.1 y.2 W).mono ?_
  rintro e w' ⟨he, ⟨n, a, b, c, hw⟩, _⟩
  exact ⟨he, n, #[a, b, c], hw.trans (world3 W a b c n)⟩

theorem pairs_enc (cs : List (Int × Int)) : pairs cs = cs.flatMap encC := rfl
theorem flat_get (cs : List (Int × Int)) (t : Nat) (h : t < cs.length * 2) : (pairs cs)[t]? = some (Go.Sort.flatK encC 2 cs.toArray)[t]! := by
  rw [Go.Sort.get_flatK _ _ _ _ (by simpa using h)]
  have hq : t / 2 < cs.length := by omega
  have e : cs.toArray[t / 2]! = cs[t / 2] := by rw [getElem!_pos cs.toArray (t / 2) (by simpa using hq)]; simp
  rw [e]
  obtain ⟨h1, h2⟩ := pairs_get (List.getElem?_eq_getElem hq)
  generalize cs[t / 2] = p at h1 h2
  rcases (by omega : t % 2 = 0 ∨ t % 2 = 1) with h0 | h0
  · rw [h0]
    rw [show t / 2 * 2 = t from by omega] at h1
    exact h1
  · rw [h0]
    rw [show t / 2 * 2 + 1 = t from by omega] at h2
    exact h2

theorem holds_of_row {w : World} {g : Nat} {cur : Array Value} {cs : List (Int × Int)} (h1 : w.heap[g]? = some (.cells cur 48 (0, 0))) (h2 : cur.toList.take (cs.length * 2) = pairs cs) : Go.Sort.HoldsK encC 2 w g 0 cs.toArray := by
  intro j hj
  rw [Go.Sort.size_flatK] at hj
  have hj' : j < cs.length * 2 := by simpa using hj
  have hg := flat_get cs j hj'
  rw [← h2, List.getElem?_take, if_pos hj'] at hg
  refine ⟨?_, by simp [World.frozen?, h1]⟩
  simp only [World.cell?, h1]
  rw [Nat.zero_add]
  simpa using hg
theorem ahead_heap (w : World) (n : Nat) : (Go.Sort.ahead w n).heap = w.heap := rfl
/-- The row behind the sort. -/
theorem sorted_row {w : World} {g m : Nat} {cur : Array Value} {cs ds : List (Int × Int)} {os : Array Obj} (h1 : w.heap[g]? = some (.cells cur 48 (0, 0))) (h2 : cur.toList.take (cs.length * 2) = pairs cs) (hl : ds.length = cs.length) :
    (∃ cur', (Go.Proofs.sortWorldK encC 2 w g 0 m ds.toArray os).heap[g]? = some (.cells cur' 48 (0, 0)) ∧ cur'.size = cur.size ∧ cur'.toList.take (ds.length * 2) = pairs ds) ∧ w.grownBy (Go.Proofs.sortWorldK encC 2 w g 0 m ds.toArray os) (some g) := by
  have hg : g < w.heap.size := by
    rcases Nat.lt_or_ge g w.heap.size with h | h
    · exact h
    · rw [Array.getElem?_eq_none h] at h1; cases h1
  have hh := Go.Proofs.holdsK_sortWorldK_c encC 2 w g 0 cs.toArray ds.toArray m os (holds_of_row h1 h2) hg (by simp [hl])
  have hheap : (Go.Proofs.sortWorldK encC 2 w g 0 m ds.toArray os).heap[g]? = some (.cells (Go.Sort.putCells id 0 (Go.Sort.flatK encC 2 ds.toArray) cur) 48 (0, 0)) := by
    unfold Go.Proofs.sortWorldK Go.Sort.putRowK Go.Sort.putRow
    rw [Go.Sort.heap_grow_old _ _ (by simp [Go.Sort.mapBlock, Go.Sort.ahead]; exact hg)]
    simp only [Go.Sort.mapBlock, Go.Sort.ahead, Array.getElem?_modify, if_true, h1, Option.map_some, Go.Sort.onCells]
  refine ⟨⟨_, hheap, by simp [Go.Sort.putCells], ?_⟩, ?_⟩
  · apply List.ext_getElem?
    intro t
    by_cases ht : t < ds.length * 2
    · rw [List.getElem?_take, if_pos ht, flat_get ds t ht]
      have := (hh t (by rw [Go.Sort.size_flatK]; simpa using ht)).1
      rw [Nat.zero_add] at this
      simp only [World.cell?, hheap] at this
      simpa using this
    · rw [List.getElem?_take, if_neg ht, List.getElem?_eq_none (by rw [pairs_length]; omega)]
  · refine ⟨rfl, rfl, rfl, Go.Proofs.size_sortWorldK_c encC 2 w g 0 m ds.toArray os, fun k hk hne => ?_⟩
    unfold Go.Proofs.sortWorldK Go.Sort.putRowK Go.Sort.putRow
    rw [Go.Sort.heap_grow_old _ _ (by simp [Go.Sort.mapBlock, Go.Sort.ahead]; exact hk)]
    simp only [Go.Sort.mapBlock, Go.Sort.ahead, Array.getElem?_modify]
    rw [if_neg (by intro e; exact hne (by rw [e]))]

/-- The copies in order. -/
def srt (cs : List (Int × Int)) : List (Int × Int) := cs.mergeSort fun x y => !(Go.Proofs.ltOf cmpC) y x
theorem srt_perm (cs : List (Int × Int)) : (srt cs).Perm cs := List.mergeSort_perm _ _
theorem srt_len (cs : List (Int × Int)) : (srt cs).length = cs.length := (srt_perm cs).length_eq
theorem srt_sorted (cs : List (Int × Int)) : (srt cs).Pairwise fun x y => beforeB y x = false := by
  have h := List.pairwise_mergeSort (le := fun x y => !(Go.Proofs.ltOf cmpC) y x)
    (fun a b c h1 h2 => by
      simp only [cmpC_lt, Bool.not_eq_true'] at *
      unfold beforeB at *; simp at *; omega)
    (fun a b => by
      simp only [cmpC_lt]
      unfold beforeB; simp; omega) cs
  refine h.imp ?_
  intro a b hab
  simpa [cmpC_lt] using hab

/-- SortFunc over a row of copies of one's own. -/
theorem sort_any (base n : Nat) (v : Value) (cs : List (Int × Int)) (w : World) (hn : cs.length = n) (h : Cops w base v cs) (hb : n < 100000) :
    ∃ C q, v = .slice C n q ∧ Calls Try.prog 66 #[.slice C n q, .func (.func 62) #[] #[]] w fun e w' => e = .returned (.tuple #[]) ∧ Cops w' base v (srt cs) ∧ w.grownBy w' v.ownBlock := by
  obtain ⟨hl, h0 | ⟨g, cap, cur, rfl, hbg, h1, h2, h3, h4, h5⟩⟩ := h
  · obtain ⟨rfl, h0⟩ := h0
    have e0 : cs = [] := List.eq_nil_of_length_eq_zero h0
    subst e0
    simp at hn; subst hn
    refine ⟨none, 0, rfl, (Go.Proofs.AnyF.slices_SortFunc_none Try.sortC none 0 (.func (.func 62) #[] #[]) w).mono ?_⟩
    rintro e w' ⟨he, hw⟩
    subst hw
    exact ⟨he, by unfold srt; rw [List.mergeSort_nil]; exact World.ownsRow_nil _ _ _ _, grown_of_below (Below.refl _ _) _⟩
  · refine ⟨some ⟨g, 0, none⟩, cap, by rw [hn], ?_⟩
    have hg : g < w.heap.size := by
      rcases Nat.lt_or_ge g w.heap.size with h | h
      · exact h
      · rw [Array.getElem?_eq_none h] at h1; cases h1
    have eg : ∀ args w, (callFunc 62 args).run Try.prog w = .ok (.enter 62 args) w := enters_of Try.func62 (by kernel_rfl) rfl
    have hc := Go.Proofs.AnyQ.slices_SortFunc_total Try.sortC 2 Try.isAgg48 Try.sizeOf48 encC (fun _ => rfl) (fun x v hv => by simp [encC] at hv; rcases hv with rfl | rfl <;> rfl) cmpC swoC 62 #[] g 0 cap cs.toArray w eg (cmpLaysC g 0 _ w) (holds_of_row h1 h5) hg (by simp; omega)
      (fun x y a b => by rw [cmpC_lt] at a b; exact before_not a b)
    have hs : cs.toArray.size = n := by simp [hn]
    rw [hs] at hc
    refine (show Calls Try.prog 66 _ _ _ from hc).mono ?_
    rintro e w' ⟨he, m, os, hw⟩
    have hw2 : w' = Go.Proofs.sortWorldK encC 2 w g 0 m (srt cs).toArray os := by rw [hw]; rfl
    obtain ⟨⟨cur', k1, k2, k3⟩, hgr⟩ := sorted_row (ds := srt cs) (m := m) (os := os) h1 h5 (srt_len cs)
    rw [← hw2] at k1 hgr
    refine ⟨he, ⟨by rw [pairs_length]; omega, .inr ⟨g, cap, cur', by rw [srt_len], hbg, k1, by rw [srt_len]; exact h2, h3, by rw [k2, h4], k3⟩⟩, hgr⟩
end Go.Proofs.Ytmbelhdkaepohaa
