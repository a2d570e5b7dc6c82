/- The package's Find of a node. -/
import Derived.Test.YtfapgnbnfhpicaaGreatDoorLst2
namespace Go.Proofs.YtfapgnbnfhpicaaGreatDoor
set_option maxRecDepth 20000
set_option linter.unusedVariables false
set_option linter.unusedSimpArgs false
open Go.ChangeShapes Go.WideShapes Go.ChangeAt Go.RowKit

def agN (x : Nd) : Value := .agg #[.int .i64 x.kd, .int .i64 x.fn, .int .i64 x.bk, .int .i64 x.st]
def findAt (L : List Nd) (n : Nd) (i : Nat) : Option Int := if L[i]? = some n then some (i : Int) else none
/-- P7.2. -/
def findI (L : List Nd) (n : Nd) : Int := ((List.range L.length).findSome? (findAt L n)).getD (-1)
theorem find_no {L : List Nd} {n y : Nd} {i : Nat} (h : L[i]? = some y) (hne : y ≠ n) : findAt L n i = none := by unfold findAt; rw [h, if_neg (by simpa using hne)]
theorem find_yes {L : List Nd} {n : Nd} {i : Nat} (h : L[i]? = some n) : findAt L n i = some (i : Int) := by unfold findAt; rw [if_pos h]
theorem find_hit {L : List Nd} {n : Nd} {k : Nat} (h0 : (List.range k).findSome? (findAt L n) = none) (hk : k < L.length) (h : L[k]? = some n) : findI L n = k := by unfold findI; rw [some_hit h0 hk (find_yes h)]; rfl
theorem find_end {L : List Nd} {n : Nd} {k : Nat} (h0 : (List.range k).findSome? (findAt L n) = none) (hk : k = L.length) : findI L n = -1 := by subst hk; unfold findI; rw [h0]; rfl
theorem Nd.cells {w : World} {ex : List (Option Nat)} {A : Option Addr} {l : List Nd} (h : EAt w ex A (l.flatMap ndc)) {i : Nat} {x : Nd} (hx : l[i]? = some x) :
    ∃ ad : Addr, A = some ad ∧ ad.block < w.heap.size ∧ w.cell? (ad.add (i * 4)) = some (.int .i64 x.kd) ∧ w.cell? ⟨(ad.add (i * 4)).block, (ad.add (i * 4)).off + 1, none⟩ = some (.int .i64 x.fn) ∧
      w.cell? ⟨(ad.add (i * 4)).block, (ad.add (i * 4)).off + 2, none⟩ = some (.int .i64 x.bk) ∧ w.cell? ⟨(ad.add (i * 4)).block, (ad.add (i * 4)).off + 3, none⟩ = some (.int .i64 x.st) := by
  obtain ⟨ad, e, hs, hc⟩ := h.part ndc_len (by omega) hx
  exact ⟨ad, e, hs.1, hc 0 _ rfl, by rw [cell_next ad (i * 4) 0]; exact hc 1 _ rfl, by rw [cell_next ad (i * 4) 1]; exact hc 2 _ rfl, by rw [cell_next ad (i * 4) 2]; exact hc 3 _ rfl⟩
theorem list_few {L : List Nd} (h : L.length ≤ 200000) : L.length ≤ 200000 := h
set_option maxHeartbeats 6400000 in
theorem find_any (x : PH) (n : Nd) (ex : List (Option Nat)) (w : World) (h : PHok w ex x) (hs : Shp w) :
    Calls Tryz.prog 122 #[.agg #[.slice x.A x.n x.c], agN n] w fun e w' => e = .returned (.int .i64 (findI (listN x.p) n)) ∧ Below w.heap.size w w' := by
  obtain ⟨nk, nf, nb, ns⟩ := n
  unfold agN
  simp only
  have hb0 : Below w.heap.size w ((w.alloc (.cells #[.slice x.A x.n x.c] 44)).alloc (.cells #[.int .i64 nk, .int .i64 nf, .int .i64 nb, .int .i64 ns] 75)) := ((Below.refl w.heap.size w).alloc (Nat.le_refl _) _).alloc (by rw [World.size_alloc]; omega) _
  have HB0 := hid hb0
  have HG0 := hid (show Fb ((w.alloc (.cells #[.slice x.A x.n x.c] 44)).alloc (.cells #[.int .i64 nk, .int .i64 nf, .int .i64 nb, .int .i64 ns] 75)) (w.heap.size + 1) #[.int .i64 nk, .int .i64 nf, .int .i64 nb, .int .i64 ns] 75 by have := Fb.new (w.alloc (.cells #[.slice x.A x.n x.c] 44)) #[.int .i64 nk, .int .i64 nf, .int .i64 nb, .int .i64 ns] 75; rwa [World.size_alloc] at this)
  have HC := hid (list_any x ex _ (PHok.below h hb0) (hs.keep (hb0.block 1 hs.pos0)))
  clear h hb0 hs
  generalize listN x.p = L at *
  go_enter Tryz.func122, Tryz.ntmps122
  go_wp2_with fail
  generalize (w.alloc (.cells #[.slice x.A x.n x.c] 44)).alloc (.cells #[.int .i64 nk, .int .i64 nf, .int .i64 nb, .int .i64 ns] 75) = w0 at HB0 HG0 HC ⊢
  refine HC.out.mono ?_
  rintro e w1 ⟨A, c, rfl, hE, hLl, hb1⟩
  have HE := hid (hE [] (by simp))
  have HB1 := hid (below_step HB0.out hb1)
  have HG1 := hid (HG0.out.below hb1 HG0.out.lt)
  clear hE hb1 HB0 HG0 HC
  go_wp2_with fail
  go_loopw [5, 6, 10] (fun _ _ iv wr => ∃ k : Nat, k ≤ L.length ∧ iv = .int .i64 k ∧ Hid ((List.range k).findSome? (findAt L ⟨nk, nf, nb, ns⟩) = none) ∧ Hid (Below w.heap.size w wr) ∧ Hid (EAt wr [] A (L.flatMap ndc)) ∧ Hid (Fb wr (w.heap.size + 1) #[.int .i64 nk, .int .i64 nf, .int .i64 nb, .int .i64 ns] 75)) (fun _ _ iv _ => L.length - (intOf iv).toNat)
  case atStart => exact ⟨0, by omega, rfl, hid rfl, HB1.out, HE.out, HG1.out⟩
  case round =>
    clear HB1 HE HG1
    obtain ⟨k, hk, rfl, hX, hB, hE, hG⟩ := hrel
    by_cases hlt : k < L.length
    · obtain ⟨y, hy, hym⟩ := get_at (rfl : L.length = L.length) hlt
      obtain ⟨ad, hA, had, hc1, hc2, hc3, hc4⟩ := Nd.cells hE.out hy
      subst hA
      have Hget := hid hy
      obtain ⟨yk, yf, yb, ys⟩ := y
      simp only at hc1 hc2 hc3 hc4
      have ha := (Below.refl wr.heap.size wr).alloc (Nat.le_refl _) (.cells #[.int .i64 yk, .int .i64 yf, .int .i64 yb, .int .i64 ys] 75)
      have HB2 := hid (below_step hB.out ha)
      have HE2 := hid (hE.out.go (Go2.below ha))
      have HG2 := hid (hG.out.below ha hG.out.lt)
      have HF2 := hid (Fb.new wr #[.int .i64 yk, .int .i64 yf, .int .i64 yb, .int .i64 ys] 75)
      clear hy hym ha
      obtain ⟨g0, g1, g2, g3⟩ := Fb.four hG.out
      have hgl := hG.out.lt
      clear hB hE hG
      by_cases e1 : yk = nk ∧ yf = nf ∧ yb = nb ∧ ys = ns
      · obtain ⟨rfl, rfl, rfl, rfl⟩ := e1
        as_aux_lemma =>
          have Hr := hid (find_hit hX.out hlt Hget.out)
          go_wp2_with fail
          go_ret
          exact ⟨ret_i Hr.out, HB2.out⟩
      · have Hr := hid (some_step hX.out (find_no (n := ⟨nk, nf, nb, ns⟩) Hget.out (fun e => e1 (by injection e with a b c d; exact ⟨a, b, c, d⟩))))
        have hcs : (yk == nk) = false ∨ ((yk == nk) = true ∧ (yf == nf) = false) ∨ ((yk == nk) = true ∧ (yf == nf) = true ∧ (yb == nb) = false) ∨ ((yk == nk) = true ∧ (yf == nf) = true ∧ (yb == nb) = true ∧ (ys == ns) = false) := by
          by_cases h1 : yk = nk
          · by_cases h2 : yf = nf
            · by_cases h3 : yb = nb
              · have h4 : ys ≠ ns := fun h => e1 ⟨h1, h2, h3, h⟩
                simp [h1, h2, h3, h4]
              · simp [h1, h2, h3]
            · simp [h1, h2]
          · simp [h1]
        clear e1
        rcases hcs with t1 | ⟨t1, t2⟩ | ⟨t1, t2, t3⟩ | ⟨t1, t2, t3, t4⟩
        all_goals
          as_aux_lemma =>
            go_wp2_with fail
            go_roundw
            case rel => exact ⟨k + 1, by omega, by go_num, Hr, HB2, HE2, HG2⟩
            case measure => simp [intOf]; omega
    · as_aux_lemma =>
        obtain rfl : k = L.length := by omega
        have Hr := hid (find_end hX.out rfl)
        go_wp2_with fail
        go_ret
        exact ⟨ret_i Hr.out, hB.out⟩
end Go.Proofs.YtfapgnbnfhpicaaGreatDoor
