/- slices.Compact over copies: runs of equal copies become one; nothing else changes. -/
import Derived.Test.YtmbelhdkaepohaaSrt
import Derived.Lib.SlicesCompact
import Derived.Lib.SliceRun
import Derived.Deep.LoopGhost
import Derived.BigQuiet
namespace Go.Proofs.Ytmbelhdkaepohaa
set_option maxRecDepth 20000
open Go.ChangeShapes Go.WideShapes Go.ChangeAt Go.RowKit

def zs2 (n : Nat) : List Value := (Builtin.zeroCells #[.int .i64 0, .int .i64 0] n).toList
theorem zs2_len (n : Nat) : (zs2 n).length = n * 2 := by unfold zs2; simp [Builtin.zeroCells]
theorem zs2_one (n : Nat) : ∀ v ∈ zs2 n, v.oneCell' = true := by
  unfold zs2
  intro v hv
  simp [Builtin.zeroCells] at hv
  obtain ⟨a, ha, rfl⟩ := hv
  rcases (by omega : a % 2 = 0 ∨ a % 2 = 1) with h | h <;> simp [h, Value.oneCell']
theorem run_clear_pairs (w : World) (ty : TypeId) (b o n c : Nat) (hn : 0 < n)
    (hc : ∀ j, j < n * 2 → (w.cell? ⟨b, o + j, none⟩).isSome = true) (hf : ∀ j, j < n * 2 → w.frozen? ⟨b, o + j, none⟩ = false) :
    (Builtin.clear_ #[26] ty #[.slice (some ⟨b, o, none⟩) n c]).run Try.prog w = .ok (.tuple #[]) (w.setCells b o (zs2 n)) := by
  have hst := run_storeCells_cells (P := Try.prog) b o (zs2 n) 0 w (by rw [zs2_len]; simpa using hc) (by rw [zs2_len]; simpa using hf) (zs2_one n)
  simp only [Nat.add_zero] at hst
  obtain ⟨m, rfl⟩ : ∃ m, n = m + 1 := ⟨n - 1, by omega⟩
  unfold zs2 at hst ⊢
  simp [Builtin.clear_, run_underlying Try.underlying26, Try.zeroValue48, Value.cells, hst]

/-- The row with one element set. -/
theorem flat_set (d : Array (Int × Int)) (i : Nat) (p : Int × Int) (hi : i < d.size) : Go.Sort.setMany (Go.Sort.flatK encC 2 d) (i * 2) (encC p) = Go.Sort.flatK encC 2 (d.setIfInBounds i p) := by
  refine Go.Sort.ext_get! (by simp) fun t ht => ?_
  have ht' : t < d.size * 2 := by simpa using ht
  rw [Go.Sort.get_setMany _ _ _ _ (by simpa using ht'), Go.Sort.get_flatK _ _ _ _ ht', Go.Sort.get_flatK _ _ _ _ (by simpa using ht')]
  by_cases h : i * 2 ≤ t ∧ t < i * 2 + (encC p).length
  · rw [if_pos h]
    have h' : t < i * 2 + 2 := h.2
    rw [show t / 2 = i from by omega, Go.Sort.getElem!_set_same d i p hi, show t - i * 2 = t % 2 from by omega]
  · rw [if_neg h]
    have h' : ¬(i * 2 ≤ t ∧ t < i * 2 + 2) := h
    rw [Go.Sort.getElem!_set_other d i (t / 2) p (by omega)]

theorem store_pair {w wr : World} {q g : Nat} {dk : Array (Int × Int)} {i : Nat} (hi : i < dk.size) (hwr : wr = Go.Sort.putRowK encC 2 (Go.Sort.ahead w q) g 0 dk) (p : Int × Int) :
    (wr.setCell ⟨g, i * 2, none⟩ (.int .i64 p.1)).setCell ⟨g, i * 2 + 1, none⟩ (.int .i64 p.2) = Go.Sort.putRowK encC 2 (Go.Sort.ahead w q) g 0 (dk.setIfInBounds i p) := by
  subst hwr
  unfold Go.Sort.putRowK
  have h := Go.Sort.setCells_putRow (Go.Sort.ahead w q) g 0 (encC p) (i * 2) (Go.Sort.flatK encC 2 dk) (by rw [Go.Sort.size_flatK]; show i * 2 + 2 ≤ _; omega)
  rw [flat_set dk i p hi] at h
  rw [← h, Nat.zero_add]
  rfl

theorem holds_pair {w : World} {g : Nat} {d : Array (Int × Int)} (h : Go.Sort.HoldsK encC 2 w g 0 d) {i : Nat} (hi : i < d.size) :
    (w.cell? ⟨g, i * 2, none⟩ = some (.int .i64 (d[i]!).1) ∧ w.cell? ⟨g, i * 2 + 1, none⟩ = some (.int .i64 (d[i]!).2)) ∧ w.frozen? ⟨g, i * 2, none⟩ = false ∧ w.frozen? ⟨g, i * 2 + 1, none⟩ = false := by
  obtain ⟨c1, f1⟩ := h.cell (i := i) (c := 0) hi (by omega)
  obtain ⟨c2, f2⟩ := h.cell (i := i) (c := 1) hi (by omega)
  simp only [Nat.zero_add, Nat.add_zero] at c1 c2 f1 f2
  exact ⟨⟨c1, c2⟩, f1, f2⟩

theorem take_pairs {F : Array Value} {dk : Array (Int × Int)} {L : List (Int × Int)} {kk : Nat} (h : ∀ t, t < kk * 2 → F[t]! = (Go.Sort.flatK encC 2 dk)[t]!) (hl : L.length = kk) (low : ∀ j, j < kk → L[j]? = some dk[j]!) (hk : kk ≤ dk.size) (hF : kk * 2 ≤ F.size) :
    F.toList.take (L.length * 2) = pairs L := by
  rw [hl]
  apply List.ext_getElem?
  intro t
  by_cases ht : t < kk * 2
  · rw [List.getElem?_take, if_pos ht]
    have h1 := h t ht
    rw [Go.Sort.get_flatK _ _ _ _ (by omega)] at h1
    obtain ⟨g1, g2⟩ := pairs_get (low (t / 2) (by omega))
    have h2 : F.toList[t]? = some F[t]! := by
      rw [Array.getElem?_toList, Array.getElem?_eq_getElem (by omega), getElem!_pos F t (by omega)]
    rw [h2, h1]
    generalize dk[t / 2]! = p at g1 g2
    rcases (by omega : t % 2 = 0 ∨ t % 2 = 1) with h0 | h0
    · rw [h0]
      rw [show t / 2 * 2 = t from by omega] at g1
      exact g1.symm
    · rw [h0]
      rw [show t / 2 * 2 + 1 = t from by omega] at g2
      exact g2.symm
  · rw [List.getElem?_take, if_neg ht, List.getElem?_eq_none (by rw [pairs_length]; omega)]

/-- Compact over a row of copies of one's own that starts a block. -/
theorem compact_arr (g cap : Nat) (d : Array (Int × Int)) (w : World) (hH : Go.Sort.HoldsK encC 2 w g 0 d) (hsz : d.size < 100000) (hcap : d.size ≤ cap) (h2 : ¬ d.size < 2) :
    Calls Try.prog 67 #[.slice (some ⟨g, 0, none⟩) d.size cap] w fun e w' => e = .returned (.slice (some ⟨g, 0, none⟩) (Lib.compactUpTo d d.size).length cap) ∧
      ∃ (q : Nat) (F : Array Value), w' = Go.Sort.putRow id (Go.Sort.ahead w q) g 0 F ∧ F.size = d.size * 2 ∧ F.toList.take ((Lib.compactUpTo d d.size).length * 2) = pairs (Lib.compactUpTo d d.size) := by
  go_enter Try.func67, Try.ntmps67
  go_wp2
  go_loopg [3] d.size (fun g' s3 wr => ∃ k q : Nat, 1 ≤ k ∧ k ≤ d.size ∧ d.size - k ≤ g' ∧ s3 = .int .i64 k ∧ wr = w.drewN q ∧ ∀ j, j < k → Lib.keeps d j = true)
  case atStart => exact ⟨1, 0, Nat.le_refl _, by omega, by omega, rfl, rfl, Lib.keeps_lt_one d⟩
  case round =>
    obtain ⟨k, q, hk1, hk, hg, rfl, rfl, hall⟩ := hrel
    have hHq : Go.Sort.HoldsK encC 2 (w.drewN q) g 0 d := hH
    have HH := hid hH; have A := hid hall
    clear hH hall
    by_cases hlt : k < d.size
    · obtain ⟨⟨c1, c2⟩, -⟩ := holds_pair hHq hlt
      obtain ⟨⟨c3, c4⟩, -⟩ := holds_pair hHq (i := k - 1) (by omega)
      clear hHq
      generalize hwq : w.drewN q = wq at *
      have Hwq := hid hwq
      clear hwq
      generalize hx : d[k]! = x at c1 c2
      generalize hy : d[k - 1]! = y at c3 c4
      have B := hid (And.intro hx hy)
      clear hx hy
      obtain ⟨x1, x2⟩ := x
      obtain ⟨y1, y2⟩ := y
      have s1 : IntKind.i64.wrap ((k : Int) - 1) = (k : Int) - 1 := IntWalk.i64_in _ (by omega)
      have s2 : (1 : Int) ≤ (k : Int) := by omega
      have s3 : ((k : Int) - 1) < (d.size : Int) := by omega
      have s4 : ((k : Int) - 1).toNat = k - 1 := by omega
      by_cases h1 : x1 = y1
      · subst h1
        by_cases h2' : x2 = y2
        · subst h2'
          go_wp2_with fail
          go_quiet (fail)
          clear s1 s2 s3 s4 c1 c2 c3 c4
          go_wp2_with fail
          have hw0 : wq.drewN nq = Go.Sort.putRowK encC 2 (Go.Sort.ahead w (q + nq)) g 0 d := by
            rw [← Hwq.out, World.drewN_drewN]; exact (Go.Sort.putRowK_self encC 2 (Go.Sort.ahead w (q + nq)) g 0 d HH.out).symm
          have Hw0 := hid hw0
          clear hw0
          generalize wq.drewN nq = w0 at *
          go_loopg [3, 5] d.size (fun g' s3 s5 wr => ∃ (kk k2 q2 : Nat) (dk : Array (Int × Int)), s3 = .int .i64 kk ∧ s5 = .int .i64 k2 ∧ 1 ≤ k2 ∧ k + k2 ≤ d.size ∧ d.size - (k + k2) ≤ g' ∧ wr = Go.Sort.putRowK encC 2 (Go.Sort.ahead w q2) g 0 dk ∧ Lib.CompInv d (k + k2) kk dk)
          case atStart => exact ⟨k, 1, q + nq, d, rfl, rfl, Nat.le_refl _, by omega, by omega, Hw0.out, Lib.CompInv.start A.out (Lib.keeps_neg (by omega) (by rw [B.out.1, B.out.2]))⟩
          case round =>
            obtain ⟨kk, k2, q2, dk, rfl, rfl, hk2, hle, hg2, hwr, hI⟩ := hrel
            have hkk := hI.lt
            have hds := hI.size
            have hHk : Go.Sort.HoldsK encC 2 wr g 0 dk := by rw [hwr]; exact Go.Sort.holdsK_putRowK encC 2 _ g 0 d dk HH.out hds
            have W2 := hid hwr
            have I2 := hid hI
            clear hwr Hw0
            by_cases hlt2 : k + k2 < d.size
            · obtain ⟨⟨cm1, cm2⟩, -⟩ := holds_pair hHk (i := k + k2) (by omega)
              obtain ⟨⟨cp1, cp2⟩, -⟩ := holds_pair hHk (i := k + k2 - 1) (by omega)
              obtain ⟨⟨ck1, ck2⟩, fk1, fk2⟩ := holds_pair hHk (i := kk) (by omega)
              rw [hI.high (k + k2) (by omega), show (k + k2) * 2 = k * 2 + k2 * 2 by omega] at cm1 cm2
              rw [hI.high (k + k2 - 1) (by omega), show (k + k2 - 1) * 2 = k * 2 + (k2 - 1) * 2 by omega] at cp1 cp2
              clear hHk hI
              generalize hu : d[k + k2]! = u at cm1 cm2
              generalize hv : d[k + k2 - 1]! = v at cp1 cp2
              generalize dk[kk]! = old at ck1 ck2
              have C := hid (And.intro hu hv)
              clear hu hv
              obtain ⟨u1, u2⟩ := u
              obtain ⟨v1, v2⟩ := v
              obtain ⟨old1, old2⟩ := old
              have cm1x := hid cm1
              have cm2x := hid cm2
              have s5 : IntKind.i64.wrap ((k2 : Int) - 1) = (k2 : Int) - 1 := IntWalk.i64_in _ (by omega)
              have s6 : (1 : Int) ≤ (k2 : Int) := by omega
              have s7 : ((k2 : Int) - 1) < ((d.size - k : Nat) : Int) := by omega
              have s8 : ((k2 : Int) - 1).toNat = k2 - 1 := by omega
              by_cases e1 : u1 = v1
              · subst e1
                by_cases e2 : u2 = v2
                · subst e2
                  go_wp2_with fail
                  go_quiet (fail)
                  clear s5 s6 s7 s8 cm1 cm2 cp1 cp2 ck1 ck2 fk1 fk2
                  go_wp2
                  go_roundg (d.size - (k + (k2 + 1)))
                  case measure => omega
                  case rel => exact ⟨kk, k2 + 1, q2 + nq, dk, rfl, by go_num, by omega, by omega, Nat.le_refl _, by rw [W2.out]; exact Go.Sort.putRowK_drewN encC 2 w q2 nq g 0 dk, I2.out.skip (Lib.keeps_neg (by omega) (by rw [C.out.1, C.out.2]))⟩
                · have E := hid e2
                  go_wp2_with fail
                  go_quiet (fail)
                  clear s5 s6 s7 s8 cm1 cm2 cp1 cp2
                  have hwd : wr.drewN nq = Go.Sort.putRowK encC 2 (Go.Sort.ahead w (q2 + nq)) g 0 dk := by rw [W2.out]; exact Go.Sort.putRowK_drewN encC 2 w q2 nq g 0 dk
                  have hst := store_pair (i := kk) (by omega) hwd (u1, u2)
                  have ck1' : (wr.drewN nq).cell? ⟨g, kk * 2, none⟩ = some (.int .i64 old1) := ck1
                  have ck2' : (wr.drewN nq).cell? ⟨g, kk * 2 + 1, none⟩ = some (.int .i64 old2) := ck2
                  have fk1' : (wr.drewN nq).frozen? ⟨g, kk * 2, none⟩ = false := fk1
                  have fk2' : (wr.drewN nq).frozen? ⟨g, kk * 2 + 1, none⟩ = false := fk2
                  have Hst := hid hst
                  have hm : wr.drewN nq = wr.drewN nq := rfl
                  clear hst hwd hm ck1 ck2 fk1 fk2
                  have cm3' : (wr.drewN nq).cell? ⟨g, k * 2 + k2 * 2, none⟩ = some (.int .i64 u1) := cm1x.out
                  have cm4' : (wr.drewN nq).cell? ⟨g, k * 2 + k2 * 2 + 1, none⟩ = some (.int .i64 u2) := cm2x.out
                  generalize wr.drewN nq = wz at *
                  go_wp2
                  go_roundg (d.size - (k + (k2 + 1)))
                  case measure => omega
                  case rel =>
                    refine ⟨kk + 1, k2 + 1, q2 + nq, dk.setIfInBounds kk (u1, u2), by go_num, by go_num, by omega, by omega, Nat.le_refl _, Hst.out, ?_⟩
                    have := I2.out.keep hlt2 (Lib.keeps_pos (by rw [C.out.1, C.out.2]; intro h; injection h with h1 h2; exact E.out h2))
                    rwa [C.out.1] at this
              · have E := hid e1
                go_wp2_with fail
                go_quiet (fail)
                clear s5 s6 s7 s8 cm1 cm2 cp1 cp2
                have hwd : wr.drewN nq = Go.Sort.putRowK encC 2 (Go.Sort.ahead w (q2 + nq)) g 0 dk := by rw [W2.out]; exact Go.Sort.putRowK_drewN encC 2 w q2 nq g 0 dk
                have hst := store_pair (i := kk) (by omega) hwd (u1, u2)
                have ck1' : (wr.drewN nq).cell? ⟨g, kk * 2, none⟩ = some (.int .i64 old1) := ck1
                have ck2' : (wr.drewN nq).cell? ⟨g, kk * 2 + 1, none⟩ = some (.int .i64 old2) := ck2
                have fk1' : (wr.drewN nq).frozen? ⟨g, kk * 2, none⟩ = false := fk1
                have fk2' : (wr.drewN nq).frozen? ⟨g, kk * 2 + 1, none⟩ = false := fk2
                have Hst := hid hst
                have hm : wr.drewN nq = wr.drewN nq := rfl
                clear hst hwd hm ck1 ck2 fk1 fk2
                have cm3' : (wr.drewN nq).cell? ⟨g, k * 2 + k2 * 2, none⟩ = some (.int .i64 u1) := cm1x.out
                have cm4' : (wr.drewN nq).cell? ⟨g, k * 2 + k2 * 2 + 1, none⟩ = some (.int .i64 u2) := cm2x.out
                generalize wr.drewN nq = wz at *
                go_wp2
                go_roundg (d.size - (k + (k2 + 1)))
                case measure => omega
                case rel =>
                  refine ⟨kk + 1, k2 + 1, q2 + nq, dk.setIfInBounds kk (u1, u2), by go_num, by go_num, by omega, by omega, Nat.le_refl _, Hst.out, ?_⟩
                  have := I2.out.keep hlt2 (Lib.keeps_pos (by rw [C.out.1, C.out.2]; intro h; injection h with h1 h2; exact E.out h1))
                  rwa [C.out.1] at this
            · have hend : k + k2 = d.size := by omega
              have hcl : ∀ ty, (Builtin.clear_ #[26] ty #[.slice (some ⟨g, kk * 2, none⟩) (d.size - kk) (cap - kk)]).run Try.prog wr = .ok (.tuple #[]) (wr.setCells g (kk * 2) (zs2 (d.size - kk))) := fun ty =>
                run_clear_pairs wr ty g (kk * 2) (d.size - kk) (cap - kk) (by omega)
                  (fun j hj => by
                    obtain ⟨⟨a1, a2⟩, -⟩ := holds_pair hHk (i := kk + j / 2) (by omega)
                    rcases (by omega : j % 2 = 0 ∨ j % 2 = 1) with h0 | h0
                    · rw [show kk * 2 + j = (kk + j / 2) * 2 from by omega, a1]; rfl
                    · rw [show kk * 2 + j = (kk + j / 2) * 2 + 1 from by omega, a2]; rfl)
                  (fun j hj => by
                    obtain ⟨-, a1, a2⟩ := holds_pair hHk (i := kk + j / 2) (by omega)
                    rcases (by omega : j % 2 = 0 ∨ j % 2 = 1) with h0 | h0
                    · rw [show kk * 2 + j = (kk + j / 2) * 2 from by omega, a1]
                    · rw [show kk * 2 + j = (kk + j / 2) * 2 + 1 from by omega, a2])
              clear hHk hI
              go_wp2
              go_ret
              have hI := I2.out
              rw [hend] at hI
              have hset : wr.setCells g (kk * 2) (zs2 (d.size - kk)) = Go.Sort.putRow id (Go.Sort.ahead w q2) g 0 (Go.Sort.setMany (Go.Sort.flatK encC 2 dk) (kk * 2) (zs2 (d.size - kk))) := by
                rw [W2.out]
                have := Go.Sort.setCells_putRow (Go.Sort.ahead w q2) g 0 (zs2 (d.size - kk)) (kk * 2) (Go.Sort.flatK encC 2 dk) (by rw [zs2_len, Go.Sort.size_flatK]; omega)
                rw [Nat.zero_add] at this
                exact this
              refine ⟨by rw [hI.len]; rfl, q2, _, hset, by simp [hds], ?_⟩
              exact take_pairs (dk := dk) (kk := kk) (fun t ht => by rw [Go.Sort.get_setMany _ _ _ _ (by rw [Go.Sort.size_flatK]; omega), if_neg (by omega)]) hI.len (fun j hj => hI.low j hj) (by omega) (by simp; omega)
        · have E := hid h2'
          go_wp2_with fail
          go_quiet (fail)
          clear s1 s2 s3 s4 c1 c2 c3 c4
          go_wp2
          go_roundg (d.size - (k + 1))
          case measure => omega
          case rel =>
            refine ⟨k + 1, q + nq, by omega, by omega, Nat.le_refl _, by go_num, ?_, fun j hj => ?_⟩
            · rw [← Hwq.out, World.drewN_drewN]
            · by_cases e : j = k
              · subst e
                exact Lib.keeps_pos (by rw [B.out.1, B.out.2]; intro h; injection h with h1 h2; exact E.out h2)
              · exact A.out j (by omega)
      · have E := hid h1
        go_wp2_with fail
        go_quiet (fail)
        clear s1 s2 s3 s4 c1 c2 c3 c4
        go_wp2
        go_roundg (d.size - (k + 1))
        case measure => omega
        case rel =>
          refine ⟨k + 1, q + nq, by omega, by omega, Nat.le_refl _, by go_num, ?_, fun j hj => ?_⟩
          · rw [← Hwq.out, World.drewN_drewN]
          · by_cases e : j = k
            · subst e
              exact Lib.keeps_pos (by rw [B.out.1, B.out.2]; intro h; injection h with h1 h2; exact E.out h1)
            · exact A.out j (by omega)
    · have : k = d.size := by omega
      subst this
      have hHd := hid hHq
      clear hHq
      go_wp2
      go_ret
      have e : Lib.compactUpTo d d.size = d.toList := by rw [Lib.compactUpTo_all d _ A.out, Lib.range_map_get]
      rw [e]
      refine ⟨by simp, q, Go.Sort.flatK encC 2 d, (Go.Sort.putRowK_self encC 2 (Go.Sort.ahead w q) g 0 d HH.out).symm, by simp, ?_⟩
      exact take_pairs (dk := d) (kk := d.size) (fun _ _ => rfl) (by simp) (fun j hj => by rw [getElem!_pos d j hj]; simp [hj]) (Nat.le_refl _) (by simp)

/-- The row behind a putRow. -/
theorem put_row {w : World} {g q : Nat} {cur F : Array Value} (h1 : w.heap[g]? = some (.cells cur 48 (0, 0))) (hF : F.size ≤ cur.size) :
    (∃ cur', (Go.Sort.putRow id (Go.Sort.ahead w q) g 0 F).heap[g]? = some (.cells cur' 48 (0, 0)) ∧ cur'.size = cur.size ∧ ∀ m, m ≤ F.size → cur'.toList.take m = F.toList.take m) ∧ w.grownBy (Go.Sort.putRow id (Go.Sort.ahead w q) g 0 F) (some g) := by
  refine ⟨⟨Go.Sort.putCells id 0 F cur, ?_, by simp [Go.Sort.putCells], fun m hm => ?_⟩, ?_⟩
  · simp only [Go.Sort.putRow, Go.Sort.mapBlock, Go.Sort.ahead, Array.getElem?_modify, if_true, h1, Option.map_some, Go.Sort.onCells]
  · apply List.ext_getElem?
    intro t
    by_cases ht : t < m
    · rw [List.getElem?_take, if_pos ht, List.getElem?_take, if_pos ht, Array.getElem?_toList, Array.getElem?_toList, Go.Sort.putCells, Array.getElem?_mapIdx, Array.getElem?_eq_getElem (by omega), Array.getElem?_eq_getElem (by omega)]
      simp only [Option.map_some]
      rw [if_pos ⟨by omega, by omega⟩, Nat.sub_zero, getElem!_pos F t (by omega)]
      rfl
    · rw [List.getElem?_take, if_neg ht, List.getElem?_take, if_neg ht]
  · refine ⟨rfl, rfl, rfl, by simp [Go.Sort.putRow, Go.Sort.mapBlock, Go.Sort.ahead], fun k hk hne => ?_⟩
    simp only [Go.Sort.putRow, Go.Sort.mapBlock, Go.Sort.ahead, Array.getElem?_modify]
    rw [if_neg (by intro e; exact hne (by rw [e]))]

def cpt (cs : List (Int × Int)) : List (Int × Int) := Lib.compactUpTo cs.toArray cs.length
theorem cpt_len (cs : List (Int × Int)) : (cpt cs).length ≤ cs.length := by
  unfold cpt Lib.compactUpTo
  rw [List.length_map]
  exact Nat.le_trans (List.length_filter_le _ _) (by simp)
theorem cpt_short {cs : List (Int × Int)} (h : cs.length < 2) : cpt cs = cs := by
  have := Lib.compact_all cs (fun j hj => Lib.keeps_lt_one _ j (by omega))
  exact this

/-- Compact over a row of copies of one's own. -/
theorem compact_any (base n : Nat) (v : Value) (cs : List (Int × Int)) (w : World) (hn : cs.length = n) (h : Cops w base v cs) (hb : n < 100000) :
    ∃ C q, v = .slice C n q ∧ Calls Try.prog 67 #[.slice C n q] w fun e w' => ∃ C' q', e = .returned (.slice C' (cpt cs).length q') ∧ Cops w' base (.slice C' (cpt cs).length q') (cpt cs) ∧ w.grownBy w' v.ownBlock := by
  have hcopy := h
  obtain ⟨hl, h0 | ⟨g, cap, cur, rfl, hbg, h1, h2, h3, h4, h5⟩⟩ := h
  · obtain ⟨rfl, h0⟩ := h0
    have e0 : cs = [] := List.eq_nil_of_length_eq_zero h0
    subst e0
    simp at hn; subst hn
    refine ⟨none, 0, rfl, ?_⟩
    have hc : cpt [] = [] := cpt_short (by simp)
    rw [hc]
    go_enter Try.func67, Try.ntmps67
    go_wp2
    go_ret
    exact ⟨none, 0, rfl, World.ownsRow_nil _ _ _ _, grown_of_below (Below.refl _ _) _⟩
  · refine ⟨some ⟨g, 0, none⟩, cap, by rw [hn], ?_⟩
    by_cases hs : n < 2
    · rw [cpt_short (by omega)]
      have Hc := hid hcopy
      clear hcopy
      go_enter Try.func67, Try.ntmps67
      go_wp2
      go_ret
      exact ⟨some ⟨g, 0, none⟩, cap, by rw [hn]; rfl, Hc.out, grown_of_below (Below.refl _ _) _⟩
    · have hc := compact_arr g cap cs.toArray w (holds_of_row h1 h5) (by simp; omega) (by simp; omega) (by simp; omega)
      have hsz : cs.toArray.size = n := by simp [hn]
      rw [hsz] at hc
      refine hc.mono ?_
      rintro e w' ⟨he, q, F, hw, hF, ht⟩
      have hcpt : Lib.compactUpTo cs.toArray n = cpt cs := by unfold cpt; rw [hn]
      rw [hcpt] at he ht
      have hle := cpt_len cs
      obtain ⟨⟨cur', k1, k2, k3⟩, hgr⟩ := put_row (q := q) h1 (F := F) (by rw [hF, h4]; omega)
      rw [← hw] at k1 hgr
      refine ⟨some ⟨g, 0, none⟩, cap, he, ⟨by rw [pairs_length]; omega, .inr ⟨g, cap, cur', rfl, hbg, k1, by omega, h3, by rw [k2, h4], ?_⟩⟩, hgr⟩
      rw [k3 _ (by omega), ht]
end Go.Proofs.Ytmbelhdkaepohaa
