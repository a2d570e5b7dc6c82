/- The choices of a tape: Mod gives a number below n, New makes a tape, and Next gives a number below n (0 if n is at most 1) and changes nothing but the tape. -/
import Derived.Test.YtadkjnjibefocaaHas
import Derived.Deep.RegionWith
namespace Go.Proofs.Ytadkjnjibefocaa
open Go.ChangeShapes Go.WideShapes Go.ChangeAt Go.RowKit

/-- Go's int(uint(v) % uint(n)). -/
def md (v n : Int) : Int := IntKind.u64.wrap v % n
theorem md_lo (v n : Int) (h : 1 ≤ n) : 0 ≤ md v n := Int.emod_nonneg _ (by omega)
theorem md_hi (v n : Int) (h : 1 ≤ n) : md v n < n := Int.emod_lt_of_pos _ (by omega)
theorem mod_any (v n : Int) (w : World) (h1 : 1 ≤ n) (h2 : n ≤ 1000000) :
    Calls Try.prog 21 #[.int .i64 v, .int .i64 n] w fun e w' => e = .returned (.int .i64 (md v n)) ∧ w = w' := by
  have hw : 0 ≤ IntKind.u64.wrap v := by rw [IntKind.wrap_u64]; omega
  have e2 := md_lo v n h1
  have e3 := md_hi v n h1
  unfold md at *
  generalize hu : IntKind.u64.wrap v = u at *
  have Hu := hid hu
  clear hu
  have e1 : u.tmod n = u % n := Int.tmod_eq_emod_of_nonneg hw
  have E1 := hid e1
  clear e1
  go_enter Try.func21, Try.ntmps21
  go_wp2
  go_ret
  refine ⟨ret_int ?_, rfl⟩
  show wrap64 ((IntKind.u64.wrap v).tmod n) = _
  rw [Hu.out, E1.out]
  exact IntWalk.wrap64_in _ ⟨by omega, by omega⟩

theorem quiet_same {P : Program} {f : FuncId} {args : Array Value} {w : World} {n : Nat} {v : Value}
    (h : Calls P f args (w.drewN n) fun e w' => e = .returned v ∧ w.drewN n = w') : Calls P f args (w.drewN n) fun e w' => e = .returned v ∧ ∃ m, w' = w.drewN m :=
  h.mono fun _ _ ⟨he, hw⟩ => ⟨he, n, hw.symm⟩

theorem quiet_add {P : Program} {f : FuncId} {args : Array Value} {w : World} {a n : Nat} {v : Value}
    (h : Calls P f args (w.drewN (a + n)) fun e w' => e = .returned v ∧ w.drewN (a + n) = w') : Calls P f args (w.drewN (a + n)) fun e w' => e = .returned v ∧ ∃ m, w' = w.drewN (a + m) :=
  h.mono fun _ _ ⟨he, hw⟩ => ⟨he, n, hw.symm⟩

def ints (zs : List Int) : List Value := zs.map (.int .i64)
theorem ints_get {zs : List Int} {i : Nat} (h : i < zs.length) : (ints zs)[i]? = some (.int .i64 (zs.getD i 0)) := by
  unfold ints; rw [List.getElem?_map, List.getElem?_eq_getElem h, List.getD_eq_getElem?_getD, List.getElem?_eq_getElem h]; rfl

/-- Block T is a tape: k of its n choices have been used. -/
def TapeAt (w : World) (T : Nat) (A : Option Addr) (n c k : Nat) (zs : List Int) : Prop :=
  w.heap[T]? = some (.cells #[.slice A n c, .int .i64 k] 42 (0, 0)) ∧ zs.length = n ∧ n ≤ maxLen ∧ k ≤ n ∧ At w T A (ints zs)
def Tape (w : World) (T : Nat) : Prop := ∃ A n c k zs, TapeAt w T A n c k zs
theorem Tape.lt {w : World} {T : Nat} (h : Tape w T) : T < w.heap.size := by
  obtain ⟨A, n, c, k, zs, h, _⟩ := h
  rcases Nat.lt_or_ge T w.heap.size with hlt | hge
  · exact hlt
  · rw [Array.getElem?_eq_none hge] at h; cases h
theorem Tape.keep {w w' : World} {T : Nat} (h : Tape w T) (hb : ∀ k, k ≤ T → w'.heap[k]? = w.heap[k]?) : Tape w' T := by
  obtain ⟨A, n, c, k, zs, h1, h2, h3, h4, h5⟩ := h
  exact ⟨A, n, c, k, zs, (hb T (Nat.le_refl _)).trans h1, h2, h3, h4, h5.keep (fun p hp => World.cell?_of_block (hb _ (by omega))) (Nat.le_refl _)⟩
theorem Tape.below {w w' : World} {T B : Nat} (h : Tape w T) (hb : Below B w w') (hB : T < B) : Tape w' T := h.keep fun k hk => hb.block k (by omega)

/-- Words do not lie in a tape. -/
theorem Tape.apart {w : World} {T B : Nat} {A : Option Addr} {xs : List Value} (h : Tape w T) (hA : At w B A xs) (hx : ∀ v ∈ xs, ∃ x : Int, v = .int .u64 x) {w' : World} (hg : w.grownBy w' (some T))   : At w' B A xs := by
  rcases hA with rfl | ⟨ad, e, hb, hc⟩
  · exact .inl rfl
  · rcases xs with _ | ⟨v, xs⟩
    · exact .inl rfl
    · refine .inr ⟨ad, e, hb, fun j u hu => ?_⟩
      have hne : ad.block ≠ T := by
        intro he
        obtain ⟨x, rfl⟩ := hx v (by simp)
        have h0 := hc 0 (.int .u64 x) (by simp)
        obtain ⟨A', n, c, k, zs, h1, _⟩ := h
        have ha : ad.add 0 = ad := by unfold Addr.add; simp
        rw [ha] at h0
        unfold World.cell? at h0
        rw [he, h1] at h0
        simp only at h0
        split at h0
        · cases h0
        · match hoff : ad.off, h0 with
          | 0, h0 => simp at h0
          | 1, h0 => simp at h0
          | n + 2, h0 => simp at h0
      exact hg.cell (hc j u hu) (by rw [add_block]; intro h; injection h with h; exact hne h)
theorem words_kind (ws : List Nat) : ∀ v ∈ words ws, ∃ x : Int, v = .int .u64 x := by
  intro v hv
  obtain ⟨x, _, rfl⟩ := List.mem_map.1 hv
  exact ⟨x, rfl⟩
theorem Arg.tape {w w' : World} {T : Nat} {A : Option Addr} {n : Nat} {ws : List Nat} (h : Arg w A n ws) (ht : Tape w T) (hg : w.grownBy w' (some T)) : Arg w' A n ws :=
  ⟨(ht.apart h.lies (words_kind ws) hg).more hg.size, h.len, h.ok⟩

/-- What Next leaves: a number below n, and only the tape has changed. -/
def Nxt (w : World) (T : Nat) (n : Int) (e : Ending) (w' : World) : Prop :=
  ∃ r : Int, e = .returned (.int .i64 r) ∧ 0 ≤ r ∧ (r < n ∨ r = 0) ∧ Tape w' T ∧ w.grownBy w' (some T) ∧ w'.heap.size = w.heap.size

theorem Tape.drewN {w : World} {T : Nat} (h : Tape w T) (m : Nat) : Tape (w.drewN m) T := h.keep fun _ _ => rfl
theorem grown_drewN (w : World) (m : Nat) (row : Option Nat) : w.grownBy (w.drewN m) row := ⟨rfl, rfl, rfl, Nat.le_refl _, fun _ _ _ => rfl⟩

theorem grown_set (w : World) (T : Nat) {p : Addr} (hp : p.block = T) (u : Value) : w.grownBy (w.setCell p u) (some T) :=
  ⟨rfl, rfl, rfl, by simp [World.setCell], fun i _ hne => Below.heap_setCell w p u i (by rintro rfl; exact hne (by rw [hp]))⟩
theorem grown_trans {a b c : World} {row : Option Nat} (h : a.grownBy b row) (k : b.grownBy c row) : a.grownBy c row :=
  ⟨k.os.trans h.os, k.tape.trans h.tape, k.output.trans h.output, Nat.le_trans h.size k.size, fun i hi hne => (k.block i (Nat.lt_of_lt_of_le hi h.size) hne).trans (h.block i hi hne)⟩

theorem next_no (T : Nat) (n : Int) (w : World) (ht : Tape w T) (h1 : n ≤ 1) :
    Calls Try.prog 7 #[.pointer (some ⟨T, 0, none⟩), .int .i64 n] w (Nxt w T n) := by
  have Ht := hid ht
  clear ht
  go_enter Try.func7, Try.ntmps7
  go_wp2_with fail
  go_quiet (fail)
  go_wp2
  go_ret
  exact ⟨0, rfl, by omega, .inr rfl, Ht.out.drewN _, grown_drewN _ _ _, rfl⟩

theorem next_end (T : Nat) (n : Int) (A : Option Addr) (m c : Nat) (zs : List Int) (w : World) (ht : TapeAt w T A m c m zs) (h1 : 1 < n) :
    Calls Try.prog 7 #[.pointer (some ⟨T, 0, none⟩), .int .i64 n] w (Nxt w T n) := by
  have hc0 : w.cell? ⟨T, 0, none⟩ = some (.slice A m c) := by simp [World.cell?, ht.1]
  have hc1 : w.cell? ⟨T, 1, none⟩ = some (.int .i64 m) := by simp [World.cell?, ht.1]
  have Ht := hid ht
  clear ht
  have hd : decide (n ≤ 1) = false := by simp; omega
  have hge : decide ((m : Int) ≤ (m : Int)) = true := by simp
  go_enter Try.func7, Try.ntmps7
  go_wp2_with fail
  go_quiet (fail)
  go_wp2
  go_ret
  exact ⟨0, rfl, by omega, .inr rfl, Tape.drewN ⟨_, _, _, _, _, Ht.out⟩ _, grown_drewN _ _ _, rfl⟩

theorem next_more (T : Nat) (n : Int) (A : Option Addr) (m c k : Nat) (zs : List Int) (w : World) (ht : TapeAt w T A m c k zs) (h1 : 1 < n) (h2 : n ≤ 1000000) (hk : k < m) :
    Calls Try.prog 7 #[.pointer (some ⟨T, 0, none⟩), .int .i64 n] w (Nxt w T n) := by
  obtain ⟨hT, hz, hm, hkm, hA⟩ := ht
  have hc0 : w.cell? ⟨T, 0, none⟩ = some (.slice A m c) := by simp [World.cell?, hT]
  have hc1 : w.cell? ⟨T, 1, none⟩ = some (.int .i64 k) := by simp [World.cell?, hT]
  have hf1 : w.frozen? ⟨T, 1, none⟩ = false := by simp [World.frozen?, hT]
  obtain ⟨ad, rfl, had, hcell⟩ := hA.cell (ints_get (by rw [hz]; exact hk))
  have hne : ad.block ≠ T := by omega
  have hcell1 : (w.setCell ⟨T, 1, none⟩ (.int .i64 ((k : Int) + 1))).cell? (ad.add k) = some (.int .i64 (zs.getD k 0)) := by
    rw [World.cell?_setCell_other _ _ _ _ (by intro h; apply hne; rw [← add_block ad k, ← h])]; exact hcell
  generalize zs.getD k 0 = v at hcell hcell1
  have hcell2 : ∀ q : Nat, ((w.drewN q).setCell ⟨T, 1, none⟩ (.int .i64 ((k : Int) + 1))).cell? (ad.add k) = some (.int .i64 v) := fun q => hcell1
  clear hcell1
  have h3 := md_lo v n (by omega)
  have h4 := md_hi v n (by omega)
  unfold maxLen at hm
  have HT := hid hT
  have HA := hid hA
  have Hz := hid hz
  clear hT hA hz hcell
  have hd : decide (n ≤ 1) = false := by simp; omega
  have hge : decide (m ≤ k) = false := by simp; omega
  go_enter Try.func7, Try.ntmps7
  go_wp2_with fail
  go_quiet (fail)
  go_wp2_with fail
  have hwr : IntKind.i64.wrap (k : Int) = k := IntWalk.i64_in _ (by omega)
  have hk0 : (0 : Int) ≤ k := by omega
  have hkn : (k : Int).toNat = k := by omega
  go_quiet ((go_at_call 21; first | exact quiet_same (mod_any _ _ _ (by omega) (by omega)) | exact quiet_add (mod_any _ _ _ (by omega) (by omega))))
  go_wp2
  go_ret
  refine ⟨md v n, rfl, h3, .inl h4, ⟨some ad, m, c, k + 1, zs, ?_, Hz.out, by unfold maxLen; omega, by omega, ?_⟩, ?_, by simp [World.setCell]⟩
  · have := HT.out
    simp [World.setCell, Array.getElem?_modify, this]
  · exact HA.out.keep (fun p hp => World.cell?_setCell_other _ _ _ _ (by rintro rfl; simp at hp)) (Nat.le_refl _)
  · exact grown_trans (grown_trans (grown_drewN _ _ _) (grown_set _ T rfl _)) (grown_drewN _ _ _)

theorem next_any (T : Nat) (n : Int) (w : World) (ht : Tape w T) (h2 : n ≤ 1000000) :
    Calls Try.prog 7 #[.pointer (some ⟨T, 0, none⟩), .int .i64 n] w (Nxt w T n) := by
  by_cases h1 : n ≤ 1
  · exact next_no T n w ht h1
  · obtain ⟨A, m, c, k, zs, h⟩ := ht
    by_cases hk : k < m
    · exact next_more T n A m c k zs w h (by omega) h2 hk
    · have : k = m := by have := h.2.2.2.1; omega
      subst this
      exact next_end T n A k c zs w h (by omega)
end Go.Proofs.Ytadkjnjibefocaa
