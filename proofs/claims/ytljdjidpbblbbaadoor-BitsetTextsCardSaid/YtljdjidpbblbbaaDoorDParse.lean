/- The package's putAll and Parse. -/
import Derived.Test.YtljdjidpbblbbaaDoorDNum
namespace Go.Proofs.YtljdjidpbblbbaaDoor
set_option maxRecDepth 20000
open Go.ChangeShapes Go.WideShapes Go.ChangeAt Go.RowKit

theorem not_empty (s : ByteArray) : (!s.toList.isEmpty) = decide (s.data.toList ≠ []) := by
  rw [toList_data]
  cases s.data.toList <;> rfl

/-- While the bits are put. -/
def Putting (w : World) (v base g n c : Nat) (zs : List Nat) (wr : World) : Prop :=
  Box wr w.heap.size v (some ⟨g, 0, none⟩) n c ∧ OwnW wr base g n c zs ∧ Libs wr ∧ w.grownBy wr (some g) ∧ 3 < base
theorem Putting.step {w wr w' : World} {v base g n c : Nat} {zs : List Nat} (h : Putting w v base g n c zs wr) (hb : Below wr.heap.size wr w') : Putting w v base g n c zs w' := by
  obtain ⟨h1, h2, h3, h4, h5⟩ := h
  exact ⟨h1.below hb h1.lt, h2.below hb, h3.step hb, grown_trans h4 (grown_of_below hb _), h5⟩
theorem Putting.put {w wr w' : World} {v base g n c : Nat} {zs zs' : List Nat} (h : Putting w v base g n c zs wr) (ho : OwnW w' base g n c zs') (hg : wr.grownBy w' (some g)) : Putting w v base g n c zs' w' := by
  obtain ⟨h1, h2, h3, h4, h5⟩ := h
  have e1 := h1.own_ne h2
  have hge := h2.ge
  exact ⟨h1.grown hg (some_ne (Ne.symm e1)), ho, h3.grown hg (by omega) (by omega), grown_trans h4 hg, h5⟩
theorem setOf_nil (v : Nat) : setOf v [] = Bs.emp v := by
  unfold setOf
  rw [show (fun i : Nat => decide ((i : Int) ∈ ([] : List Int))) = fun _ => false from by funext i; exact decide_eq_false List.not_mem_nil]; exact Bs.ofP_false v v
theorem setOf_snoc (v : Nat) (L : List Int) (b : Nat) (hb : b < v) : Bs.put (setOf v L) b = setOf v (L ++ [(b : Int)]) := by
  unfold setOf
  rw [Bs.put_ofP _ hb]
  exact Bs.ofP_congr (fun i _ => (mem_snoc _ _ _).symm)
def pmeas : Value → Value → Nat
  | .string s, .bool true => s.size + 1
  | _, _ => 0
theorem size_data (s : ByteArray) : s.data.toList.length = s.size := Array.length_toList

set_option maxHeartbeats 1600000 in
theorem putAll_any (v base g c : Nat) (s : ByteArray) (w : World) (hv : v ≤ 256) (hs : s.size ≤ 100000) (hL : Libs w) (hO : OwnW w base g (Bs.nw v) c (Bs.emp v)) (h3 : 3 < base) :
    Calls Tryd.prog 59 #[.agg #[.int .i64 v, .slice (some ⟨g, 0, none⟩) (Bs.nw v) c], .string s] w fun e w' => ∃ r : Bool, e = .returned (.bool r) ∧ w.grownBy w' (some g) ∧
      ((r = true ∧ ∃ L, Cand v s.data.toList L ∧ OwnW w' base g (Bs.nw v) c (setOf v L)) ∨ (r = false ∧ ∀ l, ¬ Cand v s.data.toList l)) := by
  have hb0 := (Below.refl w.heap.size w).alloc (Nat.le_refl _) (.cells #[.int .i64 v, .slice (some ⟨g, 0, none⟩) (Bs.nw v) c] 25)
  have hinv : Putting w v base g (Bs.nw v) c (setOf v []) (w.alloc (.cells #[.int .i64 v, .slice (some ⟨g, 0, none⟩) (Bs.nw v) c] 25)) := by
    rw [setOf_nil]
    exact ⟨Box.new _ _ _ _ _, hO.below hb0, hL.step hb0, grown_of_below hb0 _, h3⟩
  have hread := read_start (v : Int) s.data.toList
  rw [← not_empty] at hread
  have Hinv := hid hinv; have Hread := hid hread
  clear hinv hread hO hL hb0 h3
  go_enter Tryd.func59, Tryd.ntmps59
  go_wp2_with fail
  go_loopw [1, 5, 6, 7, 8, 9] (fun t1 l5 m6 _ _ _ wr => ∃ (rest : ByteArray) (last : Int) (more : Bool) (L : List Int), t1 = .string rest ∧ l5 = .int .i64 last ∧ m6 = .bool more ∧ rest.size ≤ 100000 ∧ -1 ≤ last ∧ last < 256 ∧
    Hid (Read v s.data.toList L last rest.data.toList more) ∧ Hid (Putting w v base g (Bs.nw v) c (setOf v L) wr)) (fun t1 _ m6 _ _ _ _ => pmeas t1 m6)
  case atStart => exact ⟨s, -1, !s.toList.isEmpty, [], rfl, rfl, rfl, hs, by omega, by omega, Hread, Hinv⟩
  case round =>
    obtain ⟨rest, last, more, L, rfl, rfl, rfl, hsz, hl0, hl1, hR, hP⟩ := hrel
    clear Hinv Hread
    cases more with
    | false =>
      go_wp2_with fail
      go_ret
      exact ⟨true, rfl, hP.out.2.2.2.1, .inl ⟨rfl, L, read_done hR.out, hP.out.2.1⟩⟩
    | true =>
      go_wp2_with fail
      refine (cut_any rest 44 _ hsz hP.out.2.2.1).mono ?_
      rintro e w1 ⟨a, b, f, rfl, hc, hb1⟩
      have hP1 := hid (hP.out.step hb1)
      have Hc := hid hc
      have hsza : a.size ≤ 100000 ∧ b.size ≤ 100000 ∧ pmeas (.string b) (.bool f) < rest.size + 1 := by
        rcases cut_one rest.data.toList 44 with ⟨e, _⟩ | ⟨x, y, e, hr, _⟩
        · rw [hc] at e
          injection e with e1 e; injection e with e2 e3
          have h1 := congrArg List.length e1
          have h2 := congrArg List.length e2
          rw [size_data, size_data] at h1
          rw [size_data, List.length_nil] at h2
          subst e3
          refine ⟨by omega, by omega, by simp [pmeas]⟩
        · rw [hc] at e
          injection e with e1 e; injection e with e2 e3
          have h1 := congrArg List.length hr
          rw [← e1, ← e2, List.length_append, List.length_cons, size_data, size_data, size_data] at h1
          subst e3
          refine ⟨by omega, by omega, by simp [pmeas]; omega⟩
      obtain ⟨hsa, hsb, hms⟩ := hsza
      clear hb1 hc hP
      go_wp2_with fail
      refine (devNumber_any a _ hsa hP1.out.2.2.1).mono ?_
      rintro e w2 ⟨x, ok, rfl, hn, hb2⟩
      have hP2 := hid (hP1.out.step hb2)
      have Hn := hid hn
      clear hb2 hn hP1
      have hc0 := hP2.out.1.c0
      have hc1 := hP2.out.1.c1
      have hbad : ok = false ∨ x ≤ last ∨ (decide (0 ≤ x) && decide (x < (v : Int))) = false → ∀ l, ¬ Cand v s.data.toList l := fun h => read_bad (by omega) hR.out Hc.out Hn.out h
      have Hbad := hid hbad
      clear hbad
      cases ok with
      | false =>
        go_wp2_with fail
        go_ret
        exact ⟨false, rfl, hP2.out.2.2.2.1, .inr ⟨rfl, Hbad.out (.inl (by simp))⟩⟩
      | true =>
        by_cases hxl : x ≤ last
        · have t : decide (x ≤ last) = true := by simp [hxl]
          have Hxl := hid hxl
          clear hxl
          go_wp2_with fail
          go_ret
          exact ⟨false, rfl, hP2.out.2.2.2.1, .inr ⟨rfl, Hbad.out (.inr (.inl Hxl.out))⟩⟩
        · have t : decide (x ≤ last) = false := by simp; omega
          cases hi : (decide (0 ≤ x) && decide (x < (v : Int))) with
          | false =>
            have Hi := hid hi
            clear hi hxl
            go_wp2_with (go_at_call 71; refine (inside_is _ _ _ _ Hi).mono ?_; rintro e w5 ⟨rfl, rfl⟩)
            go_ret
            exact ⟨false, rfl, hP2.out.2.2.2.1, .inr ⟨rfl, Hbad.out (.inr (.inr Hi.out))⟩⟩
          | true =>
            have h2 := hi
            simp at h2
            obtain ⟨k, rfl⟩ := Int.eq_ofNat_of_zero_le h2.1
            have hkv : k < v := by omega
            have Hread' := hid (read_step (by omega) hR.out Hc.out Hn.out (by omega) h2.1 h2.2)
            have Hfit := hid (Bs.fit_ofP v (fun i => decide ((i : Int) ∈ L)) v (Nat.le_refl _))
            have Hi := hid hi
            clear hi h2 hxl hR Hbad Hn Hc
            go_wp2_with (first
              | (go_at_call 71; refine (inside_is _ _ _ _ Hi).mono ?_; rintro e w5 ⟨rfl, rfl⟩)
              | (go_at_call 55; refine (put_any v base g _ _ _ k _ hP2.out.2.1 Hfit.out.ok (Bs.lt_nw hkv) (by omega)).mono ?_
                 rintro e w6 ⟨⟨v6, rfl⟩, ho, hg⟩
                 rw [setOf_snoc v L k hkv] at ho
                 have hP6 := hid (hP2.out.put ho hg)
                 clear ho hg))
            go_roundw
            case rel => exact ⟨b, k, f, L ++ [(k : Int)], rfl, rfl, rfl, hsb, by omega, by omega, Hread', hP6⟩
            case measure => exact hms
/-- Parse's answer where there is no such set. -/
theorem parse_zero {w w1 : World} {text : List UInt8} {e : Ending} (hp : ParseR text (0, [], 4)) (hb : Below w.heap.size w w1) (he : e = .returned (.tuple #[.agg #[.int .i64 0, .slice none 0 0], .int .i64 4])) :
    ∃ r, ParseR text r ∧ RetErr w r e w1 := ⟨_, hp, _, _, _, he, Arg.nil _ _, hb⟩

set_option maxHeartbeats 1600000 in
theorem devParse_any (s : ByteArray) (w : World) (hs : s.size ≤ 100000) (hL : Libs w) :
    Calls Tryd.prog 26 #[.string s] w fun e w' => ∃ r, ParseR s.data.toList r ∧ RetErr w r e w' := by
  have Hx0 := hid (Box.new w 0 none 0 0)
  have hb0 := (Below.refl w.heap.size w).alloc (Nat.le_refl _) (.cells #[.int .i64 0, .slice none 0 0] 25)
  have HL0 := hid (hL.step hb0); have Hb0 := hid hb0
  have h3 := hL.tab.lt
  clear hL hb0
  go_enter Tryd.func26, Tryd.ntmps26
  go_wp2_with fail
  refine (cut_any s 47 _ hs HL0.out).mono ?_
  rintro e w1 ⟨a, b, f, rfl, hc, hb1⟩
  have Hx1 := hid (Hx0.out.below hb1 (by simp))
  have HL1 := hid (HL0.out.step hb1)
  have Hb1 := hid (Hb0.out.trans (hb1.mono (by simp)))
  have Hc := hid hc
  have hsz : a.size ≤ 100000 ∧ b.size ≤ 100000 := by
    rcases cut_one s.data.toList 47 with ⟨e, _⟩ | ⟨x, y, e, hr, _⟩
    · rw [hc] at e
      injection e with e1 e; injection e with e2 e3
      have h1 := congrArg List.length e1
      have h2 := congrArg List.length e2
      rw [size_data, size_data] at h1
      rw [size_data, List.length_nil] at h2
      omega
    · rw [hc] at e
      injection e with e1 e; injection e with e2 e3
      have h1 := congrArg List.length hr
      rw [← e1, ← e2, List.length_append, List.length_cons, size_data, size_data, size_data] at h1
      omega
  obtain ⟨hsa, hsb⟩ := hsz
  clear hb1 hc Hx0 HL0 Hb0
  go_wp2_with fail
  refine (devNumber_any b _ hsb HL1.out).mono ?_
  rintro e w2 ⟨x, ok, rfl, hn, hb2⟩
  have Hx2 := hid (Hx1.out.below hb2 Hx1.out.lt)
  have HL2 := hid (HL1.out.step hb2)
  have Hb2 := hid (Hb1.out.trans (hb2.mono Hb1.out.size))
  have Hn := hid hn
  have r0 := Hx2.out.c0
  have r1 := Hx2.out.c1
  have f0 := Hx2.out.f 0
  have f1 := Hx2.out.f 1
  clear hb2 hn Hx1 HL1 Hb1
  cases f with
  | false =>
    have Hp := hid (parse_none Hc.out Hn.out (.inl rfl))
    go_wp2_with fail
    exact bodyPost_ret (v := .tuple #[.agg #[.int .i64 0, .slice none 0 0], .int .i64 4]) (by simp [results, Tryd.results26, go_sem, r0, r1]) rfl (parse_zero Hp.out ((Hb2.out.setCell (by simp) _).setCell (by simp) _) rfl)
  | true =>
    cases ok with
    | false =>
      have Hp := hid (parse_none Hc.out Hn.out (.inr (.inl rfl)))
      go_wp2_with fail
      exact bodyPost_ret (v := .tuple #[.agg #[.int .i64 0, .slice none 0 0], .int .i64 4]) (by simp [results, Tryd.results26, go_sem, r0, r1]) rfl (parse_zero Hp.out ((Hb2.out.setCell (by simp) _).setCell (by simp) _) rfl)
    | true =>
      cases hi : (decide (0 ≤ x) && decide (x ≤ 256)) with
      | false =>
        have Hp := hid (parse_none Hc.out Hn.out (.inr (.inr (.inl hi))))
        have he : emptyR x = (0, [], 3) := by
          unfold emptyR; rw [if_pos]
          simp at hi; omega
        have He := hid he
        clear hi he
        go_wp2_with fail
        refine (devEmpty_any x _).mono ?_
        rw [He.out]
        rintro e w3 ⟨A3, n3, c3, rfl, ha3, hb3⟩
        have hx3 := Hx2.out.below hb3 Hx2.out.lt
        have r30 := hx3.c0
        have r31 := hx3.c1
        have f30 := hx3.f 0
        have f31 := hx3.f 1
        have hz3 := hx3.lt
        have Hb3 := hid (Hb2.out.trans (hb3.mono Hb2.out.size))
        clear ha3 hb3 hx3 r0 r1 f0 f1
        simp only []
        go_wp2_with fail
        exact bodyPost_ret (v := .tuple #[.agg #[.int .i64 0, .slice none 0 0], .int .i64 4]) (by simp [results, Tryd.results26, go_sem, r30, r31, hz3]) rfl (parse_zero Hp.out (((Hb3.out.setCell (by simp) _).setCell (by simp) _).alloc (by simp; omega) _) rfl)
      | true =>
        have h2 := hi
        simp at h2
        obtain ⟨v, rfl⟩ := Int.eq_ofNat_of_zero_le h2.1
        have hv : v ≤ 256 := by omega
        clear hi h2
        go_wp2_with fail
        refine (devEmpty_own v _ hv).mono ?_
        rintro e w3 ⟨g, rfl, ho, hb3⟩
        have hx3 := Hx2.out.below hb3 Hx2.out.lt
        have hL3 := HL2.out.step hb3
        have hal := (Below.refl w3.heap.size w3).alloc (Nat.le_refl _) (.cells #[.int .i64 v, .slice (some ⟨g, 0, none⟩) (Bs.nw v) (Bs.nw v)] 25)
        have Hx4 := hid (hx3.alloc (.cells #[.int .i64 v, .slice (some ⟨g, 0, none⟩) (Bs.nw v) (Bs.nw v)] 25))
        have Hs4 := hid (Box.new w3 v (some ⟨g, 0, none⟩) (Bs.nw v) (Bs.nw v))
        have HL4 := hid (hL3.step hal)
        have Ho4 := hid (ho.below hal)
        have Hb4 := hid ((Hb2.out.trans (hb3.mono Hb2.out.size)).alloc (by have := Hb2.out.size; have := hb3.size; omega) (.cells #[.int .i64 v, .slice (some ⟨g, 0, none⟩) (Bs.nw v) (Bs.nw v)] 25))
        have h32 := HL2.out.tab.lt
        have hz2 := Hb2.out.size
        clear ho hb3 hx3 hL3 hal r0 r1 f0 f1
        go_wp2_with fail
        refine (putAll_any v w2.heap.size g (Bs.nw v) a _ hv hsa HL4.out Ho4.out h32).mono ?_
        rintro e w5 ⟨r, rfl, hg, hres⟩
        have e1 := Hx4.out.own_ne Ho4.out
        have e2 := Hs4.out.own_ne Ho4.out
        have hge := Ho4.out.ge
        have hx5 := Hx4.out.grown hg (some_ne (Ne.symm e1))
        have hs5 := Hs4.out.grown hg (some_ne (Ne.symm e2))
        have r50 := hx5.c0
        have r51 := hx5.c1
        have f50 := hx5.f 0
        have f51 := hx5.f 1
        have s50 := hs5.c0
        have s51 := hs5.c1
        have Hb5 := hid (Hb4.out.grown hg Hb4.out.size (by intro k hk; injection hk with hk; omega))
        have Hres := hid hres
        clear hx5 hs5 hg hres
        cases r with
        | false =>
          have hnone : ∀ l, ¬ Cand v a.data.toList l := by
            rcases Hres.out with ⟨h, _⟩ | ⟨_, h⟩
            · cases h
            · exact h
          have Hp := hid (parse_none Hc.out Hn.out (.inr (.inr (.inr ⟨by omega, by omega, hnone⟩))))
          clear hnone
          go_wp2_with fail
          exact bodyPost_ret (v := .tuple #[.agg #[.int .i64 0, .slice none 0 0], .int .i64 4]) (by simp [results, Tryd.results26, go_sem, r50, r51]) rfl (parse_zero Hp.out ((Hb5.out.setCell (by simp) _).setCell (by simp) _) rfl)
        | true =>
          obtain ⟨L, hL, ho5⟩ : ∃ L, Cand v a.data.toList L ∧ OwnW w5 w2.heap.size g (Bs.nw v) (Bs.nw v) (setOf v L) := by
            rcases Hres.out with ⟨_, h⟩ | ⟨h, _⟩
            · exact h
            · cases h
          have Hp := hid (parse_good Hc.out Hn.out hv hL)
          have Ho5 := hid ho5
          have Hfit := hid (Bs.fit_ofP v (fun i => decide ((i : Int) ∈ L)) v (Nat.le_refl _))
          clear hL ho5
          go_wp2_with fail
          refine bodyPost_ret (v := .tuple #[.agg #[.int .i64 v, .slice (some ⟨g, 0, none⟩) (Bs.nw v) (Bs.nw v)], .int .i64 0]) (by simp [results, Tryd.results26, go_sem, r50, r51]) rfl ⟨_, Hp.out, _, _, _, rfl, ?_, (Hb5.out.setCell (by simp) _).setCell (by simp) _⟩
          exact ((Ho5.out.far (by simpa using e1) _).far (by simpa using e1) _).arg Hfit.out.ok
end Go.Proofs.YtljdjidpbblbbaaDoor
