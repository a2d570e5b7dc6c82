/- The reference's Insert. -/
import Derived.Test.YtbjaebbmajhjjaaSym
import Derived.Deep.DeepMust
import Derived.Deep.AppendLies
import Derived.Lib.LazyBuf
namespace Go.Proofs.Ytbjaebbmajhjjaa
set_option maxRecDepth 20000
set_option linter.unusedVariables false
set_option linter.unusedSimpArgs false
open Go.ChangeShapes Go.WideShapes Go.ChangeAt Go.RowKit

theorem one_int1 (x : Int) : ∀ u ∈ [Value.int .i64 x], u.oneCell' = true := by intro u hu; simp at hu; subst hu; rfl
theorem int_new (w : World) (x : Int) (t : Nat) : ∀ (j : Nat) (u : Value), [Value.int .i64 x][j]? = some u → (w.alloc (.cells #[.int .i64 x] t)).cell? ((⟨w.heap.size, 0, none⟩ : Addr).add j) = some u := by
  intro j u h
  have hb := Fb.new w #[.int .i64 x] t
  rw [add_of, hb.cell]
  simpa using h
theorem one_ints (l : List Int) : ∀ u ∈ ints l, u.oneCell' = true := by
  intro u hu
  unfold ints at hu
  obtain ⟨x, _, rfl⟩ := List.mem_map.1 hu
  rfl
/-- A row came back. -/
def RetIR (w : World) (ex : List (Option Nat)) (l : List Int) (e : Ending) (w' : World) : Prop :=
  ∃ y : RH, e = .returned (.slice y.A y.n y.c) ∧ y.l = l ∧ RHok w' ex y ∧ y.n ≤ y.c ∧ Below w.heap.size w w'
theorem RetIR.own {w w' : World} {ex : List (Option Nat)} {l : List Int} {A : Option Addr} {n c : Nat} (hex : ∀ k, some k ∈ ex → k < w.heap.size) (ho : w'.ownsRow w.heap.size 3 1 (.slice A n c) n (ints l)) (hl : l.length = n) (hn : n ≤ 200000) (hb : Below w.heap.size w w') :
    RetIR w ex l (.returned (.slice A n c)) w' := by
  refine ⟨⟨A, n, c, l⟩, rfl, rfl, ⟨EAt.own ho (fun g hg hm => by have := hex g hm; have := (ho.lt g hg).1; omega), hl, by show n ≤ _; omega⟩, ?_, hb⟩
  rcases ho.2 with ⟨e, h0⟩ | ⟨g, cap, cur, e, _, _, h1, _⟩
  · show n ≤ c; omega
  · injection e with _ _ e3
    show n ≤ c; omega
theorem ins_take {l : List Int} {v a : Int} {k : Nat} (h : ∀ x ∈ l.take k, x < v) (ha : l[k]? = some a) (hlt : a < v) : ∀ x ∈ l.take (k + 1), x < v := by
  intro x hx
  rw [List.take_add_one, ha] at hx
  rcases List.mem_append.1 hx with hx | hx
  · exact h x hx
  · simp at hx; subst hx; exact hlt
theorem add_nil (a : Addr) : a.add 0 = a := by
  obtain ⟨b, o, p⟩ := a
  cases p <;> simp [Addr.add]
theorem int_new1 (w : World) (o : Obj) (x : Int) (t : Nat) : ∀ (j : Nat) (u : Value), [Value.int .i64 x][j]? = some u → ((w.alloc o).alloc (.cells #[.int .i64 x] t)).cell? ((⟨w.heap.size + 1, 0, none⟩ : Addr).add j) = some u := by
  intro j u h
  have := int_new (w.alloc o) x t j u h
  rw [World.size_alloc] at this
  exact this
theorem own_capn {w : World} {base ty k g n cap : Nat} {xs : List Value} (h : w.ownsRow base ty k (.slice (some ⟨g, 0, none⟩) n cap) n xs) : n ≤ cap := by
  rcases h.2 with ⟨e, h0⟩ | ⟨g2, cap2, cur, e, _, _, h1, _⟩
  · omega
  · injection e with _ _ e3; omega
theorem own_step {w W w5 : World} {v : Value} {ty k n : Nat} {xs : List Value} (hB : Below w.heap.size w W) (ho : W.ownsRow w.heap.size ty k v n xs) (hg : W.grownBy w5 v.ownBlock) : Below w.heap.size w w5 := hB.grown hg hB.size (fun k hk => (ho.lt k hk).1)
theorem ints_take (l : List Int) (k : Nat) : ints (l.take k) = (ints l).take k := by simp [ints, List.map_take]
set_option maxHeartbeats 6400000 in
theorem insert_any (x : RH) (v : Int) (ex : List (Option Nat)) (w : World) (h : RHok w ex x) (hcap : x.n ≤ x.c) (hn : x.n ≤ 100000) (hex : ∀ k, some k ∈ ex → k < w.heap.size) :
    Calls Try.prog 35 #[.slice x.A x.n x.c, .int .i64 v] w (RetIR w ex (insI x.l v)) := by
  obtain ⟨i1, hi, hz0, hz1, hz2⟩ := info_parts info3
  have Hi := hid hi; have Hz0 := hid hz0; have Hz1 := hid hz1; have Hz2 := hid hz2
  clear hi hz0 hz1 hz2
  have HX := hid h
  have HL := hid h.len
  have Hex := hid hex
  clear h hex
  obtain ⟨A, n, c, l⟩ := x
  simp only at *
  have hb1 := (Below.refl w.heap.size w).alloc (Nat.le_refl _) (.cells #[] 3)
  have HB1 := hid hb1
  have HO := hid (World.ownsRow_lit (base := w.heap.size) (e := 3) (size := 1) w #[] 0 (Nat.le_refl _) (by unfold maxLen; omega) rfl)
  clear hb1
  go_enter Try.func35, Try.ntmps35
  go_wp2_with fail
  go_loop [5] (fun iv => ∃ k : Nat, k ≤ n ∧ iv = .int .i64 k ∧ Hid (∀ z ∈ l.take k, z < v)) (fun iv => n - (intOf iv).toNat)
  case atStart => exact ⟨0, by omega, rfl, hid (by simp)⟩
  case round =>
    obtain ⟨k, hk, rfl, hP⟩ := hrel
    by_cases hlt : k < n
    · obtain ⟨a, ha, -⟩ := get_at HL.out hlt
      obtain ⟨ad, hA, had, hc⟩ := HX.out.cell ha
      simp only at hA
      subst hA
      have Ha := hid ha
      clear ha
      by_cases h1 : a < v
      · as_aux_lemma =>
          have Hr := hid (ins_take hP.out Ha.out h1)
          go_wp2_with fail
          go_round
          case rel => exact ⟨k + 1, by omega, by go_num, Hr⟩
          case measure => simp [intOf]; omega
      · by_cases h2 : a = v
        · as_aux_lemma =>
            subst h2
            have Hr := hid (insI_hit hP.out Ha.out)
            go_wp2_with fail
            go_ret
            exact ⟨⟨some ad, n, c, l⟩, rfl, Hr.out.symm, HX.out, hcap, Below.refl _ _⟩
        · have Hr := hid (insI_put hP.out Ha.out (by omega))
          have t1 : (a == v) = false := by simpa using h2
          have hkc : k < c := by omega
          have Hal := hid (fun (v : World) (hb : Below w.heap.size w v) (j : Nat) (u : Value) (hj : (ints l)[j]? = some u) => show v.cell? (ad.add j) = some u by
            rcases HX.out.lies with h | ⟨ad2, e, hs, hcc⟩
            · rw [h] at hj; simp at hj
            · obtain rfl := Option.some.inj e
              exact (hb.cell (p := ad.add j) (by rw [add_block]; exact hs.1)).trans (hcc j u hj))
          have Hlen := hid (show (l.take k ++ v :: l.drop k).length = n + 1 by rw [List.length_append, List.length_take, List.length_cons, List.length_drop, HL.out]; omega)
          have Hdl := hid (show (ints (l.drop k)).length = (n - k) * 1 by unfold ints; rw [List.length_map, List.length_drop, HL.out]; omega)
          have Hdc := hid (fun (u : World) (hb : Below w.heap.size w u) (j : Nat) (z : Value) (hj : (ints (l.drop k))[j]? = some z) => show u.cell? ((ad.add k).add j) = some z by
            rw [Go.Deep.add_add]
            refine Hal.out u hb (k + j) z ?_
            unfold ints at hj ⊢
            rw [List.getElem?_map, List.getElem?_drop] at hj
            rw [List.getElem?_map]; exact hj)
          by_cases hk0 : k = 0
          · subst hk0
            have hc0 : w.cell? ad = some (.int .i64 a) := by rw [add_nil] at hc; exact hc
            have Hr2 := hid Hr.out
            as_aux_lemma =>
              go_wp2_with (
                first
                | (
                 at_builtin
                 refine wpList_append_lies _ rfl _ _ 22 rfl w.heap.size 3 i1 _ 1 8 Try.underlying22 Hi.out Hz0.out Hz1.out Hz2.out rfl (by decide) _ 0 [] rfl (HO.out.alloc _) ⟨w.heap.size + 1, 0, none⟩ 1 1 [Value.int .i64 v] rfl rfl (int_new1 w (.cells #[] 3) v 3) (one_int1 _) (by omega) (by unfold maxLen; omega) (by omega) (by rw [World.size_alloc]; have := (HB1.out).size; omega) _ rfl ?_
                 intro g5 cap5 w5 hown5 hgr5 hat5 hlt5
                 try rw [Nat.zero_add] at hown5
                 try rw [List.nil_append] at hown5
                 have HB5 := hid (own_step ((HB1.out).alloc (HB1.out).size (.cells #[Value.int .i64 v] 3)) (HO.out.alloc _) hgr5)
                 have H5 := hid hown5
                 have hcp5 := own_capn hown5
                 clear hown5 hgr5 hat5 hlt5)
                | (
                 at_builtin
                 refine wpList_append_lies _ rfl _ _ 22 rfl w.heap.size 3 i1 _ 1 8 Try.underlying22 Hi.out Hz0.out Hz1.out Hz2.out rfl (by decide) _ 1 [Value.int .i64 v] rfl H5.out ad n c (ints l) rfl (by unfold ints; rw [List.length_map, HL.out]; omega) (Hal.out _ HB5.out) (one_ints _) (by omega) (by unfold maxLen; omega) (by omega) (HB5.out).size _ rfl ?_
                 intro g7 cap7 w7 hown7 hgr7 hat7 hlt7
                 try rw [Nat.zero_add] at hown7
                 try rw [List.nil_append] at hown7
                 have HB7 := hid (own_step (HB5.out) H5.out hgr7)
                 have H7 := hid hown7
                 clear hown7 hgr7 hat7 hlt7))
              go_ret
              exact RetIR.own Hex.out (by rw [Hr.out]; have := H7.out; simpa [ints] using this) (by rw [Hr.out]; have := Hlen.out; omega) (by omega) HB7.out
          ·
            have Htk := hid (show (ints (l.take k)).length = k * 1 by unfold ints; rw [List.length_map, List.length_take, HL.out]; omega)
            have Htc := hid (fun (u : World) (hb : Below w.heap.size w u) (j : Nat) (z : Value) (hj : (ints (l.take k))[j]? = some z) => show u.cell? (ad.add j) = some z by
              refine Hal.out u hb j z ?_
              rw [ints_take, List.getElem?_take] at hj
              split at hj
              · exact hj
              · cases hj)
            as_aux_lemma =>
              go_wp2_with (
                first
                | (
                 at_builtin
                 refine wpList_append_lies _ rfl _ _ 22 rfl w.heap.size 3 i1 _ 1 8 Try.underlying22 Hi.out Hz0.out Hz1.out Hz2.out rfl (by decide) _ 0 [] rfl HO.out ad k c (ints (l.take k)) rfl Htk.out (Htc.out _ HB1.out) (one_ints _) (by omega) (by unfold maxLen; omega) (by omega) (HB1.out).size _ rfl ?_
                 intro g3 cap3 w3 hown3 hgr3 hat3 hlt3
                 try rw [Nat.zero_add] at hown3
                 try rw [List.nil_append] at hown3
                 have HB3 := hid (own_step (HB1.out) HO.out hgr3)
                 have H3 := hid hown3
                 clear hown3 hgr3 hat3 hlt3
                 clear HO)
                | (
                 at_builtin
                 refine wpList_append_lies _ rfl _ _ 22 rfl w.heap.size 3 i1 _ 1 8 Try.underlying22 Hi.out Hz0.out Hz1.out Hz2.out rfl (by decide) _ k (ints (l.take k)) rfl (H3.out.alloc _) ⟨(w3).heap.size, 0, none⟩ 1 1 [Value.int .i64 v] rfl rfl (int_new (w3) v 3) (one_int1 _) (by omega) (by unfold maxLen; omega) (by omega) (by rw [World.size_alloc]; have := (HB3.out).size; omega) _ rfl ?_
                 intro g5 cap5 w5 hown5 hgr5 hat5 hlt5
                 try rw [Nat.zero_add] at hown5
                 try rw [List.nil_append] at hown5
                 have HB5 := hid (own_step ((HB3.out).alloc (HB3.out).size (.cells #[Value.int .i64 v] 3)) (H3.out.alloc _) hgr5)
                 have H5 := hid hown5
                 have hcp5 := own_capn hown5
                 clear hown5 hgr5 hat5 hlt5
                 clear H3)
                | (
                 at_builtin
                 refine wpList_append_lies _ rfl _ _ 22 rfl w.heap.size 3 i1 _ 1 8 Try.underlying22 Hi.out Hz0.out Hz1.out Hz2.out rfl (by decide) _ (k + 1) (ints (l.take k) ++ [Value.int .i64 v]) rfl H5.out (ad.add k) (n - k) (c - k) (ints (l.drop k)) rfl Hdl.out (Hdc.out _ HB5.out) (one_ints _) (by omega) (by unfold maxLen; omega) (by omega) (HB5.out).size _ rfl ?_
                 intro g7 cap7 w7 hown7 hgr7 hat7 hlt7
                 try rw [Nat.zero_add] at hown7
                 try rw [List.nil_append] at hown7
                 have HB7 := hid (own_step (HB5.out) H5.out hgr7)
                 have H7 := hid hown7
                 clear hown7 hgr7 hat7 hlt7))
              go_ret
              exact RetIR.own Hex.out (by rw [Hr.out]; have := H7.out; simpa [ints] using this) (by rw [Hr.out]; have := Hlen.out; omega) (by omega) HB7.out
    · obtain rfl : k = n := by omega
      have Hr := hid (insI_end (l := l) (n := v) (by have := hP.out; rw [List.take_of_length_le (by rw [HL.out]; omega)] at this; exact this))
      have Hlen := hid (show (l ++ [v]).length = k + 1 by rw [List.length_append, HL.out]; rfl)
      have Hex2 := Hex
      by_cases h0 : k = 0
      · subst h0
        have Hl0 := hid (show l = [] from List.length_eq_zero_iff.1 HL.out)
        rcases A with _ | ad
        all_goals
          by_cases hc0 : c = 0
          · as_aux_lemma =>
              subst hc0
              go_wp2_with (
                first
                | (
                 at_builtin
                 refine wpList_append_lies _ rfl _ _ 22 rfl w.heap.size 3 i1 _ 1 8 Try.underlying22 Hi.out Hz0.out Hz1.out Hz2.out rfl (by decide) _ 0 [] rfl (HO.out.alloc _) ⟨w.heap.size + 1, 0, none⟩ 1 1 [Value.int .i64 v] rfl rfl (int_new1 w (.cells #[] 3) v 3) (one_int1 _) (by omega) (by unfold maxLen; omega) (by omega) (by rw [World.size_alloc]; have := (HB1.out).size; omega) _ rfl ?_
                 intro g5 cap5 w5 hown5 hgr5 hat5 hlt5
                 try rw [Nat.zero_add] at hown5
                 try rw [List.nil_append] at hown5
                 have HB5 := hid (own_step ((HB1.out).alloc (HB1.out).size (.cells #[Value.int .i64 v] 3)) (HO.out.alloc _) hgr5)
                 have H5 := hid hown5
                 have hcp5 := own_capn hown5
                 clear hown5 hgr5 hat5 hlt5))
              go_ret
              exact RetIR.own Hex.out (by rw [Hr.out, Hl0.out]; have := H5.out; simpa [ints] using this) (by rw [Hr.out, Hl0.out]; rfl) (by omega) HB5.out
          · as_aux_lemma =>
              have hcp : 0 < c := by omega
              go_wp2_with (
                first
                | (
                 at_builtin
                 refine wpList_append_lies _ rfl _ _ 22 rfl w.heap.size 3 i1 _ 1 8 Try.underlying22 Hi.out Hz0.out Hz1.out Hz2.out rfl (by decide) _ 0 [] rfl (HO.out.alloc _) ⟨w.heap.size + 1, 0, none⟩ 1 1 [Value.int .i64 v] rfl rfl (int_new1 w (.cells #[] 3) v 3) (one_int1 _) (by omega) (by unfold maxLen; omega) (by omega) (by rw [World.size_alloc]; have := (HB1.out).size; omega) _ rfl ?_
                 intro g5 cap5 w5 hown5 hgr5 hat5 hlt5
                 try rw [Nat.zero_add] at hown5
                 try rw [List.nil_append] at hown5
                 have HB5 := hid (own_step ((HB1.out).alloc (HB1.out).size (.cells #[Value.int .i64 v] 3)) (HO.out.alloc _) hgr5)
                 have H5 := hid hown5
                 have hcp5 := own_capn hown5
                 clear hown5 hgr5 hat5 hlt5))
              go_ret
              exact RetIR.own Hex.out (by rw [Hr.out, Hl0.out]; have := H5.out; simpa [ints] using this) (by rw [Hr.out, Hl0.out]; rfl) (by omega) HB5.out
      · obtain ⟨ad, rfl, had, hc⟩ : ∃ ad, A = some ad ∧ Safe w ex ad.block ∧ ∀ j u, (ints l)[j]? = some u → w.cell? (ad.add j) = some u := by
          rcases HX.out.lies with h | h
          · have h := congrArg List.length h; simp [ints] at h; have := HL.out; rw [h] at this; simp at this; omega
          · exact h
        have Htk := hid (show (ints l).length = k * 1 by unfold ints; rw [List.length_map, HL.out]; omega)
        have Htc := hid (fun (u : World) (hb : Below w.heap.size w u) (j : Nat) (z : Value) (hj : (ints l)[j]? = some z) => show u.cell? (ad.add j) = some z from (hb.cell (p := ad.add j) (by rw [add_block]; exact had.1)).trans (hc j z hj))
        clear hc had
        by_cases hkc : k = c
        · as_aux_lemma =>
            subst hkc
            go_wp2_with (
              first
              | (
               at_builtin
               refine wpList_append_lies _ rfl _ _ 22 rfl w.heap.size 3 i1 _ 1 8 Try.underlying22 Hi.out Hz0.out Hz1.out Hz2.out rfl (by decide) _ 0 [] rfl HO.out ad k k (ints l) rfl Htk.out (Htc.out _ HB1.out) (one_ints _) (by omega) (by unfold maxLen; omega) (by omega) (HB1.out).size _ rfl ?_
               intro g3 cap3 w3 hown3 hgr3 hat3 hlt3
               try rw [Nat.zero_add] at hown3
               try rw [List.nil_append] at hown3
               have HB3 := hid (own_step (HB1.out) HO.out hgr3)
               have H3 := hid hown3
               clear hown3 hgr3 hat3 hlt3
               clear HO)
              | (
               at_builtin
               refine wpList_append_lies _ rfl _ _ 22 rfl w.heap.size 3 i1 _ 1 8 Try.underlying22 Hi.out Hz0.out Hz1.out Hz2.out rfl (by decide) _ k (ints l) rfl (H3.out.alloc _) ⟨(w3).heap.size, 0, none⟩ 1 1 [Value.int .i64 v] rfl rfl (int_new (w3) v 3) (one_int1 _) (by omega) (by unfold maxLen; omega) (by omega) (by rw [World.size_alloc]; have := (HB3.out).size; omega) _ rfl ?_
               intro g5 cap5 w5 hown5 hgr5 hat5 hlt5
               try rw [Nat.zero_add] at hown5
               try rw [List.nil_append] at hown5
               have HB5 := hid (own_step ((HB3.out).alloc (HB3.out).size (.cells #[Value.int .i64 v] 3)) (H3.out.alloc _) hgr5)
               have H5 := hid hown5
               have hcp5 := own_capn hown5
               clear hown5 hgr5 hat5 hlt5
               clear H3))
            go_ret
            exact RetIR.own Hex.out (by rw [Hr.out]; have := H5.out; simpa [ints] using this) (by rw [Hr.out]; have := Hlen.out; omega) (by omega) HB5.out
        · as_aux_lemma =>
            have hkc2 : k < c := by omega
            go_wp2_with (
              first
              | (
               at_builtin
               refine wpList_append_lies _ rfl _ _ 22 rfl w.heap.size 3 i1 _ 1 8 Try.underlying22 Hi.out Hz0.out Hz1.out Hz2.out rfl (by decide) _ 0 [] rfl HO.out ad k c (ints l) rfl Htk.out (Htc.out _ HB1.out) (one_ints _) (by omega) (by unfold maxLen; omega) (by omega) (HB1.out).size _ rfl ?_
               intro g3 cap3 w3 hown3 hgr3 hat3 hlt3
               try rw [Nat.zero_add] at hown3
               try rw [List.nil_append] at hown3
               have HB3 := hid (own_step (HB1.out) HO.out hgr3)
               have H3 := hid hown3
               clear hown3 hgr3 hat3 hlt3
               clear HO)
              | (
               at_builtin
               refine wpList_append_lies _ rfl _ _ 22 rfl w.heap.size 3 i1 _ 1 8 Try.underlying22 Hi.out Hz0.out Hz1.out Hz2.out rfl (by decide) _ k (ints l) rfl (H3.out.alloc _) ⟨(w3).heap.size, 0, none⟩ 1 1 [Value.int .i64 v] rfl rfl (int_new (w3) v 3) (one_int1 _) (by omega) (by unfold maxLen; omega) (by omega) (by rw [World.size_alloc]; have := (HB3.out).size; omega) _ rfl ?_
               intro g5 cap5 w5 hown5 hgr5 hat5 hlt5
               try rw [Nat.zero_add] at hown5
               try rw [List.nil_append] at hown5
               have HB5 := hid (own_step ((HB3.out).alloc (HB3.out).size (.cells #[Value.int .i64 v] 3)) (H3.out.alloc _) hgr5)
               have H5 := hid hown5
               have hcp5 := own_capn hown5
               clear hown5 hgr5 hat5 hlt5
               clear H3))
            go_ret
            exact RetIR.own Hex.out (by rw [Hr.out]; have := H5.out; simpa [ints] using this) (by rw [Hr.out]; have := Hlen.out; omega) (by omega) HB5.out
end Go.Proofs.Ytbjaebbmajhjjaa
