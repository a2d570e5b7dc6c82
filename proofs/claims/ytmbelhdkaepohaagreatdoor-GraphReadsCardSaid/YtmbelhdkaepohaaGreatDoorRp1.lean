/- The reference's parser: is, isName, isKind, fail, name, word, end. -/
import Derived.Test.YtmbelhdkaepohaaGreatDoorPmd
import Derived.Test.YtmbelhdkaepohaaGreatDoorSnl
import Derived.Test.YtmbelhdkaepohaaGreatDoorRn
import Derived.Test.YtmbelhdkaepohaaGreatDoorQb
namespace Go.Proofs.YtmbelhdkaepohaaGreatDoor
set_option maxRecDepth 20000
set_option linter.unusedVariables false
set_option linter.unusedSimpArgs false
open Go.ChangeShapes Go.WideShapes Go.ChangeAt Go.RowKit

/-- The reference's parser in block b, over the tokens L that lie below it. -/
structure Rst (w : World) (b : Nat) (A : Option Addr) (c : Nat) (L : List Tok) (σ : Rs) : Prop where
  at_ : ∃ k : Nat, k ≤ L.length ∧ L.drop k = σ.l ∧ Fb w b #[.slice A L.length c, .int .i64 (k : Int), .int .i64 σ.e] 70
  lies : At w b A (tcells L)
  few : L.length ≤ 100000
section
variable {w w' : World} {b : Nat} {A : Option Addr} {c : Nat} {L : List Tok} {σ : Rs}
theorem Rst.lt (h : Rst w b A c L σ) : b < w.heap.size := by obtain ⟨k, _, _, hf⟩ := h.at_; exact hf.lt
theorem Rst.arg (h : Rst w b A c L σ) : TArg w A L.length L := ⟨h.lies.more (Nat.le_of_lt h.lt), rfl⟩
theorem Rst.keep (h : Rst w b A c L σ) (hb : ∀ k, k ≤ b → w'.heap[k]? = w.heap[k]?) : Rst w' b A c L σ := by
  obtain ⟨k, h1, h2, hf⟩ := h.at_
  exact ⟨⟨k, h1, h2, (hb b (Nat.le_refl _)).trans hf⟩, h.lies.keep (fun p hp => World.cell?_of_block (hb _ (by omega))) (Nat.le_refl _), h.few⟩
theorem Rst.below {B : Nat} (h : Rst w b A c L σ) (hb : Below B w w') (hB : b < B) : Rst w' b A c L σ := h.keep fun k hk => hb.block k (by omega)
theorem Rst.grown {row : Option Nat} (h : Rst w b A c L σ) (hg : w.grownBy w' row) (hr : ∀ k, row = some k → b < k) : Rst w' b A c L σ :=
  h.keep fun k hk => hg.block k (Nat.lt_of_le_of_lt hk h.lt) (fun e => by have := hr k e.symm; omega)
theorem Rst.alloc (h : Rst w b A c L σ) (o : Obj) : Rst (w.alloc o) b A c L σ := h.below ((Below.refl w.heap.size w).alloc (Nat.le_refl _) o) h.lt
theorem Rst.far (h : Rst w b A c L σ) {p : Addr} (hp : b < p.block) (u : Value) : Rst (w.setCell p u) b A c L σ := h.keep fun k hk => Below.heap_setCell w p u k (by omega)
theorem Rst.drewN (h : Rst w b A c L σ) (q : Nat) : Rst (w.drewN q) b A c L σ := h.keep fun _ _ => rfl
theorem At.far {B : Nat} {xs : List Value} (h : At w B A xs) {p : Addr} (hp : B ≤ p.block) (u : Value) : At (w.setCell p u) B A xs :=
  h.keep (fun q hq => World.cell?_of_block (Below.heap_setCell w p u q.block (by omega))) (Nat.le_refl _)
end
theorem Fb.three {w : World} {g t : Nat} {a b c : Value} (h : Fb w g #[a, b, c] t) :
    (w.cell? ⟨g, 0, none⟩ = some a ∧ w.cell? ⟨g, 1, none⟩ = some b ∧ w.cell? ⟨g, 2, none⟩ = some c) ∧
      (w.frozen? ⟨g, 0, none⟩ = false ∧ w.frozen? ⟨g, 1, none⟩ = false ∧ w.frozen? ⟨g, 2, none⟩ = false) :=
  ⟨⟨h.cell 0, h.cell 1, h.cell 2⟩, h.frozen 0, h.frozen 1, h.frozen 2⟩
theorem nxt_drop {L : List Tok} {k : Nat} (h : k < L.length) : nxt (L.drop k) = L[k] := by
  rw [List.drop_eq_getElem_cons h]; rfl
theorem nxt_end {L : List Tok} {k : Nat} (h : L.length ≤ k) : L.drop k = [] := List.drop_of_length_le h
theorem tail_drop (L : List Tok) (k : Nat) : (L.drop k).tail = L.drop (k + 1) := by rw [List.tail_drop]

set_option maxHeartbeats 1600000 in
theorem refIs_any (b : Nat) (A : Option Addr) (c : Nat) (L : List Tok) (σ : Rs) (x : ByteArray) (w : World) (h : Rst w b A c L σ) :
    Calls Tryz.prog 37 #[.pointer (some ⟨b, 0, none⟩), .string x] w fun e w' => e = .returned (.bool (isK x σ)) ∧ Below w.heap.size w w' := by
  have hlt := h.lt
  have hg := h.arg
  have hfew := h.few
  obtain ⟨⟨k, hk, hl, hf⟩, -, -⟩ := h
  obtain ⟨l, er⟩ := σ
  simp only at hl hf
  obtain ⟨⟨c0, c1, c2⟩, -⟩ := hf.three
  have HQ := hid (fun q => below_drewN (Below.refl w.heap.size w) q)
  cases he : (er == 0) with
  | false =>
    have Hr := hid (show isK x ⟨l, er⟩ = false by unfold isK; simp only [he]; rfl)
    clear hl hf hg
    go_enter Tryz.func37, Tryz.ntmps37
    go_wp2_with fail
    go_quiet (fail)
    go_wp2
    go_ret
    exact ⟨by rw [Hr.out]; rfl, HQ.out _⟩
  | true =>
    by_cases hkl : k < L.length
    · obtain ⟨a, rfl, ha, ⟨a0, a1⟩, -, -⟩ := hg.cell hkl
      have hn : nxt l = L[k] := by rw [← hl, nxt_drop hkl]
      have hr : isK x ⟨l, er⟩ = ((L[k]).kind == 1 && eqB (L[k]).text x) := by unfold isK; simp only [he, hn]; rfl
      generalize (L[k]).kind = kd at *
      generalize (L[k]).text = tx at *
      unfold eqB at hr
      cases h1 : (kd == 1) with
      | false =>
        have Hr := hid (show isK x ⟨l, er⟩ = false by rw [hr, h1]; rfl)
        clear hl hf hg hn hr
        go_enter Tryz.func37, Tryz.ntmps37
        go_wp2_with fail
        go_quiet (fail)
        go_wp2
        go_ret
        exact ⟨by rw [Hr.out]; rfl, HQ.out _⟩
      | true =>
        have Hr := hid (show isK x ⟨l, er⟩ = (tx.toList == x.toList) by rw [hr, h1]; rfl)
        clear hl hf hg hn hr
        cases h2 : (tx.toList == x.toList)
        all_goals
          go_enter Tryz.func37, Tryz.ntmps37
          go_wp2_with fail
          go_quiet (fail)
          go_wp2
          go_ret
          exact ⟨by rw [Hr.out, h2]; rfl, HQ.out _⟩
    · have hn : l = [] := by rw [← hl, nxt_end (by omega)]
      have Hr := hid (show isK x ⟨l, er⟩ = false by unfold isK; rw [hn]; simp [nxt, zTok])
      clear hl hf hg hn
      go_enter Tryz.func37, Tryz.ntmps37
      go_wp2_with fail
      go_quiet (fail)
      go_wp2
      go_ret
      exact ⟨by rw [Hr.out]; rfl, HQ.out _⟩
set_option maxHeartbeats 1600000 in
theorem refIsKind_any (b : Nat) (A : Option Addr) (c : Nat) (L : List Tok) (σ : Rs) (x : Int) (hx : x ≠ 0) (w : World) (h : Rst w b A c L σ) :
    Calls Tryz.prog 72 #[.pointer (some ⟨b, 0, none⟩), .int .i64 x] w fun e w' => e = .returned (.bool (isD x σ)) ∧ Below w.heap.size w w' := by
  have hlt := h.lt
  have hg := h.arg
  have hfew := h.few
  obtain ⟨⟨k, hk, hl, hf⟩, -, -⟩ := h
  obtain ⟨l, er⟩ := σ
  simp only at hl hf
  obtain ⟨⟨c0, c1, c2⟩, -⟩ := hf.three
  have HQ := hid (fun q => below_drewN (Below.refl w.heap.size w) q)
  have Hx := hid hx
  clear hx
  cases he : (er == 0) with
  | false =>
    have Hr := hid (show isD x ⟨l, er⟩ = false by unfold isD; simp only [he]; rfl)
    clear hl hf hg
    go_enter Tryz.func72, Tryz.ntmps72
    go_wp2_with fail
    go_quiet (fail)
    go_wp2
    go_ret
    exact ⟨by rw [Hr.out]; rfl, HQ.out _⟩
  | true =>
    by_cases hkl : k < L.length
    · obtain ⟨a, rfl, ha, ⟨a0, a1⟩, -, -⟩ := hg.cell hkl
      have hn : nxt l = L[k] := by rw [← hl, nxt_drop hkl]
      have hr : isD x ⟨l, er⟩ = ((L[k]).kind == x) := by unfold isD; simp only [he, hn]; rfl
      generalize (L[k]).kind = kd at *
      generalize (L[k]).text = tx at *
      have Hr := hid hr
      clear hl hf hg hn hr
      cases h1 : (kd == x)
      all_goals
        go_enter Tryz.func72, Tryz.ntmps72
        go_wp2_with fail
        go_quiet (fail)
        go_wp2
        go_ret
        exact ⟨by rw [Hr.out, h1]; rfl, HQ.out _⟩
    · have hn : l = [] := by rw [← hl, nxt_end (by omega)]
      have Hr := hid (show isD x ⟨l, er⟩ = false by unfold isD; rw [hn]; simp [nxt, zTok]; intro _ e; exact Hx.out e.symm)
      clear hl hf hg hn
      go_enter Tryz.func72, Tryz.ntmps72
      go_wp2_with fail
      go_quiet (fail)
      go_wp2
      go_ret
      exact ⟨by rw [Hr.out]; rfl, HQ.out _⟩
/-- The tokens' texts are short. -/
def Short (L : List Tok) : Prop := ∀ t ∈ L, t.text.size ≤ 16
set_option maxHeartbeats 1600000 in
theorem refIsName2_any (b : Nat) (A : Option Addr) (c : Nat) (L : List Tok) (σ : Rs) (w : World) (h : Rst w b A c L σ) (hs : Short L) :
    Calls Tryz.prog 71 #[.pointer (some ⟨b, 0, none⟩)] w fun e w' => e = .returned (.bool (isN σ)) ∧ Below w.heap.size w w' := by
  have hlt := h.lt
  have hg := h.arg
  have hfew := h.few
  obtain ⟨⟨k, hk, hl, hf⟩, -, -⟩ := h
  obtain ⟨l, er⟩ := σ
  simp only at hl hf
  obtain ⟨⟨c0, c1, c2⟩, -⟩ := hf.three
  have HQ := hid (fun q => below_drewN (Below.refl w.heap.size w) q)
  have Hs := hid hs
  clear hs
  cases he : (er == 0) with
  | false =>
    have Hr := hid (show isN ⟨l, er⟩ = false by unfold isN; simp only [he]; rfl)
    clear hl hf hg
    go_enter Tryz.func71, Tryz.ntmps71
    go_wp2_with fail
    go_quiet (fail)
    go_wp2
    go_ret
    exact ⟨by rw [Hr.out]; rfl, HQ.out _⟩
  | true =>
    by_cases hkl : k < L.length
    · obtain ⟨a, rfl, ha, ⟨a0, a1⟩, -, -⟩ := hg.cell hkl
      have hn : nxt l = L[k] := by rw [← hl, nxt_drop hkl]
      have hr : isN ⟨l, er⟩ = ((L[k]).kind == 1 && nameB (L[k]).text) := by unfold isN; simp only [he, hn]; rfl
      have h16 := Hs.out _ (List.getElem_mem hkl)
      generalize (L[k]).kind = kd at *
      generalize (L[k]).text = tx at *
      cases h1 : (kd == 1) with
      | false =>
        have Hr := hid (show isN ⟨l, er⟩ = false by rw [hr, h1]; rfl)
        clear hl hf hg hn hr
        go_enter Tryz.func71, Tryz.ntmps71
        go_wp2_with fail
        go_quiet (fail)
        go_wp2
        go_ret
        exact ⟨by rw [Hr.out]; rfl, HQ.out _⟩
      | true =>
        have Hr := hid (show isN ⟨l, er⟩ = nameB tx by rw [hr, h1]; rfl)
        have Hn := hid (fun w => refIsName_any tx w (by unfold maxLen; omega))
        clear hl hf hg hn hr
        have l0 := Later.cell (show (⟨b, 0, none⟩ : Addr).block < w.heap.size from hlt) c0
        have l1 := Later.cell (show (⟨b, 1, none⟩ : Addr).block < w.heap.size from hlt) c1
        have l2 := Later.cell (show (⟨b, 2, none⟩ : Addr).block < w.heap.size from hlt) c2
        have m0 := Later.cell (show (a.add (k * 4)).block < w.heap.size by rw [add_block]; exact ha) a0
        have m1 := Later.cell (show (⟨(a.add (k * 4)).block, (a.add (k * 4)).off + 1, none⟩ : Addr).block < w.heap.size by show (a.add (k * 4)).block < _; rw [add_block]; exact ha) a1
        clear c0 c1 c2 a0 a1
        go_enter Tryz.func71, Tryz.ntmps71
        go_wp2_with fail
        refine wp_region_below (by kernel_rfl) (by kernel_rfl) ?_
        repeat (go_big_quiet_step ((go_at_call 93; exact Later.call (Hn.out _))))
        refine wpQuiet_nil ?_
        rintro _ ⟨pq, rfl⟩
        have Hcur := hid pq.keeps
        generalize pq.wd = wq at *
        clear pq l0 l1 l2 m0 m1
        go_wp2
        go_ret
        exact ⟨by rw [Hr.out]; rfl, Hcur.out⟩
    · have hn : l = [] := by rw [← hl, nxt_end (by omega)]
      have Hr := hid (show isN ⟨l, er⟩ = false by unfold isN; rw [hn]; simp [nxt, zTok])
      clear hl hf hg hn
      go_enter Tryz.func71, Tryz.ntmps71
      go_wp2_with fail
      go_quiet (fail)
      go_wp2
      go_ret
      exact ⟨by rw [Hr.out]; rfl, HQ.out _⟩
/-- The parser goes on: its state, and nothing else that was there changes. -/
def RTo (w : World) (b : Nat) (A : Option Addr) (c : Nat) (L : List Tok) (σ : Rs) (w' : World) : Prop := Rst w' b A c L σ ∧ w.grownBy w' (some b)
theorem RTo.trans {w w' w'' : World} {b c : Nat} {A : Option Addr} {L : List Tok} {σ σ' : Rs} (h : RTo w b A c L σ w') (h2 : RTo w' b A c L σ' w'') : RTo w b A c L σ' w'' := ⟨h2.1, grown_two h.2 h2.2⟩
theorem RTo.belowl {w w' w'' : World} {b c : Nat} {A : Option Addr} {L : List Tok} {σ : Rs} (hb : Below w.heap.size w w') (h2 : RTo w' b A c L σ w'') : RTo w b A c L σ w'' := ⟨h2.1, grown_two (grown_of_below hb _) h2.2⟩
theorem RTo.belowr {w w' w'' : World} {b c : Nat} {A : Option Addr} {L : List Tok} {σ : Rs} (h : RTo w b A c L σ w') (hb : Below w'.heap.size w' w'') : RTo w b A c L σ w'' := ⟨h.1.below hb h.1.lt, grown_two h.2 (grown_of_below hb _)⟩
theorem RTo.refl {w : World} {b c : Nat} {A : Option Addr} {L : List Tok} {σ : Rs} (h : Rst w b A c L σ) : RTo w b A c L σ w := ⟨h, World.grownBy.refl _ _⟩
theorem Rst.err {w : World} {b c : Nat} {A : Option Addr} {L : List Tok} {l : List Tok} {e : Int} (h : Rst w b A c L ⟨l, e⟩) (x : Int) : RTo w b A c L ⟨l, x⟩ (w.setCell ⟨b, 2, none⟩ (.int .i64 x)) := by
  obtain ⟨k, h1, h2, hf⟩ := h.at_
  exact ⟨⟨⟨k, h1, h2, by have := hf.set 2 (.int .i64 x); simpa using this⟩, h.lies.far (Nat.le_refl _) _, h.few⟩, setCell_grown w _ _⟩
theorem Rst.step {w : World} {b c k : Nat} {A : Option Addr} {L : List Tok} {l : List Tok} {e : Int} (h : Rst w b A c L ⟨l, e⟩) (hk : k < L.length) (hl : L.drop k = l)
    (hf : Fb w b #[.slice A L.length c, .int .i64 (k : Int), .int .i64 e] 70) : RTo w b A c L ⟨l.tail, e⟩ (w.setCell ⟨b, 1, none⟩ (.int .i64 ((k : Int) + 1))) := by
  refine ⟨⟨⟨k + 1, hk, by rw [← hl, tail_drop], by have := hf.set 1 (.int .i64 ((k : Int) + 1)); simpa using this⟩, h.lies.far (Nat.le_refl _) _, h.few⟩, setCell_grown w _ _⟩
set_option maxHeartbeats 1600000 in
theorem refFail_any (b : Nat) (A : Option Addr) (c : Nat) (L : List Tok) (σ : Rs) (x : Int) (w : World) (h : Rst w b A c L σ) :
    Calls Tryz.prog 38 #[.pointer (some ⟨b, 0, none⟩), .int .i64 x] w fun e w' => e = .returned (.tuple #[]) ∧ RTo w b A c L (failR x σ) w' := by
  have hlt := h.lt
  obtain ⟨k, -, -, hf⟩ := h.at_
  obtain ⟨l, er⟩ := σ
  have H := hid h
  clear h
  simp only at hf
  obtain ⟨⟨c0, c1, c2⟩, ⟨f0, f1, f2⟩⟩ := hf.three
  clear hf
  cases he : (er == 0) with
  | false =>
    have Hr := hid (show failR x ⟨l, er⟩ = ⟨l, er⟩ by unfold failR; simp only [he]; rfl)
    go_enter Tryz.func38, Tryz.ntmps38
    go_wp2_with fail
    refine bodyPost_end (v := .tuple #[]) (by simp [results, Tryz.results38]) rfl ⟨rfl, ?_⟩
    rw [Hr.out]; exact .refl H.out
  | true =>
    have Hr := hid (show failR x ⟨l, er⟩ = ⟨l, x⟩ by unfold failR; simp only [he]; rfl)
    go_enter Tryz.func38, Tryz.ntmps38
    go_wp2_with fail
    refine bodyPost_end (v := .tuple #[]) (by simp [results, Tryz.results38]) rfl ⟨rfl, ?_⟩
    rw [Hr.out]; exact H.out.err x
/-- A state in which a token is next: where it lies. -/
theorem Rst.next {w : World} {b c : Nat} {A : Option Addr} {L : List Tok} {l : List Tok} {e : Int} (h : Rst w b A c L ⟨l, e⟩) (hn : l ≠ []) :
    ∃ (k : Nat) (a : Addr), k < L.length ∧ L.drop k = l ∧ Fb w b #[.slice (some a) L.length c, .int .i64 (k : Int), .int .i64 e] 70 ∧ A = some a ∧ a.block < b ∧
      w.cell? (a.add (k * 4)) = some (.int .i64 (nxt l).kind) ∧ w.cell? ⟨(a.add (k * 4)).block, (a.add (k * 4)).off + 1, none⟩ = some (.string (nxt l).text) := by
  obtain ⟨k, h1, h2, hf⟩ := h.at_
  simp only at h2 hf
  have hkl : k < L.length := by
    rcases Nat.lt_or_ge k L.length with hlt | hge
    · exact hlt
    · exact absurd (by rw [← h2, nxt_end hge]) hn
  obtain ⟨a, rfl, ha, ⟨a0, a1⟩, -, -⟩ := h.arg.cell hkl
  have hb : a.block < b := by
    rcases h.lies with h0 | ⟨ad, e1, hb, _⟩
    · have := tcells_len L; rw [h0] at this; simp at this; omega
    · injection e1 with e1; rw [e1]; exact hb
  rw [← nxt_drop hkl, h2] at a0 a1
  exact ⟨k, a, hkl, h2, hf, rfl, hb, a0, a1⟩
theorem isN_l {σ : Rs} (h : isN σ = true) : σ.l ≠ [] := by
  obtain ⟨l, e⟩ := σ
  rintro rfl
  unfold isN at h
  simp [nxt, zTok] at h
theorem isK_l {σ : Rs} {x : ByteArray} (h : isK x σ = true) : σ.l ≠ [] := by
  obtain ⟨l, e⟩ := σ
  rintro rfl
  unfold isK at h
  simp [nxt, zTok] at h
theorem isD_l {σ : Rs} {x : Int} (hx : x ≠ 0) (h : isD x σ = true) : σ.l ≠ [] := by
  obtain ⟨l, e⟩ := σ
  rintro rfl
  unfold isD at h
  simp [nxt, zTok] at h
  omega
set_option maxHeartbeats 1600000 in
theorem refWord_any (b : Nat) (A : Option Addr) (c : Nat) (L : List Tok) (σ : Rs) (x : ByteArray) (w : World) (h : Rst w b A c L σ) :
    Calls Tryz.prog 50 #[.pointer (some ⟨b, 0, none⟩), .string x] w fun e w' => e = .returned (.tuple #[]) ∧ RTo w b A c L (wordR x σ) w' := by
  have H := hid h
  have Hc := hid (refIs_any b A c L σ x w h)
  clear h
  cases hb : isK x σ with
  | false =>
    have HB := hid hb
    have Hr := hid (show wordR x σ = failR 4 σ by unfold wordR; rw [hb]; rfl)
    clear hb
    go_enter Tryz.func50, Tryz.ntmps50
    go_wp2_with fail
    refine Hc.out.mono ?_
    rw [HB.out]
    rintro e w1 ⟨rfl, hb1⟩
    have H1 := hid (H.out.below hb1 H.out.lt)
    have HB1 := hid hb1
    clear hb1
    go_wp2_with fail
    refine (refFail_any b A c L σ 4 _ H1.out).mono ?_
    rintro e w2 ⟨rfl, h2⟩
    have H2 := hid h2
    clear h2
    go_wp2_with fail
    refine bodyPost_ret (v := .tuple #[]) (by simp [results, Tryz.results50]) rfl ⟨rfl, ?_⟩
    rw [Hr.out]; exact .belowl HB1.out H2.out
  | true =>
    have hne := isK_l hb
    have HB := hid hb
    obtain ⟨l, er⟩ := σ
    have Hr := hid (show wordR x ⟨l, er⟩ = ⟨l.tail, er⟩ by unfold wordR; rw [hb]; rfl)
    have Hne := hid hne
    clear hb hne
    go_enter Tryz.func50, Tryz.ntmps50
    go_wp2_with fail
    refine Hc.out.mono ?_
    rw [HB.out]
    rintro e w1 ⟨rfl, hb1⟩
    have H1 := hid (H.out.below hb1 H.out.lt)
    have HB1 := hid hb1
    clear hb1
    have hlt := H1.out.lt
    have hfew := H1.out.few
    obtain ⟨k, a, hk, hl, hf, rfl, ha, -, -⟩ := H1.out.next Hne.out
    obtain ⟨⟨c0, c1, c2⟩, ⟨f0, f1, f2⟩⟩ := hf.three
    have Hs := hid (H1.out.step hk hl hf)
    clear hf hl
    go_wp2_with fail
    refine bodyPost_end (v := .tuple #[]) (by simp [results, Tryz.results50]) rfl ⟨rfl, ?_⟩
    rw [Hr.out]; exact .belowl HB1.out Hs.out
set_option maxHeartbeats 1600000 in
theorem refEnd_any (b : Nat) (A : Option Addr) (c : Nat) (L : List Tok) (σ : Rs) (w : World) (h : Rst w b A c L σ) :
    Calls Tryz.prog 52 #[.pointer (some ⟨b, 0, none⟩)] w fun e w' => e = .returned (.tuple #[]) ∧ RTo w b A c L (endR σ) w' := by
  have H := hid h
  have Hc := hid (refIsKind_any b A c L σ 3 (by omega) w h)
  clear h
  cases hb : isD 3 σ with
  | false =>
    have HB := hid hb
    have Hr := hid (show endR σ = failR 4 σ by unfold endR; rw [hb]; rfl)
    clear hb
    go_enter Tryz.func52, Tryz.ntmps52
    go_wp2_with fail
    refine Hc.out.mono ?_
    rw [HB.out]
    rintro e w1 ⟨rfl, hb1⟩
    have H1 := hid (H.out.below hb1 H.out.lt)
    have HB1 := hid hb1
    clear hb1
    go_wp2_with fail
    refine (refFail_any b A c L σ 4 _ H1.out).mono ?_
    rintro e w2 ⟨rfl, h2⟩
    have H2 := hid h2
    clear h2
    go_wp2_with fail
    refine bodyPost_ret (v := .tuple #[]) (by simp [results, Tryz.results52]) rfl ⟨rfl, ?_⟩
    rw [Hr.out]; exact .belowl HB1.out H2.out
  | true =>
    have hne := isD_l (by omega) hb
    have HB := hid hb
    obtain ⟨l, er⟩ := σ
    have Hr := hid (show endR ⟨l, er⟩ = ⟨l.tail, er⟩ by unfold endR; rw [hb]; rfl)
    have Hne := hid hne
    clear hb hne
    go_enter Tryz.func52, Tryz.ntmps52
    go_wp2_with fail
    refine Hc.out.mono ?_
    rw [HB.out]
    rintro e w1 ⟨rfl, hb1⟩
    have H1 := hid (H.out.below hb1 H.out.lt)
    have HB1 := hid hb1
    clear hb1
    have hlt := H1.out.lt
    have hfew := H1.out.few
    obtain ⟨k, a, hk, hl, hf, rfl, ha, -, -⟩ := H1.out.next Hne.out
    obtain ⟨⟨c0, c1, c2⟩, ⟨f0, f1, f2⟩⟩ := hf.three
    have Hs := hid (H1.out.step hk hl hf)
    clear hf hl
    go_wp2_with fail
    refine bodyPost_end (v := .tuple #[]) (by simp [results, Tryz.results52]) rfl ⟨rfl, ?_⟩
    rw [Hr.out]; exact .belowl HB1.out Hs.out
set_option maxHeartbeats 1600000 in
theorem refName_any (b : Nat) (A : Option Addr) (c : Nat) (L : List Tok) (σ : Rs) (w : World) (h : Rst w b A c L σ) (hs : Short L) :
    Calls Tryz.prog 51 #[.pointer (some ⟨b, 0, none⟩)] w fun e w' => e = .returned (.string (nameR σ).1) ∧ RTo w b A c L (nameR σ).2 w' := by
  have H := hid h
  have Hc := hid (refIsName2_any b A c L σ w h hs)
  clear h hs
  cases hb : isN σ with
  | false =>
    have HB := hid hb
    have Hr := hid (show nameR σ = (⟨#[]⟩, failR 4 σ) by unfold nameR; rw [hb]; rfl)
    clear hb
    go_enter Tryz.func51, Tryz.ntmps51
    go_wp2_with fail
    refine Hc.out.mono ?_
    rw [HB.out]
    rintro e w1 ⟨rfl, hb1⟩
    have H1 := hid (H.out.below hb1 H.out.lt)
    have HB1 := hid hb1
    clear hb1
    go_wp2_with fail
    refine (refFail_any b A c L σ 4 _ H1.out).mono ?_
    rintro e w2 ⟨rfl, h2⟩
    have H2 := hid h2
    clear h2
    go_wp2
    go_ret
    rw [Hr.out]
    exact ⟨rfl, .belowl HB1.out H2.out⟩
  | true =>
    have hne := isN_l hb
    have HB := hid hb
    obtain ⟨l, er⟩ := σ
    have Hr := hid (show nameR ⟨l, er⟩ = ((nxt l).text, ⟨l.tail, er⟩) by unfold nameR; rw [hb]; rfl)
    have Hne := hid hne
    clear hb hne
    go_enter Tryz.func51, Tryz.ntmps51
    go_wp2_with fail
    refine Hc.out.mono ?_
    rw [HB.out]
    rintro e w1 ⟨rfl, hb1⟩
    have H1 := hid (H.out.below hb1 H.out.lt)
    have HB1 := hid hb1
    clear hb1
    have hlt := H1.out.lt
    have hfew := H1.out.few
    obtain ⟨k, a, hk, hl, hf, rfl, ha, a0, a1⟩ := H1.out.next Hne.out
    generalize (nxt l).text = tx at *
    obtain ⟨⟨c0, c1, c2⟩, ⟨f0, f1, f2⟩⟩ := hf.three
    have Hst := hid (H1.out.step hk hl hf)
    have hf2 : Fb (w1.setCell ⟨b, 1, none⟩ (.int .i64 ((k : Int) + 1))) b #[.slice (some a) L.length c, .int .i64 ((k : Int) + 1), .int .i64 er] 70 := by
      have := hf.set 1 (.int .i64 ((k : Int) + 1)); simpa using this
    obtain ⟨⟨d0, d1, d2⟩, -⟩ := hf2.three
    have x1 : (w1.setCell ⟨b, 1, none⟩ (.int .i64 ((k : Int) + 1))).cell? ⟨(a.add (k * 4)).block, (a.add (k * 4)).off + 1, none⟩ = some (.string tx) := by
      rw [cell_far (show (a.add (k * 4)).block ≠ b by rw [add_block]; omega)]; exact a1
    clear hf hf2 hl a0 a1
    go_wp2_with fail
    generalize w1.setCell ⟨b, 1, none⟩ (.int .i64 ((k : Int) + 1)) = w2 at *
    have hq2 := hid (fun q => below_drewN (Below.refl w2.heap.size w2) q)
    go_quiet (fail)
    go_wp2
    go_ret
    rw [Hr.out]
    exact ⟨rfl, .belowl HB1.out (Hst.out.belowr (hq2.out _))⟩
end Go.Proofs.YtmbelhdkaepohaaGreatDoor
