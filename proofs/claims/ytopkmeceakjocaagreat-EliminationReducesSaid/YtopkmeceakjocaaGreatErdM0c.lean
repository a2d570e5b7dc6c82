/- Merged texts: what YtopkmeceakjocaaGreatEliminationReducesProof leans on. -/
import Derived.Test.YtopkmeceakjocaaGreatErdM0b
import Derived.Test.YtopkmeceakjocaaGreatErdM0a
namespace Go.Proofs.YtopkmeceakjocaaGreat
set_option maxRecDepth 20000
theorem sqC_keeps {v : Nat} {G : List Nat} {cs : List (Int × Int)} (T : Int → Prop) (h : ∀ p ∈ cs, T p.1 → T p.2) : ∀ p ∈ sqC v G cs, T p.1 → T p.2 := by
 rintro ⟨a, b⟩ hp ha
 rcases mem_chnL.1 (mem_sqC.1 hp).1 with ⟨h1, _⟩ | ⟨y, h1, h2⟩ | ⟨h1, _⟩
 · exact h _ h1 ha
 · exact h (y, b) h2 (h (a, y) h1 ha)
 · exact h _ h1 ha
theorem sqN_spec {v : Nat} {G : List Nat} : ∀ (N : Nat) (cs : List (Int × Int)), SqI v G cs → cs.length ≤ 64 → 65 ≤ cs.length + N →
 sqN v G N cs = (0, [], [], [], 7) ∨ ∃ ds, sqN v G N cs = ((v : Int), G, G, ds, 0) ∧ SqI v G ds ∧ ds.length ≤ 64 ∧ sqC v G ds = ds ∧ (∀ p ∈ cs, p ∈ ds) ∧ ∀ T : Int → Prop, (∀ p ∈ cs, T p.1 → T p.2) → ∀ p ∈ ds, T p.1 → T p.2 := by
 intro N
 induction N with
 | zero => intro cs _ h1 h2; omega
 | succ N ih =>
   intro cs hI hl hN
   rw [sqN_succ]
   by_cases h64 : 64 < (sqC v G cs).length
   · rw [if_pos h64]; exact .inl rfl
   · rw [if_neg h64]
     by_cases he : sqC v G cs = cs
     · rw [if_pos he]
       exact .inr ⟨cs, rfl, hI, hl, he, fun _ h => h, fun _ h => h⟩
     · rw [if_neg he]
       have hm := hI.more he
       rcases ih (sqC v G cs) hI.next (by omega) (by omega) with h | ⟨ds, h1, h2, h3, h4, h5, h6⟩
       · exact .inl h
       · exact .inr ⟨ds, h1, h2, h3, h4, fun p hp => h5 p (hI.sub p hp), fun T hT => h6 T (sqC_keeps T hT)⟩
theorem sqC_trans {v : Nat} {G : List Nat} {ds : List (Int × Int)} (hI : SqI v G ds) (hf : sqC v G ds = ds) {a b c : Int} (h1 : (a, b) ∈ ds) (h2 : (b, c) ∈ ds) : a = c ∨ (a, c) ∈ ds := by
 by_cases e : a = c
 · exact .inl e
 · refine .inr ?_
   rw [← hf]
   refine mem_sqC.2 ⟨mem_chnL.2 (.inr (.inl ⟨b, h1, h2⟩)), ?_⟩
   unfold restB
   have := (hI.out _ h2).2.1
   simp only at this
   simp [e, this]
section
variable {v : Nat} {gs ks : List Nat} {cs ds : List (Int × Int)}
theorem star_follows (hI : SqI v (strG v gs ks cs) ds) {x i : Nat} : folB v (strG v gs ks cs) ds x i = true ↔ ((x = i ∧ Bs.bit (strG v gs ks cs) x = false) ∨ ((x : Int), (i : Int)) ∈ ds) := by
 rw [folB_iff, Bs.hasB_nat hI.fit hI.wid]
 have : ((x : Int) = (i : Int)) ↔ x = i := by omega
 rw [this]
theorem star_above (hI : SqI v (strG v gs ks cs) ds) (ss : List Nat) {i : Nat} (hi : i < v) (hs : Bs.bit ss i = true) : Bs.bit (valR (strG v gs ks cs) ss (folB v (strG v gs ks cs) ds) v) i = true := by
 rw [bit_valR_iff hi]
 cases hb : Bs.bit (strG v gs ks cs) i with
 | true => exact .inl rfl
 | false => exact .inr ⟨i, hi, hs, (star_follows hI).2 (.inl ⟨rfl, hb⟩)⟩
theorem star_closed (hg : Bs.Fit v gs) (hI : SqI v (strG v gs ks cs) ds) (hf : sqC v (strG v gs ks cs) ds = ds) (hsub : ∀ p ∈ strC v gs ks cs, p ∈ ds) (ss : List Nat) {i : Nat} (hi : i < v)
 (h : Bs.bit (valR gs (valR (strG v gs ks cs) ss (folB v (strG v gs ks cs) ds) v) (folB v ks cs) v) i = true) : Bs.bit (valR (strG v gs ks cs) ss (folB v (strG v gs ks cs) ds) v) i = true := by
 have hfix : valR gs (strG v gs ks cs) (folB v ks cs) v = strG v gs ks cs := lst_fix hg _
 have hclosed : ∀ x, x < v → Bs.bit (strG v gs ks cs) x = true → folB v ks cs x i = true → Bs.bit (strG v gs ks cs) i = true := fun x hx h1 h2 => by
  have := (bit_valR_iff (gs := gs) (ss := strG v gs ks cs) (f := folB v ks cs) hi).2 (.inr ⟨x, hx, h1, h2⟩)
  rwa [hfix] at this
 have hgen : Bs.bit gs i = true → Bs.bit (strG v gs ks cs) i = true := fun h1 => by
  have := (bit_valR_iff (gs := gs) (ss := strG v gs ks cs) (f := folB v ks cs) hi).2 (.inl h1)
  rwa [hfix] at this
 cases hb : Bs.bit (strG v gs ks cs) i with
 | true => exact (bit_valR_iff hi).2 (.inl hb)
 | false =>
   rcases (bit_valR_iff hi).1 h with h1 | ⟨y, hy, h1, h2⟩
   · rw [hgen h1] at hb; cases hb
   · rcases (bit_valR_iff hy).1 h1 with h3 | ⟨x, hx, h3, h4⟩
     · rw [hclosed y hy h3 h2] at hb; cases hb
     · rcases folB_iff.1 h2 with ⟨h5, _⟩ | h5
       · have e : y = i := by omega
         subst e; exact h1
       · by_cases hyi : y = i
         · subst hyi; exact h1
         · have hd : ((y : Int), (i : Int)) ∈ ds := by
            refine hsub _ (mem_rest.2 ⟨h5, ?_⟩)
            unfold restB
            rw [Bs.hasB_nat hI.fit hI.wid]
            simp [hb]; omega
           refine (bit_valR_iff hi).2 (.inr ⟨x, hx, h3, (star_follows hI).2 ?_⟩)
           rcases (star_follows hI).1 h4 with ⟨e, _⟩ | h6
           · subst e; exact .inr hd
           · rcases sqC_trans hI hf h6 hd with e | h7
             · have e' : x = i := by omega
               subst e'; exact .inl ⟨rfl, hb⟩
             · exact .inr h7
theorem star_least (hI : SqI v (strG v gs ks cs) ds) (hin : ∀ p ∈ cs, inW v p = true) (hway : ∀ T : Int → Prop, (∀ p ∈ strC v gs ks cs, T p.1 → T p.2) → ∀ p ∈ ds, T p.1 → T p.2) (ss ts : List Nat)
 (hs : ∀ i, i < v → Bs.bit ss i = true → Bs.bit ts i = true) (hfit : Bs.Fit v gs) (ht : ∀ i, i < v → Bs.bit (valR gs ts (folB v ks cs) v) i = true → Bs.bit ts i = true) {i : Nat} (hi : i < v)
 (h : Bs.bit (valR (strG v gs ks cs) ss (folB v (strG v gs ks cs) ds) v) i = true) : Bs.bit ts i = true := by
 have hG : ∀ j, Bs.bit (strG v gs ks cs) j = true → Bs.bit ts j = true := by
  have hlt : ∀ (xs : List Nat), Bs.Fit v xs → ∀ j, Bs.bit xs j = true → j < v := fun xs hx j hj => by
   refine Classical.byContradiction fun hn => ?_
   rw [hx.hi j (by omega)] at hj; cases hj
  refine lst_least (W := v) (f := folB v ks cs) (fun j hj => ?_) (fun j hj => ?_)
  · have := hlt gs hfit j hj
    exact ht j this ((bit_valR_iff this).2 (.inl hj))
  · exact ht j (hlt _ (fit_valR _ _ _ _) j hj) hj
 rcases (bit_valR_iff hi).1 h with h1 | ⟨x, hx, h1, h2⟩
 · exact hG i h1
 · rcases (star_follows hI).1 h2 with ⟨e, _⟩ | h3
   · subst e; exact hs x hx h1
   · have key := hway (fun a => ∃ j : Nat, a = (j : Int) ∧ j < v ∧ Bs.bit ts j = true) (fun p hp => ?_) _ h3 ⟨x, rfl, hx, hs x hx h1⟩
     · obtain ⟨j, hj, _, h4⟩ := key
       have e : i = j := by simp only at hj; omega
       rw [e]; exact h4
     · rintro ⟨j, hj, hjv, h4⟩
       have hpc := (mem_rest.1 hp).1
       have hw := inW_pair.1 (hin p hpc)
       obtain ⟨a, b⟩ := p
       simp only at hj hw ⊢
       obtain ⟨z, rfl⟩ := Int.eq_ofNat_of_zero_le hw.2.1
       have hz : z < v := by omega
       subst hj
       exact ⟨z, rfl, hz, ht z hz ((bit_valR_iff hz).2 (.inr ⟨j, hjv, h4, folB_iff.2 (.inr hpc)⟩))⟩
end
def allP (v : Nat) : List (Int × Int) := ((List.range v).flatMap fun a : Nat => (List.range v).map fun b : Nat => ((a : Int), (b : Int))).filter fun p => decide (p.1 ≠ p.2)
theorem mem_allP {v : Nat} {p : Int × Int} (h : inW v p = true) (hne : p.1 ≠ p.2) : p ∈ allP v := by
 obtain ⟨a, b⟩ := p
 have hw := inW_pair.1 h
 simp only at hw hne
 obtain ⟨x, rfl⟩ := Int.eq_ofNat_of_zero_le hw.1.1
 obtain ⟨y, rfl⟩ := Int.eq_ofNat_of_zero_le hw.2.1
 unfold allP
 refine List.mem_filter.2 ⟨List.mem_flatMap.2 ⟨x, List.mem_range.2 (by omega), List.mem_map.2 ⟨y, List.mem_range.2 (by omega), rfl⟩⟩, by simpa using hne⟩
theorem asc_row (a v : Nat) : Asc ((List.range v).map fun b : Nat => ((a : Int), (b : Int))) := by
 unfold Asc
 rw [List.pairwise_map]
 refine List.Pairwise.imp ?_ (List.pairwise_lt_range (n := v))
 intro x y h
 unfold beforeB; simp; omega
theorem asc_rows (v : Nat) : ∀ n, Asc ((List.range n).flatMap fun a : Nat => (List.range v).map fun b : Nat => ((a : Int), (b : Int)))
 | 0 => by simp [Asc]
 | n + 1 => by
   rw [List.range_succ, List.flatMap_append]
   refine List.pairwise_append.2 ⟨asc_rows v n, by have h := asc_row n v; unfold Asc at h; simpa using h, fun x hx y hy => ?_⟩
   obtain ⟨a, ha, hx⟩ := List.mem_flatMap.1 hx
   obtain ⟨b, _, rfl⟩ := List.mem_map.1 hx
   obtain ⟨c, hc, hy⟩ := List.mem_flatMap.1 hy
   obtain ⟨d, _, rfl⟩ := List.mem_map.1 hy
   have h1 := List.mem_range.1 ha
   have h2 := List.mem_singleton.1 hc
   unfold beforeB; simp; omega
theorem few_copies {v : Nat} (hv : v ≤ 8) {ds : List (Int × Int)} (ha : Asc ds) (hin : ∀ p ∈ ds, inW v p = true) (hne : ∀ p ∈ ds, p.1 ≠ p.2) : ds.length ≤ 56 := by
 have e : ds = (allP v).filter fun x => decide (x ∈ ds) := by
  refine asc_unique ha (((asc_rows v v).filter _).filter _) fun x => ?_
  rw [List.mem_filter]
  exact ⟨fun hx => ⟨mem_allP (hin x hx) (hne x hx), by simpa using hx⟩, fun hx => by simpa using hx.2⟩
 have h1 := List.length_filter_le (fun x => decide (x ∈ ds)) (allP v)
 rw [← e] at h1
 have h2 : (allP v).length ≤ 56 := by
  have : v = 0 ∨ v = 1 ∨ v = 2 ∨ v = 3 ∨ v = 4 ∨ v = 5 ∨ v = 6 ∨ v = 7 ∨ v = 8 := by omega
  rcases this with rfl | rfl | rfl | rfl | rfl | rfl | rfl | rfl | rfl <;> decide
 omega
theorem star_again {v : Nat} {G : List Nat} {ds : List (Int × Int)} (hI : SqI v G ds) (hf : sqC v G ds = ds) (hl : ds.length ≤ 64) : starR v G v G ds = ((v : Int), G, G, ds, 0) := by
 have hG : strG v G G ds = G := by
  have h := lstI_stay (W := v) (gs := G) (f := folB v G ds) (j := 0) hI.gen v
  rw [Nat.zero_add] at h
  exact h
 have hC : strC v G G ds = ds := by
  unfold strC
  rw [hG]
  refine asc_unique (ord_spec _).2 hI.asc fun x => ?_
  rw [mem_rest]
  refine ⟨fun h => h.1, fun h => ⟨h, ?_⟩⟩
  obtain ⟨_, h2, h3⟩ := hI.out x h
  unfold restB
  simp [h2, h3]
 unfold starR
 rw [if_neg (by simp [hI.valid hl]), Int.toNat_natCast, hG, hC, sqN_succ, if_neg (by rw [hf]; omega), if_pos hf]
end Go.Proofs.YtopkmeceakjocaaGreat
namespace Go.Proofs.YtopkmeceakjocaaGreat
set_option maxRecDepth 20000
set_option linter.unusedVariables false
structure Okf (v : Nat) (gs ks : List Nat) (cs : List (Int × Int)) : Prop where
 valid : validT v gs v ks cs = true
 gen : Bs.Fit v gs
 kill : Bs.Fit v ks
 inw : ∀ p ∈ cs, inW v p = true
structure Cnf (v : Nat) (gs ks : List Nat) (cs : List (Int × Int)) : Prop where
 ok : Okf v gs ks cs
 few : cs.length ≤ 56
 cops : ord (cs.filter (restB v gs)) = cs
 kills : killC v gs ks cs = ks
theorem cn_ok {v : Nat} (hv : v ≤ 8) {gs ks : List Nat} {cs : List (Int × Int)} (hg : Bs.Fit v gs) (hk : Bs.Fit v ks) (hin : ∀ p ∈ cs, inW v p = true) :
 cnR v gs ks cs = ((v : Int), gs, killC v gs ks cs, ord (cs.filter (restB v gs)), 0) ∧ Cnf v gs (killC v gs ks cs) (ord (cs.filter (restB v gs))) ∧ ∀ ss, vl v gs (killC v gs ks cs) (ord (cs.filter (restB v gs))) ss = vl v gs ks cs ss := by
 have hin2 : ∀ p ∈ ord (cs.filter (restB v gs)), inW v p = true := fun p hp => hin p (mem_rest.1 hp).1
 have hfew := few_copies hv (ord_spec (cs.filter (restB v gs))).2 hin2 (fun p hp => by
  have := (mem_rest.1 hp).2
  unfold restB at this
  simp only [Bool.and_eq_true, decide_eq_true_eq] at this
  exact this.1)
 refine ⟨by unfold cnR; rw [if_pos (by omega)], ⟨⟨can_valid (by omega) hg ks hin (by omega), hg, fit_killC _ _ _ _, hin2⟩, hfew, (can_twice cs (ks := ks)).1, (can_twice cs).2⟩, fun ss => can_value (by omega) hg hk cs ss⟩
theorem comp_ok {v : Nat} (hv : v ≤ 8) {gs ks : List Nat} {cs : List (Int × Int)} {gs' ks' : List Nat} {cs' : List (Int × Int)} (h : Okf v gs ks cs) (h' : Okf v gs' ks' cs') :
 ∃ G K C, composeR v gs v ks cs v gs' v ks' cs' = ((v : Int), G, K, C, 0) ∧ Cnf v G K C ∧ ∀ ss, vl v G K C ss = vl v gs' ks' cs' (vl v gs ks cs ss) := by
 have hin : ∀ p ∈ chnL v ks v ks' cs cs', inW v p = true := by
  rintro ⟨a, b⟩ hp
  rcases mem_chnL.1 hp with ⟨h1, _⟩ | ⟨y, h1, h2⟩ | ⟨h1, _⟩
  · exact h.inw _ h1
  · have w1 := inW_pair.1 (h.inw _ h1)
    have w2 := inW_pair.1 (h'.inw _ h2)
    exact inW_pair.2 ⟨w1.1, w2.2⟩
  · exact h'.inw _ h1
 obtain ⟨e1, e2, e3⟩ := cn_ok hv (fit_valR gs' gs (folB v ks' cs') v) (fit_orR v ks ks') hin
 refine ⟨_, _, _, ?_, e2, fun ss => ?_⟩
 · unfold composeR
   rw [if_neg (by simp [h.valid, h'.valid]), if_neg (by simp), Int.toNat_natCast]
   exact e1
 · rw [e3]
   exact compose_value (by omega) h.kill h'.kill h.inw ss
theorem join_ok {v : Nat} (hv : v ≤ 8) {gs ks : List Nat} {cs : List (Int × Int)} {gs' ks' : List Nat} {cs' : List (Int × Int)} (h : Okf v gs ks cs) (h' : Okf v gs' ks' cs') :
 ∃ G K C, joinR v gs v ks cs v gs' v ks' cs' = ((v : Int), G, K, C, 0) ∧ Cnf v G K C ∧ ∀ ss, vl v G K C ss = orR v (vl v gs ks cs ss) (vl v gs' ks' cs' ss) := by
 have hin : ∀ p ∈ cs ++ cs', inW v p = true := by
  intro p hp
  rcases List.mem_append.1 hp with h1 | h1
  · exact h.inw _ h1
  · exact h'.inw _ h1
 obtain ⟨e1, e2, e3⟩ := cn_ok hv (fit_orR v gs gs') (fit_andR v ks ks') hin
 refine ⟨_, _, _, ?_, e2, fun ss => ?_⟩
 · unfold joinR
   rw [if_neg (by simp [h.valid, h'.valid]), if_neg (by simp), Int.toNat_natCast]
   exact e1
 · rw [e3]
   exact join_value (by omega) h.kill h'.kill cs cs' ss
theorem sqN_ok {v : Nat} (hv : v ≤ 8) {G : List Nat} : ∀ (N : Nat) (cs : List (Int × Int)), SqI v G cs → sqN v G N cs ≠ (0, [], [], [], 7) := by
 intro N
 induction N with
 | zero => intro cs _ h; unfold sqN at h; simp at h
 | succ N ih =>
   intro cs hI
   have hn := hI.next
   have hl : (sqC v G cs).length ≤ 56 := few_copies hv hn.asc hn.inw (fun p hp => (hn.out p hp).2.2)
   rw [sqN_succ, if_neg (by omega)]
   split
   · simp
   · exact ih _ hn
theorem star_ok {v : Nat} (hv : v ≤ 8) {gs ks : List Nat} {cs : List (Int × Int)} (h : Okf v gs ks cs) :
 ∃ G C, starR v gs v ks cs = ((v : Int), G, G, C, 0) ∧ Okf v G G C ∧ C.length ≤ 64 ∧ starR v G v G C = ((v : Int), G, G, C, 0) ∧
   (∀ ss i, i < v → Bs.bit ss i = true → Bs.bit (vl v G G C ss) i = true) ∧
   (∀ ss i, i < v → Bs.bit (vl v gs ks cs (vl v G G C ss)) i = true → Bs.bit (vl v G G C ss) i = true) ∧
   (∀ ss ts, (∀ i, i < v → Bs.bit ss i = true → Bs.bit ts i = true) → (∀ i, i < v → Bs.bit (vl v gs ks cs ts) i = true → Bs.bit ts i = true) → ∀ i, i < v → Bs.bit (vl v G G C ss) i = true → Bs.bit ts i = true) := by
 have hI := str_start (ks := ks) h.gen (by omega) h.inw
 have hfew : (strC v gs ks cs).length ≤ 56 := few_copies hv hI.asc hI.inw (fun p hp => (hI.out p hp).2.2)
 have hR : starR v gs v ks cs = sqN v (strG v gs ks cs) 65 (strC v gs ks cs) := by
  unfold starR
  rw [if_neg (by simp [h.valid]), Int.toNat_natCast]
 rcases sqN_spec 65 _ hI (by omega) (by omega) with he | ⟨ds, h1, h2, h3, h4, h5, h6⟩
 · exact absurd he (sqN_ok hv _ _ hI)
 · refine ⟨strG v gs ks cs, ds, by rw [hR, h1], ⟨h2.valid h3, h2.fit, h2.fit, h2.inw⟩, h3, star_again h2 h4 h3, fun ss i hi hs => star_above h2 ss hi hs, fun ss i hi hs => star_closed h.gen h2 h4 h5 ss hi hs,
    fun ss ts hs ht i hi hb => star_least h2 h.inw h6 ss ts hs h.gen ht hi hb⟩
end Go.Proofs.YtopkmeceakjocaaGreat
namespace Go.Proofs.YtopkmeceakjocaaGreat
set_option maxRecDepth 20000
set_option linter.unusedVariables false
set_option linter.unusedSimpArgs false
open Go.ChangeShapes Go.WideShapes Go.ChangeAt Go.RowKit
theorem fit_killC2 (v : Nat) (gs ks : List Nat) (cs : List (Int × Int)) : Bs.Fit v (killC v gs ks cs) := Bs.fit_ofP _ _ _ (Nat.le_refl _)
set_option maxHeartbeats 3200000 in
theorem devCanonicalT (W : Nat) (A B C : Option Addr) (n c m d k q : Nat) (gs ks : List Nat) (cs : List (Int × Int)) (w : World)
 (hA : Arg w A n gs) (hB : Arg w B m ks) (hC : ArgC w C k cs) (hW : W ≤ 256) (hg : Bs.Fit W gs) (hk : Bs.Fit W ks) (hc : ∀ p ∈ cs, inW W p = true) (hk5 : k ≤ 5000) :
 Calls Tryz.prog 156 #[.agg #[.int .i64 W, .slice A n c], .agg #[.int .i64 W, .slice B m d], .slice C k q] w (RetCanonU w W gs ks cs) := by
 obtain ⟨i0, hi, hz0, hz1, hz2⟩ := info_parts info35
 have Hi := hid hi; have Hz0 := hid hz0; have Hz1 := hid hz1; have Hz2 := hid hz2
 have HA := hid hA; have HB := hid hB; have HC := hid hC; have Hg := hid hg; have Hk := hid hk; have Hc := hid hc
 have hst := Caning.start w W A B n c m d hB
 rw [← killJ_nil hk] at hst
 have Hst := hid hst
 clear hA hB hC hi hz0 hz1 hz2 hg hk hc hst
 go_enter Tryz.func156, Tryz.ntmps156
 go_wp2_with fail
 generalize ((w.alloc (.cells #[.int .i64 W, .slice A n c] 49)).alloc (.cells #[.int .i64 W, .slice B m d] 49)).alloc (.cells #[.int .i64 0, .slice none 0 0, .int .i64 0, .slice none 0 0, .slice none 0 0] 61) = w1 at *
 go_loopw [8, 10, 14] (fun v _ i wr => ∃ j : Nat, j ≤ k ∧ i = .int .i64 j ∧ Hid (Caning w W A n c v ((cs.take j).filter (restB W gs)) (killJ W ks (cs.take j)) wr)) (fun _ _ i _ => k - (intOf i).toNat)
 case atStart => exact ⟨0, by omega, rfl, Hst.out⟩
 case round =>
  obtain ⟨j, hj, rfl, hG⟩ := hrel
  clear Hst
  by_cases hlt : j < k
  · have hjl : j < cs.length := by rw [HC.out.len]; exact hlt
    have hget : cs[j]? = some cs[j] := List.getElem?_eq_getElem _
    have hsn := take_snoc cs j hjl
    have hin := Hc.out cs[j] (List.getElem_mem hjl)
    generalize cs[j] = p at hget hsn hin
    obtain ⟨p1, p2⟩ := p
    obtain ⟨ad, rfl, had, g1, g2⟩ := (HC.out.below hG.out.2.2.2.2.1).cell hget
    have hin2 := hin
    unfold inW at hin2
    simp at hin2
    obtain ⟨b, rfl⟩ := Int.eq_ofNat_of_zero_le hin2.1.2
    have hb : b < W := by omega
    have Hsn := hid hsn
    clear hget hsn hin hin2
    have H5 := hid (hG.out.below ((Below.refl _ _).alloc (Nat.le_refl _) (.cells #[.int .i64 p1, .int .i64 b] 58)))
    have Hbx := hid (Fb.new wr #[.int .i64 p1, .int .i64 b] 58)
    obtain ⟨b0, b1⟩ := Hbx.out.two
    by_cases hpb : p1 = b
    · subst hpb
      obtain ⟨-, ⟨Bk, mk, dk, hbk, hkw⟩, -⟩ := H5.out
      obtain ⟨t0, t1⟩ := And.intro hbk.c0 hbk.c1
      have Ha := hid (hkw.arg H5.out.2.2.2.2.1.size (fit_killJ W ks (cs.take j)).ok)
      have tt : ((b : Int) == (b : Int)) = true := by simp
      clear hbk hkw
      go_wp2_with fail
      clear g1 g2 b0 b1 tt
      generalize wr.alloc (.cells #[.int .i64 (b : Int), .int .i64 (b : Int)] 58) = wv at *
      generalize wr.heap.size = gv at *
      refine (devWithout_own W Bk mk dk (killJ W ks (cs.take j)) b _ Ha.out (Bs.valid_of_fit (fit_killJ W ks (cs.take j)) hW) hb).mono ?_
      rintro e w6 ⟨g6, c6, rfl, ho6, hb6⟩
      have H6 := hid (H5.out.below hb6)
      obtain ⟨-, ⟨B7, m7, d7, hbk7, -⟩, -⟩ := H6.out
      obtain ⟨t7, t8, f7, f8⟩ := hbk7.four
      have hl7 := hbk7.lt
      have Hkw := hid (show KW w6 w.heap.size (w.heap.size + 3) (some ⟨g6, 0, none⟩) mk (cutB (killJ W ks (cs.take j)) b) from
       ⟨ho6.len, .inr ⟨g6, c6, rfl, OwnW.less ho6 H5.out.2.2.2.2.2⟩⟩)
      have Hfin := hid (H6.out.kill c6 Hkw.out)
      clear ho6 hb6 t0 t1 hbk7
      have Hr := hid (show (cs.take (j + 1)).filter (restB W gs) = (cs.take j).filter (restB W gs) by rw [Hsn.out, restB_snoc]; simp [restB])
      have Hkj := hid (show killJ W ks (cs.take (j + 1)) = cutB (killJ W ks (cs.take j)) b by rw [Hsn.out, killJ_self hb])
      go_wp2_with fail
      go_roundw
      case rel => exact ⟨j + 1, by omega, by go_num, by rw [Hr.out, Hkj.out]; exact Hfin⟩
      case measure => simp [intOf]; omega
    · have tt : (p1 == (b : Int)) = false := by simp [hpb]
      have Hkj := hid (show killJ W ks (cs.take (j + 1)) = killJ W ks (cs.take j) by rw [Hsn.out, killJ_other hpb])
      obtain ⟨s0, s1⟩ := And.intro H5.out.1.c0 H5.out.1.c1
      go_wp2_with fail
      clear g1 g2 tt
      generalize wr.alloc (.cells #[.int .i64 p1, .int .i64 (b : Int)] 58) = wv at *
      generalize wr.heap.size = gv at *
      refine (devHas_any W A n c gs b _ (HA.out.below H5.out.2.2.2.2.1)).mono ?_
      rintro e w6 ⟨rfl, hb6⟩
      have H6 := hid (H5.out.below hb6)
      have hbx6 := hid (Hbx.out.below hb6 Hbx.out.lt)
      clear s0 s1 b0 b1 hb6
      obtain ⟨b0, b1⟩ := hbx6.out.two
      cases hh : Bs.hasB W gs b with
      | true =>
        have Hr := hid (show (cs.take (j + 1)).filter (restB W gs) = (cs.take j).filter (restB W gs) by rw [Hsn.out, restB_snoc]; simp [restB, hh])
        clear hh
        go_wp2_with fail
        go_roundw
        case rel => exact ⟨j + 1, by omega, by go_num, by rw [Hr.out, Hkj.out]; exact H6⟩
        case measure => simp [intOf]; omega
      | false =>
        have Hr := hid (show (cs.take (j + 1)).filter (restB W gs) = (cs.take j).filter (restB W gs) ++ [(p1, (b : Int))] by rw [Hsn.out, restB_snoc]; simp [restB, hh, hpb])
        have hle : ((cs.take j).filter (restB W gs)).length ≤ 5000 := by
         have h1 := List.length_filter_le (restB W gs) (cs.take j)
         rw [List.length_take] at h1; omega
        clear hh
        have hz3 := H6.out.2.2.2.2.2
        generalize (cs.take j).filter (restB W gs) = rs at *
        go_wp2_with (first
         | (at_builtin
            refine wpList_append_own _ rfl _ _ 59 rfl (w.heap.size + 3) 58 i0 _ 2 16 Tryz.underlying59 Hi.out Hz0.out Hz1.out Hz2.out rfl (by decide) u8 rs.length (pairs rs) rfl (World.ownsRow.alloc H6.out.2.2.2.1 _) ⟨w6.heap.size, 0, none⟩ 1 1 [.int .i64 p1, .int .i64 (b : Int)] rfl rfl (two_new _ _ _ _) (by intro u hu; simp at hu; rcases hu with rfl | rfl <;> rfl) (by unfold maxLen; omega) (by omega) (by rw [World.size_alloc]; omega) ?_
            intro v' w7 hown7 hgr7 hnil7
            have H7 := hid (show Caning w W A n c v' (rs ++ [(p1, (b : Int))]) (killJ W ks (cs.take j)) w7 from (H6.out.below ((Below.refl _ _).alloc (Nat.le_refl _) (.cells #[.int .i64 p1, .int .i64 (b : Int)] 58))).row hgr7 (by unfold Cops; rw [pairs_snoc, List.length_append]; exact hown7))
            clear hown7 hgr7 hnil7))
        go_roundw
        case rel => exact ⟨j + 1, by omega, by go_num, by rw [Hr.out, Hkj.out]; exact H7⟩
        case measure => simp [intOf]; omega
  · have hjk : k = j := by omega
    subst hjk
    have hall : cs.take k = cs := List.take_of_length_le (by rw [HC.out.len]; omega)
    rw [hall] at hG
    have hle : (cs.filter (restB W gs)).length ≤ 5000 := by
     have h1 := List.length_filter_le (restB W gs) cs
     have := HC.out.len; omega
    clear hall
    have HG := hid hG.out
    clear hG
    generalize hrs : cs.filter (restB W gs) = rs at HG hle
    have Hrs := hid hrs
    clear hrs
    obtain ⟨Cv, qv, rfl, hs⟩ := sort_any (w.heap.size + 3) rs.length u8 rs wr rfl HG.out.2.2.2.1 (by omega)
    have Hs := hid hs
    clear hs
    go_wp2_with fail
    refine Hs.out.mono ?_
    rintro e w2 ⟨rfl, hc2, hg2⟩
    have H2 := hid (HG.out.row hg2 hc2)
    obtain ⟨C3, q3, e3, hs3⟩ := compact_any (w.heap.size + 3) rs.length (.slice Cv rs.length qv) (srt rs) w2 (srt_len rs) hc2 (by omega)
    injection e3 with e31 _ e33
    subst e31
    subst e33
    have Hs3 := hid hs3
    clear hc2 hg2 hs3 Hs HG
    go_wp2_with fail
    refine Hs3.out.mono ?_
    rintro e w4 ⟨C4, q4, rfl, hc4, hg4⟩
    have H4 := hid (show Caning w W A n c (.slice C4 (ord rs).length q4) (ord rs) (killJ W ks cs) w4 from H2.out.row hg4 hc4)
    have hlen : (ord rs).length ≤ 5000 := by
     have h1 := cpt_len (srt rs); rw [srt_len] at h1; unfold ord; omega
    clear hc4 hg4 Hs3 H2
    have hcc : cpt (srt rs) = ord rs := rfl
    rw [hcc]
    clear hcc
    generalize hord : ord rs = os at H4 hlen ⊢
    have Hord := hid hord
    clear hord
    by_cases h64 : os.length ≤ 64
    · obtain ⟨hb1, ⟨B5, m5, d5, hb2, hkw⟩, hb3, hb4, hb5, hb6⟩ := H4.out
      obtain ⟨s0, s1⟩ := And.intro hb1.c0 hb1.c1
      obtain ⟨t0, t1⟩ := And.intro hb2.c0 hb2.c1
      have Ha := hid (hkw.arg hb5.size (fit_killJ W ks cs).ok)
      have Hb5 := hid hb5
      clear hb1 hb2 hkw hb3 hb4 hb5
      go_wp2_with fail
      refine (devUnion_own W B5 A m5 d5 n c (killJ W ks cs) gs _ Ha.out (HA.out.below Hb5.out) hW (fit_killJ W ks cs) Hg.out).mono ?_
      rw [killC_eq]
      rintro e w5 ⟨g6, rfl, hr6, -, hb7⟩
      have ha6 : ArgT w5 (some ⟨g6, 0, none⟩) (Bs.nw W) (killC W gs ks cs) := by
       have hf6 := fit_killC2 W gs ks cs
       have := ArgT.row hr6 hf6.ok
       rwa [hf6.len] at this
      clear hr6
      generalize Bs.nw W = m6 at ha6 ⊢
      generalize (some (⟨g6, 0, none⟩ : Addr)) = B6 at ha6 ⊢
      have H5 := hid (H4.out.below hb7)
      have Ha6 := hid ha6
      clear s0 s1 t0 t1 ha6 hb7 Ha Hb5 H4
      obtain ⟨hb1, ⟨B5', m5', d5', hb2, -⟩, hb3, hb4, hb5, hb8⟩ := H5.out
      obtain ⟨t0, t1, f0, f1⟩ := hb2.four
      have hl2 := hb2.lt
      have Hg6 := hid ((hb1.far (p := ⟨w.heap.size + 1, 0, none⟩) (by simp) (.int .i64 W)).far (p := ⟨w.heap.size + 1, 1, none⟩) (by simp) (.slice B6 m6 m6))
      have Hk6 := hid (hb2.set W B6 m6 m6)
      have Hak := hid (Ha6.out.store hb2 W B6 m6 m6)
      have Hz6 := hid ((hb3.far (p := ⟨w.heap.size + 1, 0, none⟩) (by simp) (.int .i64 W)).far (p := ⟨w.heap.size + 1, 1, none⟩) (by simp) (.slice B6 m6 m6))
      have Hc6 := hid ((hb4.setLow (p := ⟨w.heap.size + 1, 0, none⟩) (by simp) (.int .i64 W)).setLow (p := ⟨w.heap.size + 1, 1, none⟩) (by simp) (.slice B6 m6 m6))
      have Hb6 := hid ((hb5.setCell (p := ⟨w.heap.size + 1, 0, none⟩) (by simp) (.int .i64 W)).setCell (p := ⟨w.heap.size + 1, 1, none⟩) (by simp) (.slice B6 m6 m6))
      clear hb1 hb2 hb3 hb4 hb5 H5 Ha6
      go_upto_region 15 with fail
      generalize (w5.setCell ⟨w.heap.size + 1, 0, none⟩ (.int .i64 W)).setCell ⟨w.heap.size + 1, 1, none⟩ (.slice B6 m6 m6) = w6 at *
      clear t0 t1 f0 f1 hl2 hb8
      have hK : ∀ w', Below w6.heap.size w6 w' → ((fun w' => Below w6.heap.size w6 w' ∧ (w'.cell? ⟨w.heap.size, 0, none⟩ = some (.int .i64 W) ∧ w'.cell? ⟨w.heap.size, 1, none⟩ = some (.slice A n c))) w') := fun w' hb' => ⟨hb', (Hg6.out.below hb' Hg6.out.lt).c0, (Hg6.out.below hb' Hg6.out.lt).c1⟩
      have HK := hid hK
      have hz0 : w.heap.size < w6.heap.size := Hg6.out.lt
      obtain ⟨c0, c1⟩ := And.intro Hg6.out.c0 Hg6.out.c1
      have hn5 : n ≤ 100 := by have := Hg.out.len; have := HA.out.len; unfold Bs.nw at *; omega
      clear hK
      go_upto_region 16 with fail
      go_cut [11] (fun sa wc => ∃ (b : Nat) (A' : Option Addr) (c' : Nat), sa = .pointer (some ⟨b, 0, none⟩) ∧ Hid (Box wc b W A' n c' ∧ ArgT wc A' n gs ∧ Below w6.heap.size w6 wc))
      case first =>
       go_region_held3 (fun w' => Below w6.heap.size w6 w' ∧ (w'.cell? ⟨w.heap.size, 0, none⟩ = some (.int .i64 W) ∧ w'.cell? ⟨w.heap.size, 1, none⟩ = some (.slice A n c)))
        (first | exact HK.out _ (Below.refl _ _).drew | exact HK.out _ (((Below.refl _ _).alloc (Nat.le_refl _) _).drew) | exact HK.out _ ((‹Below w6.heap.size w6 _›).alloc (‹Below w6.heap.size w6 _›).size _) | exact HK.out _ (Hcur.out.alloc Hcur.out.size _) | exact HK.out _ (HX.out.stored Hcur.out _ _ _ _) | assumption)
        (first
          | (go_at_call 85
             go_must (
             go_split_ands
             refine (cloneT_any A n c gs _ (HA.out.below (Hb6.out.trans ((‹Below w6.heap.size w6 _›).mono Hb6.out.size))) hn5).mono ?_
             rintro e wn ⟨A9, c9, rfl, ha9, hbk⟩
             have Ha9 := hid ha9
             have hcur := below_step (W := w6) (by assumption) hbk
             have hS := HK.out _ hcur
             have Hcur := hid hcur
             try (first
              | (have HX := (by with_reducible exact hid (Fresh.mkD hbk))
                 obtain ⟨x0, x1, y0, y1⟩ := HX.out.1.four)
              | (have HX := (by with_reducible exact hid (Fresh.mk (by assumption) hbk))
                 obtain ⟨x0, x1, y0, y1⟩ := HX.out.1.four))
             clear hbk ha9)))
       all_goals go_wp2_with fail
       all_goals go_meet
       all_goals first
        | (have Q := And.intro (HX.out.1.set W A9 n c9) (And.intro (Ha9.out.store HX.out.1 W A9 n c9) (HX.out.stored Hcur.out W A9 n c9))
           refine ⟨_, A9, c9, rfl, ?_⟩
           with_reducible exact hid Q)
        | (have Q := And.intro (Box.new wn W A9 n c9) (And.intro (Ha9.out.alloc (.cells #[.int .i64 W, .slice A9 n c9] 49)) (Hcur.out.alloc Hcur.out.size (.cells #[.int .i64 W, .slice A9 n c9] 49)))
           refine ⟨_, A9, c9, rfl, ?_⟩
           with_reducible exact hid Q)
      case rest =>
       obtain ⟨bx, A9, c9, rfl, H9⟩ := hcut
       have Hk7 := hid (Hk6.out.below H9.out.2.2 Hk6.out.lt)
       have Hz7 := hid (Hz6.out.below H9.out.2.2 Hz6.out.lt)
       have Hc7 := hid (show Cops wc (w.heap.size + 3) (.slice C4 os.length q4) os from own_below Hc6.out H9.out.2.2)
       have Hak7 := hid (Hak.out.below H9.out.2.2)
       have Hb7 := hid (Hb6.out.trans (H9.out.2.2.mono Hb6.out.size))
       obtain ⟨t0, t1⟩ := And.intro Hk7.out.c0 Hk7.out.c1
       obtain ⟨s0, s1⟩ := And.intro H9.out.1.c0 H9.out.1.c1
       obtain ⟨r0, r1, r2, r3, r4⟩ := Hz7.out.five
       have f0 := Hz7.out.frozen 0
       have f1 := Hz7.out.frozen 1
       have f2 := Hz7.out.frozen 2
       have f3 := Hz7.out.frozen 3
       have f4 := Hz7.out.frozen 4
       have hlR := Hz7.out.lt
       have Fin := hid (show RetU w W gs (killC W gs ks cs) os 0 (.returned (.tuple #[.agg #[.int .i64 W, .slice A9 n c9, .int .i64 W, .slice B6 m6 m6, .slice C4 os.length q4], .int .i64 0])) (stored5 wc (w.heap.size + 2) (.int .i64 W) (.slice A9 n c9) (.int .i64 W) (.slice B6 m6 m6) (.slice C4 os.length q4)) from
        ⟨A9, n, c9, B6, m6, m6, C4, q4, rfl, H9.out.2.1.stored5 Hz7.out (by decide) _ _ _ _ _, Hak7.out.stored5 Hz7.out (by decide) _ _ _ _ _, CopT.own (Hc7.out.stored5 (by omega) _ _ _ _ _), below_stored5 Hb7.out (by omega) _ _ _ _ _⟩)
       unfold stored5 at Fin
       clear HK hz0 c0 c1
       go_wp2_with fail
       refine bodyPost_ret (v := .tuple #[.agg #[.int .i64 W, .slice A9 n c9, .int .i64 W, .slice B6 m6 m6, .slice C4 os.length q4], .int .i64 0]) (by simp [results, Tryz.results156, go_sem, r0, r1, r2, r3, r4]) rfl ?_
       unfold RetCanonU
       rw [Hrs.out, Hord.out, if_pos h64]
       exact Fin.out
    · obtain ⟨hb1, -, hb3, -, hb5, hb6⟩ := H4.out
      obtain ⟨r0, r1, r2, r3, r4⟩ := hb3.five
      have f0 := hb3.frozen 0
      have f1 := hb3.frozen 1
      have f2 := hb3.frozen 2
      have f3 := hb3.frozen 3
      have f4 := hb3.frozen 4
      have hlR := hb3.lt
      have Fin := hid (show RetU w 0 [] [] [] 7 (.returned (.tuple #[.agg #[.int .i64 0, .slice none 0 0, .int .i64 0, .slice none 0 0, .slice none 0 0], .int .i64 7])) (stored5 w4 (w.heap.size + 2) (.int .i64 0) (.slice none 0 0) (.int .i64 0) (.slice none 0 0) (.slice none 0 0)) from
       ⟨none, 0, 0, none, 0, 0, none, 0, rfl, ArgT.nil _ _, ArgT.nil _ _, CopT.nil _ _, below_stored5 hb5 (by omega) _ _ _ _ _⟩)
      unfold stored5 at Fin
      clear hb1 hb3 hb5
      go_wp2_with fail
      refine bodyPost_ret (v := .tuple #[.agg #[.int .i64 0, .slice none 0 0, .int .i64 0, .slice none 0 0, .slice none 0 0], .int .i64 7]) (by simp [results, Tryz.results156, go_sem, r0, r1, r2, r3, r4]) rfl ?_
      unfold RetCanonU
      rw [Hrs.out, Hord.out, if_neg h64]
      exact Fin.out
theorem RetCanonU.val {w w' : World} {W : Nat} {gs ks : List Nat} {cs : List (Int × Int)} {e : Ending} (hh : RetCanonU w W gs ks cs e w') : RetRU w (cnR W gs ks cs) e w' := by
 unfold RetCanonU at hh
 unfold cnR
 by_cases h : (ord (cs.filter (restB W gs))).length ≤ 64
 · rw [if_pos h] at hh ⊢; exact hh
 · rw [if_neg h] at hh ⊢; exact hh
set_option maxHeartbeats 1600000 in
theorem devJoinT (W V : Int) (A B C : Option Addr) (n c m d k q : Nat) (gs ks : List Nat) (cs : List (Int × Int)) (W' V' : Int) (A' B' C' : Option Addr) (n' c' m' d' k' q' : Nat) (gs' ks' : List Nat) (cs' : List (Int × Int)) (w : World)
 (hF : FArg w A n B m C k gs ks cs) (hG : FArg w A' n' B' m' C' k' gs' ks' cs') :
 Calls Tryz.prog 167 #[.agg #[.int .i64 W, .slice A n c, .int .i64 V, .slice B m d, .slice C k q], .agg #[.int .i64 W', .slice A' n' c', .int .i64 V', .slice B' m' d', .slice C' k' q']] w
  (RetRU w (joinR W gs V ks cs W' gs' V' ks' cs')) := by
 have HF := hid hF; have HG := hid hG
 have H0 := hid (Three.start w W V A B C n c m d k q W' V' A' B' C' n' c' m' d' k' q')
 clear hF hG
 go_enter Tryz.func167, Tryz.ntmps167
 go_wp2_with fail
 refine (devCheck_any W V A B C n c m d k q gs ks cs W' V' A' B' C' n' c' m' d' k' q' gs' ks' cs' _ (HF.out.below H0.out.2.2.2) (HG.out.below H0.out.2.2.2)).mono ?_
 by_cases hbad : checkR (validT W gs V ks cs) (validT W' gs' V' ks' cs') W W' ≠ 0
 · have Hr := hid (show joinR W gs V ks cs W' gs' V' ks' cs' = (0, [], [], [], checkR (validT W gs V ks cs) (validT W' gs' V' ks' cs') W W') by
    unfold joinR checkR
    unfold checkR at hbad
    by_cases h1 : validT W gs V ks cs = false ∨ validT W' gs' V' ks' cs' = false
    · rw [if_pos h1, if_pos h1]
    · rw [if_neg h1, if_neg h1]
      rw [if_neg h1] at hbad
      by_cases h2 : W ≠ W'
      · rw [if_pos h2, if_pos h2]
      · rw [if_neg h2] at hbad; exact absurd rfl hbad)
   generalize checkR (validT W gs V ks cs) (validT W' gs' V' ks' cs') W W' = er at *
   have tt : (er != 0) = true := by simpa using hbad
   clear hbad
   rintro e w1 ⟨rfl, hb1⟩
   have H1 := hid (H0.out.below hb1)
   clear hb1
   obtain ⟨r0, r1, r2, r3, r4⟩ := H1.out.2.2.1.five
   have f0 := H1.out.2.2.1.frozen 0
   have f1 := H1.out.2.2.1.frozen 1
   have f2 := H1.out.2.2.1.frozen 2
   have f3 := H1.out.2.2.1.frozen 3
   have f4 := H1.out.2.2.1.frozen 4
   have hlR := H1.out.2.2.1.lt
   have Fin := hid (RetU.stored (err := er) (c := 0) (d := 0) (q := 0) (cs := []) (C := none) (ArgT.nil w1 none) (ArgT.nil w1 none) (CopT.nil w1 none) H1.out.2.2.2 (by omega) H1.out.2.2.1 (W := 0))
   unfold stored5 at Fin
   go_wp2_with fail
   refine bodyPost_ret (v := .tuple #[.agg #[.int .i64 0, .slice none 0 0, .int .i64 0, .slice none 0 0, .slice none 0 0], .int .i64 er]) (by simp [results, Tryz.results167, go_sem, r0, r1, r2, r3, r4]) rfl ?_
   rw [Hr.out]
   exact Fin.out
 · have hok : checkR (validT W gs V ks cs) (validT W' gs' V' ks' cs') W W' = 0 := by simpa using hbad
   rw [hok]
   have hv1 : validT W gs V ks cs = true := by
    unfold checkR at hok
    cases h : validT W gs V ks cs with
    | true => rfl
    | false => rw [h] at hok; simp at hok
   have hv2 : validT W' gs' V' ks' cs' = true := by
    unfold checkR at hok
    cases h : validT W' gs' V' ks' cs' with
    | true => rfl
    | false => rw [h] at hok; simp at hok
   have hWW : W = W' := by
    unfold checkR at hok
    rw [hv1, hv2] at hok
    by_cases h : W = W'
    · exact h
    · simp [h] at hok
   clear hok hbad
   subst hWW
   obtain ⟨h1, h2, h3, h4, h5⟩ := validT_iff hv1
   obtain ⟨g1, g2, g3, g4, g5⟩ := validT_iff hv2
   subst h3
   subst g3
   have hin1 := inW_of_ok h5
   have hin2 := inW_of_ok g5
   have Hr := hid (show joinR W gs W ks cs W gs' W ks' cs' = cnR W.toNat (orR W.toNat gs gs') (andR W.toNat ks ks') (cs ++ cs') by unfold joinR; rw [if_neg (by simp [hv1, hv2]), if_neg (by simp)])
   obtain ⟨v, rfl⟩ := Int.eq_ofNat_of_zero_le (Bs.validB_iff.1 h1).1
   have hv256 : v ≤ 256 := by have := (Bs.validB_iff.1 h1).2.1; omega
   have hfg := fit_of_valid' h1 HF.out.gen
   have hfk := fit_of_valid' h2 HF.out.kill
   have hfg' := fit_of_valid' g1 HG.out.gen
   have hfk' := fit_of_valid' g2 HG.out.kill
   have hk4 : k ≤ 64 := by rw [HF.out.cops.len] at h4; exact h4
   have hk4' : k' ≤ 64 := by rw [HG.out.cops.len] at g4; exact g4
   rw [Int.toNat_natCast] at Hr
   have Hin := hid (show ∀ p ∈ cs ++ cs', inW v p = true from fun p hp => (List.mem_append.1 hp).elim (hin1 p) (hin2 p))
   have Hfg := hid hfg; have Hfk := hid hfk; have Hfg' := hid hfg'; have Hfk' := hid hfk'
   clear h1 h2 h4 h5 g1 g2 g4 g5 hin1 hin2 hfg hfk hfg' hfk' hv1 hv2
   rintro e w1 ⟨rfl, hb1⟩
   have H1 := hid (H0.out.below hb1)
   clear hb1
   obtain ⟨t0, t1, t2, t3, t4⟩ := H1.out.1.five
   obtain ⟨s0, s1, s2, s3, s4⟩ := H1.out.2.1.five
   go_wp2_with fail
   refine (devUnion_any v v A A' n c n' c' gs gs' _ (HF.out.gen.below H1.out.2.2.2) (HG.out.gen.below H1.out.2.2.2)).mono ?_
   rw [mixR_or hv256 Hfg.out Hfg'.out]
   rintro e w2 ⟨A2, n2, c2, rfl, ha2, hb2⟩
   have hb2' := hb2.alloc hb2.size (.cells #[.int .i64 v, .slice A2 n2 c2] 49)
   have H2 := hid (H1.out.below hb2')
   have HA2 := hid (ha2.alloc (.cells #[.int .i64 v, .slice A2 n2 c2] 49))
   have HB2 := hid (Box.new w2 v A2 n2 c2)
   clear ha2 hb2 hb2' t0 t1 t2 t3 t4 s0 s1 s2 s3 s4
   obtain ⟨t0, t1, t2, t3, t4⟩ := H2.out.1.five
   obtain ⟨s0, s1, s2, s3, s4⟩ := H2.out.2.1.five
   go_wp2_with fail
   generalize w2.alloc (.cells #[.int .i64 v, .slice A2 n2 c2] 49) = w3 at *
   generalize w2.heap.size = b3 at *
   refine (devInter_any v v B B' m d m' d' ks ks' _ (HF.out.kill.below H2.out.2.2.2) (HG.out.kill.below H2.out.2.2.2)).mono ?_
   rw [mixR_and hv256 Hfk.out Hfk'.out]
   rintro e w4 ⟨A4, n4, c4, rfl, ha4, hb4⟩
   have hb4' := hb4.alloc hb4.size (.cells #[.int .i64 v, .slice A4 n4 c4] 49)
   have H5 := hid (H2.out.below hb4')
   have HA5 := hid (HA2.out.below hb4')
   have HB5 := hid (HB2.out.below hb4' HB2.out.lt)
   have HK5 := hid (ha4.alloc (.cells #[.int .i64 v, .slice A4 n4 c4] 49))
   have HC5 := hid (Box.new w4 v A4 n4 c4)
   have hne3 : b3 ≠ w.heap.size + 2 := by
    intro e
    have x1 := HB2.out
    have x2 := H2.out.2.2.1
    rw [e] at x1
    unfold Box at x1
    unfold Fb at x2
    rw [x1] at x2
    cases x2
   have hne4 : w4.heap.size ≠ w.heap.size + 2 := by
    intro e
    have x1 := HC5.out
    have x2 := H5.out.2.2.1
    rw [e] at x1
    unfold Box at x1
    unfold Fb at x2
    rw [x1] at x2
    cases x2
   clear ha4 hb4 hb4' t0 t1 t2 t3 t4 s0 s1 s2 s3 s4 H1 H2 HA2 HB2
   go_upto_region 6 with fail
   generalize w4.alloc (.cells #[.int .i64 v, .slice A4 n4 c4] 49) = w5 at *
   generalize w4.heap.size = b4 at *
   generalize hR : w.heap.size + 1 + 1 = R
   have hR2 : w.heap.size + 2 = R := hR
   have HZ := hid (show Fb w5 R _ 61 from by rw [← hR2]; exact H5.out.2.2.1)
   rw [hR2] at hne3 hne4
   have hRle : w.heap.size ≤ R := by omega
   have hn0 : w.heap.size ≠ R := by omega
   have hn1 : w.heap.size + 1 ≠ R := by omega
   have HnR := hid (And.intro hn0 hn1)
   have hA0 := HA5.out.apart HZ.out zero5
   have hK0 := HK5.out.apart HZ.out zero5
   have hF5 := HF.out.cops.below H5.out.2.2.2
   have hG5 := HG.out.cops.below H5.out.2.2.2
   have hF0 := hF5.apart HZ.out zero5c
   have hG0 := hG5.apart HZ.out zero5c
   have hK : ∀ w', w5.grownBy w' (some R) → ((fun w' => w5.grownBy w' (some R) ∧ (w'.cell? ⟨b3, 0, none⟩ = some (.int .i64 v) ∧ w'.cell? ⟨b3, 1, none⟩ = some (.slice A2 n2 c2)) ∧ (w'.cell? ⟨b4, 0, none⟩ = some (.int .i64 v) ∧ w'.cell? ⟨b4, 1, none⟩ = some (.slice A4 n4 c4)) ∧ w'.cell? ⟨w.heap.size, 4, none⟩ = some (.slice C k q) ∧ w'.cell? ⟨w.heap.size + 1, 4, none⟩ = some (.slice C' k' q')) w') := fun w' hg =>
    ⟨hg, ⟨(HB5.out.grown hg (some_ne hne3)).c0, (HB5.out.grown hg (some_ne hne3)).c1⟩, ⟨(HC5.out.grown hg (some_ne hne4)).c0, (HC5.out.grown hg (some_ne hne4)).c1⟩, (H5.out.1.grown hg (some_ne hn0)).cell 4, (H5.out.2.1.grown hg (some_ne hn1)).cell 4⟩
   have HK := hid hK
   have HA0 := hid hA0; have HK0 := hid hK0; have HF0 := hid hF0; have HG0 := hid hG0; have HF5 := hid hF5; have HG5 := hid hG5
   obtain ⟨r, hr⟩ : ∃ r, cnR v (orR v gs gs') (andR v ks ks') (cs ++ cs') = r := ⟨_, rfl⟩
   obtain ⟨W9, gs9, ks9, cs9, er9⟩ := r
   have Hcn := hid hr
   have hz1 : b3 < w5.heap.size := HB5.out.lt
   have hz2 : b4 < w5.heap.size := HC5.out.lt
   have hz3 := HZ.out.lt
   have hz4 : w.heap.size < w5.heap.size := H5.out.1.lt
   have hz5 : w.heap.size + 1 < w5.heap.size := H5.out.2.1.lt
   obtain ⟨p0, p1⟩ := And.intro HB5.out.c0 HB5.out.c1
   obtain ⟨q0, q1⟩ := And.intro HC5.out.c0 HC5.out.c1
   have t4 := H5.out.1.cell 4
   have s4 := H5.out.2.1.cell 4
   have t4' : w5.cell? ⟨w.heap.size, 4, none⟩ = some (.slice C k q) := t4
   have s4' : w5.cell? ⟨w.heap.size + 1, 4, none⟩ = some (.slice C' k' q') := s4
   clear hR hR2 hn0 hn1 t4 s4 hK hA0 hK0 hF5 hG5 hF0 hG0 hr
   go_region_held3 (fun w' => w5.grownBy w' (some R) ∧ (w'.cell? ⟨b3, 0, none⟩ = some (.int .i64 v) ∧ w'.cell? ⟨b3, 1, none⟩ = some (.slice A2 n2 c2)) ∧ (w'.cell? ⟨b4, 0, none⟩ = some (.int .i64 v) ∧ w'.cell? ⟨b4, 1, none⟩ = some (.slice A4 n4 c4)) ∧ w'.cell? ⟨w.heap.size, 4, none⟩ = some (.slice C k q) ∧ w'.cell? ⟨w.heap.size + 1, 4, none⟩ = some (.slice C' k' q'))
    (first
      | (with_reducible exact HK.out _ (grown_drew _ _))
      | (with_reducible exact HK.out _ (grown_trans (grown_of_below ((Below.refl _ _).alloc (Nat.le_refl _) _) _) (grown_drew _ _)))
      | (with_reducible exact HK.out _ (grown_set5 Hcur.out _ _ _ _ _))
      | assumption)
    (first
      | (go_at_call 187
         go_must (
         go_split_ands
         refine (concat_any w5.heap.size 2 C C' k q k' q' cs cs' (w5.alloc (.cells #[.slice C k q, .slice C' k' q'] 59)).drew (show w5.heap.size < (w5.alloc _).heap.size by simp) (show (w5.alloc (.cells #[.slice C k q, .slice C' k' q'] 59)).cell? ⟨w5.heap.size, 0, none⟩ = _ from ((Fb.new w5 _ 59).cell 0).trans rfl) (show (w5.alloc (.cells #[.slice C k q, .slice C' k' q'] 59)).cell? ⟨w5.heap.size, 1, none⟩ = _ from ((Fb.new w5 _ 59).cell 1).trans rfl) (HF5.out.skip HF0.out (by assumption)) (HG5.out.skip HG0.out (by assumption)) hk4 hk4').mono ?_
         rintro e wn ⟨Cc, qc, rfl, hcc, hbk⟩
         have hbl := below_step (W := w5) (by first | exact ((Below.refl _ _).alloc (Nat.le_refl _) _).drew | exact (Below.refl _ _).drew.alloc (Nat.le_refl _) _) hbk
         have Hbl := hid hbl
         have hcur := grown_of_below hbl (some R)
         have hS := HK.out _ hcur
         have Hcur := hid hcur
         have Hcc := hid (show ArgC wn Cc (cs.length + cs'.length) (cs ++ cs') from (by rw [← List.length_append]; exact hcc))
         clear hbk hcc hbl))
      | (go_at_call 156
         go_must (
         go_split_ands
         refine (devCanonicalT v A2 A4 Cc n2 c2 n4 c4 (cs.length + cs'.length) qc (orR v gs gs') (andR v ks ks') (cs ++ cs') _ (HA5.out.skip HA0.out (by assumption)) (HK5.out.skip HK0.out (by assumption)) Hcc.out hv256 (fit_orR _ _ _) (fit_andR _ _ _) Hin.out (by have := HF.out.cops.len; have := HG.out.cops.len; omega)).mono ?_
         rintro e wn2 hcan
         have hval := hcan.val
         rw [Hcn.out] at hval
         obtain ⟨A9, n9, c9, B9, m9, d9, C9, q9, rfl, hA9, hB9, hC9, hbk⟩ := hval
         have hbl := below_step (W := w5) Hbl.out hbk
         have hcur := grown_of_below hbl (some R)
         have hS := HK.out _ hcur
         have Hcur := hid hcur
         have Hz9 := hid (HZ.out.below hbl HZ.out.lt)
         obtain ⟨r0, r1, r2, r3, r4⟩ := Hz9.out.five
         have f0 := Hz9.out.frozen 0
         have f1 := Hz9.out.frozen 1
         have f2 := Hz9.out.frozen 2
         have f3 := Hz9.out.frozen 3
         have f4 := Hz9.out.frozen 4
         have hlR := Hz9.out.lt
         have Fin := hid (RetU.stored (w := w) (err := er9) (c := c9) (d := d9) (q := q9) (W := W9) hA9 hB9 hC9 (H5.out.2.2.2.trans (hbl.mono H5.out.2.2.2.size)) hRle Hz9.out)
         unfold stored5 at Fin
         clear hbk hA9 hB9 hC9 hcan)))
   all_goals go_wp2_with fail
   all_goals refine bodyPost_ret (v := .tuple #[.agg #[.int .i64 W9, .slice A9 n9 c9, .int .i64 W9, .slice B9 m9 d9, .slice C9 cs9.length q9], .int .i64 er9]) (by simp [results, Tryz.results167, go_sem, r0, r1, r2, r3, r4]) rfl ?_
   all_goals rw [Hr.out, Hcn.out]
   all_goals exact Fin.out
set_option maxHeartbeats 1600000 in
theorem devComposeT (W V : Int) (A B C : Option Addr) (n c m d k q : Nat) (gs ks : List Nat) (cs : List (Int × Int)) (W' V' : Int) (A' B' C' : Option Addr) (n' c' m' d' k' q' : Nat) (gs' ks' : List Nat) (cs' : List (Int × Int)) (w : World)
 (hF : FArg w A n B m C k gs ks cs) (hG : FArg w A' n' B' m' C' k' gs' ks' cs') :
 Calls Tryz.prog 131 #[.agg #[.int .i64 W, .slice A n c, .int .i64 V, .slice B m d, .slice C k q], .agg #[.int .i64 W', .slice A' n' c', .int .i64 V', .slice B' m' d', .slice C' k' q']] w
  (RetRU w (composeR W gs V ks cs W' gs' V' ks' cs')) := by
 have HF := hid hF; have HG := hid hG
 have H0 := hid (Three.start w W V A B C n c m d k q W' V' A' B' C' n' c' m' d' k' q')
 clear hF hG
 go_enter Tryz.func131, Tryz.ntmps131
 go_wp2_with fail
 refine (devCheck_any W V A B C n c m d k q gs ks cs W' V' A' B' C' n' c' m' d' k' q' gs' ks' cs' _ (HF.out.below H0.out.2.2.2) (HG.out.below H0.out.2.2.2)).mono ?_
 by_cases hbad : checkR (validT W gs V ks cs) (validT W' gs' V' ks' cs') W W' ≠ 0
 · have Hr := hid (show composeR W gs V ks cs W' gs' V' ks' cs' = (0, [], [], [], checkR (validT W gs V ks cs) (validT W' gs' V' ks' cs') W W') by
    unfold composeR checkR
    unfold checkR at hbad
    by_cases h1 : validT W gs V ks cs = false ∨ validT W' gs' V' ks' cs' = false
    · rw [if_pos h1, if_pos h1]
    · rw [if_neg h1, if_neg h1]
      rw [if_neg h1] at hbad
      by_cases h2 : W ≠ W'
      · rw [if_pos h2, if_pos h2]
      · rw [if_neg h2] at hbad; exact absurd rfl hbad)
   generalize checkR (validT W gs V ks cs) (validT W' gs' V' ks' cs') W W' = er at *
   have tt : (er != 0) = true := by simpa using hbad
   clear hbad
   rintro e w1 ⟨rfl, hb1⟩
   have H1 := hid (H0.out.below hb1)
   clear hb1
   obtain ⟨r0, r1, r2, r3, r4⟩ := H1.out.2.2.1.five
   have f0 := H1.out.2.2.1.frozen 0
   have f1 := H1.out.2.2.1.frozen 1
   have f2 := H1.out.2.2.1.frozen 2
   have f3 := H1.out.2.2.1.frozen 3
   have f4 := H1.out.2.2.1.frozen 4
   have hlR := H1.out.2.2.1.lt
   have Fin := hid (RetU.stored (err := er) (c := 0) (d := 0) (q := 0) (cs := []) (C := none) (ArgT.nil w1 none) (ArgT.nil w1 none) (CopT.nil w1 none) H1.out.2.2.2 (by omega) H1.out.2.2.1 (W := 0))
   unfold stored5 at Fin
   go_wp2_with fail
   refine bodyPost_ret (v := .tuple #[.agg #[.int .i64 0, .slice none 0 0, .int .i64 0, .slice none 0 0, .slice none 0 0], .int .i64 er]) (by simp [results, Tryz.results131, go_sem, r0, r1, r2, r3, r4]) rfl ?_
   rw [Hr.out]
   exact Fin.out
 · have hok : checkR (validT W gs V ks cs) (validT W' gs' V' ks' cs') W W' = 0 := by simpa using hbad
   rw [hok]
   have hv1 : validT W gs V ks cs = true := by
    unfold checkR at hok
    cases h : validT W gs V ks cs with
    | true => rfl
    | false => rw [h] at hok; simp at hok
   have hv2 : validT W' gs' V' ks' cs' = true := by
    unfold checkR at hok
    cases h : validT W' gs' V' ks' cs' with
    | true => rfl
    | false => rw [h] at hok; simp at hok
   have hWW : W = W' := by
    unfold checkR at hok
    rw [hv1, hv2] at hok
    by_cases h : W = W'
    · exact h
    · simp [h] at hok
   clear hok hbad
   subst hWW
   obtain ⟨h1, h2, h3, h4, h5⟩ := validT_iff hv1
   obtain ⟨g1, g2, g3, g4, g5⟩ := validT_iff hv2
   subst h3
   subst g3
   have hin1 := inW_of_ok h5
   have hin2 := inW_of_ok g5
   have Hr := hid (show composeR W gs W ks cs W gs' W ks' cs' = cnR W.toNat (valR gs' gs (folB W ks' cs') W.toNat) (orR W.toNat ks ks') (chnL W ks W ks' cs cs') by unfold composeR; rw [if_neg (by simp [hv1, hv2]), if_neg (by simp)])
   obtain ⟨v, rfl⟩ := Int.eq_ofNat_of_zero_le (Bs.validB_iff.1 h1).1
   have hv256 : v ≤ 256 := by have := (Bs.validB_iff.1 h1).2.1; omega
   have hfg := fit_of_valid' h1 HF.out.gen
   have hfk := fit_of_valid' h2 HF.out.kill
   have hfg' := fit_of_valid' g1 HG.out.gen
   have hfk' := fit_of_valid' g2 HG.out.kill
   have hk4 : k ≤ 64 := by rw [HF.out.cops.len] at h4; exact h4
   have hk4' : k' ≤ 64 := by rw [HG.out.cops.len] at g4; exact g4
   rw [Int.toNat_natCast] at Hr
   have Hin := hid (show ∀ p ∈ chnL v ks v ks' cs cs', inW v p = true from chnL_inW hin1 hin2)
   have Hlen := hid (show (chnL v ks v ks' cs cs').length ≤ 5000 from chnL_len (by rw [HF.out.cops.len]; exact hk4) (by rw [HG.out.cops.len]; exact hk4'))
   have Happ := hid (show applyR v gs' v ks' cs' v gs = ((v : Int), valR gs' gs (folB v ks' cs') v, 0) by unfold applyR; rw [if_neg (by simp [hv2, h1]), if_neg (by simp), Int.toNat_natCast])
   have Hfg := hid hfg; have Hfk := hid hfk; have Hfg' := hid hfg'; have Hfk' := hid hfk'
   clear h1 h2 h4 h5 g1 g2 g4 g5 hin1 hin2 hfg hfk hfg' hfk' hv1 hv2
   rintro e w1 ⟨rfl, hb1⟩
   have H1 := hid (H0.out.below hb1)
   clear hb1
   obtain ⟨t0, t1, t2, t3, t4⟩ := H1.out.1.five
   obtain ⟨s0, s1, s2, s3, s4⟩ := H1.out.2.1.five
   go_wp2_with fail
   refine (devApply_any v v v A' B' C' A n' c' m' d' k' q' n c gs' ks' gs cs' _ (HG.out.gen.below H1.out.2.2.2) (HG.out.kill.below H1.out.2.2.2) (HG.out.cops.below H1.out.2.2.2) (HF.out.gen.below H1.out.2.2.2)).mono ?_
   rw [Happ.out]
   rintro e w2 ⟨A2, n2, c2, rfl, ha2, hb2⟩
   have hb2' := hb2.alloc hb2.size (.cells #[.int .i64 v, .slice A2 n2 c2] 49)
   have H2 := hid (H1.out.below hb2')
   have HA2 := hid (ha2.alloc (.cells #[.int .i64 v, .slice A2 n2 c2] 49))
   have HB2 := hid (Box.new w2 v A2 n2 c2)
   clear ha2 hb2 hb2' t0 t1 t2 t3 t4 s0 s1 s2 s3 s4
   obtain ⟨t0, t1, t2, t3, t4⟩ := H2.out.1.five
   obtain ⟨s0, s1, s2, s3, s4⟩ := H2.out.2.1.five
   go_wp2_with fail
   generalize w2.alloc (.cells #[.int .i64 v, .slice A2 n2 c2] 49) = w3 at *
   generalize w2.heap.size = b3 at *
   refine (devUnion_any v v B B' m d m' d' ks ks' _ (HF.out.kill.below H2.out.2.2.2) (HG.out.kill.below H2.out.2.2.2)).mono ?_
   rw [mixR_or hv256 Hfk.out Hfk'.out]
   rintro e w4 ⟨A4, n4, c4, rfl, ha4, hb4⟩
   have hb4' := hb4.alloc hb4.size (.cells #[.int .i64 v, .slice A4 n4 c4] 49)
   have H5 := hid (H2.out.below hb4')
   have HA5 := hid (HA2.out.below hb4')
   have HB5 := hid (HB2.out.below hb4' HB2.out.lt)
   have HK5 := hid (ha4.alloc (.cells #[.int .i64 v, .slice A4 n4 c4] 49))
   have HC5 := hid (Box.new w4 v A4 n4 c4)
   have hne3 : b3 ≠ w.heap.size + 2 := by
    intro e
    have x1 := HB2.out
    have x2 := H2.out.2.2.1
    rw [e] at x1
    unfold Box at x1
    unfold Fb at x2
    rw [x1] at x2
    cases x2
   have hne4 : w4.heap.size ≠ w.heap.size + 2 := by
    intro e
    have x1 := HC5.out
    have x2 := H5.out.2.2.1
    rw [e] at x1
    unfold Box at x1
    unfold Fb at x2
    rw [x1] at x2
    cases x2
   clear ha4 hb4 hb4' t0 t1 t2 t3 t4 s0 s1 s2 s3 s4 H1 H2 HA2 HB2
   go_upto_region 6 with fail
   generalize w4.alloc (.cells #[.int .i64 v, .slice A4 n4 c4] 49) = w5 at *
   generalize w4.heap.size = b4 at *
   generalize hR : w.heap.size + 1 + 1 = R
   have hR2 : w.heap.size + 2 = R := hR
   have HZ := hid (show Fb w5 R _ 61 from by rw [← hR2]; exact H5.out.2.2.1)
   rw [hR2] at hne3 hne4
   have hRle : w.heap.size ≤ R := by omega
   have hn0 : w.heap.size ≠ R := by omega
   have hn1 : w.heap.size + 1 ≠ R := by omega
   have HnR := hid (And.intro hn0 hn1)
   have hA0 := HA5.out.apart HZ.out zero5
   have hK0 := HK5.out.apart HZ.out zero5
   have hF5 := HF.out.below H5.out.2.2.2
   have hG5 := HG.out.below H5.out.2.2.2
   have hFS := fun (w' : World) (hg : w5.grownBy w' (some R)) => hF5.skip (hF5.gen.apart HZ.out zero5) (hF5.kill.apart HZ.out zero5) (hF5.cops.apart HZ.out zero5c) hg
   have hGS := fun (w' : World) (hg : w5.grownBy w' (some R)) => hG5.skip (hG5.gen.apart HZ.out zero5) (hG5.kill.apart HZ.out zero5) (hG5.cops.apart HZ.out zero5c) hg
   have hK : ∀ w', w5.grownBy w' (some R) → ((fun w' => w5.grownBy w' (some R) ∧ (w'.cell? ⟨b3, 0, none⟩ = some (.int .i64 v) ∧ w'.cell? ⟨b3, 1, none⟩ = some (.slice A2 n2 c2)) ∧ (w'.cell? ⟨b4, 0, none⟩ = some (.int .i64 v) ∧ w'.cell? ⟨b4, 1, none⟩ = some (.slice A4 n4 c4)) ∧ (w'.cell? ⟨w.heap.size, 0, none⟩ = some (.int .i64 v) ∧ w'.cell? ⟨w.heap.size, 1, none⟩ = some (.slice A n c) ∧ w'.cell? ⟨w.heap.size, 2, none⟩ = some (.int .i64 v) ∧ w'.cell? ⟨w.heap.size, 3, none⟩ = some (.slice B m d) ∧ w'.cell? ⟨w.heap.size, 4, none⟩ = some (.slice C k q)) ∧ (w'.cell? ⟨w.heap.size + 1, 0, none⟩ = some (.int .i64 v) ∧ w'.cell? ⟨w.heap.size + 1, 1, none⟩ = some (.slice A' n' c') ∧ w'.cell? ⟨w.heap.size + 1, 2, none⟩ = some (.int .i64 v) ∧ w'.cell? ⟨w.heap.size + 1, 3, none⟩ = some (.slice B' m' d') ∧ w'.cell? ⟨w.heap.size + 1, 4, none⟩ = some (.slice C' k' q'))) w') := fun w' hg =>
    ⟨hg, ⟨(HB5.out.grown hg (some_ne hne3)).c0, (HB5.out.grown hg (some_ne hne3)).c1⟩, ⟨(HC5.out.grown hg (some_ne hne4)).c0, (HC5.out.grown hg (some_ne hne4)).c1⟩, (H5.out.1.grown hg (some_ne hn0)).five, (H5.out.2.1.grown hg (some_ne hn1)).five⟩
   have HK := hid hK
   have HA0 := hid hA0; have HK0 := hid hK0; have HFS := hid hFS; have HGS := hid hGS
   obtain ⟨r, hr⟩ : ∃ r, cnR v (valR gs' gs (folB v ks' cs') v) (orR v ks ks') (chnL v ks v ks' cs cs') = r := ⟨_, rfl⟩
   obtain ⟨W9, gs9, ks9, cs9, er9⟩ := r
   have Hcn := hid hr
   have hz1 : b3 < w5.heap.size := HB5.out.lt
   have hz2 : b4 < w5.heap.size := HC5.out.lt
   have hz3 := HZ.out.lt
   have hz4 : w.heap.size < w5.heap.size := H5.out.1.lt
   have hz5 : w.heap.size + 1 < w5.heap.size := H5.out.2.1.lt
   obtain ⟨p0, p1⟩ := And.intro HB5.out.c0 HB5.out.c1
   obtain ⟨q0, q1⟩ := And.intro HC5.out.c0 HC5.out.c1
   obtain ⟨t0, t1, t2, t3, t4⟩ := H5.out.1.five
   obtain ⟨s0, s1, s2, s3, s4⟩ := H5.out.2.1.five
   clear hR hR2 hn0 hn1 hK hA0 hK0 hF5 hG5 hFS hGS hr
   go_region_held3 (fun w' => w5.grownBy w' (some R) ∧ (w'.cell? ⟨b3, 0, none⟩ = some (.int .i64 v) ∧ w'.cell? ⟨b3, 1, none⟩ = some (.slice A2 n2 c2)) ∧ (w'.cell? ⟨b4, 0, none⟩ = some (.int .i64 v) ∧ w'.cell? ⟨b4, 1, none⟩ = some (.slice A4 n4 c4)) ∧ (w'.cell? ⟨w.heap.size, 0, none⟩ = some (.int .i64 v) ∧ w'.cell? ⟨w.heap.size, 1, none⟩ = some (.slice A n c) ∧ w'.cell? ⟨w.heap.size, 2, none⟩ = some (.int .i64 v) ∧ w'.cell? ⟨w.heap.size, 3, none⟩ = some (.slice B m d) ∧ w'.cell? ⟨w.heap.size, 4, none⟩ = some (.slice C k q)) ∧ (w'.cell? ⟨w.heap.size + 1, 0, none⟩ = some (.int .i64 v) ∧ w'.cell? ⟨w.heap.size + 1, 1, none⟩ = some (.slice A' n' c') ∧ w'.cell? ⟨w.heap.size + 1, 2, none⟩ = some (.int .i64 v) ∧ w'.cell? ⟨w.heap.size + 1, 3, none⟩ = some (.slice B' m' d') ∧ w'.cell? ⟨w.heap.size + 1, 4, none⟩ = some (.slice C' k' q')))
    (first
      | (with_reducible exact HK.out _ (grown_drew _ _))
      | (with_reducible exact HK.out _ (grown_set5 Hcur.out _ _ _ _ _))
      | assumption)
    (first
      | (go_at_call 163
         go_must (
         go_split_ands
         refine (chain_any v v A B C n c m d k q gs ks cs v v A' B' C' n' c' m' d' k' q' gs' ks' cs' _ (HFS.out _ (by assumption)) (HGS.out _ (by assumption)) hk4 hk4').mono ?_
         rintro e wn ⟨Cc, qc, rfl, hcc, hbk⟩
         have hbl := below_step (W := w5) (by first | exact (Below.refl _ _).drew | exact Below.refl _ _) hbk
         have Hbl := hid hbl
         have hcur := grown_of_below hbl (some R)
         have hS := HK.out _ hcur
         have Hcur := hid hcur
         have Hcc := hid hcc
         clear hbk hcc hbl))
      | (go_at_call 156
         go_must (
         go_split_ands
         refine (devCanonicalT v A2 A4 Cc n2 c2 n4 c4 (chnL v ks v ks' cs cs').length qc (valR gs' gs (folB v ks' cs') v) (orR v ks ks') (chnL v ks v ks' cs cs') _ (HA5.out.skip HA0.out (by assumption)) (HK5.out.skip HK0.out (by assumption)) Hcc.out hv256 (fit_valR _ _ _ _) (fit_orR _ _ _) Hin.out Hlen.out).mono ?_
         rintro e wn2 hcan
         have hval := hcan.val
         rw [Hcn.out] at hval
         obtain ⟨A9, n9, c9, B9, m9, d9, C9, q9, rfl, hA9, hB9, hC9, hbk⟩ := hval
         have hbl := below_step (W := w5) Hbl.out hbk
         have hcur := grown_of_below hbl (some R)
         have hS := HK.out _ hcur
         have Hcur := hid hcur
         have Hz9 := hid (HZ.out.below hbl HZ.out.lt)
         obtain ⟨r0, r1, r2, r3, r4⟩ := Hz9.out.five
         have f0 := Hz9.out.frozen 0
         have f1 := Hz9.out.frozen 1
         have f2 := Hz9.out.frozen 2
         have f3 := Hz9.out.frozen 3
         have f4 := Hz9.out.frozen 4
         have hlR := Hz9.out.lt
         have Fin := hid (RetU.stored (w := w) (err := er9) (c := c9) (d := d9) (q := q9) (W := W9) hA9 hB9 hC9 (H5.out.2.2.2.trans (hbl.mono H5.out.2.2.2.size)) hRle Hz9.out)
         unfold stored5 at Fin
         clear hbk hA9 hB9 hC9 hcan)))
   all_goals go_wp2_with fail
   all_goals refine bodyPost_ret (v := .tuple #[.agg #[.int .i64 W9, .slice A9 n9 c9, .int .i64 W9, .slice B9 m9 d9, .slice C9 cs9.length q9], .int .i64 er9]) (by simp [results, Tryz.results131, go_sem, r0, r1, r2, r3, r4]) rfl ?_
   all_goals rw [Hr.out, Hcn.out]
   all_goals exact Fin.out
set_option maxHeartbeats 1600000 in
theorem devSquareT (v : Nat) (G : List Nat) : ∀ (N : Nat) (cs : List (Int × Int)) (_ : SqI v G cs) (_ : cs.length ≤ 64) (_ : 65 ≤ cs.length + N) (A B C : Option Addr) (n c m d k q : Nat) (w : World) (_ : FArg w A n B m C k G G cs),
 Calls Tryz.prog 158 #[.agg #[.int .i64 v, .slice A n c, .int .i64 v, .slice B m d, .slice C k q]] w (RetRU w (sqN v G N cs)) := by
 intro N
 induction N with
 | zero => intro cs hI hl hN; omega
 | succ N ih =>
   intro cs hI hl hN A B C n c m d k q w hF
   have HI := hid hI; have HF := hid hF; have IH := hid ih; have HN := hid hN
   have Hc := hid (hI.compose hl)
   have H0 := hid (TwoT.start w v v A B C n c m d k q 0 0 none none none 0 0 0 0 0 0)
   clear hI hl hN hF ih
   go_enter Tryz.func158, Tryz.ntmps158
   go_wp2_with fail
   generalize (w.alloc (.cells #[.int .i64 v, .slice A n c, .int .i64 v, .slice B m d, .slice C k q] 61)).alloc (.cells #[.int .i64 0, .slice none 0 0, .int .i64 0, .slice none 0 0, .slice none 0 0] 61) = w1 at *
   refine (devComposeT v v A B C n c m d k q G G cs v v A B C n c m d k q G G cs _ (HF.out.below H0.out.2.2) (HF.out.below H0.out.2.2)).mono ?_
   rw [Hc.out]
   by_cases h64 : (sqC v G cs).length ≤ 64
   · rw [if_pos h64]
     have Hs := hid (show sqN v G (N + 1) cs = if sqC v G cs = cs then ((v : Int), G, G, cs, 0) else sqN v G N (sqC v G cs) by rw [sqN_succ, if_neg (by omega)])
     rintro e w2 ⟨A2, n2, c2, B2, m2, d2, C2, q2, rfl, hA2, hB2, hC2, hb2⟩
     have ha2 : ArgT w2 A2 n2 G := hA2
     have ha3 : ArgT w2 B2 m2 G := hB2
     have ha4 : CopT w2 C2 (sqC v G cs).length (sqC v G cs) := hC2
     have hb2' := hb2.alloc hb2.size (.cells #[.int .i64 v, .slice A2 n2 c2, .int .i64 v, .slice B2 m2 d2, .slice C2 (sqC v G cs).length q2] 61)
     have H2 := hid (H0.out.below hb2')
     have HF2 := hid (FArgT.alloc ⟨ha2, ha3, ha4⟩ (.cells #[.int .i64 v, .slice A2 n2 c2, .int .i64 v, .slice B2 m2 d2, .slice C2 (sqC v G cs).length q2] 61))
     have HF1 := hid (HF.out.below H2.out.2.2)
     have HB := hid (Fb.new w2 #[.int .i64 v, .slice A2 n2 c2, .int .i64 v, .slice B2 m2 d2, .slice C2 (sqC v G cs).length q2] 61)
     have HI2 := hid HI.out.next
     have Hm := hid HI.out.more
     have H64 := hid h64
     generalize sqC v G cs = ds at *
     generalize hk2 : ds.length = k2 at *
     have Hk2 := hid hk2
     clear hA2 hB2 hC2 ha2 ha3 ha4 hb2 hb2' H0 Hc h64 hk2
     obtain ⟨t0, t1, t2, t3, t4⟩ := HB.out.five
     obtain ⟨s0, s1, s2, s3, s4⟩ := H2.out.1.five
     have hlb := HB.out.lt
     have Heq := hid (show equal2 v G v G ds v G v G cs = decide (ds = cs) by unfold equal2 equalB sameB; rw [Bs.valid_of_fit HI.out.fit HI.out.wid]; simp)
     have HM := hid (And.intro (fit_max HI.out.fit HI.out.wid HF2.out.gen.arg.len) (fit_max HI.out.fit HI.out.wid HF2.out.kill.arg.len))
     go_upto_region 2 with fail
     generalize w2.alloc (.cells #[.int .i64 v, .slice A2 n2 c2, .int .i64 v, .slice B2 m2 d2, .slice C2 k2 q2] 61) = w3 at *
     generalize w2.heap.size = b3 at *
     go_wp2_with fail
     refine (devEqual2_any v v A2 B2 C2 n2 c2 m2 d2 k2 q2 G G ds v v A B C n c m d k q G G cs _ HF2.out.farg HF1.out HM.out.1 HM.out.2 (by have := H64.out; omega)).mono ?_
     rw [Heq.out]
     rintro e w4 ⟨rfl, hb4⟩
     have H4 := hid (H2.out.below hb4)
     have HF4 := hid (HF2.out.below hb4)
     have HB4 := hid (HB.out.below hb4 HB.out.lt)
     clear t0 t1 t2 t3 t4 s0 s1 s2 s3 s4 hlb hb4 H2 HF2 HF1 HB
     obtain ⟨t0, t1, t2, t3, t4⟩ := HB4.out.five
     have hlb := HB4.out.lt
     obtain ⟨r0, r1, r2, r3, r4⟩ := H4.out.2.1.five
     have f0 := H4.out.2.1.frozen 0
     have f1 := H4.out.2.1.frozen 1
     have f2 := H4.out.2.1.frozen 2
     have f3 := H4.out.2.1.frozen 3
     have f4 := H4.out.2.1.frozen 4
     have hlR := H4.out.2.1.lt
     by_cases he : ds = cs
     · rw [decide_eq_true he]
       have Hr := hid (show sqN v G (N + 1) cs = ((v : Int), G, G, ds, 0) by rw [Hs.out, if_pos he, he])
       have hk2 := Hk2.out
       subst hk2
       have Fin := hid (RetU.stored (w := w) (err := 0) (c := c2) (d := d2) (q := q2) (W := v) HF4.out.gen HF4.out.kill HF4.out.cops H4.out.2.2 (by omega) H4.out.2.1)
       unfold stored5 at Fin
       clear he
       go_wp2_with fail
       refine bodyPost_ret (v := .tuple #[.agg #[.int .i64 v, .slice A2 n2 c2, .int .i64 v, .slice B2 m2 d2, .slice C2 ds.length q2], .int .i64 0]) (by simp [results, Tryz.results158, go_sem, r0, r1, r2, r3, r4]) rfl ?_
       rw [Hr.out]
       exact Fin.out
     · rw [decide_eq_false he]
       have Hr := hid (show sqN v G (N + 1) cs = sqN v G N ds by rw [Hs.out, if_neg he])
       have hlen := Hm.out he
       clear f0 f1 f2 f3 f4 r0 r1 r2 r3 r4
       go_wp2_with fail
       refine (IH.out ds HI2.out (by have := H64.out; have := Hk2.out; omega) (by have := HN.out; have := Hk2.out; omega) A2 B2 C2 n2 c2 m2 d2 k2 q2 _ HF4.out.farg).mono ?_
       obtain ⟨r, hrr⟩ : ∃ r, sqN v G N ds = r := ⟨_, rfl⟩
       obtain ⟨W9, gs9, ks9, cs9, er9⟩ := r
       rw [hrr]
       have Hrr := hid hrr
       rintro e w5 ⟨A9, n9, c9, B9, m9, d9, C9, q9, rfl, hA9, hB9, hC9, hbk⟩
       have H5 := hid (H4.out.below hbk)
       obtain ⟨r0, r1, r2, r3, r4⟩ := H5.out.2.1.five
       have f0 := H5.out.2.1.frozen 0
       have f1 := H5.out.2.1.frozen 1
       have f2 := H5.out.2.1.frozen 2
       have f3 := H5.out.2.1.frozen 3
       have f4 := H5.out.2.1.frozen 4
       have hlR := H5.out.2.1.lt
       have Fin := hid (RetU.stored (w := w) (err := er9) (c := c9) (d := d9) (q := q9) (W := W9) hA9 hB9 hC9 H5.out.2.2 (by omega) H5.out.2.1)
       unfold stored5 at Fin
       clear hbk hA9 hB9 hC9 hrr t0 t1 t2 t3 t4 he hlen
       go_wp2_with fail
       refine bodyPost_ret (v := .tuple #[.agg #[.int .i64 W9, .slice A9 n9 c9, .int .i64 W9, .slice B9 m9 d9, .slice C9 cs9.length q9], .int .i64 er9]) (by simp [results, Tryz.results158, go_sem, r0, r1, r2, r3, r4]) rfl ?_
       rw [Hr.out, Hrr.out]
       exact Fin.out
   · rw [if_neg h64]
     have Hr := hid (show sqN v G (N + 1) cs = (0, [], [], [], 7) by rw [sqN_succ, if_pos (by omega)])
     rintro e w2 ⟨A2, n2, c2, B2, m2, d2, C2, q2, rfl, hA2, hB2, hC2, hb2⟩
     have hb2' := hb2.alloc hb2.size (.cells #[.int .i64 0, .slice A2 n2 c2, .int .i64 0, .slice B2 m2 d2, .slice C2 0 q2] 61)
     have H2 := hid (H0.out.below hb2')
     have HF2 := hid (FArgT.alloc ⟨hA2, hB2, hC2⟩ (.cells #[.int .i64 0, .slice A2 n2 c2, .int .i64 0, .slice B2 m2 d2, .slice C2 0 q2] 61))
     have HB := hid (Fb.new w2 #[.int .i64 0, .slice A2 n2 c2, .int .i64 0, .slice B2 m2 d2, .slice C2 0 q2] 61)
     clear hA2 hB2 hC2 hb2 hb2' H0 Hc h64
     obtain ⟨t0, t1, t2, t3, t4⟩ := HB.out.five
     have hlb := HB.out.lt
     obtain ⟨r0, r1, r2, r3, r4⟩ := H2.out.2.1.five
     have f0 := H2.out.2.1.frozen 0
     have f1 := H2.out.2.1.frozen 1
     have f2 := H2.out.2.1.frozen 2
     have f3 := H2.out.2.1.frozen 3
     have f4 := H2.out.2.1.frozen 4
     have hlR := H2.out.2.1.lt
     have Fin := hid (RetU.stored (w := w) (err := 7) (c := c2) (d := d2) (q := q2) (W := 0) HF2.out.gen HF2.out.kill HF2.out.cops H2.out.2.2 (by omega) H2.out.2.1)
     unfold stored5 at Fin
     go_wp2_with fail
     refine bodyPost_ret (v := .tuple #[.agg #[.int .i64 0, .slice A2 n2 c2, .int .i64 0, .slice B2 m2 d2, .slice C2 0 q2], .int .i64 7]) (by simp [results, Tryz.results158, go_sem, r0, r1, r2, r3, r4]) rfl ?_
     rw [Hr.out]
     exact Fin.out
end Go.Proofs.YtopkmeceakjocaaGreat
namespace Go.Proofs.YtopkmeceakjocaaGreat
set_option maxRecDepth 20000
open Go.ChangeShapes Go.WideShapes Go.ChangeAt Go.RowKit
end Go.Proofs.YtopkmeceakjocaaGreat
namespace Go.Proofs.YtopkmeceakjocaaGreat
set_option maxRecDepth 20000
set_option linter.unusedVariables false
set_option linter.unusedSimpArgs false
open Go.ChangeShapes Go.WideShapes Go.ChangeAt Go.RowKit
set_option maxHeartbeats 3200000 in
theorem devStarT (W V : Int) (A B C : Option Addr) (n c m d k q : Nat) (gs ks : List Nat) (cs : List (Int × Int)) (w : World) (hF : FArg w A n B m C k gs ks cs) :
 Calls Tryz.prog 128 #[.agg #[.int .i64 W, .slice A n c, .int .i64 V, .slice B m d, .slice C k q]] w (RetRU w (starR W gs V ks cs)) := by
 have HF := hid hF
 have H0 := hid (TwoT.start w W V A B C n c m d k q 0 0 none none none 0 0 0 0 0 0)
 clear hF
 go_enter Tryz.func128, Tryz.ntmps128
 go_wp2_with fail
 generalize (w.alloc (.cells #[.int .i64 W, .slice A n c, .int .i64 V, .slice B m d, .slice C k q] 61)).alloc (.cells #[.int .i64 0, .slice none 0 0, .int .i64 0, .slice none 0 0, .slice none 0 0] 61) = w1 at *
 refine (devValidT_any W V A B C n c m d k q gs ks cs _ (HF.out.gen.below H0.out.2.2) (HF.out.kill.below H0.out.2.2) (HF.out.cops.below H0.out.2.2)).mono ?_
 cases hv : validT W gs V ks cs with
 | false =>
   have Hr := hid (show starR W gs V ks cs = (0, [], [], [], 1) by unfold starR; rw [if_pos hv])
   clear hv
   rintro e w2 ⟨rfl, hb2⟩
   have H2 := hid (H0.out.below hb2)
   clear hb2 H0
   obtain ⟨r0, r1, r2, r3, r4⟩ := H2.out.2.1.five
   have f0 := H2.out.2.1.frozen 0
   have f1 := H2.out.2.1.frozen 1
   have f2 := H2.out.2.1.frozen 2
   have f3 := H2.out.2.1.frozen 3
   have f4 := H2.out.2.1.frozen 4
   have hlR := H2.out.2.1.lt
   have Fin := hid (RetU.stored (w := w) (err := 1) (c := 0) (d := 0) (q := 0) (cs := []) (C := none) (ArgT.nil w2 none) (ArgT.nil w2 none) (CopT.nil w2 none) H2.out.2.2 (by omega) H2.out.2.1 (W := 0))
   unfold stored5 at Fin
   go_wp2_with fail
   refine bodyPost_ret (v := .tuple #[.agg #[.int .i64 0, .slice none 0 0, .int .i64 0, .slice none 0 0, .slice none 0 0], .int .i64 1]) (by simp [results, Tryz.results128, go_sem, r0, r1, r2, r3, r4]) rfl ?_
   rw [Hr.out]
   exact Fin.out
 | true =>
   obtain ⟨h1, h2, h3, h4, h5⟩ := validT_iff hv
   subst h3
   have hin := inW_of_ok h5
   have Hr := hid (show starR W gs W ks cs = sqN W.toNat (strG W.toNat gs ks cs) 65 (strC W.toNat gs ks cs) by unfold starR; rw [if_neg (by simp [hv])])
   obtain ⟨v, rfl⟩ := Int.eq_ofNat_of_zero_le (Bs.validB_iff.1 h1).1
   have hv256 : v ≤ 256 := by have := (Bs.validB_iff.1 h1).2.1; omega
   have hfg := fit_of_valid' h1 HF.out.gen
   rw [Int.toNat_natCast] at Hr
   have Hstart := hid (str_start (ks := ks) hfg hv256 hin)
   have Hcan := hid (str_canon (ks := ks) hfg h4)
   have HG := hid (show lst v gs (folB v ks cs) = strG v gs ks cs from rfl)
   have Hlen := hid (str_len (v := v) (gs := gs) (ks := ks) h4)
   have Hin := hid hin
   have Hv := hid hv
   have Hk := hid (show k ≤ 5000 by have := HF.out.cops.len; omega)
   have Hfe := hid (show emptyR v = ((v : Int), Bs.emp v, 0) by unfold emptyR; rw [if_neg (by omega), Int.toNat_natCast])
   clear h1 h2 h4 h5 hin hfg hv
   rintro e w2 ⟨rfl, hb2⟩
   have H2 := hid (H0.out.below hb2)
   clear hb2 H0
   obtain ⟨t0, t1, t2, t3, t4⟩ := H2.out.1.five
   go_wp2_with fail
   refine (devEmpty_any v _).mono ?_
   rw [Hfe.out]
   rintro e w3 ⟨A2, n2, c2, rfl, ha2, hb2⟩
   have hb2' := hb2.alloc hb2.size (.cells #[.int .i64 v, .slice A2 n2 c2] 49)
   have H5 := hid (H2.out.below hb2')
   have HA5 := hid (show Arg _ A2 n2 (Bs.emp v) from ha2.alloc (.cells #[.int .i64 v, .slice A2 n2 c2] 49))
   have HB5 := hid (Box.new w3 v A2 n2 c2)
   clear ha2 hb2 hb2' t0 t1 t2 t3 t4 H2
   go_upto_region 4 with fail
   generalize w3.alloc (.cells #[.int .i64 v, .slice A2 n2 c2] 49) = w5 at *
   generalize w3.heap.size = b3 at *
   generalize hG : strG v gs ks cs = G at *
   generalize hD : strC v gs ks cs = ds at *
   have HF5 := hid (HF.out.below H5.out.2.2)
   have hK : ∀ w', Below w5.heap.size w5 w' → ((fun w' => Below w5.heap.size w5 w' ∧ (w'.cell? ⟨b3, 0, none⟩ = some (.int .i64 v) ∧ w'.cell? ⟨b3, 1, none⟩ = some (.slice A2 n2 c2)) ∧ (w'.cell? ⟨w.heap.size, 0, none⟩ = some (.int .i64 v) ∧ w'.cell? ⟨w.heap.size, 1, none⟩ = some (.slice A n c) ∧ w'.cell? ⟨w.heap.size, 2, none⟩ = some (.int .i64 v) ∧ w'.cell? ⟨w.heap.size, 3, none⟩ = some (.slice B m d) ∧ w'.cell? ⟨w.heap.size, 4, none⟩ = some (.slice C k q))) w') := fun w' hb' =>
    ⟨hb', ⟨(HB5.out.below hb' HB5.out.lt).c0, (HB5.out.below hb' HB5.out.lt).c1⟩, (H5.out.1.below hb' H5.out.1.lt).five⟩
   have HK := hid hK
   have hz1 : b3 < w5.heap.size := HB5.out.lt
   have hz4 : w.heap.size < w5.heap.size := H5.out.1.lt
   obtain ⟨p0, p1⟩ := And.intro HB5.out.c0 HB5.out.c1
   obtain ⟨t0, t1, t2, t3, t4⟩ := H5.out.1.five
   clear hK hG hD
   go_cut [6, 7] (fun sa sb wc => ∃ (b : Nat) (A9 : Option Addr) (n9 c9 : Nat) (B9 : Option Addr) (m9 d9 : Nat) (C9 : Option Addr) (q9 : Nat), sa = .pointer (some ⟨b, 0, none⟩) ∧ sb = .int .i64 0 ∧ Hid (StarAt w5 v G G ds wc b A9 n9 c9 B9 m9 d9 C9 q9))
   case first =>
    go_region_held3 (fun w' => Below w5.heap.size w5 w' ∧ (w'.cell? ⟨b3, 0, none⟩ = some (.int .i64 v) ∧ w'.cell? ⟨b3, 1, none⟩ = some (.slice A2 n2 c2)) ∧ (w'.cell? ⟨w.heap.size, 0, none⟩ = some (.int .i64 v) ∧ w'.cell? ⟨w.heap.size, 1, none⟩ = some (.slice A n c) ∧ w'.cell? ⟨w.heap.size, 2, none⟩ = some (.int .i64 v) ∧ w'.cell? ⟨w.heap.size, 3, none⟩ = some (.slice B m d) ∧ w'.cell? ⟨w.heap.size, 4, none⟩ = some (.slice C k q)))
     (first | (with_reducible exact HK.out _ (Below.refl _ _).drew) | (with_reducible exact HK.out _ (((Below.refl _ _).alloc (Nat.le_refl _) _).drew)) | (with_reducible exact HK.out _ ((‹Below w5.heap.size w5 _›).alloc (‹Below w5.heap.size w5 _›).size _)) | (with_reducible exact HK.out _ (Hcur.out.alloc Hcur.out.size _)) | (with_reducible exact HK.out _ (HX.out.stored Hcur.out _ _ _ _ _)) | assumption)
     (first
       | (go_at_call 157
          go_must (
          go_split_ands
          refine (devLeast_any v A B C n c m d k q gs ks cs _ (HF5.out.below (by assumption)) Hv.out).mono ?_
          rw [HG.out]
          rintro e wn ⟨Al, nl, cl, rfl, hAl, hbk⟩
          have hcur := below_step (W := w5) (by assumption) hbk
          have hS := HK.out _ hcur
          try (first | (have HX := (by with_reducible exact hid (Fresh5.mkD hbk))) | (have HX := (by with_reducible exact hid (Fresh5.mk (by assumption) hbk))))
          clear hbk))
       | (go_at_call 156
          go_must (
          go_split_ands
          refine (devCanonical_any v Al A2 C nl cl n2 c2 k q G (Bs.emp v) cs _ (by first | exact hAl | exact hAl.alloc _) (HA5.out.below (by assumption)) (HF5.out.cops.below (by assumption)) hv256 Hstart.out.fit (Bs.fit_emp v) Hin.out Hk.out).mono ?_
          rintro e wn2 hcan
          have hval := hcan.val
          rw [Hcan.out] at hval
          obtain ⟨A9, n9, c9, B9, m9, d9, C9, q9, rfl, hA9, hB9, hC9, hbk⟩ := hval
          have hcur := below_step (W := w5) (by assumption) hbk
          have hS := HK.out _ hcur
          have Hcur := hid hcur
          have HA9 := hid (show Arg wn2 A9 n9 G from hA9)
          have HB9 := hid (show Arg wn2 B9 m9 G from hB9)
          have HC9 := hid (show ArgC wn2 C9 ds.length ds from hC9)
          try (first
           | (have HX := hid (HX.out.below hbk)
              obtain ⟨x0, x1, x2, x3, x4⟩ := HX.out.1.five
              have y0 := HX.out.1.frozen 0
              have y1 := HX.out.1.frozen 1
              have y2 := HX.out.1.frozen 2
              have y3 := HX.out.1.frozen 3
              have y4 := HX.out.1.frozen 4)
           | (have HX := (by with_reducible exact hid (Fresh5.mk (by assumption) hbk))
              obtain ⟨x0, x1, x2, x3, x4⟩ := HX.out.1.five
              have y0 := HX.out.1.frozen 0
              have y1 := HX.out.1.frozen 1
              have y2 := HX.out.1.frozen 2
              have y3 := HX.out.1.frozen 3
              have y4 := HX.out.1.frozen 4))
          clear hbk hA9 hB9 hC9 hcan)))
    all_goals go_wp2_with fail
    all_goals go_meet
    all_goals first
     | (have Q := StarAt.fresh (v := v) (c := c9) (d := d9) (q := q9) HX.out HA9.out HB9.out HC9.out Hcur.out
        refine ⟨_, A9, n9, c9, B9, m9, d9, C9, q9, rfl, rfl, ?_⟩
        with_reducible exact hid Q)
     | (have Q := StarAt.new (v := v) (c := c9) (d := d9) (q := q9) HA9.out HB9.out HC9.out Hcur.out
        refine ⟨_, A9, n9, c9, B9, m9, d9, C9, q9, rfl, rfl, ?_⟩
        with_reducible exact hid Q)
   case rest =>
    obtain ⟨b, A9, n9, c9, B9, m9, d9, C9, q9, rfl, rfl, hSt⟩ := hcut
    have H7 := hid (H5.out.below hSt.out.2.2)
    have HS1 := hid hSt.out.1
    have HS2 := hid hSt.out.2.1
    clear t0 t1 t2 t3 t4 p0 p1 HK hSt H5 HF5 HA5 HB5 hz1 hz4
    obtain ⟨x0, x1, x2, x3, x4⟩ := HS1.out.five
    have hlb := HS1.out.lt
    go_wp2_with fail
    refine (devSquareT v G 65 ds Hstart.out Hlen.out (by omega) A9 B9 C9 n9 c9 m9 d9 ds.length q9 _ HS2.out).mono ?_
    obtain ⟨r, hrr⟩ : ∃ r, sqN v G 65 ds = r := ⟨_, rfl⟩
    obtain ⟨W8, gs8, ks8, cs8, er8⟩ := r
    rw [hrr]
    have Hrr := hid hrr
    rintro e w8 ⟨A8, n8, c8, B8, m8, d8, C8, q8, rfl, hA8, hB8, hC8, hbk⟩
    have H8 := hid (H7.out.below hbk)
    obtain ⟨r0, r1, r2, r3, r4⟩ := H8.out.2.1.five
    have f0 := H8.out.2.1.frozen 0
    have f1 := H8.out.2.1.frozen 1
    have f2 := H8.out.2.1.frozen 2
    have f3 := H8.out.2.1.frozen 3
    have f4 := H8.out.2.1.frozen 4
    have hlR := H8.out.2.1.lt
    have Fin := hid (RetU.stored (w := w) (err := er8) (c := c8) (d := d8) (q := q8) (W := W8) hA8 hB8 hC8 H8.out.2.2 (by omega) H8.out.2.1)
    unfold stored5 at Fin
    clear hbk hA8 hB8 hC8 hrr x0 x1 x2 x3 x4
    go_wp2_with fail
    refine bodyPost_ret (v := .tuple #[.agg #[.int .i64 W8, .slice A8 n8 c8, .int .i64 W8, .slice B8 m8 d8, .slice C8 cs8.length q8], .int .i64 er8]) (by simp [results, Tryz.results128, go_sem, r0, r1, r2, r3, r4]) rfl ?_
    rw [Hr.out, Hrr.out]
    exact Fin.out
set_option maxHeartbeats 1600000 in
theorem devApply_own (v : Nat) (A B C D : Option Addr) (n c m d k q x y : Nat) (gs ks ss : List Nat) (cs : List (Int × Int)) (w : World)
 (hA : Arg w A n gs) (hB : Arg w B m ks) (hC : ArgC w C k cs) (hD : Arg w D x ss) (hval : validT (v : Int) gs (v : Int) ks cs = true) (hsv : Bs.validB (v : Int) ss = true) :
 Calls Tryz.prog 130 #[.agg #[.int .i64 v, .slice A n c, .int .i64 v, .slice B m d, .slice C k q], .agg #[.int .i64 v, .slice D x y]] w
  (RetOwn w (Bs.nw v) (v, valR gs ss (folB v ks cs) v, 0)) := by
 obtain ⟨i0, hi, hz0, hz1, hz2⟩ := info_parts info3
 have Hi := hid hi; have Hz0 := hid hz0; have Hz1 := hid hz1; have Hz2 := hid hz2
 have HA := hid hA; have HB := hid hB; have HC := hid hC; have HD := hid hD
 have H0 := hid (Applying.start w v v v A B C D n c m d k q x y)
 clear hA hB hC hD hi hz0 hz1 hz2
 go_enter Tryz.func130, Tryz.ntmps130
 go_wp2_with fail
 refine (devValidT_any v v A B C n c m d k q gs ks cs _ (HA.out.below H0.out.2.2.2) (HB.out.below H0.out.2.2.2) (HC.out.below H0.out.2.2.2)).mono ?_
 cases hv : validT (v : Int) gs (v : Int) ks cs with
 | false => exact absurd (hval.symm.trans hv) (by simp)
 | true =>
   have Hv := hid hv
   obtain ⟨h1, h2, h3, h4, h5⟩ := validT_iff hv
   have hk64 : k ≤ 64 := by rw [HC.out.len] at h4; exact h4
   have HK := hid hk64
   have Hin := hid (inW_of_ok h5)
   rintro e w1 ⟨rfl, hb1⟩
   have H1 := hid (H0.out.below hb1)
   clear hb1 hv h4 h5
   obtain ⟨s0, s1⟩ := And.intro H1.out.2.1.c0 H1.out.2.1.c1
   go_wp2_with fail
   refine (devValid_any v D x y ss _ (HD.out.below H1.out.2.2.2)).mono ?_
   clear s0 s1
   cases hs : Bs.validB (v : Int) ss with
   | false => exact absurd (hsv.symm.trans hs) (by simp)
   | true =>
     rintro e w2 ⟨rfl, hb2⟩
     have H2 := hid (H1.out.below hb2)
     have hz2 : w.heap.size + 3 ≤ w2.heap.size := by
      have e1 := H1.out.2.2.1.lt; have e2 := hb2.size; omega
     clear hb2
     obtain ⟨⟨r0, r1⟩, f0, f1⟩ := H2.out.res
     obtain ⟨s0, s1⟩ := And.intro H2.out.2.1.c0 H2.out.2.1.c1
     obtain ⟨t0, t1, t2, t3, t4⟩ := H2.out.1.five
     rcases (Or.inl trivial : True ∨ False) with _ | hff
     · have hfg := Bs.fit_of_valid h1 HA.out.ok
       have hfk := Bs.fit_of_valid h2 HB.out.ok
       have hfs := Bs.fit_of_valid hs HD.out.ok
       have hv256 : v ≤ 256 := by have := (Bs.validB_iff.1 h1).2.1; omega
       rw [Int.toNat_natCast] at hfg hfs hfk
       have Hfg := hid hfg; have Hfs := hid hfs; have Hfk := hid hfk; have Hv2 := hid hv256
       have Hst := hid (show Aiming w v v v A B C D n c m d k q x y (.slice none 0 0) (tgt v ss (cs.take 0)) w2 from ⟨H2.out, World.ownsRow_nil _ _ _ _, hz2⟩)
       clear h1 h2 hs hfg hfs hfk hv256 r0 r1 f0 f1 hz2
       go_wp2_with fail
       clear s0 s1 t0 t1 t2 t3 t4
       go_loopw [6, 8, 34] (fun u _ i wr => ∃ j : Nat, j ≤ k ∧ i = .int .i64 j ∧ Hid (Aiming w v v v A B C D n c m d k q x y u (tgt v ss (cs.take j)) wr)) (fun _ _ i _ => k - (intOf i).toNat)
       case atStart => exact ⟨0, by omega, rfl, Hst⟩
       case round =>
        obtain ⟨j, hj, rfl, hG⟩ := hrel
        clear Hst
        by_cases hlt : j < k
        · have hjl : j < cs.length := by rw [HC.out.len]; exact hlt
          have hget : cs[j]? = some cs[j] := List.getElem?_eq_getElem _
          have hsn := take_snoc cs j hjl
          generalize cs[j] = p at hget hsn
          obtain ⟨p1, p2⟩ := p
          obtain ⟨ad, rfl, had, g1, g2⟩ := (HC.out.below hG.out.1.2.2.2).cell hget
          have Hsn := hid hsn
          have hle := tgt_len v ss (cs.take j)
          rw [List.length_take] at hle
          have hle2 : (tgt (v : Int) ss (cs.take j)).length ≤ 64 := by have := HK.out; omega
          clear hget hsn hle
          have H5 := hid (hG.out.below ((Below.refl _ _).alloc (Nat.le_refl _) (.cells #[.int .i64 p1, .int .i64 p2] 58)))
          have Hbx := hid (Fb.new wr #[.int .i64 p1, .int .i64 p2] 58)
          obtain ⟨s0, s1⟩ := And.intro H5.out.1.2.1.c0 H5.out.1.2.1.c1
          obtain ⟨b0, b1⟩ := Hbx.out.two
          go_wp2_with fail
          clear g1 g2
          generalize wr.alloc (.cells #[.int .i64 p1, .int .i64 p2] 58) = wv at *
          generalize wr.heap.size = gv at *
          refine (devHas_any v D x y ss p1 _ (HD.out.below H5.out.1.2.2.2)).mono ?_
          rintro e w6 ⟨rfl, hb6⟩
          have H6 := hid (H5.out.below hb6)
          have hbx6 := hid (Hbx.out.below hb6 Hbx.out.lt)
          clear s0 s1 b0 b1 hb6
          obtain ⟨b0, b1⟩ := hbx6.out.two
          cases hh : Bs.hasB v ss p1 with
          | false =>
            have Hl := hid (show tgt v ss (cs.take (j + 1)) = tgt v ss (cs.take j) by rw [Hsn.out, tgt_snoc]; simp [hh])
            clear hh
            go_wp2_with fail
            go_roundw
            case rel => exact ⟨j + 1, by omega, by go_num, by rw [Hl.out]; exact H6⟩
            case measure => simp [intOf]; omega
          | true =>
            have Hl := hid (show tgt v ss (cs.take (j + 1)) = tgt v ss (cs.take j) ++ [p2] by rw [Hsn.out, tgt_snoc]; simp [hh])
            clear hh
            have Hle := hid hle2
            go_wp2_with (first
             | (at_builtin
                refine wpList_append_own _ rfl _ _ 22 rfl (w.heap.size + 3) 3 i0 (.int .i64 0) 1 8 Tryz.underlying22 Hi.out Hz0.out Hz1.out Hz2.out rfl (by decide) _ _ _ rfl (H6.out.2.1.alloc _) ⟨w6.heap.size, 0, none⟩ 1 1 [.int .i64 p2] rfl rfl (new_one _ _ _) (one_int _ _) (by unfold maxLen; omega) (by omega) (by have := H6.out.2.2; rw [World.size_alloc]; omega) ?_
                intro v' w7 hown7 hgr7 hnil7
                have H7 := hid (H6.out.push hown7 hgr7)
                clear hown7 hgr7 hnil7))
            go_roundw
            case rel => exact ⟨j + 1, by omega, by go_num, by rw [Hl.out]; exact H7⟩
            case measure => simp [intOf]; omega
        · have hjk : j = k := by omega
          subst hjk
          have hall : cs.take j = cs := List.take_of_length_le (by rw [HC.out.len]; omega)
          rw [hall] at hG
          have hle := tgt_len v ss cs
          have Hle := hid (show (tgt (v : Int) ss cs).length ≤ maxLen by have := HK.out; have := HC.out.len; unfold maxLen; omega)
          clear hall hle
          obtain ⟨A', c', e', hat, _⟩ := own_slice hG.out.2.1
          subst e'
          have Hat := hid (show IArg wr A' (tgt (v : Int) ss cs).length (tgt v ss cs) from ⟨hat, rfl⟩)
          clear hat
          obtain ⟨s0, s1⟩ := And.intro hG.out.1.2.1.c0 hG.out.1.2.1.c1
          obtain ⟨t0, t1, t2, t3, t4⟩ := hG.out.1.1.five
          go_wp2_with fail
          refine (devDiff_any v v D B x y m d ss ks _ (HD.out.below hG.out.1.2.2.2) (HB.out.below hG.out.1.2.2.2)).mono ?_
          rw [mixR_ok _ Hv2.out Hfs.out Hfk.out]
          generalize hS1 : Bs.ofP v (fun i => flag true false false (Bs.bit ss i) (Bs.bit ks i)) v = z1
          have Hz1f := hid (show Bs.Fit v z1 by rw [← hS1]; exact Bs.fit_ofP _ _ _ (Nat.le_refl _))
          have HS1 := hid hS1
          rintro e wd1 ⟨A1, n1, c1, rfl, ha1, hb1⟩
          have HG1 := hid (hG.out.below hb1)
          have Hat1 := hid (Hat.out.below hb1)
          have Ha1 := hid ha1
          clear ha1 hb1 s0 s1 t0 t1 t2 t3 t4 Hat hS1 hG
          have HG2 := hid (HG1.out.below ((Below.refl _ _).alloc (Nat.le_refl _) (.cells #[.int .i64 (v : Int), .slice A1 n1 c1] 49)))
          have Hat2 := hid (Hat1.out.alloc (.cells #[.int .i64 (v : Int), .slice A1 n1 c1] 49))
          have Ha2 := hid (Ha1.out.alloc (.cells #[.int .i64 (v : Int), .slice A1 n1 c1] 49))
          have HB1 := hid (Box.new wd1 (v : Int) A1 n1 c1)
          obtain ⟨s0, s1⟩ := And.intro HG2.out.1.2.1.c0 HG2.out.1.2.1.c1
          go_wp2_with fail
          clear HG1 Hat1 Ha1
          generalize wd1.alloc (.cells #[.int .i64 (v : Int), .slice A1 n1 c1] 49) = wd2 at *
          generalize wd1.heap.size = b1 at *
          refine (devOf_any v A' _ c' (tgt (v : Int) ss cs) _ Hat2.out Hle.out).mono ?_
          rw [tgt_of Hv2.out Hin.out]
          generalize hS2 : Bs.ofP v (fun i => decide ((i : Int) ∈ tgt v ss cs)) v = z2
          have Hz2f := hid (show Bs.Fit v z2 by rw [← hS2]; exact Bs.fit_ofP _ _ _ (Nat.le_refl _))
          have HS2 := hid hS2
          rintro e wd3 ⟨A2, n2, c2, rfl, ha2, hb2⟩
          have HG3 := hid (HG2.out.below hb2)
          have Ha3 := hid (Ha2.out.below hb2)
          have HB3 := hid (HB1.out.below hb2 HB1.out.lt)
          have Hb2 := hid ha2
          clear ha2 hb2 s0 s1 hS2 Hat2 Ha2 HB1 HG2
          have HG4 := hid (HG3.out.below ((Below.refl _ _).alloc (Nat.le_refl _) (.cells #[.int .i64 (v : Int), .slice A2 n2 c2] 49)))
          have Ha4 := hid (Ha3.out.alloc (.cells #[.int .i64 (v : Int), .slice A2 n2 c2] 49))
          have Hb4 := hid (Hb2.out.alloc (.cells #[.int .i64 (v : Int), .slice A2 n2 c2] 49))
          have HB4 := hid (HB3.out.alloc (.cells #[.int .i64 (v : Int), .slice A2 n2 c2] 49))
          have HC4 := hid (Box.new wd3 (v : Int) A2 n2 c2)
          obtain ⟨p0, p1⟩ := And.intro HB4.out.c0 HB4.out.c1
          obtain ⟨q0, q1⟩ := And.intro HC4.out.c0 HC4.out.c1
          go_wp2_with fail
          clear HG3 Ha3 HB3 Hb2
          generalize wd3.alloc (.cells #[.int .i64 (v : Int), .slice A2 n2 c2] 49) = wd4 at *
          generalize wd3.heap.size = b2 at *
          refine (devUnion_any v v A1 A2 n1 c1 n2 c2 z1 z2 _ Ha4.out Hb4.out).mono ?_
          rw [mixR_or Hv2.out Hz1f.out Hz2f.out]
          generalize hS3 : orR v z1 z2 = z3
          have Hz3f := hid (show Bs.Fit v z3 by rw [← hS3]; exact fit_orR _ _ _)
          have HS3 := hid hS3
          rintro e wd5 ⟨A3, n3, c3, rfl, ha3, hb3⟩
          have HG5 := hid (HG4.out.below hb3)
          have Ha5 := hid ha3
          clear ha3 hb3 hS3 p0 p1 q0 q1 Ha4 Hb4 HB4 HC4 HG4
          have HG6 := hid (HG5.out.below ((Below.refl _ _).alloc (Nat.le_refl _) (.cells #[.int .i64 (v : Int), .slice A3 n3 c3] 49)))
          have Ha6 := hid (Ha5.out.alloc (.cells #[.int .i64 (v : Int), .slice A3 n3 c3] 49))
          have HB6 := hid (Box.new wd5 (v : Int) A3 n3 c3)
          obtain ⟨t0, t1, t2, t3, t4⟩ := HG6.out.1.1.five
          obtain ⟨p0, p1⟩ := And.intro HB6.out.c0 HB6.out.c1
          go_wp2_with fail
          clear HG5 Ha5
          generalize wd5.alloc (.cells #[.int .i64 (v : Int), .slice A3 n3 c3] 49) = wd6 at *
          generalize wd5.heap.size = b3 at *
          refine (devUnion_own v A A3 n c n3 c3 gs z3 _ (HA.out.below HG6.out.1.2.2.2) Ha6.out Hv2.out Hfg.out Hz3f.out).mono ?_
          have hfin := dev_value Hv2.out Hfk.out Hfs.out Hin.out (gs := gs)
          rw [HS1.out, HS2.out, HS3.out] at hfin
          rw [hfin]
          clear hfin
          generalize valR gs ss (folB (v : Int) ks cs) v = z4 at *
          rintro e wd7 ⟨g4, rfl, hr4, hg4, hb4⟩
          have HG7 := hid (HG6.out.1.below hb4)
          have Hr4 := hid hr4
          have hg4' : w.heap.size ≤ g4 := by have := HG6.out.1.2.2.2.size; omega
          have hne := Box.row_ne HG7.out.2.2.1 hr4
          clear hr4 hb4 t0 t1 t2 t3 t4 p0 p1 HG6 Ha6 HB6
          obtain ⟨⟨r0, r1⟩, f0, f1⟩ := HG7.out.res
          go_wp2_with fail
          refine bodyPost_ret (v := .tuple #[.agg #[.int .i64 v, .slice (some ⟨g4, 0, none⟩) (Bs.nw v) (Bs.nw v)], .int .i64 0]) (by simp [results, Tryz.results130, go_sem, r0, r1]) rfl ?_
          exact ⟨g4, rfl, (Hr4.out.far (by exact hne) _).far (by exact hne) _, hg4', HG7.out.stored _ _ _ _⟩
     · exact hff.elim
def ac (v : Nat) (x : List (List Nat)) (l : List AH) (i : Nat) : Prop := ∃ a ∈ l, Bs.bit (a.f.pf.vl v (at0 x a.m.toNat)) i = true
structure JoinP (v : Nat) (l : List AH) (a : AH) (l' : List AH) : Prop where
 sem : ∀ x i, i < v → (ac v x l' i ↔ (ac v x l i ∨ Bs.bit (a.f.pf.vl v (at0 x a.m.toNat)) i = true))
 from' : ∀ y ∈ l', y.m = a.m ∨ ∃ z ∈ l, y.m = z.m
theorem mem_ins {α : Type} {l : List α} {i : Nat} (hi : i ≤ l.length) {a x : α} : x ∈ l.insertIdx i a ↔ (x = a ∨ x ∈ l) := by
 rw [ins_list l hi]
 have e : ∀ y, y ∈ l ↔ (y ∈ l.take i ∨ y ∈ l.drop i) := fun y => by rw [← List.mem_append, List.take_append_drop]
 rw [List.mem_append, List.mem_cons, e]
 constructor
 · rintro (h | h | h)
   · exact .inr (.inl h)
   · exact .inl h
   · exact .inr (.inr h)
 · rintro (h | h | h)
   · exact .inr (.inl h)
   · exact .inl h
   · exact .inr (.inr h)
theorem JoinP.ins {v : Nat} {l : List AH} {i : Nat} (hi : i ≤ l.length) (a : AH) : JoinP v l a (l.insertIdx i a) := by
 refine ⟨fun x j hj => ?_, fun y hy => ?_⟩
 · constructor
   · rintro ⟨y, hy, h⟩
     rcases (mem_ins hi).1 hy with rfl | hy
     · exact .inr h
     · exact .inl ⟨y, hy, h⟩
   · rintro (⟨y, hy, h⟩ | h)
     · exact ⟨y, (mem_ins hi).2 (.inr hy), h⟩
     · exact ⟨a, (mem_ins hi).2 (.inl rfl), h⟩
 · rcases (mem_ins hi).1 hy with rfl | hy
   · exact .inl rfl
   · exact .inr ⟨y, hy, rfl⟩
theorem mem_set {α : Type} {l : List α} {i : Nat} {b c x : α} (hb : l[i]? = some b) : x ∈ l.set i c ↔ (x = c ∨ ∃ j, j ≠ i ∧ l[j]? = some x) := by
 have hil := (List.getElem?_eq_some_iff.1 hb).1
 rw [List.mem_iff_getElem?]
 constructor
 · rintro ⟨j, hj⟩
   by_cases e : j = i
   · subst e; rw [List.getElem?_set_self hil] at hj; exact .inl (Option.some.inj hj).symm
   · rw [List.getElem?_set_ne (fun e' => e e'.symm)] at hj; exact .inr ⟨j, e, hj⟩
 · rintro (rfl | ⟨j, e, hj⟩)
   · exact ⟨i, List.getElem?_set_self hil⟩
   · exact ⟨j, by rw [List.getElem?_set_ne (fun e' => e e'.symm)]; exact hj⟩
theorem JoinP.both {v : Nat} {l : List AH} {i : Nat} {b a : AH} {f : FH} (hb : l[i]? = some b) (hm : b.m = a.m) (hf : ∀ ss, f.pf.vl v ss = orR v (b.f.pf.vl v ss) (a.f.pf.vl v ss)) : JoinP v l a (l.set i (arcSet b f)) := by
 refine ⟨fun x j hj => ?_, fun y hy => ?_⟩
 · have key : Bs.bit ((arcSet b f).f.pf.vl v (at0 x (arcSet b f).m.toNat)) j = true ↔ (Bs.bit (b.f.pf.vl v (at0 x b.m.toNat)) j = true ∨ Bs.bit (a.f.pf.vl v (at0 x a.m.toNat)) j = true) := by
    show Bs.bit (f.pf.vl v (at0 x b.m.toNat)) j = true ↔ _
    rw [hf, bit_orR_iff hj, hm]
   constructor
   · rintro ⟨y, hy, h⟩
     rcases (mem_set hb).1 hy with rfl | ⟨k, _, hk⟩
     · rcases key.1 h with h1 | h1
       · exact .inl ⟨b, List.mem_of_getElem? hb, h1⟩
       · exact .inr h1
     · exact .inl ⟨y, List.mem_of_getElem? hk, h⟩
   · rintro (⟨y, hy, h⟩ | h)
     · obtain ⟨k, hk⟩ := List.mem_iff_getElem?.1 hy
       by_cases e : k = i
       · subst e
         rw [hb] at hk
         obtain rfl := Option.some.inj hk
         exact ⟨_, (mem_set hb).2 (.inl rfl), key.2 (.inl h)⟩
       · exact ⟨y, (mem_set hb).2 (.inr ⟨k, e, hk⟩), h⟩
     · exact ⟨_, (mem_set hb).2 (.inl rfl), key.2 (.inr h)⟩
 · rcases (mem_set hb).1 hy with rfl | ⟨k, _, hk⟩
   · exact .inl hm
   · exact .inr ⟨y, List.mem_of_getElem? hk, rfl⟩
theorem Plc.one {N : Nat} {l : List AH} {m : Int} {p q : Nat} (h : Plc l m p) (h2 : Plc l m q) : p = q := by
 rcases Nat.lt_trichotomy p q with h3 | h3 | h3
 · obtain ⟨a, ha⟩ : ∃ a, l[p]? = some a := ⟨_, List.getElem?_eq_getElem (by have := h2.le; omega)⟩
   have := h2.lo p a h3 ha
   have := h.hi p a (Nat.le_refl _) ha
   omega
 · exact h3
 · obtain ⟨a, ha⟩ : ∃ a, l[q]? = some a := ⟨_, List.getElem?_eq_getElem (by have := h.le; omega)⟩
   have := h.lo q a h3 ha
   have := h2.hi q a (Nat.le_refl _) ha
   omega
theorem plc_ex {N : Nat} {l : List AH} (h : RisP N (l.map AH.m)) (m : Int) : ∃ p, Plc l m p := by
 by_cases hx : ∃ (i : Nat) (a : AH), l[i]? = some a ∧ m ≤ a.m
 · have hmin : ∀ n i : Nat, i ≤ n → (∃ a : AH, l[i]? = some a ∧ m ≤ a.m) → ∃ j : Nat, (∃ a : AH, l[j]? = some a ∧ m ≤ a.m) ∧ ∀ k, k < j → ∀ a : AH, l[k]? = some a → a.m < m := by
    intro n
    induction n with
    | zero => intro i hi ha; exact ⟨i, ha, fun k hk => by omega⟩
    | succ n ih =>
      intro i hi ha
      by_cases hex : ∃ (k : Nat) (a : AH), k < i ∧ l[k]? = some a ∧ m ≤ a.m
      · obtain ⟨k, a, hk, h1, h2⟩ := hex
        exact ih k (by omega) ⟨a, h1, h2⟩
      · exact ⟨i, ha, fun k hk a h1 => by
         rcases Int.lt_or_le a.m m with h2 | h2
         · exact h2
         · exact absurd ⟨k, a, hk, h1, h2⟩ hex⟩
   obtain ⟨i, a, h1, h2⟩ := hx
   obtain ⟨j, ⟨b, hb, hbm⟩, hj⟩ := hmin i i (Nat.le_refl _) ⟨a, h1, h2⟩
   refine ⟨j, Nat.le_of_lt (List.getElem?_eq_some_iff.1 hb).1, fun k c hk hc => hj k hk c hc, fun k c hk hc => ?_⟩
   rcases Nat.lt_or_eq_of_le hk with h3 | h3
   · have := ris_lt h h3 hb hc; omega
   · subst h3; rw [hb] at hc; obtain rfl := Option.some.inj hc; exact hbm
 · refine ⟨l.length, Nat.le_refl _, fun i a _ ha => ?_, fun i a hi ha => absurd (List.getElem?_eq_some_iff.1 ha).1 (by omega)⟩
   rcases Int.lt_or_le a.m m with h2 | h2
   · exact h2
   · exact absurd ⟨i, a, ha, h2⟩ hx
theorem place2_any (b v N : Nat) (r : AL) (m : Int) (p : Nat) (w : World) (h : RowA b w v N r) (hN : N ≤ 256) (hp : Plc r.l m p) :
 Calls Tryz.prog 127 #[r.v, .int .i64 m] w fun e w' => e = .returned (.tuple #[.int .i64 p, .bool (fdA r.l p m)]) ∧ Below w.heap.size w w' := by
 refine (place_any b v N r m w h hN).mono ?_
 rintro e w' ⟨q, hq, rfl, hb⟩
 obtain rfl := Plc.one (N := N) hq hp
 exact ⟨rfl, hb⟩
theorem FWt.okf {u : World} {v : Nat} {f : FH} (h : FWt u v f) : Okf v f.G.ws f.K.ws f.cs := by
 obtain ⟨h1, h2, h3, h4, h5⟩ := validT_iff h.ok.ok
 have f1 := Bs.fit_of_valid h1 h.t.gen.arg.ok
 have f2 := Bs.fit_of_valid h2 h.t.kill.arg.ok
 rw [Int.toNat_natCast] at f1 f2
 exact ⟨h.ok.ok, f1, f2, inW_of_ok h5⟩
theorem FWt.ret {u : World} {v : Nat} {gs ks : List Nat} {cs : List (Int × Int)} {A B C : Option Addr} {n c m d q : Nat} (ho : Okf v gs ks cs) (h1 : ArgT u A n gs) (h2 : ArgT u B m ks) (h3 : CopT u C cs.length cs) :
 FWt u v ⟨⟨v, A, n, c, gs⟩, ⟨v, B, m, d, ks⟩, C, cs.length, q, cs⟩ := ⟨⟨rfl, rfl, ho.valid⟩, h1, h2, h3⟩
theorem fdA_yes {l : List AH} {p : Nat} {m : Int} (h : fdA l p m = true) : ∃ a, l[p]? = some a ∧ a.m = m := by
 unfold fdA at h
 split at h
 · next a ha => exact ⟨a, ha, by simpa using h⟩
 · cases h
theorem fdA_no {N : Nat} {l : List AH} {p : Nat} {m : Int} (hr : RisP N (l.map AH.m)) (hp : Plc l m p) (h : fdA l p m = false) : ∀ a ∈ l, a.m ≠ m := by
 intro a ha e
 obtain ⟨i, hi⟩ := List.mem_iff_getElem?.1 ha
 rcases Nat.lt_trichotomy i p with h1 | h1 | h1
 · have := hp.lo i a h1 hi; omega
 · subst h1
   unfold fdA at h
   rw [hi] at h
   simp [e] at h
 · obtain ⟨b, hb⟩ : ∃ b, l[p]? = some b := ⟨_, List.getElem?_eq_getElem (by have := (List.getElem?_eq_some_iff.1 hi).1; omega)⟩
   have h2 := hp.hi p b (Nat.le_refl _) hb
   have h3 := ris_lt hr h1 hb hi
   omega
theorem map_set_v {J : List AL} {t : Nat} {r r' : AL} (ht : J[t]? = some r) (h : r'.v = r.v) : (J.set t r').map AL.v = J.map AL.v := by
 rw [List.map_set, h]
 apply List.ext_getElem?
 intro j
 by_cases e : j = t
 · subst e
   rw [List.getElem?_set_self (by rw [List.length_map]; exact (List.getElem?_eq_some_iff.1 ht).1), List.getElem?_map, ht]; rfl
 · rw [List.getElem?_set_ne (fun e' => e e'.symm)]
theorem Ow.putF {w0 u : World} {v N gB gI t p : Nat} {B : List ZH} {J : List AL} {r : AL} {b : AH} {f : FH} {g : Nat} (h : Ow w0 v N gB gI B (J.map AL.v) J u) (ht : J[t]? = some r) (hp : r.l[p]? = some b) (hf : FWt u v f) (hg : r.A = some ⟨g, 0, none⟩) :
 Ow w0 v N gB gI B ((J.set t ⟨r.A, r.n, r.c, r.l.set p (arcSet b f)⟩).map AL.v) (J.set t ⟨r.A, r.n, r.c, r.l.set p (arcSet b f)⟩) (putF u g (p * 6 + 1) f) := by
 have hrow := (h.rt r (List.mem_of_getElem? ht)).putF hp hf hg
 have hbk : r.v.ownBlock = some g := by unfold AL.v; rw [hg]; rfl
 have := h.row (r' := ⟨r.A, r.n, r.c, r.l.set p (arcSet b f)⟩) ht (by rw [hbk]; exact putF_grown u g (p * 6 + 1) f) hrow (fun k e => .inl e)
 rwa [← map_set_v ht (r' := ⟨r.A, r.n, r.c, r.l.set p (arcSet b f)⟩) rfl] at this
def RetRw (w0 : World) (v N gB gI t : Nat) (B : List ZH) (J : List AL) (r : AL) (P : List AH → Prop) (w : World) (e : Ending) (w' : World) : Prop :=
 ∃ r' : AL, e = .returned (.int .i64 0) ∧ Ow w0 v N gB gI B ((J.set t r').map AL.v) (J.set t r') w' ∧ P r'.l ∧ GrX w [some gB, some gI, r.v.ownBlock] w' ∧ ∀ g, r'.v.ownBlock = some g → r.v.ownBlock = some g ∨ w.heap.size ≤ g
structure Awo (w0 w : World) (v N gB gI : Nat) (B : List ZH) (J : List AL) (u : World) : Prop where
 ow : Ow w0 v N gB gI B (J.map AL.v) J u
 ww : Fb u w.heap.size #[.int .i64 v, .slice (some ⟨gB, 0, none⟩) N N, .slice (some ⟨gI, 0, none⟩) N N] 67
 bel : Below w.heap.size w u
theorem Awo.below {w0 w u u' : World} {v N gB gI : Nat} {B : List ZH} {J : List AL} (h : Awo w0 w v N gB gI B J u) (hb : Below u.heap.size u u') : Awo w0 w v N gB gI B J u' := ⟨h.ow.below hb, h.ww.below hb h.ww.lt, below_step h.bel hb⟩
set_option maxHeartbeats 6400000 in
theorem arcsWithout_any (w0 : World) (v N gB gI n : Nat) (B : List ZH) (J : List AL) (w : World) (h : Ow w0 v N gB gI B (J.map AL.v) J w) (hN : N ≤ 20) (hnN : n < N) :
 Calls Tryz.prog 101 #[.agg #[.int .i64 v, .slice (some ⟨gB, 0, none⟩) N N, .slice (some ⟨gI, 0, none⟩) N N], .int .i64 n] w fun e w' => ∃ c : Int, e = .returned (.int .i64 c) ∧ c ≤ 1024 ∧ Below w.heap.size w w' := by
 have hN2 : N ≤ 256 := by omega
 obtain ⟨rn, hrn⟩ : ∃ rn, J[n]? = some rn := ⟨_, List.getElem?_eq_getElem (by rw [h.jl]; exact hnN)⟩
 have Hrn := hid hrn
 have Hjl := hid h.jl
 have hrnn : rn.n ≤ N := (h.rt rn (List.mem_of_getElem? hrn)).few
 have Hrl := hid (h.rt rn (List.mem_of_getElem? hrn)).len
 have hb1 := (Below.refl w.heap.size w).alloc (Nat.le_refl _) (.cells #[.int .i64 v, .slice (some ⟨gB, 0, none⟩) N N, .slice (some ⟨gI, 0, none⟩) N N] 67)
 have HI0 := hid (show Awo w0 w v N gB gI B J (w.alloc (.cells #[.int .i64 v, .slice (some ⟨gB, 0, none⟩) N N, .slice (some ⟨gI, 0, none⟩) N N] 67)) from ⟨h.below hb1, Fb.new w _ _, hb1⟩)
 clear h hrn hb1
 go_enter Tryz.func101, Tryz.ntmps101
 go_upto_region 2 with fail
 generalize w.alloc (.cells #[.int .i64 v, .slice (some ⟨gB, 0, none⟩) N N, .slice (some ⟨gI, 0, none⟩) N N] 67) = w1 at *
 obtain ⟨x0, x1, x2⟩ := HI0.out.ww.three
 go_wp2_with fail
 clear x0 x1 x2
 go_loopw [5, 17] (fun cv tv wr => ∃ (c : Int) (t : Nat), t ≤ N ∧ cv = .int .i64 c ∧ tv = .int .i64 t ∧ -(t : Int) ≤ c ∧ c ≤ t * 40 ∧ Hid (Awo w0 w v N gB gI B J wr)) (fun _ tv _ => N - (intOf tv).toNat)
 case atStart => exact ⟨0, 0, by omega, rfl, rfl, by omega, by omega, HI0⟩
 case round =>
  clear HI0
  obtain ⟨c, t, ht, rfl, rfl, hc0, hc1, HI⟩ := hrel
  by_cases hlt : t < N
  · have n0 : (0 : Int) ≤ t := by omega
    have n1 : (t : Int) < N := by omega
    have n2 : (t : Int).toNat = t := by omega
    obtain ⟨r, hr, hrm⟩ := get_at Hjl.out hlt
    have Hr := hid hr
    have hra := HI.out.ow.rt r hrm
    have hrn2 := hra.few
    have Hm := hid (show (J.map AL.v)[t]? = some (.slice r.A r.n r.c) from by rw [List.getElem?_map, hr]; rfl)
    have m0 := HI.out.ow.cellM Hm.out
    obtain ⟨p, hp⟩ := plc_ex hra.ris n
    have Hp := hid hp
    have hw5 : IntKind.i64.wrap (c + (r.n : Int)) = c + r.n := IntWalk.i64_in _ (by omega)
    have hw6 : IntKind.i64.wrap (c + (r.n : Int) - 1) = c + r.n - 1 := IntWalk.i64_in _ (by omega)
    clear hr hrm hra hp
    go_wp2_with fail
    refine (place2_any w0.heap.size v N r n p wr (HI.out.ow.rt r (List.mem_of_getElem? Hr.out)) hN2 Hp.out).mono ?_
    rintro _ w3 ⟨rfl, hb3⟩
    have HI3 := hid (HI.out.below hb3)
    clear m0 hb3 HI
    generalize fdA r.l p n = fd at *
    cases fd with
    | false =>
      go_wp2_with fail
      go_roundw
      case rel => exact ⟨c + r.n, t + 1, by omega, rfl, by go_num, by omega, by omega, HI3⟩
      case measure => simp [intOf]; omega
    | true =>
      obtain ⟨x0, x1, x2⟩ := HI3.out.ww.three
      have m0 := HI3.out.ow.cellM (k := n) (x := .slice rn.A rn.n rn.c) (by rw [List.getElem?_map, Hrn.out]; rfl)
      have n3 : (0 : Int) ≤ n := by omega
      have n4 : (n : Int) < N := by omega
      have n5 : (n : Int).toNat = n := by omega
      go_wp2_with fail
      clear x0 x1 x2 m0
      go_loopw [5, 41] (fun dv jv wr => ∃ (d : Int) (j : Nat), j ≤ rn.n ∧ dv = .int .i64 d ∧ jv = .int .i64 j ∧ -(t : Int) - 1 ≤ d ∧ d ≤ t * 40 + r.n + j ∧ Hid (Awo w0 w v N gB gI B J wr)) (fun _ jv _ => rn.n - (intOf jv).toNat)
      case atStart => exact ⟨c + r.n - 1, 0, by omega, rfl, rfl, by omega, by omega, HI3⟩
      case round =>
       clear HI3
       obtain ⟨d, j, hj, rfl, rfl, hd0, hd1, HI4⟩ := hrel
       by_cases hjl : j < rn.n
       · have k0 : (0 : Int) ≤ j := by omega
         have k1 : (j : Int) < rn.n := by omega
         have k2 : (j : Int).toNat = j := by omega
         obtain ⟨b, hb, -⟩ := get_at Hrl.out hjl
         obtain ⟨g, hA, hgl, y0, y1, y2, y3, y4, y5⟩ := (HI4.out.ow.rt rn (List.mem_of_getElem? Hrn.out)).later hb
         have hba := (Below.refl wr.heap.size wr).alloc (Nat.le_refl _) (.cells #[.int .i64 b.m, .int .i64 b.f.G.W, .slice b.f.G.A b.f.G.n b.f.G.c, .int .i64 b.f.K.W, .slice b.f.K.A b.f.K.n b.f.K.c, .slice b.f.C b.f.k b.f.q] 63)
         have HI5 := hid (HI4.out.below hba)
         have HAb := hid (Fb.new wr #[.int .i64 b.m, .int .i64 b.f.G.W, .slice b.f.G.A b.f.G.n b.f.G.c, .int .i64 b.f.K.W, .slice b.f.K.A b.f.K.n b.f.K.c, .slice b.f.C b.f.k b.f.q] 63)
         obtain ⟨q, hq⟩ := plc_ex (HI4.out.ow.rt r (List.mem_of_getElem? Hr.out)).ris b.m
         have Hq := hid hq
         have hw7 : IntKind.i64.wrap (d + 1) = d + 1 := IntWalk.i64_in _ (by omega)
         clear HI4 hba hb hq
         rw [hA]
         go_upto_region 12 with fail
         clear y0 y1 y2 y3 y4 y5
         generalize wr.alloc (.cells #[.int .i64 b.m, .int .i64 b.f.G.W, .slice b.f.G.A b.f.G.n b.f.G.c, .int .i64 b.f.K.W, .slice b.f.K.A b.f.K.n b.f.K.c, .slice b.f.C b.f.k b.f.q] 63) = w11 at *
         generalize wr.heap.size = bA at *
         obtain ⟨y0, y1, y2, y3, y4, y5⟩ := HAb.out.six
         go_wp2_with fail
         refine (place2_any w0.heap.size v N r b.m q w11 (HI5.out.ow.rt r (List.mem_of_getElem? Hr.out)) hN2 Hq.out).mono ?_
         rintro _ w12 ⟨rfl, hb12⟩
         have HI6 := hid (HI5.out.below hb12)
         clear y0 y1 y2 y3 y4 y5 hb12 HI5 HAb
         generalize fdA r.l q b.m = fe at *
         cases fe with
         | false =>
           go_wp2_with fail
           go_roundw
           case rel => exact ⟨d + 1, j + 1, by omega, rfl, by go_num, by omega, by omega, HI6⟩
           case measure => simp [intOf]; omega
         | true =>
           go_wp2_with fail
           go_roundw
           case rel => exact ⟨d, j + 1, by omega, rfl, by go_num, by omega, by omega, HI6⟩
           case measure => simp [intOf]; omega
       · have e : j = rn.n := by omega
         subst e
         go_wp2_with fail
         go_roundw
         case rel => exact ⟨d, t + 1, by omega, rfl, by go_num, by omega, by omega, HI4⟩
         case measure => simp [intOf]; omega
  · have e : t = N := by omega
    subst e
    have HFin := hid (show c ≤ 1024 ∧ Below w.heap.size w wr from ⟨by omega, HI.out.bel⟩)
    go_wp2_with fail
    exact bodyPost_ret (v := .int .i64 c) (by simp [results, Tryz.results101, go_sem]) rfl ⟨c, rfl, HFin.out.1, HFin.out.2⟩
def zTr : Array Value := #[.int .i64 0, .slice none 0 0, .int .i64 0, .slice none 0 0, .slice none 0 0]
theorem five_set {u : World} {b t : Nat} {x y z x' y' : Value} (h : Fb u b #[x, y, z, x', y'] t) (p q r s m : Value) : Fb (stored5 u b p q r s m) b #[p, q, r, s, m] t := ((((h.set 0 p).set 1 q).set 2 r).set 3 s).set 4 m
theorem five_stp {u : World} {b t : Nat} {cs : Array Value} (h : Fb u b cs t) (p q r s m : Value) : Stp1 t u (stored5 u b p q r s m) :=
 ⟨some b, grown_trans (grown_trans (grown_trans (grown_trans (grown_set u b rfl p) (grown_set _ b rfl q)) (grown_set _ b rfl r)) (grown_set _ b rfl s)) (grown_set _ b rfl m), fun g e => by obtain rfl := Option.some.inj e; exact h.typ⟩
theorem putF_v {u : World} {g o v : Nat} {f : FH} (h1 : f.G.W = v) (h2 : f.K.W = v) : putF u g o f = ((((u.setCell ⟨g, o, none⟩ (.int .i64 v)).setCell ⟨g, o + 1, none⟩ (.slice f.G.A f.G.n f.G.c)).setCell ⟨g, o + 2, none⟩ (.int .i64 v)).setCell ⟨g, o + 3, none⟩ (.slice f.K.A f.K.n f.K.c)).setCell ⟨g, o + 4, none⟩ (.slice f.C f.k f.q) := by
 unfold putF; rw [h1, h2]
structure JB (w : World) (v N gB gI : Nat) (a : AH) (r : AL) (WEB : Array Value) (u : World) : Prop where
 ww : Fb u w.heap.size WEB 67
 aa : Fb u (w.heap.size + 1) #[.int .i64 a.m, .int .i64 a.f.G.W, .slice a.f.G.A a.f.G.n a.f.G.c, .int .i64 a.f.K.W, .slice a.f.K.A a.f.K.n a.f.K.c, .slice a.f.C a.f.k a.f.q] 63
 gx : GrX w [some gB, some gI, r.v.ownBlock] u
 fw : FWt u v a.f
section
variable {w u u' : World} {v N gB gI : Nat} {a : AH} {r : AL} {WEB : Array Value}
theorem JB.below (h : JB w v N gB gI a r WEB u) (hb : Below u.heap.size u u') : JB w v N gB gI a r WEB u' := ⟨h.ww.below hb h.ww.lt, h.aa.below hb h.aa.lt, h.gx.below hb, h.fw.below hb⟩
theorem JB.row {w0 : World} {B : List ZH} {M : List Value} {J : List AL} {t : Nat} (h : JB w v N gB gI a r WEB u) (hg : u.grownBy u' r.v.ownBlock) (hr : ∀ g, r.v.ownBlock = some g → g < w.heap.size) (ho : Ow w0 v N gB gI B M J u) (ht : J[t]? = some r) : JB w v N gB gI a r WEB u' := by
 have hs : Stp1 63 u u' := ⟨_, hg, fun k e => own_typ (ho.rt r (List.mem_of_getElem? ht)).own e⟩
 exact ⟨h.ww.grown hg (fun e => by have := hr _ e.symm; omega), h.aa.grown hg (fun e => by have := hr _ e.symm; omega), h.gx.step hg (fun g e => .inl (by simp)), h.fw.stp hs (by decide) (by decide)⟩
theorem JB.put {cs : Array Value} (h : JB w v N gB gI a r WEB u) (hf : Fb u gI cs 64) (k : Nat) (x : Value) : JB w v N gB gI a r WEB (u.setCell ⟨gI, k, none⟩ x) := by
 have hs := stp_cell hf k x
 exact ⟨hs.fb h.ww (by decide), hs.fb h.aa (by decide), h.gx.step (setCell_grown u ⟨gI, k, none⟩ x) (fun g e => .inl (by simp)), h.fw.stp hs (by decide) (by decide)⟩
theorem JB.stp5 {bT : Nat} {cs : Array Value} (h : JB w v N gB gI a r WEB u) (hf : Fb u bT cs 61) (hge : w.heap.size ≤ bT) (h1 : bT ≠ w.heap.size) (h2 : bT ≠ w.heap.size + 1) (p q x y z : Value) : JB w v N gB gI a r WEB (stored5 u bT p q x y z) := by
 have hs := five_stp hf p q x y z
 have hg : u.grownBy (stored5 u bT p q x y z) (some bT) := grown_trans (grown_trans (grown_trans (grown_trans (grown_set u bT rfl p) (grown_set _ bT rfl q)) (grown_set _ bT rfl x)) (grown_set _ bT rfl y)) (grown_set _ bT rfl z)
 exact ⟨hs.fb h.ww (by decide), hs.fb h.aa (by decide), h.gx.step hg (fun g e => by obtain rfl := Option.some.inj e; exact .inr hge), h.fw.stp hs (by decide) (by decide)⟩
end
def j3R (r : AL) (j : Nat) (u u' : World) : Prop := if j = 11 then u.grownBy u' r.v.ownBlock else if j = 13 then Stp1 64 u u' else Below u.heap.size u u'
theorem j3R_of {r : AL} {j : Nat} {u u' : World} (h : Below u.heap.size u u') (h1 : j ≠ 11) (h2 : j ≠ 13) : j3R r j u u' := by unfold j3R; rw [if_neg h1, if_neg h2]; exact h
theorem j3R_bel {r : AL} {j : Nat} {u u' : World} (h : j3R r j u u') (h1 : j ≠ 11) (h2 : j ≠ 13) : Below u.heap.size u u' := by unfold j3R at h; rwa [if_neg h1, if_neg h2] at h
theorem j3R_row {r : AL} {u u' : World} (h : u.grownBy u' r.v.ownBlock) : j3R r 11 u u' := by unfold j3R; rw [if_pos rfl]; exact h
theorem j3R_w {r : AL} {u u' : World} (h : Stp1 64 u u') : j3R r 13 u u' := by unfold j3R; rw [if_neg (by decide), if_pos rfl]; exact h
theorem j3R_keep {r : AL} {j : Nat} {u u' : World} (h : j3R r j u u') (h1 : j ≠ 11) {g : Nat} {cs : Array Value} (hf : Fb u g cs 63) : Fb u' g cs 63 := by
 unfold j3R at h
 rw [if_neg h1] at h
 split at h
 · exact h.fb hf (by decide)
 · exact hf.below h hf.lt
def j3F (w0 w : World) (v N gB gI t p : Nat) (a : AH) (r : AL) (B : List ZH) (J : List AL) : Nat → (Nat → Value) → World → Prop
 | 0, f, u => f 0 = .pointer (some ⟨w.heap.size, 2, none⟩)
 | 1, f, u => f 1 = .slice (some ⟨gI, 0, none⟩) N N
 | 2, f, u => f 2 = .int .i64 (t : Int)
 | 3, f, u => f 3 = .pointer (some ⟨w.heap.size, 2, none⟩)
 | 4, f, u => f 4 = .slice (some ⟨gI, 0, none⟩) N N
 | 5, f, u => f 5 = .int .i64 (t : Int)
 | 6, f, u => f 6 = .pointer (some ⟨gI, t, none⟩)
 | 7, f, u => f 7 = .slice r.A r.n r.c
 | 8, f, u => f 8 = .int .i64 (p : Int)
 | 9, f, u => f 9 = .agg #[.int .i64 a.m, .int .i64 a.f.G.W, .slice a.f.G.A a.f.G.n a.f.G.c, .int .i64 a.f.K.W, .slice a.f.K.A a.f.K.n a.f.K.c, .slice a.f.C a.f.k a.f.q]
 | 10, f, u => ∃ g0, f 10 = .slice (some ⟨g0, 0, none⟩) 1 1 ∧ Fb u g0 a.cells.toArray 63 ∧ r.v.ownBlock ≠ some g0
 | 11, f, u => ∃ r' : AL, f 11 = r'.v ∧ Ow w0 v N gB gI B (J.map AL.v) (J.set t r') u ∧ JoinP v r.l a r'.l ∧ ∀ g, r'.v.ownBlock = some g → r.v.ownBlock = some g ∨ w.heap.size ≤ g
 | 12, f, u => f 12 = .pointer (some ⟨gI, t, none⟩)
 | 13, f, u => ∃ r' : AL, Ow w0 v N gB gI B ((J.set t r').map AL.v) (J.set t r') u ∧ JoinP v r.l a r'.l ∧ ∀ g, r'.v.ownBlock = some g → r.v.ownBlock = some g ∨ w.heap.size ≤ g
 | _, _, _ => True
def j3U : Nat → Option Nat
 | 10 => some 11
 | 11 => some 13
 | _ => none
theorem j3F_st {w0 w : World} {v N gB gI t p : Nat} {a : AH} {r : AL} {B : List ZH} {J : List AL} {ops : Array Oper} (hq13 : ∀ j, (reachL ops 5 13).contains j = false → j ≠ 11)  (jx : Nat) (vx : Value) (u u' : World) (ix : Nat) (f : Nat → Value) (hR : j3R r jx u u') (hne : ix ≠ jx) (hu : j3U ix ≠ some jx) (hc : (reachL ops 5 ix).contains jx = false) (h : j3F w0 w v N gB gI t p a r B J ix f u) : j3F w0 w v N gB gI t p a r B J ix (updV f jx vx) u' := by
 match ix, hne, hu, hc, h with
 | 0, hne, hu, hc, h => exact (updV_ne f vx hne).trans h
 | 1, hne, hu, hc, h => exact (updV_ne f vx hne).trans h
 | 2, hne, hu, hc, h => exact (updV_ne f vx hne).trans h
 | 3, hne, hu, hc, h => exact (updV_ne f vx hne).trans h
 | 4, hne, hu, hc, h => exact (updV_ne f vx hne).trans h
 | 5, hne, hu, hc, h => exact (updV_ne f vx hne).trans h
 | 6, hne, hu, hc, h => exact (updV_ne f vx hne).trans h
 | 7, hne, hu, hc, h => exact (updV_ne f vx hne).trans h
 | 8, hne, hu, hc, h => exact (updV_ne f vx hne).trans h
 | 9, hne, hu, hc, h => exact (updV_ne f vx hne).trans h
 | 10, hne, hu, hc, h => obtain ⟨g, h1, h2, h3⟩ := h; have h11 : jx ≠ 11 := fun e => hu (by rw [e]; rfl); exact ⟨g, (updV_ne f vx hne).trans h1, j3R_keep hR h11 h2, h3⟩
 | 11, hne, hu, hc, h => obtain ⟨r', h1, h2, h3⟩ := h; have h13 : jx ≠ 13 := fun e => hu (by rw [e]; rfl); exact ⟨r', (updV_ne f vx hne).trans h1, h2.below (j3R_bel hR (fun e => hne e.symm) h13), h3⟩
 | 12, hne, hu, hc, h => exact (updV_ne f vx hne).trans h
 | 13, hne, hu, hc, h => obtain ⟨r', h1, h2⟩ := h; have h11 : jx ≠ 11 := hq13 jx hc; exact ⟨r', h1.below (j3R_bel hR h11 (fun e => hne e.symm)), h2⟩
 | ix + 14, _, _, _, _ => trivial
def j5R (j : Nat) (u u' : World) : Prop := if j = 16 then Stp1 61 u u' else Below u.heap.size u u'
theorem j5R_stp {j : Nat} {u u' : World} (h : j5R j u u') : Stp1 61 u u' := by
 unfold j5R at h
 split at h
 · exact h
 · exact Stp1.below h
theorem j5R_bel {j : Nat} {u u' : World} (h : j5R j u u') (hj : j ≠ 16) : Below u.heap.size u u' := by
 unfold j5R at h
 rwa [if_neg hj] at h
theorem j5R_of {j : Nat} {u u' : World} (h : Below u.heap.size u u') (hj : j ≠ 16) : j5R j u u' := by
 unfold j5R; rwa [if_neg hj]
theorem j5R_refl (j : Nat) (u : World) (hj : j ≠ 16) : j5R j u u := j5R_of (Below.refl _ _) hj
theorem j5R_w {u u' : World} (h : Stp1 61 u u') : j5R 16 u u' := by unfold j5R; rw [if_pos rfl]; exact h
def j5F (w : World) (v N gB gI t p gr : Nat) (a b : AH) (r : AL) : Nat → (Nat → Value) → World → Prop
 | 0, f, u => f 0 = .pointer (some ⟨w.heap.size, 2, none⟩)
 | 1, f, u => f 1 = .slice (some ⟨gI, 0, none⟩) N N
 | 2, f, u => f 2 = .int .i64 (t : Int)
 | 3, f, u => f 3 = .pointer (some ⟨gI, t, none⟩)
 | 4, f, u => f 4 = .slice (some ⟨gr, 0, none⟩) r.n r.c
 | 5, f, u => f 5 = .int .i64 (p : Int)
 | 6, f, u => f 6 = .pointer (some ⟨gr, p * 6, none⟩)
 | 7, f, u => f 7 = .pointer (some ⟨gr, p * 6 + 1, none⟩)
 | 8, f, u => f 8 = .agg #[.int .i64 b.f.G.W, .slice b.f.G.A b.f.G.n b.f.G.c, .int .i64 b.f.K.W, .slice b.f.K.A b.f.K.n b.f.K.c, .slice b.f.C b.f.k b.f.q]
 | 9, f, u => f 9 = .pointer (some ⟨w.heap.size + 1, 1, none⟩)
 | 10, f, u => f 10 = .agg #[.int .i64 a.f.G.W, .slice a.f.G.A a.f.G.n a.f.G.c, .int .i64 a.f.K.W, .slice a.f.K.A a.f.K.n a.f.K.c, .slice a.f.C a.f.k a.f.q]
 | 11, f, u => ∃ f' : FH, f 11 = .tuple #[.agg #[.int .i64 v, .slice f'.G.A f'.G.n f'.G.c, .int .i64 v, .slice f'.K.A f'.K.n f'.K.c, .slice f'.C f'.k f'.q], .int .i64 0] ∧ f'.G.W = v ∧ f'.K.W = v ∧ FWt u v f' ∧ ∀ ss, f'.pf.vl v ss = orR v (b.f.pf.vl v ss) (a.f.pf.vl v ss)
 | 12, f, u => ∃ f' : FH, f 12 = .tuple #[.agg #[.int .i64 v, .slice f'.G.A f'.G.n f'.G.c, .int .i64 v, .slice f'.K.A f'.K.n f'.K.c, .slice f'.C f'.k f'.q], .int .i64 0] ∧ f'.G.W = v ∧ f'.K.W = v ∧ FWt u v f' ∧ ∀ ss, f'.pf.vl v ss = orR v (b.f.pf.vl v ss) (a.f.pf.vl v ss)
 | 13, f, u => ∃ f' : FH, f 13 = .agg #[.int .i64 v, .slice f'.G.A f'.G.n f'.G.c, .int .i64 v, .slice f'.K.A f'.K.n f'.K.c, .slice f'.C f'.k f'.q] ∧ f'.G.W = v ∧ f'.K.W = v ∧ FWt u v f' ∧ ∀ ss, f'.pf.vl v ss = orR v (b.f.pf.vl v ss) (a.f.pf.vl v ss)
 | 14, f, u => f 14 = .int .i64 0
 | 15, f, u => ∃ bT, f 15 = .pointer (some ⟨bT, 0, none⟩) ∧ Fb u bT zTr 61 ∧ w.heap.size + 1 < bT
 | 16, f, u => ∃ (bT : Nat) (f' : FH), f 15 = .pointer (some ⟨bT, 0, none⟩) ∧ Fb u bT #[.int .i64 v, .slice f'.G.A f'.G.n f'.G.c, .int .i64 v, .slice f'.K.A f'.K.n f'.K.c, .slice f'.C f'.k f'.q] 61 ∧ w.heap.size + 1 < bT ∧ f'.G.W = v ∧ f'.K.W = v ∧ FWt u v f' ∧ ∀ ss, f'.pf.vl v ss = orR v (b.f.pf.vl v ss) (a.f.pf.vl v ss)
 | 17, f, u => f 17 = .int .i64 0
 | _, _, _ => True
def j5U : Nat → Option Nat
 | 15 => some 16
 | _ => none
theorem j5F_st {w : World} {v N gB gI t p gr : Nat} {a b : AH} {r : AL} {ops : Array Oper} (hq16 : ∀ j, (reachL ops 5 16).contains j = false → j ≠ 15)  (jx : Nat) (vx : Value) (u u' : World) (ix : Nat) (f : Nat → Value) (hR : j5R  jx u u') (hne : ix ≠ jx) (hu : j5U ix ≠ some jx) (hc : (reachL ops 5 ix).contains jx = false) (h : j5F w v N gB gI t p gr a b r ix f u) : j5F w v N gB gI t p gr a b r ix (updV f jx vx) u' := by
 match ix, hne, hu, hc, h with
 | 0, hne, hu, hc, h => exact (updV_ne f vx hne).trans h
 | 1, hne, hu, hc, h => exact (updV_ne f vx hne).trans h
 | 2, hne, hu, hc, h => exact (updV_ne f vx hne).trans h
 | 3, hne, hu, hc, h => exact (updV_ne f vx hne).trans h
 | 4, hne, hu, hc, h => exact (updV_ne f vx hne).trans h
 | 5, hne, hu, hc, h => exact (updV_ne f vx hne).trans h
 | 6, hne, hu, hc, h => exact (updV_ne f vx hne).trans h
 | 7, hne, hu, hc, h => exact (updV_ne f vx hne).trans h
 | 8, hne, hu, hc, h => exact (updV_ne f vx hne).trans h
 | 9, hne, hu, hc, h => exact (updV_ne f vx hne).trans h
 | 10, hne, hu, hc, h => exact (updV_ne f vx hne).trans h
 | 11, hne, hu, hc, h => obtain ⟨f', h1, h2, h3, h4, h5⟩ := h; exact ⟨f', (updV_ne f vx hne).trans h1, h2, h3, h4.stp (j5R_stp hR) (by decide) (by decide), h5⟩
 | 12, hne, hu, hc, h => obtain ⟨f', h1, h2, h3, h4, h5⟩ := h; exact ⟨f', (updV_ne f vx hne).trans h1, h2, h3, h4.stp (j5R_stp hR) (by decide) (by decide), h5⟩
 | 13, hne, hu, hc, h => obtain ⟨f', h1, h2, h3, h4, h5⟩ := h; exact ⟨f', (updV_ne f vx hne).trans h1, h2, h3, h4.stp (j5R_stp hR) (by decide) (by decide), h5⟩
 | 14, hne, hu, hc, h => exact (updV_ne f vx hne).trans h
 | 15, hne, hu, hc, h => obtain ⟨g, h1, h2, h3⟩ := h; have hb := j5R_bel hR (fun e => hu (by rw [e]; rfl)); exact ⟨g, (updV_ne f vx hne).trans h1, h2.below hb h2.lt, h3⟩
 | 16, hne, hu, hc, h => obtain ⟨bT, f', h1, h2, h3, h4, h5, h6, h7⟩ := h; have hb := j5R_bel hR (fun e => hne e.symm); exact ⟨bT, f', (updV_ne f vx (fun e => hq16 jx hc e.symm)).trans h1, h2.below hb h2.lt, h3, h4, h5, h6.below hb, h7⟩
 | 17, hne, hu, hc, h => exact (updV_ne f vx hne).trans h
 | ix + 18, _, _, _, _ => trivial
def j6R (j : Nat) (u u' : World) : Prop := if j = 9 then Stp1 63 u u' else Below u.heap.size u u'
theorem j6R_bel {j : Nat} {u u' : World} (h : j6R j u u') (hj : j ≠ 9) : Below u.heap.size u u' := by
 unfold j6R at h
 rwa [if_neg hj] at h
theorem j6R_of {j : Nat} {u u' : World} (h : Below u.heap.size u u') (hj : j ≠ 9) : j6R j u u' := by
 unfold j6R; rwa [if_neg hj]
theorem j6R_refl (j : Nat) (u : World) (hj : j ≠ 9) : j6R j u u := j6R_of (Below.refl _ _) hj
theorem j6R_w {u u' : World} (h : Stp1 63 u u') : j6R 9 u u' := by unfold j6R; rw [if_pos rfl]; exact h
def j6F (w0 w : World) (v N gB gI t p gr bT : Nat) (a b : AH) (r : AL) (f' : FH) (B : List ZH) (J : List AL) : Nat → (Nat → Value) → World → Prop
 | 0, f, u => f 0 = .pointer (some ⟨w.heap.size, 2, none⟩)
 | 1, f, u => f 1 = .slice (some ⟨gI, 0, none⟩) N N
 | 2, f, u => f 2 = .int .i64 (t : Int)
 | 3, f, u => f 3 = .pointer (some ⟨gI, t, none⟩)
 | 4, f, u => f 4 = .slice (some ⟨gr, 0, none⟩) r.n r.c
 | 5, f, u => f 5 = .int .i64 (p : Int)
 | 6, f, u => f 6 = .agg #[.int .i64 v, .slice f'.G.A f'.G.n f'.G.c, .int .i64 v, .slice f'.K.A f'.K.n f'.K.c, .slice f'.C f'.k f'.q]
 | 7, f, u => f 7 = .pointer (some ⟨gr, p * 6, none⟩)
 | 8, f, u => f 8 = .pointer (some ⟨gr, p * 6 + 1, none⟩)
 | 9, f, u => Ow w0 v N gB gI B ((J.set t ⟨r.A, r.n, r.c, r.l.set p (arcSet b f')⟩).map AL.v) (J.set t ⟨r.A, r.n, r.c, r.l.set p (arcSet b f')⟩) u
 | _, _, _ => True
def j6U : Nat → Option Nat
 | _ => none
theorem j6F_st {w0 w : World} {v N gB gI t p gr bT : Nat} {a b : AH} {r : AL} {f' : FH} {B : List ZH} {J : List AL} {ops : Array Oper}  (jx : Nat) (vx : Value) (u u' : World) (ix : Nat) (f : Nat → Value) (hR : j6R  jx u u') (hne : ix ≠ jx) (hu : j6U ix ≠ some jx) (hc : (reachL ops 5 ix).contains jx = false) (h : j6F w0 w v N gB gI t p gr bT a b r f' B J ix f u) : j6F w0 w v N gB gI t p gr bT a b r f' B J ix (updV f jx vx) u' := by
 match ix, hne, hu, hc, h with
 | 0, hne, hu, hc, h => exact (updV_ne f vx hne).trans h
 | 1, hne, hu, hc, h => exact (updV_ne f vx hne).trans h
 | 2, hne, hu, hc, h => exact (updV_ne f vx hne).trans h
 | 3, hne, hu, hc, h => exact (updV_ne f vx hne).trans h
 | 4, hne, hu, hc, h => exact (updV_ne f vx hne).trans h
 | 5, hne, hu, hc, h => exact (updV_ne f vx hne).trans h
 | 6, hne, hu, hc, h => exact (updV_ne f vx hne).trans h
 | 7, hne, hu, hc, h => exact (updV_ne f vx hne).trans h
 | 8, hne, hu, hc, h => exact (updV_ne f vx hne).trans h
 | 9, hne, hu, hc, h => exact (show Ow w0 v N gB gI B ((J.set t ⟨r.A, r.n, r.c, r.l.set p (arcSet b f')⟩).map AL.v) (J.set t ⟨r.A, r.n, r.c, r.l.set p (arcSet b f')⟩) u from h).below (j6R_bel hR (fun e => hne e.symm))
 | ix + 10, _, _, _, _ => trivial
set_option maxHeartbeats 12800000 in
theorem join_arc (w0 : World) (v N gB gI t : Nat) (B : List ZH) (J : List AL) (r : AL) (a : AH) (w : World) (h : Ow w0 v N gB gI B (J.map AL.v) J w) (hv : v ≤ 8) (hN : N ≤ 256) (hr : J[t]? = some r) (ha : FWt w v a.f) (hm : 0 ≤ a.m ∧ a.m < (N : Int)) :
 Calls Tryz.prog 133 #[.agg #[.int .i64 v, .slice (some ⟨gB, 0, none⟩) N N, .slice (some ⟨gI, 0, none⟩) N N], .int .i64 t, a.a] w (RetRw w0 v N gB gI t B J r (JoinP v r.l a) w) := by
 have ht : t < N := by rw [← h.jl]; exact (List.getElem?_eq_some_iff.1 hr).1
 have Ht := hid hr
 have hra := h.rt r (List.mem_of_getElem? hr)
 have hgI := hid (show gI < w.heap.size from h.fi.lt)
 have hrb := hid (show ∀ g, r.v.ownBlock = some g → g < w.heap.size from fun g e => (hra.own.lt g e).2)
 obtain ⟨p, hp⟩ := plc_ex hra.ris a.m
 have Hp := hid hp
 have Hm := hid (show (J.map AL.v)[t]? = some (.slice r.A r.n r.c) from by rw [List.getElem?_map, hr]; rfl)
 have hb1 := (Below.refl w.heap.size w).alloc (Nat.le_refl _) (.cells #[.int .i64 v, .slice (some ⟨gB, 0, none⟩) N N, .slice (some ⟨gI, 0, none⟩) N N] 67)
 have hb2 := hb1.alloc hb1.size (.cells #[.int .i64 a.m, .int .i64 a.f.G.W, .slice a.f.G.A a.f.G.n a.f.G.c, .int .i64 a.f.K.W, .slice a.f.K.A a.f.K.n a.f.K.c, .slice a.f.C a.f.k a.f.q] 63)
 have HOw2 := hid (h.below hb2)
 have HB2 := hid (show JB w v N gB gI a r #[.int .i64 v, .slice (some ⟨gB, 0, none⟩) N N, .slice (some ⟨gI, 0, none⟩) N N] ((w.alloc (.cells #[.int .i64 v, .slice (some ⟨gB, 0, none⟩) N N, .slice (some ⟨gI, 0, none⟩) N N] 67)).alloc (.cells #[.int .i64 a.m, .int .i64 a.f.G.W, .slice a.f.G.A a.f.G.n a.f.G.c, .int .i64 a.f.K.W, .slice a.f.K.A a.f.K.n a.f.K.c, .slice a.f.C a.f.k a.f.q] 63)) from by
  have f1 := Fb.new w #[.int .i64 v, .slice (some ⟨gB, 0, none⟩) N N, .slice (some ⟨gI, 0, none⟩) N N] 67
  have f2 := Fb.new (w.alloc (.cells #[.int .i64 v, .slice (some ⟨gB, 0, none⟩) N N, .slice (some ⟨gI, 0, none⟩) N N] 67)) #[.int .i64 a.m, .int .i64 a.f.G.W, .slice a.f.G.A a.f.G.n a.f.G.c, .int .i64 a.f.K.W, .slice a.f.K.A a.f.K.n a.f.K.c, .slice a.f.C a.f.k a.f.q] 63
  exact ⟨f1.below ((Below.refl _ _).alloc (Nat.le_refl _) _) f1.lt, by simpa using f2, (GrX.refl w _).below hb2, ha.below hb2⟩)
 clear h hr hra hp ha hb1 hb2
 unfold AH.a
 go_enter Tryz.func133, Tryz.ntmps133
 go_wp2_with fail
 generalize (w.alloc (.cells #[.int .i64 v, .slice (some ⟨gB, 0, none⟩) N N, .slice (some ⟨gI, 0, none⟩) N N] 67)).alloc (.cells #[.int .i64 a.m, .int .i64 a.f.G.W, .slice a.f.G.A a.f.G.n a.f.G.c, .int .i64 a.f.K.W, .slice a.f.K.A a.f.K.n a.f.K.c, .slice a.f.C a.f.k a.f.q] 63) = w2 at *
 have n0 : (0 : Int) ≤ t := by omega
 have n1 : (t : Int) < N := by omega
 have n2 : (t : Int).toNat = t := by omega
 obtain ⟨x0, x1, x2⟩ := HB2.out.ww.three
 obtain ⟨y0, y1, y2, y3, y4, y5⟩ := HB2.out.aa.six
 have m0 := HOw2.out.cellM Hm.out
 have q0 : w.heap.size < w2.heap.size := HB2.out.ww.lt
 have q1 : w.heap.size + 1 < w2.heap.size := HB2.out.aa.lt
 have q2 : gI < w2.heap.size := HOw2.out.fi.lt
 have l2 := Later.cell (show (⟨w.heap.size, 2, none⟩ : Addr).block < w2.heap.size from q0) x2
 have l3 := Later.cell (show (⟨w.heap.size + 1, 0, none⟩ : Addr).block < w2.heap.size from q1) y0
 have l4 := Later.cell (show (⟨gI, t, none⟩ : Addr).block < w2.heap.size from q2) m0
 have HC := hid (fun (p2 : Later w2) => place2_any w0.heap.size v N r a.m p p2.wd ((HOw2.out.below p2.keeps).rt r (List.mem_of_getElem? Ht.out)) hN Hp.out)
 clear x0 x1 x2 y0 y1 y2 y3 y4 y5 m0
 refine wp_region_below (by kernel_rfl) (by kernel_rfl) ?_
 repeat (go_big_quiet_step ((go_at_call 127; exact Later.call (HC.out _))))
 refine wpQuiet_nil ?_
 rintro _ ⟨pq, rfl⟩
 have HOw := hid (HOw2.out.below pq.keeps)
 have HB5 := hid (HB2.out.below pq.keeps)
 generalize pq.wd = w5 at *
 clear pq l2 l3 l4 q0 q1 q2 HC HOw2 HB2 n0 n1 n2
 generalize hf : fdA r.l p a.m = fd at *
 cases fd with
 | false =>
   have Hf := hid hf
   clear hf
   go_upto_region 3 with fail
   rename_i Kx hKx
   refine wp_region_factsI (fun j u => (j = 7 ∨ j = 11) → Ow w0 v N gB gI B (J.map AL.v) J u) (j3F w0 w v N gB gI t p a r B J) (fun u => JB w v N gB gI a r (#[.int .i64 v, .slice (some ⟨gB, 0, none⟩) N N, .slice (some ⟨gI, 0, none⟩) N N]) u) j3U (j3R r) Kx (fun _ _ h => h) 14 14 (some 24 :: some 25 :: some 26 :: some 27 :: some 28 :: some 29 :: some 30 :: some 31 :: some 32 :: some 33 :: some 34 :: some 35 :: some 36 :: none :: []) (by kernel_rfl) (by kernel_rfl) (by kernel_rfl) (by kernel_rfl) (by kernel_rfl) (by kernel_rfl) (by decide)
    (j3F_st (fun j h e => by subst e; exact Bool.false_ne_true (h.symm.trans (by kernel_rfl)))) ?bs ?gb ?gs ?ar ?en
   case bs => exact HB5.out.below (Below.refl _ _).drew
   case gb =>
    exact fun c _ => HOw.out.below (Below.refl _ _).drew
   case gs =>
    intro j u u' c hR hne hnr hG hc
    have h11 : j ≠ 11 := by
     rintro rfl
     rcases hc with rfl | rfl
     · exact Bool.false_ne_true (hnr.symm.trans (by kernel_rfl))
     · exact hne rfl
    have h13 : j ≠ 13 := by
     rintro rfl
     rcases hc with rfl | rfl
     · exact Bool.false_ne_true (hnr.symm.trans (by kernel_rfl))
     · exact Bool.false_ne_true (hnr.symm.trans (by kernel_rfl))
    exact (hG hc).below (j3R_bel hR h11 h13)
   case ar =>
    intro j o f u ho hi hB hG hpre K hK
    match j, ho, hG, hpre, hK with
    | 0, ho, hG, hpre, hK =>
      obtain rfl := Option.some.inj ho
      refine wpOp_step rfl fun K' hK' => ?_
      simp only [putL, updV]
      go_simp
      have hz := hK' _ _ (hK (.pointer (some ⟨w.heap.size, 2, none⟩)) (u) (hB) (j3R_of (Below.refl _ _) (by decide) (by decide)) (rfl))
      refine Eq.mp (congrArg (fun act => K' act (u)) ?_) hz
      kernel_rfl
    | 1, ho, hG, hpre, hK =>
      obtain rfl := Option.some.inj ho
      obtain ⟨x0, x1, x2⟩ := hB.ww.three
      have hl := hB.ww.lt
      have e0 : f 0 = .pointer (some ⟨w.heap.size, 2, none⟩) := hpre ⟨0, .data⟩ (by simp) rfl (.inl rfl)
      obtain ⟨f, rfl⟩ := fixG f 0 _ e0
      clear e0
      refine wpOp_step rfl fun K' hK' => ?_
      simp only [putL, updV]
      go_simp
      have hz := hK' _ _ (hK (.slice (some ⟨gI, 0, none⟩) N N) (u) (hB) (j3R_of (Below.refl _ _) (by decide) (by decide)) (rfl))
      refine Eq.mp (congrArg (fun act => K' act (u)) ?_) hz
      kernel_rfl
    | 2, ho, hG, hpre, hK =>
      obtain rfl := Option.some.inj ho
      refine wpOp_step rfl fun K' hK' => ?_
      simp only [putL, updV]
      go_simp
      have hz := hK' _ _ (hK (.int .i64 (t : Int)) (u) (hB) (j3R_of (Below.refl _ _) (by decide) (by decide)) (rfl))
      refine Eq.mp (congrArg (fun act => K' act (u)) ?_) hz
      kernel_rfl
    | 3, ho, hG, hpre, hK =>
      obtain rfl := Option.some.inj ho
      refine wpOp_step rfl fun K' hK' => ?_
      simp only [putL, updV]
      go_simp
      have hz := hK' _ _ (hK (.pointer (some ⟨w.heap.size, 2, none⟩)) (u) (hB) (j3R_of (Below.refl _ _) (by decide) (by decide)) (rfl))
      refine Eq.mp (congrArg (fun act => K' act (u)) ?_) hz
      kernel_rfl
    | 4, ho, hG, hpre, hK =>
      obtain rfl := Option.some.inj ho
      obtain ⟨x0, x1, x2⟩ := hB.ww.three
      have hl := hB.ww.lt
      have e3 : f 3 = .pointer (some ⟨w.heap.size, 2, none⟩) := hpre ⟨3, .data⟩ (by simp) rfl (.inl rfl)
      obtain ⟨f, rfl⟩ := fixG f 3 _ e3
      clear e3
      refine wpOp_step rfl fun K' hK' => ?_
      simp only [putL, updV]
      go_simp
      have hz := hK' _ _ (hK (.slice (some ⟨gI, 0, none⟩) N N) (u) (hB) (j3R_of (Below.refl _ _) (by decide) (by decide)) (rfl))
      refine Eq.mp (congrArg (fun act => K' act (u)) ?_) hz
      kernel_rfl
    | 5, ho, hG, hpre, hK =>
      obtain rfl := Option.some.inj ho
      refine wpOp_step rfl fun K' hK' => ?_
      simp only [putL, updV]
      go_simp
      have hz := hK' _ _ (hK (.int .i64 (t : Int)) (u) (hB) (j3R_of (Below.refl _ _) (by decide) (by decide)) (rfl))
      refine Eq.mp (congrArg (fun act => K' act (u)) ?_) hz
      kernel_rfl
    | 6, ho, hG, hpre, hK =>
      obtain rfl := Option.some.inj ho
      have k0 : (0 : Int) ≤ t := by omega
      have k1 : (t : Int) < N := by omega
      have k2 : (t : Int).toNat = t := by omega
      have e4 : f 4 = .slice (some ⟨gI, 0, none⟩) N N := hpre ⟨4, .data⟩ (by simp) rfl (.inl rfl)
      have e5 : f 5 = .int .i64 (t : Int) := hpre ⟨5, .data⟩ (by simp) rfl (.inl rfl)
      obtain ⟨f, rfl⟩ := fixG f 4 _ e4
      rw [updV_ne _ _ (by decide)] at e5
      obtain ⟨f, rfl⟩ := fixG f 5 _ e5
      clear e4 e5
      refine wpOp_step rfl fun K' hK' => ?_
      simp only [putL, updV]
      go_simp
      have hz := hK' _ _ (hK (.pointer (some ⟨gI, t, none⟩)) (u) (hB) (j3R_of (Below.refl _ _) (by decide) (by decide)) (rfl))
      refine Eq.mp (congrArg (fun act => K' act (u)) ?_) hz
      kernel_rfl
    | 7, ho, hG, hpre, hK =>
      obtain rfl := Option.some.inj ho
      have y0 := (hG (.inl rfl)).cellM Hm.out
      have hl := (hG (.inl rfl)).fi.lt
      have e6 : f 6 = .pointer (some ⟨gI, t, none⟩) := hpre ⟨6, .data⟩ (by simp) rfl (.inl rfl)
      obtain ⟨f, rfl⟩ := fixG f 6 _ e6
      clear e6
      refine wpOp_step rfl fun K' hK' => ?_
      simp only [putL, updV]
      go_simp
      have hz := hK' _ _ (hK (.slice r.A r.n r.c) (u) (hB) (j3R_of (Below.refl _ _) (by decide) (by decide)) (rfl))
      refine Eq.mp (congrArg (fun act => K' act (u)) ?_) hz
      kernel_rfl
    | 8, ho, hG, hpre, hK =>
      obtain rfl := Option.some.inj ho
      refine wpOp_step rfl fun K' hK' => ?_
      simp only [putL, updV]
      go_simp
      have hz := hK' _ _ (hK (.int .i64 (p : Int)) (u) (hB) (j3R_of (Below.refl _ _) (by decide) (by decide)) (rfl))
      refine Eq.mp (congrArg (fun act => K' act (u)) ?_) hz
      kernel_rfl
    | 9, ho, hG, hpre, hK =>
      obtain rfl := Option.some.inj ho
      obtain ⟨y0, y1, y2, y3, y4, y5⟩ := hB.aa.six
      have hl2 := hB.aa.lt
      refine wpOp_step rfl fun K' hK' => ?_
      simp only [putL, updV]
      go_simp
      have hz := hK' _ _ (hK (.agg #[.int .i64 a.m, .int .i64 a.f.G.W, .slice a.f.G.A a.f.G.n a.f.G.c, .int .i64 a.f.K.W, .slice a.f.K.A a.f.K.n a.f.K.c, .slice a.f.C a.f.k a.f.q]) (u) (hB) (j3R_of (Below.refl _ _) (by decide) (by decide)) (rfl))
      refine Eq.mp (congrArg (fun act => K' act (u)) ?_) hz
      kernel_rfl
    | 10, ho, hG, hpre, hK =>
      obtain rfl := Option.some.inj ho
      have hbl := (Below.refl u.heap.size u).alloc (Nat.le_refl _) (.cells #[.int .i64 a.m, .int .i64 a.f.G.W, .slice a.f.G.A a.f.G.n a.f.G.c, .int .i64 a.f.K.W, .slice a.f.K.A a.f.K.n a.f.K.c, .slice a.f.C a.f.k a.f.q] 63)
      have e9 : f 9 = .agg #[.int .i64 a.m, .int .i64 a.f.G.W, .slice a.f.G.A a.f.G.n a.f.G.c, .int .i64 a.f.K.W, .slice a.f.K.A a.f.K.n a.f.K.c, .slice a.f.C a.f.k a.f.q] := hpre ⟨9, .data⟩ (by simp) rfl (.inl rfl)
      obtain ⟨f, rfl⟩ := fixG f 9 _ e9
      clear e9
      refine wpOp_step rfl fun K' hK' => ?_
      simp only [putL, updV]
      go_simp
      have hz := hK' _ _ (hK (.slice (some ⟨u.heap.size, 0, none⟩) 1 1) (u.alloc (.cells #[.int .i64 a.m, .int .i64 a.f.G.W, .slice a.f.G.A a.f.G.n a.f.G.c, .int .i64 a.f.K.W, .slice a.f.K.A a.f.K.n a.f.K.c, .slice a.f.C a.f.k a.f.q] 63)) (hB.below hbl) (j3R_of hbl (by decide) (by decide)) (⟨_, rfl, Fb.new u _ _, fun e => by have := hrb.out _ e; have := hB.gx.size; omega⟩))
      refine Eq.mp (congrArg (fun act => K' act (u.alloc (.cells #[.int .i64 a.m, .int .i64 a.f.G.W, .slice a.f.G.A a.f.G.n a.f.G.c, .int .i64 a.f.K.W, .slice a.f.K.A a.f.K.n a.f.K.c, .slice a.f.C a.f.k a.f.q] 63))) ?_) hz
      kernel_rfl
    | 11, ho, hG, hpre, hK =>
      obtain rfl := Option.some.inj ho
      have e7 : f 7 = .slice r.A r.n r.c := hpre ⟨7, .data⟩ (by simp) rfl (.inl rfl)
      have e8 : f 8 = .int .i64 (p : Int) := hpre ⟨8, .data⟩ (by simp) rfl (.inl rfl)
      obtain ⟨g0, e10, hx, hne0⟩ : ∃ g0 : Nat, f 10 = .slice (some ⟨g0, 0, none⟩) 1 1 ∧ Fb u g0 a.cells.toArray 63 ∧ r.v.ownBlock ≠ some g0 := hpre ⟨10, .data⟩ (by simp) rfl (.inr rfl)
      obtain ⟨f, rfl⟩ := fixG f 7 _ e7
      rw [updV_ne _ _ (by decide)] at e8
      rw [updV_ne _ _ (by decide)] at e10
      obtain ⟨f, rfl⟩ := fixG f 8 _ e8
      rw [updV_ne _ _ (by decide)] at e10
      obtain ⟨f, rfl⟩ := fixG f 10 _ e10
      clear e7 e8 e10
      refine wpOp_step rfl fun K' hK' => ?_
      simp only [putL, updV]
      go_simp
      go_at_call 166
      have how := hG (.inr rfl)
      have hra := how.rt r (List.mem_of_getElem? Ht.out)
      refine (insertA_any hra hN (Nat.le_of_lt (Nat.lt_of_le_of_lt how.gi how.fi.lt)) Hp.out Hf.out hB.fw hm hx hne0).mono ?_
      rintro e u5 ⟨A', c', rfl, hrow, hgr, hbk⟩
      have how2 := how.row (r' := ⟨A', r.n + 1, c', r.l.insertIdx p a⟩) Ht.out hgr hrow hbk
      have hz := hK' _ _ (hK (.slice A' (r.n + 1) c') (u5) (hB.row hgr hrb.out how Ht.out) (j3R_row hgr) (⟨⟨A', r.n + 1, c', r.l.insertIdx p a⟩, rfl, how2, JoinP.ins Hp.out.le a, fun g e => by rcases hbk g e with h1 | h1; exact .inl h1; exact .inr (Nat.le_trans hB.gx.size h1)⟩))
      refine Eq.mp (congrArg (fun act => K' act (u5)) ?_) hz
      kernel_rfl
    | 12, ho, hG, hpre, hK =>
      obtain rfl := Option.some.inj ho
      have k0 : (0 : Int) ≤ t := by omega
      have k1 : (t : Int) < N := by omega
      have k2 : (t : Int).toNat = t := by omega
      have e1 : f 1 = .slice (some ⟨gI, 0, none⟩) N N := hpre ⟨1, .data⟩ (by simp) rfl (.inl rfl)
      have e2 : f 2 = .int .i64 (t : Int) := hpre ⟨2, .data⟩ (by simp) rfl (.inl rfl)
      obtain ⟨f, rfl⟩ := fixG f 1 _ e1
      rw [updV_ne _ _ (by decide)] at e2
      obtain ⟨f, rfl⟩ := fixG f 2 _ e2
      clear e1 e2
      refine wpOp_step rfl fun K' hK' => ?_
      simp only [putL, updV]
      go_simp
      have hz := hK' _ _ (hK (.pointer (some ⟨gI, t, none⟩)) (u) (hB) (j3R_of (Below.refl _ _) (by decide) (by decide)) (rfl))
      refine Eq.mp (congrArg (fun act => K' act (u)) ?_) hz
      kernel_rfl
    | 13, ho, hG, hpre, hK =>
      obtain rfl := Option.some.inj ho
      have e12 : f 12 = .pointer (some ⟨gI, t, none⟩) := hpre ⟨12, .data⟩ (by simp) rfl (.inl rfl)
      obtain ⟨r', e11, how, hj, hbk⟩ : ∃ r' : AL, f 11 = r'.v ∧ Ow w0 v N gB gI B (J.map AL.v) (J.set t r') u ∧ JoinP v r.l a r'.l ∧ ∀ g, r'.v.ownBlock = some g → r.v.ownBlock = some g ∨ w.heap.size ≤ g := hpre ⟨11, .data⟩ (by simp) rfl (.inr rfl)
      unfold AL.v at e11
      obtain ⟨f, rfl⟩ := fixG f 12 _ e12
      rw [updV_ne _ _ (by decide)] at e11
      obtain ⟨f, rfl⟩ := fixG f 11 _ e11
      clear e12 e11
      have y0 := how.cellM Hm.out
      have f0 := how.fi.frozen t
      have hl := how.fi.lt
      have how2 := how.setM ht (.slice r'.A r'.n r'.c)
      rw [show (J.map AL.v).set t (.slice r'.A r'.n r'.c) = (J.set t r').map AL.v from by rw [List.map_set]; rfl] at how2
      refine wpOp_step rfl fun K' hK' => ?_
      simp only [putL, updV]
      go_simp
      have hz := hK' _ _ (hK (undef) (u.setCell ⟨gI, t, none⟩ (.slice r'.A r'.n r'.c)) (hB.put how.fi t _) (j3R_w (stp_cell how.fi t _)) (⟨r', how2, hj, hbk⟩))
      refine Eq.mp (congrArg (fun act => K' act (u.setCell ⟨gI, t, none⟩ (.slice r'.A r'.n r'.c))) ?_) hz
      kernel_rfl
    | j + 14, ho, hG, hpre, hK => exact absurd hi (by omega)
   case en =>
    intro Q2 hQ2 f u hB hF
    obtain ⟨r', how, hj, hbk⟩ : ∃ r' : AL, Ow w0 v N gB gI B ((J.set t r').map AL.v) (J.set t r') u ∧ JoinP v r.l a r'.l ∧ ∀ g, r'.v.ownBlock = some g → r.v.ownBlock = some g ∨ w.heap.size ≤ g := hF 13 (by decide) rfl
    have HFin := hid (show RetRw w0 v N gB gI t B J r (JoinP v r.l a) w (.returned (.int .i64 0)) u from ⟨r', rfl, how, hj, hB.gx, hbk⟩)
    clear hF
    show wpAny _ _ _ _ 0 (tailArr 14 14) _ _
    refine ⟨by kernel_rfl, hQ2 _ _ (hKx _ _ ?_)⟩
    simp only [putL, updV]
    clear how hj hbk hB HOw HB5
    go_wp2_with fail
    exact bodyPost_ret (v := .int .i64 0) (by simp [results, Tryz.results133, go_sem]) rfl HFin.out
 | true =>
   obtain ⟨b, hb, hbm⟩ := fdA_yes hf
   have Hb := hid hb
   have Hbm := hid hbm
   have Hpl := hid (show p < r.n from by rw [← (HOw.out.rt r (List.mem_of_getElem? Ht.out)).len]; exact (List.getElem?_eq_some_iff.1 hb).1)
   have HFb := hid ((HOw.out.rt r (List.mem_of_getElem? Ht.out)).arcs b (List.mem_of_getElem? hb))
   obtain ⟨gr, hA, -⟩ := (HOw.out.rt r (List.mem_of_getElem? Ht.out)).at hb
   have HA := hid hA
   rw [hA] at Hm
   clear hf hb hbm hA
   go_upto_region 5 with fail
   rename_i Kx hKx
   refine wp_region_factsI (fun _ _ => True) (j5F w v N gB gI t p gr a b r) (fun u => JB w v N gB gI a r (#[.int .i64 v, .slice (some ⟨gB, 0, none⟩) N N, .slice (some ⟨gI, 0, none⟩) N N]) u ∧ FWt u v b.f ∧ Ow w0 v N gB gI B (J.map AL.v) J u) j5U (j5R ) Kx (fun _ _ h => h) 18 18 (some 38 :: some 39 :: some 40 :: some 41 :: some 42 :: some 43 :: some 44 :: some 45 :: some 46 :: some 47 :: some 48 :: some 49 :: some 37 :: some 50 :: some 51 :: some 9 :: none :: some 10 :: []) (by kernel_rfl) (by kernel_rfl) (by kernel_rfl) (by kernel_rfl) (by kernel_rfl) (by kernel_rfl) (by decide)
    (j5F_st (fun j h e => by subst e; exact Bool.false_ne_true (h.symm.trans (by kernel_rfl)))) ?bs ?gb ?gs ?ar ?en
   case bs => exact ⟨HB5.out.below (Below.refl _ _).drew, HFb.out.below (Below.refl _ _).drew, HOw.out.below (Below.refl _ _).drew⟩
   case gb =>
    exact fun c => trivial
   case gs =>
    exact fun _ _ _ _ _ _ _ _ => trivial
   case ar =>
    intro j o f u ho hi hB hG hpre K hK
    match j, ho, hG, hpre, hK with
    | 0, ho, hG, hpre, hK =>
      obtain rfl := Option.some.inj ho
      refine wpOp_step rfl fun K' hK' => ?_
      simp only [putL, updV]
      go_simp
      have hz := hK' _ _ (hK (.pointer (some ⟨w.heap.size, 2, none⟩)) (u) (hB) (j5R_refl _ _ (by decide)) (rfl))
      refine Eq.mp (congrArg (fun act => K' act (u)) ?_) hz
      kernel_rfl
    | 1, ho, hG, hpre, hK =>
      obtain rfl := Option.some.inj ho
      obtain ⟨x0, x1, x2⟩ := hB.1.ww.three
      have hl := hB.1.ww.lt
      have e0 : f 0 = .pointer (some ⟨w.heap.size, 2, none⟩) := hpre ⟨0, .data⟩ (by simp) rfl (.inl rfl)
      obtain ⟨f, rfl⟩ := fixG f 0 _ e0
      clear e0
      refine wpOp_step rfl fun K' hK' => ?_
      simp only [putL, updV]
      go_simp
      have hz := hK' _ _ (hK (.slice (some ⟨gI, 0, none⟩) N N) (u) (hB) (j5R_refl _ _ (by decide)) (rfl))
      refine Eq.mp (congrArg (fun act => K' act (u)) ?_) hz
      kernel_rfl
    | 2, ho, hG, hpre, hK =>
      obtain rfl := Option.some.inj ho
      refine wpOp_step rfl fun K' hK' => ?_
      simp only [putL, updV]
      go_simp
      have hz := hK' _ _ (hK (.int .i64 (t : Int)) (u) (hB) (j5R_refl _ _ (by decide)) (rfl))
      refine Eq.mp (congrArg (fun act => K' act (u)) ?_) hz
      kernel_rfl
    | 3, ho, hG, hpre, hK =>
      obtain rfl := Option.some.inj ho
      have k0 : (0 : Int) ≤ t := by omega
      have k1 : (t : Int) < N := by omega
      have k2 : (t : Int).toNat = t := by omega
      have e1 : f 1 = .slice (some ⟨gI, 0, none⟩) N N := hpre ⟨1, .data⟩ (by simp) rfl (.inl rfl)
      have e2 : f 2 = .int .i64 (t : Int) := hpre ⟨2, .data⟩ (by simp) rfl (.inl rfl)
      obtain ⟨f, rfl⟩ := fixG f 1 _ e1
      rw [updV_ne _ _ (by decide)] at e2
      obtain ⟨f, rfl⟩ := fixG f 2 _ e2
      clear e1 e2
      refine wpOp_step rfl fun K' hK' => ?_
      simp only [putL, updV]
      go_simp
      have hz := hK' _ _ (hK (.pointer (some ⟨gI, t, none⟩)) (u) (hB) (j5R_refl _ _ (by decide)) (rfl))
      refine Eq.mp (congrArg (fun act => K' act (u)) ?_) hz
      kernel_rfl
    | 4, ho, hG, hpre, hK =>
      obtain rfl := Option.some.inj ho
      have y0 := hB.2.2.cellM Hm.out
      have hl := hB.2.2.fi.lt
      have e3 : f 3 = .pointer (some ⟨gI, t, none⟩) := hpre ⟨3, .data⟩ (by simp) rfl (.inl rfl)
      obtain ⟨f, rfl⟩ := fixG f 3 _ e3
      clear e3
      refine wpOp_step rfl fun K' hK' => ?_
      simp only [putL, updV]
      go_simp
      have hz := hK' _ _ (hK (.slice (some ⟨gr, 0, none⟩) r.n r.c) (u) (hB) (j5R_refl _ _ (by decide)) (rfl))
      refine Eq.mp (congrArg (fun act => K' act (u)) ?_) hz
      kernel_rfl
    | 5, ho, hG, hpre, hK =>
      obtain rfl := Option.some.inj ho
      refine wpOp_step rfl fun K' hK' => ?_
      simp only [putL, updV]
      go_simp
      have hz := hK' _ _ (hK (.int .i64 (p : Int)) (u) (hB) (j5R_refl _ _ (by decide)) (rfl))
      refine Eq.mp (congrArg (fun act => K' act (u)) ?_) hz
      kernel_rfl
    | 6, ho, hG, hpre, hK =>
      obtain rfl := Option.some.inj ho
      have k0 : (0 : Int) ≤ p := by omega
      have k1 : (p : Int) < r.n := by have := Hpl.out; omega
      have k2 : (p : Int).toNat = p := by omega
      have e4 : f 4 = .slice (some ⟨gr, 0, none⟩) r.n r.c := hpre ⟨4, .data⟩ (by simp) rfl (.inl rfl)
      have e5 : f 5 = .int .i64 (p : Int) := hpre ⟨5, .data⟩ (by simp) rfl (.inl rfl)
      obtain ⟨f, rfl⟩ := fixG f 4 _ e4
      rw [updV_ne _ _ (by decide)] at e5
      obtain ⟨f, rfl⟩ := fixG f 5 _ e5
      clear e4 e5
      refine wpOp_step rfl fun K' hK' => ?_
      simp only [putL, updV]
      go_simp
      have hz := hK' _ _ (hK (.pointer (some ⟨gr, p * 6, none⟩)) (u) (hB) (j5R_refl _ _ (by decide)) (rfl))
      refine Eq.mp (congrArg (fun act => K' act (u)) ?_) hz
      kernel_rfl
    | 7, ho, hG, hpre, hK =>
      obtain rfl := Option.some.inj ho
      have e6 : f 6 = .pointer (some ⟨gr, p * 6, none⟩) := hpre ⟨6, .data⟩ (by simp) rfl (.inl rfl)
      obtain ⟨f, rfl⟩ := fixG f 6 _ e6
      clear e6
      refine wpOp_step rfl fun K' hK' => ?_
      simp only [putL, updV]
      go_simp
      have hz := hK' _ _ (hK (.pointer (some ⟨gr, p * 6 + 1, none⟩)) (u) (hB) (j5R_refl _ _ (by decide)) (rfl))
      refine Eq.mp (congrArg (fun act => K' act (u)) ?_) hz
      kernel_rfl
    | 8, ho, hG, hpre, hK =>
      obtain rfl := Option.some.inj ho
      obtain ⟨g', hA', hl, y0, y1, y2, y3, y4, y5⟩ := (hB.2.2.rt r (List.mem_of_getElem? Ht.out)).later Hb.out
      rw [HA.out] at hA'
      obtain rfl : gr = g' := by injection hA' with h1; injection h1
      clear hA'
      have e7 : f 7 = .pointer (some ⟨gr, p * 6 + 1, none⟩) := hpre ⟨7, .data⟩ (by simp) rfl (.inl rfl)
      obtain ⟨f, rfl⟩ := fixG f 7 _ e7
      clear e7
      refine wpOp_step rfl fun K' hK' => ?_
      simp only [putL, updV]
      go_simp
      have hz := hK' _ _ (hK (.agg #[.int .i64 b.f.G.W, .slice b.f.G.A b.f.G.n b.f.G.c, .int .i64 b.f.K.W, .slice b.f.K.A b.f.K.n b.f.K.c, .slice b.f.C b.f.k b.f.q]) (u) (hB) (j5R_refl _ _ (by decide)) (rfl))
      refine Eq.mp (congrArg (fun act => K' act (u)) ?_) hz
      kernel_rfl
    | 9, ho, hG, hpre, hK =>
      obtain rfl := Option.some.inj ho
      refine wpOp_step rfl fun K' hK' => ?_
      simp only [putL, updV]
      go_simp
      have hz := hK' _ _ (hK (.pointer (some ⟨w.heap.size + 1, 1, none⟩)) (u) (hB) (j5R_refl _ _ (by decide)) (rfl))
      refine Eq.mp (congrArg (fun act => K' act (u)) ?_) hz
      kernel_rfl
    | 10, ho, hG, hpre, hK =>
      obtain rfl := Option.some.inj ho
      obtain ⟨y0, y1, y2, y3, y4, y5⟩ := hB.1.aa.six
      have hl2 := hB.1.aa.lt
      have e9 : f 9 = .pointer (some ⟨w.heap.size + 1, 1, none⟩) := hpre ⟨9, .data⟩ (by simp) rfl (.inl rfl)
      obtain ⟨f, rfl⟩ := fixG f 9 _ e9
      clear e9
      refine wpOp_step rfl fun K' hK' => ?_
      simp only [putL, updV]
      go_simp
      have hz := hK' _ _ (hK (.agg #[.int .i64 a.f.G.W, .slice a.f.G.A a.f.G.n a.f.G.c, .int .i64 a.f.K.W, .slice a.f.K.A a.f.K.n a.f.K.c, .slice a.f.C a.f.k a.f.q]) (u) (hB) (j5R_refl _ _ (by decide)) (rfl))
      refine Eq.mp (congrArg (fun act => K' act (u)) ?_) hz
      kernel_rfl
    | 11, ho, hG, hpre, hK =>
      obtain rfl := Option.some.inj ho
      have e8 : f 8 = .agg #[.int .i64 b.f.G.W, .slice b.f.G.A b.f.G.n b.f.G.c, .int .i64 b.f.K.W, .slice b.f.K.A b.f.K.n b.f.K.c, .slice b.f.C b.f.k b.f.q] := hpre ⟨8, .data⟩ (by simp) rfl (.inl rfl)
      have e10 : f 10 = .agg #[.int .i64 a.f.G.W, .slice a.f.G.A a.f.G.n a.f.G.c, .int .i64 a.f.K.W, .slice a.f.K.A a.f.K.n a.f.K.c, .slice a.f.C a.f.k a.f.q] := hpre ⟨10, .data⟩ (by simp) rfl (.inl rfl)
      obtain ⟨f, rfl⟩ := fixG f 8 _ e8
      rw [updV_ne _ _ (by decide)] at e10
      obtain ⟨f, rfl⟩ := fixG f 10 _ e10
      clear e8 e10
      refine wpOp_step rfl fun K' hK' => ?_
      simp only [putL, updV]
      go_simp
      go_at_call 167
      have o1 := hB.2.1.okf
      have o2 := hB.1.fw.okf
      obtain ⟨G9, K9, C9, hj1, hj2, hj3⟩ := join_ok hv o1 o2
      have hcon := devJoinT b.f.G.W b.f.K.W b.f.G.A b.f.K.A b.f.C b.f.G.n b.f.G.c b.f.K.n b.f.K.c b.f.k b.f.q b.f.G.ws b.f.K.ws b.f.cs a.f.G.W a.f.K.W a.f.G.A a.f.K.A a.f.C a.f.G.n a.f.G.c a.f.K.n a.f.K.c a.f.k a.f.q a.f.G.ws a.f.K.ws a.f.cs u hB.2.1.t.farg hB.1.fw.t.farg
      have hj0 : joinR b.f.G.W b.f.G.ws b.f.K.W b.f.K.ws b.f.cs a.f.G.W a.f.G.ws a.f.K.W a.f.K.ws a.f.cs = ((v : Int), G9, K9, C9, 0) := by
       rw [hB.2.1.ok.w1, hB.2.1.ok.w2, hB.1.fw.ok.w1, hB.1.fw.ok.w2]; exact hj1
      rw [hj0] at hcon
      refine hcon.mono ?_
      rintro e u5 ⟨A9, n9, c9, B9, m9, d9, Cc9, q9, rfl, h1, h2, h3, hb⟩
      have hfw := FWt.ret hj2.ok h1 h2 h3 (c := c9) (d := d9) (q := q9)
      have hz := hK' _ _ (hK (.tuple #[.agg #[.int .i64 v, .slice A9 n9 c9, .int .i64 v, .slice B9 m9 d9, .slice Cc9 C9.length q9], .int .i64 0]) (u5) (⟨hB.1.below hb, hB.2.1.below hb, hB.2.2.below hb⟩) (j5R_of hb (by decide)) (⟨⟨⟨v, A9, n9, c9, G9⟩, ⟨v, B9, m9, d9, K9⟩, Cc9, C9.length, q9, C9⟩, rfl, rfl, rfl, hfw, hj3⟩))
      refine Eq.mp (congrArg (fun act => K' act (u5)) ?_) hz
      kernel_rfl
    | 12, ho, hG, hpre, hK =>
      obtain rfl := Option.some.inj ho
      obtain ⟨f', e11, hw1, hw2, hfw, hsem⟩ : ∃ f' : FH, f 11 = .tuple #[.agg #[.int .i64 v, .slice f'.G.A f'.G.n f'.G.c, .int .i64 v, .slice f'.K.A f'.K.n f'.K.c, .slice f'.C f'.k f'.q], .int .i64 0] ∧ f'.G.W = v ∧ f'.K.W = v ∧ FWt u v f' ∧ ∀ ss, f'.pf.vl v ss = orR v (b.f.pf.vl v ss) (a.f.pf.vl v ss) := hpre ⟨11, .data⟩ (by simp) rfl (.inl rfl)
      obtain ⟨f, rfl⟩ := fixG f 11 _ e11
      clear e11
      refine wpOp_step rfl fun K' hK' => ?_
      simp only [putL, updV]
      go_simp
      have hz := hK' _ _ (hK (.tuple #[.agg #[.int .i64 v, .slice f'.G.A f'.G.n f'.G.c, .int .i64 v, .slice f'.K.A f'.K.n f'.K.c, .slice f'.C f'.k f'.q], .int .i64 0]) (u) (hB) (j5R_refl _ _ (by decide)) (⟨f', rfl, hw1, hw2, hfw, hsem⟩))
      refine Eq.mp (congrArg (fun act => K' act (u)) ?_) hz
      kernel_rfl
    | 13, ho, hG, hpre, hK =>
      obtain rfl := Option.some.inj ho
      obtain ⟨f', e12, hw1, hw2, hfw, hsem⟩ : ∃ f' : FH, f 12 = .tuple #[.agg #[.int .i64 v, .slice f'.G.A f'.G.n f'.G.c, .int .i64 v, .slice f'.K.A f'.K.n f'.K.c, .slice f'.C f'.k f'.q], .int .i64 0] ∧ f'.G.W = v ∧ f'.K.W = v ∧ FWt u v f' ∧ ∀ ss, f'.pf.vl v ss = orR v (b.f.pf.vl v ss) (a.f.pf.vl v ss) := hpre ⟨12, .data⟩ (by simp) rfl (.inl rfl)
      obtain ⟨f, rfl⟩ := fixG f 12 _ e12
      clear e12
      refine wpOp_step rfl fun K' hK' => ?_
      simp only [putL, updV]
      go_simp
      have hz := hK' _ _ (hK (.agg #[.int .i64 v, .slice f'.G.A f'.G.n f'.G.c, .int .i64 v, .slice f'.K.A f'.K.n f'.K.c, .slice f'.C f'.k f'.q]) (u) (hB) (j5R_refl _ _ (by decide)) (⟨f', rfl, hw1, hw2, hfw, hsem⟩))
      refine Eq.mp (congrArg (fun act => K' act (u)) ?_) hz
      kernel_rfl
    | 14, ho, hG, hpre, hK =>
      obtain rfl := Option.some.inj ho
      obtain ⟨f', e12, hw1, hw2, hfw, hsem⟩ : ∃ f' : FH, f 12 = .tuple #[.agg #[.int .i64 v, .slice f'.G.A f'.G.n f'.G.c, .int .i64 v, .slice f'.K.A f'.K.n f'.K.c, .slice f'.C f'.k f'.q], .int .i64 0] ∧ f'.G.W = v ∧ f'.K.W = v ∧ FWt u v f' ∧ ∀ ss, f'.pf.vl v ss = orR v (b.f.pf.vl v ss) (a.f.pf.vl v ss) := hpre ⟨12, .data⟩ (by simp) rfl (.inl rfl)
      obtain ⟨f, rfl⟩ := fixG f 12 _ e12
      clear e12
      refine wpOp_step rfl fun K' hK' => ?_
      simp only [putL, updV]
      go_simp
      have hz := hK' _ _ (hK (.int .i64 0) (u) (hB) (j5R_refl _ _ (by decide)) (rfl))
      refine Eq.mp (congrArg (fun act => K' act (u)) ?_) hz
      kernel_rfl
    | 15, ho, hG, hpre, hK =>
      obtain rfl := Option.some.inj ho
      have hb := (Below.refl u.heap.size u).alloc (Nat.le_refl _) (.cells zTr 61)
      have hl := hB.1.aa.lt
      refine wpOp_step rfl fun K' hK' => ?_
      simp only [putL, updV]
      go_simp
      have hz := hK' _ _ (hK (.pointer (some ⟨u.heap.size, 0, none⟩)) (u.alloc (.cells zTr 61)) (⟨hB.1.below hb, hB.2.1.below hb, hB.2.2.below hb⟩) (j5R_of hb (by decide)) (⟨_, rfl, Fb.new u _ _, hl⟩))
      refine Eq.mp (congrArg (fun act => K' act (u.alloc (.cells zTr 61))) ?_) hz
      kernel_rfl
    | 16, ho, hG, hpre, hK =>
      obtain rfl := Option.some.inj ho
      obtain ⟨bT, e15, hz, hbt⟩ : ∃ bT : Nat, f 15 = .pointer (some ⟨bT, 0, none⟩) ∧ Fb u bT zTr 61 ∧ w.heap.size + 1 < bT := hpre ⟨15, .data⟩ (by simp) rfl (.inr rfl)
      obtain ⟨f', e13, hw1, hw2, hfw, hsem⟩ : ∃ f' : FH, f 13 = .agg #[.int .i64 v, .slice f'.G.A f'.G.n f'.G.c, .int .i64 v, .slice f'.K.A f'.K.n f'.K.c, .slice f'.C f'.k f'.q] ∧ f'.G.W = v ∧ f'.K.W = v ∧ FWt u v f' ∧ ∀ ss, f'.pf.vl v ss = orR v (b.f.pf.vl v ss) (a.f.pf.vl v ss) := hpre ⟨13, .data⟩ (by simp) rfl (.inl rfl)
      obtain ⟨z0, z1, z2, z3, z4⟩ := hz.five
      have f0 := hz.frozen 0
      have f1 := hz.frozen 1
      have f2 := hz.frozen 2
      have f3 := hz.frozen 3
      have f4 := hz.frozen 4
      have hlz := hz.lt
      have hs := five_stp hz (.int .i64 v) (.slice f'.G.A f'.G.n f'.G.c) (.int .i64 v) (.slice f'.K.A f'.K.n f'.K.c) (.slice f'.C f'.k f'.q)
      have hge : w.heap.size ≤ bT := by omega
      obtain ⟨f, rfl⟩ := fixG f 15 _ e15
      rw [updV_ne _ _ (by decide)] at e13
      obtain ⟨f, rfl⟩ := fixG f 13 _ e13
      clear e15 e13
      refine wpOp_step rfl fun K' hK' => ?_
      simp only [putL, updV]
      go_simp
      have hz := hK' _ _ (hK (undef) (stored5 u bT (.int .i64 v) (.slice f'.G.A f'.G.n f'.G.c) (.int .i64 v) (.slice f'.K.A f'.K.n f'.K.c) (.slice f'.C f'.k f'.q)) (⟨hB.1.stp5 hz hge (by omega) (by omega) _ _ _ _ _, hB.2.1.stp hs (by decide) (by decide), hB.2.2.stp hs (below_stored5 hB.2.2.bel (by have := hB.2.2.gi; have := hgI.out; omega) _ _ _ _ _) (by decide) (by decide) (by decide) (by decide) (by decide)⟩) (j5R_w hs) (⟨bT, f', rfl, five_set hz _ _ _ _ _, hbt, hw1, hw2, hfw.stp hs (by decide) (by decide), hsem⟩))
      refine Eq.mp (congrArg (fun act => K' act (stored5 u bT (.int .i64 v) (.slice f'.G.A f'.G.n f'.G.c) (.int .i64 v) (.slice f'.K.A f'.K.n f'.K.c) (.slice f'.C f'.k f'.q))) ?_) hz
      kernel_rfl
    | 17, ho, hG, hpre, hK =>
      obtain rfl := Option.some.inj ho
      have e14 : f 14 = .int .i64 0 := hpre ⟨14, .data⟩ (by simp) rfl (.inl rfl)
      obtain ⟨f, rfl⟩ := fixG f 14 _ e14
      clear e14
      refine wpOp_step rfl fun K' hK' => ?_
      simp only [putL, updV]
      go_simp
      have hz := hK' _ _ (hK (.int .i64 0) (u) (hB) (j5R_refl _ _ (by decide)) (rfl))
      refine Eq.mp (congrArg (fun act => K' act (u)) ?_) hz
      kernel_rfl
    | j + 18, ho, hG, hpre, hK => exact absurd hi (by omega)
   case en =>
    intro Q2 hQ2 f u hB hF
    obtain ⟨bT, f', e15, hbT, hbt, hw1, hw2, hfw, hsem⟩ : ∃ (bT : Nat) (f' : FH), f 15 = .pointer (some ⟨bT, 0, none⟩) ∧ Fb u bT #[.int .i64 v, .slice f'.G.A f'.G.n f'.G.c, .int .i64 v, .slice f'.K.A f'.K.n f'.K.c, .slice f'.C f'.k f'.q] 61 ∧ w.heap.size + 1 < bT ∧ f'.G.W = v ∧ f'.K.W = v ∧ FWt u v f' ∧ ∀ ss, f'.pf.vl v ss = orR v (b.f.pf.vl v ss) (a.f.pf.vl v ss) := hF 16 (by decide) rfl
    have e17 : f 17 = .int .i64 0 := hF 17 (by decide) rfl
    have HbT := hid hbT
    have Hfw := hid hfw
    have Hsem := hid hsem
    have HB6 := hid hB.1
    have HOw6 := hid hB.2.2
    obtain ⟨f, rfl⟩ := fixG f 15 _ e15
    rw [updV_ne _ _ (by decide)] at e17
    obtain ⟨f, rfl⟩ := fixG f 17 _ e17
    clear e15 e17
    clear hF
    show wpAny _ _ _ _ 0 (tailArr 18 18) _ _
    refine ⟨by kernel_rfl, hQ2 _ _ (hKx _ _ ?_)⟩
    simp only [putL, updV]
    clear hbT hfw hsem hB HB5 HFb HOw
    go_upto_region 6 with fail
    rename_i Kx hKx
    refine wp_region_factsI (fun j u => (j = 4 ∨ j = 9) → Ow w0 v N gB gI B (J.map AL.v) J u ∧ FWt u v f') (j6F w0 w v N gB gI t p gr bT a b r f' B J) (fun u => JB w v N gB gI a r (#[.int .i64 v, .slice (some ⟨gB, 0, none⟩) N N, .slice (some ⟨gI, 0, none⟩) N N]) u ∧ Fb u bT #[.int .i64 v, .slice f'.G.A f'.G.n f'.G.c, .int .i64 v, .slice f'.K.A f'.K.n f'.K.c, .slice f'.C f'.k f'.q] 61) j6U (j6R ) Kx (fun _ _ h => h) 10 10 (some 52 :: some 53 :: some 54 :: some 55 :: some 56 :: some 57 :: some 58 :: some 59 :: some 60 :: none :: []) (by kernel_rfl) (by kernel_rfl) (by kernel_rfl) (by kernel_rfl) (by kernel_rfl) (by kernel_rfl) (by decide)
     (j6F_st) ?bs ?gb ?gs ?ar ?en
    case bs => exact ⟨HB6.out.below (Below.refl _ _).drew, HbT.out.below (Below.refl _ _).drew HbT.out.lt⟩
    case gb =>
     exact fun c _ => ⟨HOw6.out.below (Below.refl _ _).drew, Hfw.out.below (Below.refl _ _).drew⟩
    case gs =>
     intro j u u' c hR hne hnr hG hc
     have h9 : j ≠ 9 := by
      rintro rfl
      rcases hc with rfl | rfl
      · exact Bool.false_ne_true (hnr.symm.trans (by kernel_rfl))
      · exact hne rfl
     obtain ⟨h1, h2⟩ := hG hc
     exact ⟨h1.below (j6R_bel hR h9), h2.below (j6R_bel hR h9)⟩
    case ar =>
     intro j o f u ho hi hB hG hpre K hK
     match j, ho, hG, hpre, hK with
     | 0, ho, hG, hpre, hK =>
       obtain rfl := Option.some.inj ho
       refine wpOp_step rfl fun K' hK' => ?_
       simp only [putL, updV]
       go_simp
       have hz := hK' _ _ (hK (.pointer (some ⟨w.heap.size, 2, none⟩)) (u) (hB) (j6R_refl _ _ (by decide)) (rfl))
       refine Eq.mp (congrArg (fun act => K' act (u)) ?_) hz
       kernel_rfl
     | 1, ho, hG, hpre, hK =>
       obtain rfl := Option.some.inj ho
       obtain ⟨x0, x1, x2⟩ := hB.1.ww.three
       have hl := hB.1.ww.lt
       have e0 : f 0 = .pointer (some ⟨w.heap.size, 2, none⟩) := hpre ⟨0, .data⟩ (by simp) rfl (.inl rfl)
       obtain ⟨f, rfl⟩ := fixG f 0 _ e0
       clear e0
       refine wpOp_step rfl fun K' hK' => ?_
       simp only [putL, updV]
       go_simp
       have hz := hK' _ _ (hK (.slice (some ⟨gI, 0, none⟩) N N) (u) (hB) (j6R_refl _ _ (by decide)) (rfl))
       refine Eq.mp (congrArg (fun act => K' act (u)) ?_) hz
       kernel_rfl
     | 2, ho, hG, hpre, hK =>
       obtain rfl := Option.some.inj ho
       refine wpOp_step rfl fun K' hK' => ?_
       simp only [putL, updV]
       go_simp
       have hz := hK' _ _ (hK (.int .i64 (t : Int)) (u) (hB) (j6R_refl _ _ (by decide)) (rfl))
       refine Eq.mp (congrArg (fun act => K' act (u)) ?_) hz
       kernel_rfl
     | 3, ho, hG, hpre, hK =>
       obtain rfl := Option.some.inj ho
       have k0 : (0 : Int) ≤ t := by omega
       have k1 : (t : Int) < N := by omega
       have k2 : (t : Int).toNat = t := by omega
       have e1 : f 1 = .slice (some ⟨gI, 0, none⟩) N N := hpre ⟨1, .data⟩ (by simp) rfl (.inl rfl)
       have e2 : f 2 = .int .i64 (t : Int) := hpre ⟨2, .data⟩ (by simp) rfl (.inl rfl)
       obtain ⟨f, rfl⟩ := fixG f 1 _ e1
       rw [updV_ne _ _ (by decide)] at e2
       obtain ⟨f, rfl⟩ := fixG f 2 _ e2
       clear e1 e2
       refine wpOp_step rfl fun K' hK' => ?_
       simp only [putL, updV]
       go_simp
       have hz := hK' _ _ (hK (.pointer (some ⟨gI, t, none⟩)) (u) (hB) (j6R_refl _ _ (by decide)) (rfl))
       refine Eq.mp (congrArg (fun act => K' act (u)) ?_) hz
       kernel_rfl
     | 4, ho, hG, hpre, hK =>
       obtain rfl := Option.some.inj ho
       have y0 := (hG (.inl rfl)).1.cellM Hm.out
       have hl := (hG (.inl rfl)).1.fi.lt
       have e3 : f 3 = .pointer (some ⟨gI, t, none⟩) := hpre ⟨3, .data⟩ (by simp) rfl (.inl rfl)
       obtain ⟨f, rfl⟩ := fixG f 3 _ e3
       clear e3
       refine wpOp_step rfl fun K' hK' => ?_
       simp only [putL, updV]
       go_simp
       have hz := hK' _ _ (hK (.slice (some ⟨gr, 0, none⟩) r.n r.c) (u) (hB) (j6R_refl _ _ (by decide)) (rfl))
       refine Eq.mp (congrArg (fun act => K' act (u)) ?_) hz
       kernel_rfl
     | 5, ho, hG, hpre, hK =>
       obtain rfl := Option.some.inj ho
       refine wpOp_step rfl fun K' hK' => ?_
       simp only [putL, updV]
       go_simp
       have hz := hK' _ _ (hK (.int .i64 (p : Int)) (u) (hB) (j6R_refl _ _ (by decide)) (rfl))
       refine Eq.mp (congrArg (fun act => K' act (u)) ?_) hz
       kernel_rfl
     | 6, ho, hG, hpre, hK =>
       obtain rfl := Option.some.inj ho
       obtain ⟨z0, z1, z2, z3, z4⟩ := hB.2.five
       have hl := hB.2.lt
       refine wpOp_step rfl fun K' hK' => ?_
       simp only [putL, updV]
       go_simp
       have hz := hK' _ _ (hK (.agg #[.int .i64 v, .slice f'.G.A f'.G.n f'.G.c, .int .i64 v, .slice f'.K.A f'.K.n f'.K.c, .slice f'.C f'.k f'.q]) (u) (hB) (j6R_refl _ _ (by decide)) (rfl))
       refine Eq.mp (congrArg (fun act => K' act (u)) ?_) hz
       kernel_rfl
     | 7, ho, hG, hpre, hK =>
       obtain rfl := Option.some.inj ho
       have k0 : (0 : Int) ≤ p := by omega
       have k1 : (p : Int) < r.n := by have := Hpl.out; omega
       have k2 : (p : Int).toNat = p := by omega
       have e4 : f 4 = .slice (some ⟨gr, 0, none⟩) r.n r.c := hpre ⟨4, .data⟩ (by simp) rfl (.inl rfl)
       have e5 : f 5 = .int .i64 (p : Int) := hpre ⟨5, .data⟩ (by simp) rfl (.inl rfl)
       obtain ⟨f, rfl⟩ := fixG f 4 _ e4
       rw [updV_ne _ _ (by decide)] at e5
       obtain ⟨f, rfl⟩ := fixG f 5 _ e5
       clear e4 e5
       refine wpOp_step rfl fun K' hK' => ?_
       simp only [putL, updV]
       go_simp
       have hz := hK' _ _ (hK (.pointer (some ⟨gr, p * 6, none⟩)) (u) (hB) (j6R_refl _ _ (by decide)) (rfl))
       refine Eq.mp (congrArg (fun act => K' act (u)) ?_) hz
       kernel_rfl
     | 8, ho, hG, hpre, hK =>
       obtain rfl := Option.some.inj ho
       have e7 : f 7 = .pointer (some ⟨gr, p * 6, none⟩) := hpre ⟨7, .data⟩ (by simp) rfl (.inl rfl)
       obtain ⟨f, rfl⟩ := fixG f 7 _ e7
       clear e7
       refine wpOp_step rfl fun K' hK' => ?_
       simp only [putL, updV]
       go_simp
       have hz := hK' _ _ (hK (.pointer (some ⟨gr, p * 6 + 1, none⟩)) (u) (hB) (j6R_refl _ _ (by decide)) (rfl))
       refine Eq.mp (congrArg (fun act => K' act (u)) ?_) hz
       kernel_rfl
     | 9, ho, hG, hpre, hK =>
       obtain rfl := Option.some.inj ho
       have how := (hG (.inr rfl)).1
       have hfw := (hG (.inr rfl)).2
       obtain ⟨g', hA', hgg, hgl, -, hcc, hff⟩ := (how.rt r (List.mem_of_getElem? Ht.out)).at Hb.out
       rw [HA.out] at hA'
       obtain rfl : gr = g' := by injection hA' with h1; injection h1
       clear hA'
       have x1 := hcc 1 (by decide)
       have x2 : u.cell? ⟨gr, p * 6 + 1 + 1, none⟩ = _ := hcc 2 (by decide)
       have x3 : u.cell? ⟨gr, p * 6 + 1 + 2, none⟩ = _ := hcc 3 (by decide)
       have x4 : u.cell? ⟨gr, p * 6 + 1 + 3, none⟩ = _ := hcc 4 (by decide)
       have x5 : u.cell? ⟨gr, p * 6 + 1 + 4, none⟩ = _ := hcc 5 (by decide)
       have f1 := hff (p * 6 + 1)
       have f2 := hff (p * 6 + 1 + 1)
       have f3 := hff (p * 6 + 1 + 2)
       have f4 := hff (p * 6 + 1 + 3)
       have f5 := hff (p * 6 + 1 + 4)
       simp only [AH.cells, List.getElem?_cons_zero, List.getElem?_cons_succ] at x1 x2 x3 x4 x5
       have how2 := how.putF Ht.out Hb.out hfw HA.out
       have hgr := putF_grown u gr (p * 6 + 1) f'
       have hs : Stp1 63 u (putF u gr (p * 6 + 1) f') := ⟨_, hgr, fun k e => by obtain rfl := Option.some.inj e; exact own_typ (how.rt r (List.mem_of_getElem? Ht.out)).own (by unfold AL.v; rw [HA.out]; rfl)⟩
       have hrow : u.grownBy (putF u gr (p * 6 + 1) f') r.v.ownBlock := by rw [show r.v.ownBlock = some gr from by unfold AL.v; rw [HA.out]; rfl]; exact hgr
       clear hcc hff
       have e8 : f 8 = .pointer (some ⟨gr, p * 6 + 1, none⟩) := hpre ⟨8, .data⟩ (by simp) rfl (.inl rfl)
       have e6 : f 6 = .agg #[.int .i64 v, .slice f'.G.A f'.G.n f'.G.c, .int .i64 v, .slice f'.K.A f'.K.n f'.K.c, .slice f'.C f'.k f'.q] := hpre ⟨6, .data⟩ (by simp) rfl (.inl rfl)
       obtain ⟨f, rfl⟩ := fixG f 8 _ e8
       rw [updV_ne _ _ (by decide)] at e6
       obtain ⟨f, rfl⟩ := fixG f 6 _ e6
       clear e8 e6
       refine wpOp_step rfl fun K' hK' => ?_
       simp only [putL, updV]
       go_simp
       have hz := hK' _ _ (hK (undef) (((((u.setCell ⟨gr, p * 6 + 1, none⟩ (.int .i64 v)).setCell ⟨gr, p * 6 + 1 + 1, none⟩ (.slice f'.G.A f'.G.n f'.G.c)).setCell ⟨gr, p * 6 + 1 + 2, none⟩ (.int .i64 v)).setCell ⟨gr, p * 6 + 1 + 3, none⟩ (.slice f'.K.A f'.K.n f'.K.c)).setCell ⟨gr, p * 6 + 1 + 4, none⟩ (.slice f'.C f'.k f'.q)) (by rw [← putF_v hw1 hw2]; exact ⟨hB.1.row hrow hrb.out how Ht.out, hs.fb hB.2 (by decide)⟩) (by rw [← putF_v hw1 hw2]; exact j6R_w hs) (by rw [← putF_v hw1 hw2]; exact how2))
       refine Eq.mp (congrArg (fun act => K' act (((((u.setCell ⟨gr, p * 6 + 1, none⟩ (.int .i64 v)).setCell ⟨gr, p * 6 + 1 + 1, none⟩ (.slice f'.G.A f'.G.n f'.G.c)).setCell ⟨gr, p * 6 + 1 + 2, none⟩ (.int .i64 v)).setCell ⟨gr, p * 6 + 1 + 3, none⟩ (.slice f'.K.A f'.K.n f'.K.c)).setCell ⟨gr, p * 6 + 1 + 4, none⟩ (.slice f'.C f'.k f'.q))) ?_) hz
       kernel_rfl
     | j + 10, ho, hG, hpre, hK => exact absurd hi (by omega)
    case en =>
     intro Q2 hQ2 f u hB hF
     have how : Ow w0 v N gB gI B ((J.set t ⟨r.A, r.n, r.c, r.l.set p (arcSet b f')⟩).map AL.v) (J.set t ⟨r.A, r.n, r.c, r.l.set p (arcSet b f')⟩) u := hF 9 (by decide) rfl
     have HFin := hid (show RetRw w0 v N gB gI t B J r (JoinP v r.l a) w (.returned (.int .i64 0)) u from ⟨_, rfl, how, JoinP.both Hb.out Hbm.out Hsem.out, hB.1.gx, fun g e => .inl e⟩)
     clear hF
     show wpAny _ _ _ _ 0 (tailArr 10 10) _ _
     refine ⟨by kernel_rfl, hQ2 _ _ (hKx _ _ ?_)⟩
     simp only [putL, updV]
     clear how hB HOw6 HB6 Hfw HbT
     go_wp2_with fail
     exact bodyPost_ret (v := .int .i64 0) (by simp [results, Tryz.results133, go_sem]) rfl HFin.out
end Go.Proofs.YtopkmeceakjocaaGreat
namespace Go.Proofs.YtopkmeceakjocaaGreat
set_option linter.unusedVariables false
structure PW.To (w q : PW) : Prop where
 v : q.v = w.v
 n : q.n = w.n
 pre : ∀ x, w.Vals x → LeV w (w.rights x) x → LeV q (q.rights x) x
 sol : ∀ x, w.Vals x → q.rights x = x → w.rights x = x
theorem PW.To.vals {w q : PW} (h : w.To q) {x : List (List Nat)} (hx : w.Vals x) : q.Vals x := ⟨by rw [h.n]; exact hx.len, by rw [h.v]; exact hx.fit⟩
theorem PW.To.back {w q : PW} (h : w.To q) {x : List (List Nat)} (hx : q.Vals x) : w.Vals x := ⟨by rw [← h.n]; exact hx.len, by rw [← h.v]; exact hx.fit⟩
theorem PW.To.refl (w : PW) : w.To w := ⟨rfl, rfl, fun _ _ h => h, fun _ _ h => h⟩
theorem PW.To.trans {w q r : PW} (h : w.To q) (h2 : q.To r) : w.To r :=
 ⟨h2.v.trans h.v, h2.n.trans h.n, fun x hx hp => h2.pre x (h.vals hx) (h.pre x hx hp), fun x hx hs => h.sol x hx (h2.sol x (h.vals hx) hs)⟩
theorem PW.To.least {w q : PW} (h : w.To q) (hw : w.In) (hq : q.In) (hwo : w.Ok) (hqo : q.Ok) {K J : Nat} (hK : w.Last K) (hJ : q.Last J) : q.round J = w.round K := by
 have vK := PW.round_vals hwo K
 have vJ := PW.round_vals hqo J
 have e1 : LeV w (w.rights (w.round K)) (w.round K) := by rw [hK.sol]; exact LeV.refl _ _
 have l1 := PW.round_least hq (h.pre _ vK e1) J
 have e2 : w.rights (q.round J) = q.round J := h.sol _ (h.back vJ) hJ.sol
 have l2 := PW.round_least hw (b := q.round J) (by rw [e2]; exact LeV.refl _ _) K
 refine LeV.antisymm (w := w) (h.back vJ) vK (fun k hk i hi => l1 k (by rw [h.n]; exact hk) i (by rw [h.v]; exact hi)) l2
theorem PW.right_same {w q : PW} {k : Nat} (hv : q.v = w.v) (h1 : at0 q.bd k = at0 w.bd k) (h2 : q.arcs.getD k [] = w.arcs.getD k []) (x : List (List Nat)) : q.right x k = w.right x k := by
 unfold PW.right; rw [hv, h1, h2]
theorem PW.To.row {w q : PW} {t : Nat} (hv : q.v = w.v) (hn : q.n = w.n) (hwo : w.Ok) (hb : ∀ k, k < w.n → k ≠ t → at0 q.bd k = at0 w.bd k ∧ q.arcs.getD k [] = w.arcs.getD k [])
 (h1 : ∀ x, w.Vals x → LeV w (w.rights x) x → ∀ i, i < w.v → Bs.bit (q.right x t) i = true → Bs.bit (at0 x t) i = true)
 (h2 : ∀ x, w.Vals x → q.rights x = x → w.right x t = at0 x t) : w.To q := by
 refine ⟨hv, hn, fun x hx hp k hk i hi hbit => ?_, fun x hx hs => ?_⟩
 · rw [PW.rights_at hk] at hbit
   rw [hn] at hk
   rw [hv] at hi
   by_cases e : k = t
   · subst e; exact h1 x hx hp i hi hbit
   · obtain ⟨e1, e2⟩ := hb k hk e
     rw [PW.right_same hv e1 e2] at hbit
     refine hp k hk i hi ?_
     rw [PW.rights_at hk]; exact hbit
 · refine vals_ext (n := w.n) (by simp [PW.rights]) hx.len fun k hk => ?_
   rw [PW.rights_at hk]
   by_cases e : k = t
   · subst e; exact h2 x hx hs
   · obtain ⟨e1, e2⟩ := hb k hk e
     rw [← PW.right_same hv e1 e2, ← PW.rights_at (by rw [hn]; exact hk), hs]
theorem PW.bit_right {w : PW} {x : List (List Nat)} {k i : Nat} (hi : i < w.v) : Bs.bit (w.right x k) i = true ↔ (Bs.bit (at0 w.bd k) i = true ∨ ∃ a ∈ w.arcs.getD k [], Bs.bit (a.2.vl w.v (at0 x a.1)) i = true) := bit_side hi _ _ _
theorem Pf.parts (f : Pf) {v i : Nat} (hi : i < v) {ss : List Nat} {P : List Nat → Prop} (h0 : ∃ p, P p) (hp : ∀ y, y < v → Bs.bit ss y = true → ∃ p, P p ∧ Bs.bit p y = true) (h : Bs.bit (f.vl v ss) i = true) : ∃ p, P p ∧ Bs.bit (f.vl v p) i = true := by
 unfold Pf.vl YtopkmeceakjocaaGreat.vl at *
 rw [bit_valR_iff hi] at h
 rcases h with h | ⟨y, hy, h1, h2⟩
 · obtain ⟨p, hP⟩ := h0
   exact ⟨p, hP, by rw [bit_valR_iff hi]; exact .inl h⟩
 · obtain ⟨p, hP, hb⟩ := hp y hy h1
   exact ⟨p, hP, by rw [bit_valR_iff hi]; exact .inr ⟨y, hy, hb, h2⟩⟩
theorem PW.To.resolve {w q : PW} {t : Nat} (ht : t < w.n) (hv : q.v = w.v) (hn : q.n = w.n) (hwo : w.Ok) (hqo : q.Ok) (hb : ∀ k, k < w.n → k ≠ t → at0 q.bd k = at0 w.bd k ∧ q.arcs.getD k [] = w.arcs.getD k [])
 {f s : Pf} {l : List (Nat × Pf)} (hl : ∀ a, a ∈ w.arcs.getD t [] ↔ (a = (t, f) ∨ a ∈ l))
 (hq : ∀ x i, i < w.v → (Bs.bit (q.right x t) i = true ↔ (Bs.bit (s.vl w.v (at0 w.bd t)) i = true ∨ ∃ a ∈ l, Bs.bit (s.vl w.v (a.2.vl w.v (at0 x a.1))) i = true)))
 (up : ∀ ss i, i < w.v → Bs.bit ss i = true → Bs.bit (s.vl w.v ss) i = true)
 (cl : ∀ ss i, i < w.v → Bs.bit (f.vl w.v (s.vl w.v ss)) i = true → Bs.bit (s.vl w.v ss) i = true)
 (le : ∀ ss ts, (∀ i, i < w.v → Bs.bit ss i = true → Bs.bit ts i = true) → (∀ i, i < w.v → Bs.bit (f.vl w.v ts) i = true → Bs.bit ts i = true) → ∀ i, i < w.v → Bs.bit (s.vl w.v ss) i = true → Bs.bit ts i = true) : w.To q := by
 have hself : (t, f) ∈ w.arcs.getD t [] := (hl _).2 (.inl rfl)
 refine PW.To.row hv hn hwo hb (fun x hx hp i hi hbit => ?_) (fun x hx hs => ?_)
 · have hR : ∀ j, j < w.v → Bs.bit (w.right x t) j = true → Bs.bit (at0 x t) j = true := fun j hj hbj => hp t ht j hj (by rw [PW.rights_at ht]; exact hbj)
   have hF : ∀ j, j < w.v → Bs.bit (f.vl w.v (at0 x t)) j = true → Bs.bit (at0 x t) j = true := fun j hj hbj => hR j hj ((PW.bit_right hj).2 (.inr ⟨_, hself, hbj⟩))
   rcases (hq x i hi).1 hbit with h | ⟨a, ha, h⟩
   · exact le _ _ (fun j hj hbj => hR j hj ((PW.bit_right hj).2 (.inl hbj))) hF i hi h
   · exact le _ _ (fun j hj hbj => hR j hj ((PW.bit_right hj).2 (.inr ⟨a, (hl a).2 (.inr ha), hbj⟩))) hF i hi h
 · have hx' : q.right x t = at0 x t := by
    have := PW.rights_at (w := q) (vals := x) (k := t) (by rw [hn]; exact ht)
    rw [← this, hs]
   have hto : ∀ i, i < w.v → Bs.bit (w.right x t) i = true → Bs.bit (at0 x t) i = true := fun i hi h => by
    rw [← hx']
    rcases (PW.bit_right hi).1 h with h1 | ⟨a, ha, h1⟩
    · exact (hq x i hi).2 (.inl (up _ i hi h1))
    · rcases (hl a).1 ha with rfl | ha
      · obtain ⟨p, hP, hbp⟩ := f.parts (P := fun p => p = s.vl w.v (at0 w.bd t) ∨ ∃ a ∈ l, p = s.vl w.v (a.2.vl w.v (at0 x a.1))) hi ⟨_, .inl rfl⟩ (fun y hy hby => by
         rw [← hx'] at hby
         rcases (hq x y hy).1 hby with h2 | ⟨a, ha, h2⟩
         · exact ⟨_, .inl rfl, h2⟩
         · exact ⟨_, .inr ⟨a, ha, rfl⟩, h2⟩) h1
        rcases hP with rfl | ⟨a, ha, rfl⟩
        · exact (hq x i hi).2 (.inl (cl _ i hi hbp))
        · exact (hq x i hi).2 (.inr ⟨a, ha, cl _ i hi hbp⟩)
      · exact (hq x i hi).2 (.inr ⟨a, ha, up _ i hi h1⟩)
   refine Bs.ext (hwo.right x ht) (hx.at ht) fun i hi => Bool.eq_iff_iff.2 ⟨hto i hi, fun h => ?_⟩
   have hF : ∀ j, j < w.v → Bs.bit (f.vl w.v (w.right x t)) j = true → Bs.bit (w.right x t) j = true := fun j hj hbj => (PW.bit_right hj).2 (.inr ⟨_, hself, f.mono hj hto hbj⟩)
   rw [← hx'] at h
   rcases (hq x i hi).1 h with h1 | ⟨a, ha, h1⟩
   · exact le _ _ (fun j hj hbj => (PW.bit_right hj).2 (.inl hbj)) hF i hi h1
   · exact le _ _ (fun j hj hbj => (PW.bit_right hj).2 (.inr ⟨a, (hl a).2 (.inr ha), hbj⟩)) hF i hi h1
theorem PW.To.remove {w q : PW} {t m : Nat} (ht : t < w.n) (hm : m < w.n) (hne : m ≠ t) (hv : q.v = w.v) (hn : q.n = w.n) (hwo : w.Ok) (hb : ∀ k, k < w.n → k ≠ t → at0 q.bd k = at0 w.bd k ∧ q.arcs.getD k [] = w.arcs.getD k [])
 {f : Pf} {l : List (Nat × Pf)} (hl : ∀ a, a ∈ w.arcs.getD t [] ↔ (a = (m, f) ∨ a ∈ l))
 (hq : ∀ x i, i < w.v → (Bs.bit (q.right x t) i = true ↔ ((Bs.bit (at0 w.bd t) i = true ∨ ∃ a ∈ l, Bs.bit (a.2.vl w.v (at0 x a.1)) i = true) ∨ Bs.bit (f.vl w.v (at0 w.bd m)) i = true ∨ ∃ a ∈ w.arcs.getD m [], Bs.bit (f.vl w.v (a.2.vl w.v (at0 x a.1))) i = true))) : w.To q := by
 have hself : (m, f) ∈ w.arcs.getD t [] := (hl _).2 (.inl rfl)
 have hdis : ∀ x i, i < w.v → (Bs.bit (f.vl w.v (w.right x m)) i = true ↔ (Bs.bit (f.vl w.v (at0 w.bd m)) i = true ∨ ∃ a ∈ w.arcs.getD m [], Bs.bit (f.vl w.v (a.2.vl w.v (at0 x a.1))) i = true)) := fun x i hi => by
  constructor
  · intro h
    obtain ⟨p, hP, hbp⟩ := f.parts (P := fun p => p = at0 w.bd m ∨ ∃ a ∈ w.arcs.getD m [], p = a.2.vl w.v (at0 x a.1)) hi ⟨_, .inl rfl⟩ (fun y hy hby => by
     rcases (PW.bit_right hy).1 hby with h2 | ⟨a, ha, h2⟩
     · exact ⟨_, .inl rfl, h2⟩
     · exact ⟨_, .inr ⟨a, ha, rfl⟩, h2⟩) h
    rcases hP with rfl | ⟨a, ha, rfl⟩
    · exact .inl hbp
    · exact .inr ⟨a, ha, hbp⟩
  · rintro (h | ⟨a, ha, h⟩)
    · exact f.mono hi (fun j hj hbj => (PW.bit_right hj).2 (.inl hbj)) h
    · exact f.mono hi (fun j hj hbj => (PW.bit_right hj).2 (.inr ⟨a, ha, hbj⟩)) h
 have hiff : ∀ x i, i < w.v → (Bs.bit (q.right x t) i = true ↔ ((Bs.bit (at0 w.bd t) i = true ∨ ∃ a ∈ l, Bs.bit (a.2.vl w.v (at0 x a.1)) i = true) ∨ Bs.bit (f.vl w.v (w.right x m)) i = true)) := fun x i hi => by
  rw [hq x i hi, hdis x i hi]
 refine PW.To.row hv hn hwo hb (fun x hx hp i hi hbit => ?_) (fun x hx hs => ?_)
 · have hR : ∀ k, k < w.n → ∀ j, j < w.v → Bs.bit (w.right x k) j = true → Bs.bit (at0 x k) j = true := fun k hk j hj hbj => hp k hk j hj (by rw [PW.rights_at hk]; exact hbj)
   refine hR t ht i hi ((PW.bit_right hi).2 ?_)
   rcases (hiff x i hi).1 hbit with (h | ⟨a, ha, h⟩) | h
   · exact .inl h
   · exact .inr ⟨a, (hl a).2 (.inr ha), h⟩
   · exact .inr ⟨_, hself, f.mono hi (fun j hj hbj => hR m hm j hj hbj) h⟩
 · have hx' : ∀ k, k < w.n → q.right x k = at0 x k := fun k hk => by
    have := PW.rights_at (w := q) (vals := x) (k := k) (by rw [hn]; exact hk)
    rw [← this, hs]
   have hxm : w.right x m = at0 x m := by
    obtain ⟨e1, e2⟩ := hb m hm hne
    rw [← PW.right_same hv e1 e2]; exact hx' m hm
   rw [← hx' t ht]
   refine Bs.ext (hwo.right x ht) (by rw [hx' t ht]; exact hx.at ht) fun i hi => Bool.eq_iff_iff.2 ?_
   rw [hiff x i hi, PW.bit_right hi, hxm]
   constructor
   · rintro (h | ⟨a, ha, h⟩)
     · exact .inl (.inl h)
     · rcases (hl a).1 ha with rfl | ha
       · exact .inr h
       · exact .inl (.inr ⟨a, ha, h⟩)
   · rintro ((h | ⟨a, ha, h⟩) | h)
     · exact .inl h
     · exact .inr ⟨a, (hl a).2 (.inr ha), h⟩
     · exact .inr ⟨_, hself, h⟩
end Go.Proofs.YtopkmeceakjocaaGreat
namespace Go.Proofs.YtopkmeceakjocaaGreat
set_option maxRecDepth 20000
set_option linter.unusedVariables false
set_option linter.unusedSimpArgs false
open Go.ChangeShapes Go.WideShapes Go.ChangeAt Go.RowKit
def RetFn (v : Nat) (F : List Nat → List Nat) (w : World) (e : Ending) (w' : World) : Prop :=
 ∃ h : FH, e = .returned (.tuple #[.agg #[.int .i64 v, .slice h.G.A h.G.n h.G.c, .int .i64 v, .slice h.K.A h.K.n h.K.c, .slice h.C h.k h.q], .int .i64 0]) ∧ h.G.W = v ∧ h.K.W = v ∧ FWt w' v h ∧ (∀ ss, h.pf.vl v ss = F ss) ∧ Below w.heap.size w w'
theorem composeF (f g : FH) (v : Nat) (w : World) (hf : FWt w v f) (hg : FWt w v g) (hv : v ≤ 8) :
 Calls Tryz.prog 131 #[f.a, g.a] w (RetFn v (fun ss => g.pf.vl v (f.pf.vl v ss)) w) := by
 obtain ⟨G9, K9, C9, hj1, hj2, hj3⟩ := comp_ok hv hf.okf hg.okf
 have hj0 : composeR f.G.W f.G.ws f.K.W f.K.ws f.cs g.G.W g.G.ws g.K.W g.K.ws g.cs = ((v : Int), G9, K9, C9, 0) := by
  rw [hf.ok.w1, hf.ok.w2, hg.ok.w1, hg.ok.w2]; exact hj1
 have hcon := devComposeT f.G.W f.K.W f.G.A f.K.A f.C f.G.n f.G.c f.K.n f.K.c f.k f.q f.G.ws f.K.ws f.cs g.G.W g.K.W g.G.A g.K.A g.C g.G.n g.G.c g.K.n g.K.c g.k g.q g.G.ws g.K.ws g.cs w hf.t.farg hg.t.farg
 rw [hj0] at hcon
 refine hcon.mono ?_
 rintro e u5 ⟨A9, n9, c9, B9, m9, d9, Cc9, q9, rfl, h1, h2, h3, hb⟩
 exact ⟨⟨⟨v, A9, n9, c9, G9⟩, ⟨v, B9, m9, d9, K9⟩, Cc9, C9.length, q9, C9⟩, rfl, rfl, rfl, FWt.ret hj2.ok h1 h2 h3, hj3, hb⟩
structure StarOf (v : Nat) (f s : Pf) : Prop where
 up : ∀ ss i, i < v → Bs.bit ss i = true → Bs.bit (s.vl v ss) i = true
 cl : ∀ ss i, i < v → Bs.bit (f.vl v (s.vl v ss)) i = true → Bs.bit (s.vl v ss) i = true
 le : ∀ ss ts, (∀ i, i < v → Bs.bit ss i = true → Bs.bit ts i = true) → (∀ i, i < v → Bs.bit (f.vl v ts) i = true → Bs.bit ts i = true) → ∀ i, i < v → Bs.bit (s.vl v ss) i = true → Bs.bit ts i = true
def RetStar (v : Nat) (f : FH) (w : World) (e : Ending) (w' : World) : Prop :=
 ∃ h : FH, e = .returned (.tuple #[.agg #[.int .i64 v, .slice h.G.A h.G.n h.G.c, .int .i64 v, .slice h.K.A h.K.n h.K.c, .slice h.C h.k h.q], .int .i64 0]) ∧ h.G.W = v ∧ h.K.W = v ∧ FWt w' v h ∧ StarOf v f.pf h.pf ∧ Below w.heap.size w w'
theorem starF (f : FH) (v : Nat) (w : World) (hf : FWt w v f) (hv : v ≤ 8) : Calls Tryz.prog 128 #[f.a] w (RetStar v f w) := by
 obtain ⟨G9, C9, hj1, hj2, -, -, hup, hcl, hle⟩ := star_ok hv hf.okf
 have hj0 : starR f.G.W f.G.ws f.K.W f.K.ws f.cs = ((v : Int), G9, G9, C9, 0) := by
  rw [hf.ok.w1, hf.ok.w2]; exact hj1
 have hcon := devStarT f.G.W f.K.W f.G.A f.K.A f.C f.G.n f.G.c f.K.n f.K.c f.k f.q f.G.ws f.K.ws f.cs w hf.t.farg
 rw [hj0] at hcon
 refine hcon.mono ?_
 rintro e u5 ⟨A9, n9, c9, B9, m9, d9, Cc9, q9, rfl, h1, h2, h3, hb⟩
 exact ⟨⟨⟨v, A9, n9, c9, G9⟩, ⟨v, B9, m9, d9, G9⟩, Cc9, C9.length, q9, C9⟩, rfl, rfl, rfl, FWt.ret hj2 h1 h2 h3, ⟨hup, hcl, hle⟩, hb⟩
def RetZs (v : Nat) (zs : List Nat) (w : World) (e : Ending) (w' : World) : Prop :=
 ∃ g : Nat, e = .returned (.tuple #[.agg #[.int .i64 v, .slice (some ⟨g, 0, none⟩) (Bs.nw v) (Bs.nw v)], .int .i64 0]) ∧ ZWt w' v ⟨v, some ⟨g, 0, none⟩, Bs.nw v, Bs.nw v, zs⟩ ∧ Below w.heap.size w w'
theorem ZWt.row {u : World} {v g : Nat} {zs : List Nat} (h : Row u g zs) (hf : Bs.Fit v zs) : ZWt u v ⟨v, some ⟨g, 0, none⟩, Bs.nw v, Bs.nw v, zs⟩ := by
 have := ArgT.row h hf.ok
 rw [hf.len] at this
 exact ⟨rfl, hf, this⟩
theorem applyF (f : FH) (z : ZH) (v : Nat) (w : World) (hf : FWt w v f) (hz : ZWt w v z) (hv : v ≤ 256) : Calls Tryz.prog 130 #[f.a, z.a] w (RetZs v (f.pf.vl v z.ws) w) := by
 have hcon := devApply_own v f.G.A f.K.A f.C z.A f.G.n f.G.c f.K.n f.K.c f.k f.q z.n z.c f.G.ws f.K.ws z.ws f.cs w hf.t.gen.arg hf.t.kill.arg hf.t.cops.arg hz.t.arg hf.ok.ok (Bs.valid_of_fit hz.fit hv)
 unfold FH.a ZH.a
 rw [hf.ok.w1, hf.ok.w2, hz.w]
 refine hcon.mono ?_
 rintro e w' ⟨g, rfl, hr, -, hb⟩
 exact ⟨g, rfl, ZWt.row hr (fit_valR _ _ _ _), hb⟩
theorem unionZ (y z : ZH) (v : Nat) (w : World) (hy : ZWt w v y) (hz : ZWt w v z) (hv : v ≤ 256) : Calls Tryz.prog 132 #[y.a, z.a] w (RetZs v (orR v y.ws z.ws) w) := by
 have hcon := devUnion_own v y.A z.A y.n y.c z.n z.c y.ws z.ws w hy.t.arg hz.t.arg hv hy.fit hz.fit
 unfold ZH.a
 rw [hy.w, hz.w]
 refine hcon.mono ?_
 rintro e w' ⟨g, rfl, hr, -, hb⟩
 exact ⟨g, rfl, ZWt.row hr (fit_orR _ _ _), hb⟩
structure TyX (w w' : World) : Prop where
 size : w.heap.size ≤ w'.heap.size
 keep : ∀ k t, Typ w k t → t ≠ 49 → t ≠ 64 → t ≠ 63 → w'.heap[k]? = w.heap[k]?
theorem TyX.trans {w w' w'' : World} (h : TyX w w') (h2 : TyX w' w'') : TyX w w'' := ⟨Nat.le_trans h.size h2.size, fun k t hk h3 h4 h5 => by
 have e := h.keep k t hk h3 h4 h5
 obtain ⟨cs, m, hc⟩ := id hk
 exact (h2.keep k t ⟨cs, m, e.trans hc⟩ h3 h4 h5).trans e⟩
theorem TyX.below {w w' : World} (h : Below w.heap.size w w') : TyX w w' := ⟨h.size, fun k t hk _ _ _ => h.block k hk.lt⟩
theorem TyX.stp {w w' : World} {t : Nat} (h : Stp1 t w w') (ht : t = 49 ∨ t = 64 ∨ t = 63) : TyX w w' := ⟨h.size, fun k t' hk h1 h2 h3 => h.block hk (by rintro rfl; rcases ht with h | h | h; exact h1 h; exact h2 h; exact h3 h) hk.lt⟩
theorem TyX.fb {w w' : World} (h : TyX w w') {g t : Nat} {cs : Array Value} (hf : Fb w g cs t) (h1 : t ≠ 49) (h2 : t ≠ 64) (h3 : t ≠ 63) : Fb w' g cs t := (h.keep g t hf.typ h1 h2 h3).trans hf
theorem TyX.fw {w w' : World} (h : TyX w w') {v : Nat} {f : FH} (hf : FWt w v f) : FWt w' v f :=
 ⟨hf.ok, hf.t.gen.keep h.size (fun k hk => h.keep k _ hk (by decide) (by decide) (by decide)), hf.t.kill.keep h.size (fun k hk => h.keep k _ hk (by decide) (by decide) (by decide)), hf.t.cops.keep h.size (fun k hk => h.keep k _ hk (by decide) (by decide) (by decide))⟩
structure EB (w : World) (v : Nat) (WEB : Array Value) (bS : Nat) (s : FH) (u : World) : Prop where
 ww : Fb u w.heap.size WEB 67
 ss : Fb u bS #[.int .i64 s.G.W, .slice s.G.A s.G.n s.G.c, .int .i64 s.K.W, .slice s.K.A s.K.n s.K.c, .slice s.C s.k s.q] 61
 fw : FWt u v s
 tx : TyX w u
section
variable {w u u' : World} {v bS t : Nat} {WEB : Array Value} {s : FH}
theorem EB.ty (h : EB w v WEB bS s u) (hx : TyX u u') : EB w v WEB bS s u' := ⟨hx.fb h.ww (by decide) (by decide) (by decide), hx.fb h.ss (by decide) (by decide) (by decide), hx.fw h.fw, h.tx.trans hx⟩
theorem EB.below (h : EB w v WEB bS s u) (hb : Below u.heap.size u u') : EB w v WEB bS s u' := h.ty (TyX.below hb)
theorem EB.stp (h : EB w v WEB bS s u) (hs : Stp1 t u u') (ht : t = 49 ∨ t = 64 ∨ t = 63) : EB w v WEB bS s u' := h.ty (TyX.stp hs ht)
end
def pwO (v : Nat) (B : List ZH) (J : List AL) : PW := ⟨v, B.map ZH.ws, J.map AL.pa⟩
theorem Ow.pok {w0 u : World} {v N gB gI : Nat} {B : List ZH} {M : List Value} {J : List AL} (h : Ow w0 v N gB gI B M J u) : (pwO v B J).Ok ∧ (pwO v B J).In ∧ (pwO v B J).n = N := by
 have hn : (pwO v B J).n = N := by show (J.map AL.pa).length = N; rw [List.length_map, h.jl]
 refine ⟨⟨by rw [hn]; show (B.map ZH.ws).length = N; rw [List.length_map, h.bl], fun s hs => ?_⟩, fun l hl a ha => ?_, hn⟩
 · obtain ⟨z, hz, rfl⟩ := List.mem_map.1 hs
   exact (h.bt z hz).fit
 · obtain ⟨r, hr, rfl⟩ := List.mem_map.1 hl
   obtain ⟨b, hb, rfl⟩ := List.mem_map.1 ha
   rw [hn]
   have := (h.rt r hr).ris.2 b.m (List.mem_map.2 ⟨b, hb, rfl⟩)
   show b.m.toNat < N
   omega
theorem pwO_row {v k : Nat} {B : List ZH} {J : List AL} {r : AL} (h : J[k]? = some r) : (pwO v B J).arcs.getD k [] = r.l.map AH.pa := by
 show (J.map AL.pa).getD k [] = _
 rw [List.getD_eq_getElem?_getD, List.getElem?_map, h]; rfl
theorem pwO_bd {v k : Nat} {B : List ZH} {J : List AL} {z : ZH} (h : B[k]? = some z) : at0 (pwO v B J).bd k = z.ws := at0_get (by show (B.map ZH.ws)[k]? = _; rw [List.getElem?_map, h]; rfl)
theorem ac_pa {v i : Nat} {x : List (List Nat)} {l : List AH} : (∃ a ∈ l.map AH.pa, Bs.bit (a.2.vl v (at0 x a.1)) i = true) ↔ ac v x l i := by
 constructor
 · rintro ⟨a, ha, h⟩
   obtain ⟨b, hb, rfl⟩ := List.mem_map.1 ha
   exact ⟨b, hb, h⟩
 · rintro ⟨b, hb, h⟩
   exact ⟨_, List.mem_map.2 ⟨b, hb, rfl⟩, h⟩
theorem pwO_right {v k i : Nat} {B : List ZH} {J : List AL} {r : AL} {z : ZH} {x : List (List Nat)} (hi : i < v) (hr : J[k]? = some r) (hz : B[k]? = some z) : Bs.bit ((pwO v B J).right x k) i = true ↔ (Bs.bit z.ws i = true ∨ ac v x r.l i) := by
 rw [PW.bit_right (w := pwO v B J) hi, pwO_row hr, pwO_bd hz, ← ac_pa]; rfl
def delA (r : AL) (p : Nat) : AL := ⟨r.A, r.n - 1, r.c, r.l.eraseIdx p⟩
theorem delA_block (r : AL) (p : Nat) : (delA r p).v.ownBlock = r.v.ownBlock := by
 show (Value.slice r.A (r.n - 1) r.c).ownBlock = (Value.slice r.A r.n r.c).ownBlock
 cases r.A <;> rfl
theorem mem_del {α : Type} {l : List α} {p : Nat} {a : α} (h : l[p]? = some a) (x : α) : x ∈ l ↔ (x = a ∨ x ∈ l.eraseIdx p) := by
 rw [List.mem_iff_getElem?, List.mem_iff_getElem?]
 constructor
 · rintro ⟨j, hj⟩
   rcases Nat.lt_trichotomy j p with e | e | e
   · exact .inr ⟨j, by rw [List.getElem?_eraseIdx, if_pos e]; exact hj⟩
   · subst e; rw [h] at hj; exact .inl (Option.some.inj hj).symm
   · refine .inr ⟨j - 1, ?_⟩
     rw [List.getElem?_eraseIdx, if_neg (by omega), show j - 1 + 1 = j by omega]; exact hj
 · rintro (rfl | ⟨j, hj⟩)
   · exact ⟨p, h⟩
   · rw [List.getElem?_eraseIdx] at hj
     split at hj
     · exact ⟨j, hj⟩
     · exact ⟨j + 1, hj⟩
theorem del_ne {N : Nat} {l : List AH} {p : Nat} {a : AH} (hr : RisP N (l.map AH.m)) (h : l[p]? = some a) : ∀ b ∈ l.eraseIdx p, b.m ≠ a.m := by
 intro b hb
 obtain ⟨j, hj⟩ := List.mem_iff_getElem?.1 hb
 rw [List.getElem?_eraseIdx] at hj
 split at hj
 · have := ris_lt hr (by assumption) hj h; omega
 · have := ris_lt hr (show p < j + 1 by omega) h hj; omega
structure Cmd (v : Nat) (s : Pf) (l0 : List AH) (j : Nat) (L : List AH) : Prop where
 len : L.length = l0.length
 at' : ∀ k a, l0[k]? = some a → ∃ b, L[k]? = some b ∧ b.m = a.m ∧ (k < j → ∀ ss, b.f.pf.vl v ss = s.vl v (a.f.pf.vl v ss)) ∧ (j ≤ k → b = a)
theorem Cmd.start (v : Nat) (s : Pf) (l0 : List AH) : Cmd v s l0 0 l0 := ⟨rfl, fun k a h => ⟨a, h, rfl, fun h => absurd h (by omega), fun _ => rfl⟩⟩
theorem Cmd.cur {v j : Nat} {s : Pf} {l0 L : List AH} (h : Cmd v s l0 j L) {a : AH} (ha : l0[j]? = some a) : L[j]? = some a := by
 obtain ⟨b, h1, -, -, h4⟩ := h.at' j a ha
 rw [← h4 (Nat.le_refl _)]; exact h1
theorem Cmd.next {v j : Nat} {s : Pf} {l0 L : List AH} (h : Cmd v s l0 j L) {a : AH} (ha : l0[j]? = some a) {f : FH} (hf : ∀ ss, f.pf.vl v ss = s.vl v (a.f.pf.vl v ss)) : Cmd v s l0 (j + 1) (L.set j (arcSet a f)) := by
 have hj := (List.getElem?_eq_some_iff.1 ha).1
 refine ⟨by rw [List.length_set]; exact h.len, fun k b hb => ?_⟩
 by_cases e : k = j
 · subst e
   rw [ha] at hb
   obtain rfl := Option.some.inj hb
   exact ⟨_, List.getElem?_set_self (by rw [h.len]; exact hj), rfl, fun _ => hf, fun h => absurd h (by omega)⟩
 · obtain ⟨c, h1, h2, h3, h4⟩ := h.at' k b hb
   exact ⟨c, by rw [List.getElem?_set_ne (fun e' => e e'.symm)]; exact h1, h2, fun hk => h3 (by omega), fun hk => h4 (by omega)⟩
theorem Cmd.ac {v : Nat} {s : Pf} {l0 L : List AH} (h : Cmd v s l0 l0.length L) (x : List (List Nat)) (i : Nat) : ac v x L i ↔ ∃ a ∈ l0, Bs.bit (s.vl v (a.f.pf.vl v (at0 x a.m.toNat))) i = true := by
 constructor
 · rintro ⟨b, hb, h1⟩
   obtain ⟨k, hk⟩ := List.mem_iff_getElem?.1 hb
   have hkl : k < l0.length := by rw [← h.len]; exact (List.getElem?_eq_some_iff.1 hk).1
   obtain ⟨c, h2, h3, h4, -⟩ := h.at' k _ (List.getElem?_eq_getElem hkl)
   rw [hk] at h2
   obtain rfl := Option.some.inj h2
   rw [h4 hkl, h3] at h1
   exact ⟨_, List.getElem_mem hkl, h1⟩
 · rintro ⟨a, ha, h1⟩
   obtain ⟨k, hk⟩ := List.mem_iff_getElem?.1 ha
   have hkl := (List.getElem?_eq_some_iff.1 hk).1
   obtain ⟨c, h2, h3, h4, -⟩ := h.at' k _ hk
   refine ⟨c, List.mem_of_getElem? h2, ?_⟩
   rw [h4 hkl, h3]; exact h1
theorem Cmd.from' {v j : Nat} {s : Pf} {l0 L : List AH} (h : Cmd v s l0 j L) : ∀ b ∈ L, ∃ a ∈ l0, b.m = a.m := by
 intro b hb
 obtain ⟨k, hk⟩ := List.mem_iff_getElem?.1 hb
 have hkl : k < l0.length := by rw [← h.len]; exact (List.getElem?_eq_some_iff.1 hk).1
 obtain ⟨c, h2, h3, -, -⟩ := h.at' k _ (List.getElem?_eq_getElem hkl)
 rw [hk] at h2
 obtain rfl := Option.some.inj h2
 exact ⟨_, List.getElem_mem hkl, h3⟩
def Fsub (J J' : List AL) : Prop := ∀ r ∈ J', ∀ a ∈ r.l, ∃ r2 ∈ J, ∃ b ∈ r2.l, a.m = b.m
theorem Fsub.refl (J : List AL) : Fsub J J := fun r hr a ha => ⟨r, hr, a, ha, rfl⟩
theorem Fsub.trans {J J' J'' : List AL} (h : Fsub J J') (h2 : Fsub J' J'') : Fsub J J'' := fun r hr a ha => by
 obtain ⟨r2, hr2, b, hb, e⟩ := h2 r hr a ha
 obtain ⟨r3, hr3, c, hc, e2⟩ := h r2 hr2 b hb
 exact ⟨r3, hr3, c, hc, e.trans e2⟩
theorem Fsub.set {J : List AL} {t : Nat} {r' : AL} (h : ∀ a ∈ r'.l, ∃ r2 ∈ J, ∃ b ∈ r2.l, a.m = b.m) : Fsub J (J.set t r') := fun r hr a ha => by
 rcases List.mem_or_eq_of_mem_set hr with hr | rfl
 · exact ⟨r, hr, a, ha, rfl⟩
 · exact h a ha
theorem pwO_other {v t : Nat} {B : List ZH} {J : List AL} {z' : ZH} {r' : AL} {k : Nat} (hk : k ≠ t) : at0 (pwO v (B.set t z') (J.set t r')).bd k = at0 (pwO v B J).bd k ∧ (pwO v (B.set t z') (J.set t r')).arcs.getD k [] = (pwO v B J).arcs.getD k [] := by
 constructor
 · show ((B.set t z').map ZH.ws).getD k [] = (B.map ZH.ws).getD k []
   rw [List.getD_eq_getElem?_getD, List.getD_eq_getElem?_getD, List.getElem?_map, List.getElem?_map, List.getElem?_set_ne (fun e => hk e.symm)]
 · show ((J.set t r').map AL.pa).getD k [] = (J.map AL.pa).getD k []
   rw [List.getD_eq_getElem?_getD, List.getD_eq_getElem?_getD, List.getElem?_map, List.getElem?_map, List.getElem?_set_ne (fun e => hk e.symm)]
theorem mem_pa {l : List AH} {l0 : List AH} {a : AH} {n : Nat} (hm : a.m = n) (h : ∀ x, x ∈ l ↔ (x = a ∨ x ∈ l0)) (y : Nat × Pf) : y ∈ l.map AH.pa ↔ (y = (n, a.f.pf) ∨ y ∈ l0.map AH.pa) := by
 have e : a.pa = (n, a.f.pf) := by unfold AH.pa; rw [hm, Int.toNat_natCast]
 constructor
 · intro hy
   obtain ⟨x, hx, rfl⟩ := List.mem_map.1 hy
   rcases (h x).1 hx with rfl | hx
   · exact .inl e
   · exact .inr (List.mem_map.2 ⟨x, hx, rfl⟩)
 · rintro (rfl | hy)
   · exact List.mem_map.2 ⟨a, (h a).2 (.inl rfl), e⟩
   · obtain ⟨x, hx, rfl⟩ := List.mem_map.1 hy
     exact List.mem_map.2 ⟨x, (h x).2 (.inr hx), rfl⟩
section
variable {w0 u u' : World} {v N gB gI n : Nat} {B : List ZH} {M M' : List Value} {J : List AL} {r r' : AL} {z z' : ZH}
theorem resolve_to (h : Ow w0 v N gB gI B M J u) (h' : Ow w0 v N gB gI (B.set n z') M' (J.set n r') u') (hr : J[n]? = some r) (hz : B[n]? = some z) {p : Nat} {a : AH} (hp : r.l[p]? = some a) (hm : a.m = n) {s : Pf} (hs : StarOf v a.f.pf s) (hz' : z'.ws = s.vl v z.ws) (hc : Cmd v s (r.l.eraseIdx p) (r.l.eraseIdx p).length r'.l) :
 (pwO v B J).To (pwO v (B.set n z') (J.set n r')) := by
 obtain ⟨o1, -, n1⟩ := h.pok
 obtain ⟨o2, -, n2⟩ := h'.pok
 have hn : n < J.length := (List.getElem?_eq_some_iff.1 hr).1
 have hnb : n < B.length := (List.getElem?_eq_some_iff.1 hz).1
 refine PW.To.resolve (w := pwO v B J) (t := n) (f := a.f.pf) (s := s) (l := (r.l.eraseIdx p).map AH.pa) (by rw [n1, ← h.jl]; exact hn) rfl (by rw [n1, n2]) o1 o2 (fun k _ hk => pwO_other hk) (fun y => ?_) (fun x i hi => ?_) hs.up hs.cl hs.le
 · rw [pwO_row hr]; exact mem_pa hm (mem_del hp) y
 · replace hi : i < v := hi
   show _ ↔ (Bs.bit (s.vl v (at0 (pwO v B J).bd n)) i = true ∨ ∃ a' ∈ (r.l.eraseIdx p).map AH.pa, Bs.bit (s.vl v (a'.2.vl v (at0 x a'.1))) i = true)
   rw [pwO_right (J := J.set n r') (B := B.set n z') (k := n) hi (List.getElem?_set_self hn) (List.getElem?_set_self hnb), hz', pwO_bd hz, hc.ac x i]
   have e : (∃ a' ∈ r.l.eraseIdx p, Bs.bit (s.vl v (a'.f.pf.vl v (at0 x a'.m.toNat))) i = true) ↔ ∃ a' ∈ (r.l.eraseIdx p).map AH.pa, Bs.bit (s.vl v (a'.2.vl v (at0 x a'.1))) i = true := by
    constructor
    · rintro ⟨b, hb, h1⟩; exact ⟨_, List.mem_map.2 ⟨b, hb, rfl⟩, h1⟩
    · rintro ⟨y, hy, h1⟩
      obtain ⟨b, hb, rfl⟩ := List.mem_map.1 hy
      exact ⟨b, hb, h1⟩
   exact or_congr Iff.rfl e
structure Jnd (v : Nat) (f : Pf) (l0 L : List AH) (k : Nat) (l' : List AH) : Prop where
 sem : ∀ x i, i < v → (ac v x l' i ↔ (ac v x l0 i ∨ ∃ (j : Nat) (b : AH), j < k ∧ L[j]? = some b ∧ Bs.bit (f.vl v (b.f.pf.vl v (at0 x b.m.toNat))) i = true))
 from' : ∀ y ∈ l', (∃ z ∈ l0, y.m = z.m) ∨ ∃ b ∈ L, y.m = b.m
theorem Jnd.start (v : Nat) (f : Pf) (l0 L : List AH) : Jnd v f l0 L 0 l0 := ⟨fun x i hi => ⟨.inl, fun h => by
 rcases h with h | ⟨j, b, h, -⟩
 · exact h
 · omega⟩, fun y hy => .inl ⟨y, hy, rfl⟩⟩
theorem Jnd.next {k : Nat} {f : Pf} {l0 L l' l'' : List AH} (h : Jnd v f l0 L k l') {b : AH} (hb : L[k]? = some b) {f' : FH} (hf : ∀ ss, f'.pf.vl v ss = f.vl v (b.f.pf.vl v ss)) (hj : JoinP v l' ⟨b.m, f'⟩ l'') : Jnd v f l0 L (k + 1) l'' := by
 refine ⟨fun x i hi => ?_, fun y hy => ?_⟩
 · rw [hj.sem x i hi, h.sem x i hi]
   show _ ∨ Bs.bit (f'.pf.vl v (at0 x b.m.toNat)) i = true ↔ _
   rw [hf]
   constructor
   · rintro ((h1 | ⟨j, c, h1, h2, h3⟩) | h1)
     · exact .inl h1
     · exact .inr ⟨j, c, by omega, h2, h3⟩
     · exact .inr ⟨k, b, by omega, hb, h1⟩
   · rintro (h1 | ⟨j, c, h1, h2, h3⟩)
     · exact .inl (.inl h1)
     · rcases Nat.lt_or_eq_of_le (Nat.le_of_lt_succ h1) with e | e
       · exact .inl (.inr ⟨j, c, e, h2, h3⟩)
       · subst e
         rw [hb] at h2
         obtain rfl := Option.some.inj h2
         exact .inr h3
 · rcases hj.from' y hy with e | ⟨c, hc, e⟩
   · exact .inr ⟨b, List.mem_of_getElem? hb, e⟩
   · rcases h.from' c hc with ⟨d, hd, e2⟩ | ⟨d, hd, e2⟩
     · exact .inl ⟨d, hd, e.trans e2⟩
     · exact .inr ⟨d, hd, e.trans e2⟩
theorem Jnd.ac {f : Pf} {l0 L l' : List AH} (h : Jnd v f l0 L L.length l') (x : List (List Nat)) {i : Nat} (hi : i < v) : ac v x l' i ↔ (YtopkmeceakjocaaGreat.ac v x l0 i ∨ ∃ b ∈ L, Bs.bit (f.vl v (b.f.pf.vl v (at0 x b.m.toNat))) i = true) := by
 rw [h.sem x i hi]
 constructor
 · rintro (h1 | ⟨j, b, -, h2, h3⟩)
   · exact .inl h1
   · exact .inr ⟨b, List.mem_of_getElem? h2, h3⟩
 · rintro (h1 | ⟨b, hb, h3⟩)
   · exact .inl h1
   · obtain ⟨j, hj⟩ := List.mem_iff_getElem?.1 hb
     exact .inr ⟨j, b, (List.getElem?_eq_some_iff.1 hj).1, hj, h3⟩
theorem remove_to {t : Nat} {rn : AL} {zn : ZH} (h : Ow w0 v N gB gI B M J u) (h' : Ow w0 v N gB gI (B.set t z') M' (J.set t r') u') (hne : n ≠ t) (hr : J[t]? = some r) (hz : B[t]? = some z) (hrn : J[n]? = some rn) (hzn : B[n]? = some zn) {p : Nat} {a : AH} (hp : r.l[p]? = some a) (hm : a.m = n) (hz' : z'.ws = orR v z.ws (a.f.pf.vl v zn.ws)) (hj : Jnd v a.f.pf (r.l.eraseIdx p) rn.l rn.l.length r'.l) :
 (pwO v B J).To (pwO v (B.set t z') (J.set t r')) := by
 obtain ⟨o1, -, n1⟩ := h.pok
 obtain ⟨o2, -, n2⟩ := h'.pok
 have htl : t < J.length := (List.getElem?_eq_some_iff.1 hr).1
 have htb : t < B.length := (List.getElem?_eq_some_iff.1 hz).1
 have hnl : n < J.length := (List.getElem?_eq_some_iff.1 hrn).1
 refine PW.To.remove (w := pwO v B J) (t := t) (m := n) (f := a.f.pf) (l := (r.l.eraseIdx p).map AH.pa) (by rw [n1, ← h.jl]; exact htl) (by rw [n1, ← h.jl]; exact hnl) hne rfl (by rw [n1, n2]) o1 (fun k _ hk => pwO_other hk) (fun y => ?_) (fun x i hi => ?_)
 · rw [pwO_row hr]; exact mem_pa hm (mem_del hp) y
 · replace hi : i < v := hi
   rw [pwO_right (J := J.set t r') (B := B.set t z') (k := t) hi (List.getElem?_set_self htl) (List.getElem?_set_self htb), hz', pwO_bd hz, pwO_bd hzn, pwO_row hrn, hj.ac x hi, bit_orR_iff hi]
   have e : (∃ a' ∈ rn.l, Bs.bit (a.f.pf.vl v (a'.f.pf.vl v (at0 x a'.m.toNat))) i = true) ↔ ∃ a' ∈ rn.l.map AH.pa, Bs.bit (a.f.pf.vl v (a'.2.vl v (at0 x a'.1))) i = true := by
    constructor
    · rintro ⟨b, hb, h1⟩; exact ⟨_, List.mem_map.2 ⟨b, hb, rfl⟩, h1⟩
    · rintro ⟨y, hy, h1⟩
      obtain ⟨b, hb, rfl⟩ := List.mem_map.1 hy
      exact ⟨b, hb, h1⟩
   have e2 : ac v x (r.l.eraseIdx p) i ↔ ∃ a' ∈ (r.l.eraseIdx p).map AH.pa, Bs.bit (a'.2.vl v (at0 x a'.1)) i = true := ac_pa.symm
   show ((Bs.bit z.ws i = true ∨ Bs.bit (a.f.pf.vl v zn.ws) i = true) ∨ ac v x (r.l.eraseIdx p) i ∨ _) ↔ ((Bs.bit z.ws i = true ∨ ∃ a' ∈ (r.l.eraseIdx p).map AH.pa, Bs.bit (a'.2.vl v (at0 x a'.1)) i = true) ∨ Bs.bit (a.f.pf.vl v zn.ws) i = true ∨ ∃ a' ∈ rn.l.map AH.pa, Bs.bit (a.f.pf.vl v (a'.2.vl v (at0 x a'.1))) i = true)
   rw [e, e2]
   constructor
   · rintro ((h1 | h1) | h1 | h1)
     · exact .inl (.inl h1)
     · exact .inr (.inl h1)
     · exact .inl (.inr h1)
     · exact .inr (.inr h1)
   · rintro ((h1 | h1) | h1 | h1)
     · exact .inl (.inl h1)
     · exact .inr (.inl h1)
     · exact .inl (.inr h1)
     · exact .inr (.inr h1)
end
def v7R (j : Nat) (u u' : World) : Prop := if j = 11 then Stp1 63 u u' else if j = 13 then Stp1 64 u u' else Below u.heap.size u u'
theorem v7R_of {j : Nat} {u u' : World} (h : Below u.heap.size u u') (h1 : j ≠ 11) (h2 : j ≠ 13) : v7R j u u' := by unfold v7R; rw [if_neg h1, if_neg h2]; exact h
theorem v7R_bel {j : Nat} {u u' : World} (h : v7R j u u') (h1 : j ≠ 11) (h2 : j ≠ 13) : Below u.heap.size u u' := by unfold v7R at h; rwa [if_neg h1, if_neg h2] at h
theorem v7R_row {u u' : World} (h : Stp1 63 u u') : v7R 11 u u' := by unfold v7R; rw [if_pos rfl]; exact h
theorem v7R_w {u u' : World} (h : Stp1 64 u u') : v7R 13 u u' := by unfold v7R; rw [if_neg (by decide), if_pos rfl]; exact h
def v7F (w0 w : World) (v N gB gI n p bS : Nat) (s : FH) (r : AL) (B : List ZH) (J : List AL) : Nat → (Nat → Value) → World → Prop
 | 0, f, u => f 0 = .pointer (some ⟨w.heap.size, 2, none⟩)
 | 1, f, u => f 1 = .slice (some ⟨gI, 0, none⟩) N N
 | 2, f, u => f 2 = .int .i64 (n : Int)
 | 3, f, u => f 3 = .pointer (some ⟨w.heap.size, 2, none⟩)
 | 4, f, u => f 4 = .slice (some ⟨gI, 0, none⟩) N N
 | 5, f, u => f 5 = .int .i64 (n : Int)
 | 6, f, u => f 6 = .pointer (some ⟨gI, n, none⟩)
 | 7, f, u => f 7 = .slice r.A r.n r.c
 | 8, f, u => f 8 = .int .i64 (p : Int)
 | 9, f, u => f 9 = .int .i64 (p : Int)
 | 10, f, u => f 10 = .int .i64 ((p : Int) + 1)
 | 11, f, u => f 11 = .slice r.A (r.n - 1) r.c ∧ Ow w0 v N gB gI B (J.map AL.v) (J.set n (delA r p)) u
 | 12, f, u => f 12 = .pointer (some ⟨gI, n, none⟩)
 | 13, f, u => Ow w0 v N gB gI B ((J.set n (delA r p)).map AL.v) (J.set n (delA r p)) u
 | _, _, _ => True
def v7U : Nat → Option Nat
 | 11 => some 13
 | _ => none
theorem v7F_st {w0 w : World} {v N gB gI n p bS : Nat} {s : FH} {r : AL} {B : List ZH} {J : List AL} {ops : Array Oper} (hq13 : ∀ j, (reachL ops 5 13).contains j = false → j ≠ 11)  (jx : Nat) (vx : Value) (u u' : World) (ix : Nat) (f : Nat → Value) (hR : v7R  jx u u') (hne : ix ≠ jx) (hu : v7U ix ≠ some jx) (hc : (reachL ops 5 ix).contains jx = false) (h : v7F w0 w v N gB gI n p bS s r B J ix f u) : v7F w0 w v N gB gI n p bS s r B J ix (updV f jx vx) u' := by
 match ix, hne, hu, hc, h with
 | 0, hne, hu, hc, h => exact (updV_ne f vx hne).trans h
 | 1, hne, hu, hc, h => exact (updV_ne f vx hne).trans h
 | 2, hne, hu, hc, h => exact (updV_ne f vx hne).trans h
 | 3, hne, hu, hc, h => exact (updV_ne f vx hne).trans h
 | 4, hne, hu, hc, h => exact (updV_ne f vx hne).trans h
 | 5, hne, hu, hc, h => exact (updV_ne f vx hne).trans h
 | 6, hne, hu, hc, h => exact (updV_ne f vx hne).trans h
 | 7, hne, hu, hc, h => exact (updV_ne f vx hne).trans h
 | 8, hne, hu, hc, h => exact (updV_ne f vx hne).trans h
 | 9, hne, hu, hc, h => exact (updV_ne f vx hne).trans h
 | 10, hne, hu, hc, h => exact (updV_ne f vx hne).trans h
 | 11, hne, hu, hc, h => obtain ⟨h1, h2⟩ := h; have h13 : jx ≠ 13 := fun e => hu (by rw [e]; rfl); exact ⟨(updV_ne f vx hne).trans h1, h2.below (v7R_bel hR (fun e => hne e.symm) h13)⟩
 | 12, hne, hu, hc, h => exact (updV_ne f vx hne).trans h
 | 13, hne, hu, hc, h => have h11 : jx ≠ 11 := hq13 jx hc; exact (show Ow w0 v N gB gI B ((J.set n (delA r p)).map AL.v) (J.set n (delA r p)) u from h).below (v7R_bel hR h11 (fun e => hne e.symm))
 | ix + 14, _, _, _, _ => trivial
def v8R (j : Nat) (u u' : World) : Prop := if j = 14 then Stp1 49 u u' else Below u.heap.size u u'
theorem v8R_stp {j : Nat} {u u' : World} (h : v8R j u u') : Stp1 49 u u' := by
 unfold v8R at h
 split at h
 · exact h
 · exact Stp1.below h
theorem v8R_bel {j : Nat} {u u' : World} (h : v8R j u u') (hj : j ≠ 14) : Below u.heap.size u u' := by
 unfold v8R at h
 rwa [if_neg hj] at h
theorem v8R_of {j : Nat} {u u' : World} (h : Below u.heap.size u u') (hj : j ≠ 14) : v8R j u u' := by
 unfold v8R; rwa [if_neg hj]
theorem v8R_refl (j : Nat) (u : World) (hj : j ≠ 14) : v8R j u u := v8R_of (Below.refl _ _) hj
theorem v8R_w {u u' : World} (h : Stp1 49 u u') : v8R 14 u u' := by unfold v8R; rw [if_pos rfl]; exact h
def v8F (w0 w : World) (v N gB gI n bS : Nat) (s : FH) (z : ZH) (B : List ZH) (J' : List AL) : Nat → (Nat → Value) → World → Prop
 | 0, f, u => f 0 = .pointer (some ⟨w.heap.size, 1, none⟩)
 | 1, f, u => f 1 = .slice (some ⟨gB, 0, none⟩) N N
 | 2, f, u => f 2 = .int .i64 (n : Int)
 | 3, f, u => f 3 = .agg #[.int .i64 s.G.W, .slice s.G.A s.G.n s.G.c, .int .i64 s.K.W, .slice s.K.A s.K.n s.K.c, .slice s.C s.k s.q]
 | 4, f, u => f 4 = .pointer (some ⟨w.heap.size, 1, none⟩)
 | 5, f, u => f 5 = .slice (some ⟨gB, 0, none⟩) N N
 | 6, f, u => f 6 = .int .i64 (n : Int)
 | 7, f, u => f 7 = .pointer (some ⟨gB, n * 2, none⟩)
 | 8, f, u => f 8 = .agg #[.int .i64 z.W, .slice z.A z.n z.c]
 | 9, f, u => ∃ g : Nat, f 9 = .tuple #[.agg #[.int .i64 v, .slice (some ⟨g, 0, none⟩) (Bs.nw v) (Bs.nw v)], .int .i64 0] ∧ ZWt u v ⟨v, some ⟨g, 0, none⟩, Bs.nw v, Bs.nw v, s.pf.vl v z.ws⟩
 | 10, f, u => ∃ g : Nat, f 10 = .tuple #[.agg #[.int .i64 v, .slice (some ⟨g, 0, none⟩) (Bs.nw v) (Bs.nw v)], .int .i64 0] ∧ ZWt u v ⟨v, some ⟨g, 0, none⟩, Bs.nw v, Bs.nw v, s.pf.vl v z.ws⟩
 | 11, f, u => ∃ g : Nat, f 11 = .agg #[.int .i64 v, .slice (some ⟨g, 0, none⟩) (Bs.nw v) (Bs.nw v)] ∧ ZWt u v ⟨v, some ⟨g, 0, none⟩, Bs.nw v, Bs.nw v, s.pf.vl v z.ws⟩
 | 12, f, u => f 12 = .int .i64 0
 | 13, f, u => f 13 = .pointer (some ⟨gB, n * 2, none⟩)
 | 14, f, u => ∃ g : Nat, Ow w0 v N gB gI (B.set n ⟨v, some ⟨g, 0, none⟩, Bs.nw v, Bs.nw v, s.pf.vl v z.ws⟩) (J'.map AL.v) J' u
 | _, _, _ => True
def v8U : Nat → Option Nat
 | _ => none
theorem v8F_st {w0 w : World} {v N gB gI n bS : Nat} {s : FH} {z : ZH} {B : List ZH} {J' : List AL} {ops : Array Oper}  (jx : Nat) (vx : Value) (u u' : World) (ix : Nat) (f : Nat → Value) (hR : v8R  jx u u') (hne : ix ≠ jx) (hu : v8U ix ≠ some jx) (hc : (reachL ops 5 ix).contains jx = false) (h : v8F w0 w v N gB gI n bS s z B J' ix f u) : v8F w0 w v N gB gI n bS s z B J' ix (updV f jx vx) u' := by
 match ix, hne, hu, hc, h with
 | 0, hne, hu, hc, h => exact (updV_ne f vx hne).trans h
 | 1, hne, hu, hc, h => exact (updV_ne f vx hne).trans h
 | 2, hne, hu, hc, h => exact (updV_ne f vx hne).trans h
 | 3, hne, hu, hc, h => exact (updV_ne f vx hne).trans h
 | 4, hne, hu, hc, h => exact (updV_ne f vx hne).trans h
 | 5, hne, hu, hc, h => exact (updV_ne f vx hne).trans h
 | 6, hne, hu, hc, h => exact (updV_ne f vx hne).trans h
 | 7, hne, hu, hc, h => exact (updV_ne f vx hne).trans h
 | 8, hne, hu, hc, h => exact (updV_ne f vx hne).trans h
 | 9, hne, hu, hc, h => obtain ⟨g, h1, h2⟩ := h; exact ⟨g, (updV_ne f vx hne).trans h1, h2.stp (v8R_stp hR) (by decide)⟩
 | 10, hne, hu, hc, h => obtain ⟨g, h1, h2⟩ := h; exact ⟨g, (updV_ne f vx hne).trans h1, h2.stp (v8R_stp hR) (by decide)⟩
 | 11, hne, hu, hc, h => obtain ⟨g, h1, h2⟩ := h; exact ⟨g, (updV_ne f vx hne).trans h1, h2.stp (v8R_stp hR) (by decide)⟩
 | 12, hne, hu, hc, h => exact (updV_ne f vx hne).trans h
 | 13, hne, hu, hc, h => exact (updV_ne f vx hne).trans h
 | 14, hne, hu, hc, h => obtain ⟨g, h1⟩ := h; exact ⟨g, h1.below (v8R_bel hR (fun e => hne e.symm))⟩
 | ix + 15, _, _, _, _ => trivial
def v12R (j : Nat) (u u' : World) : Prop := if j = 15 then Stp1 63 u u' else Below u.heap.size u u'
theorem v12R_stp {j : Nat} {u u' : World} (h : v12R j u u') : Stp1 63 u u' := by
 unfold v12R at h
 split at h
 · exact h
 · exact Stp1.below h
theorem v12R_bel {j : Nat} {u u' : World} (h : v12R j u u') (hj : j ≠ 15) : Below u.heap.size u u' := by
 unfold v12R at h
 rwa [if_neg hj] at h
theorem v12R_of {j : Nat} {u u' : World} (h : Below u.heap.size u u') (hj : j ≠ 15) : v12R j u u' := by
 unfold v12R; rwa [if_neg hj]
theorem v12R_refl (j : Nat) (u : World) (hj : j ≠ 15) : v12R j u u := v12R_of (Below.refl _ _) hj
theorem v12R_w {u u' : World} (h : Stp1 63 u u') : v12R 15 u u' := by unfold v12R; rw [if_pos rfl]; exact h
def v12F (w0 w : World) (v N gB gI n k gr bS bA : Nat) (s : FH) (b : AH) (r1 : AL) (B' : List ZH) (J1 : List AL) : Nat → (Nat → Value) → World → Prop
 | 0, f, u => f 0 = .pointer (some ⟨w.heap.size, 2, none⟩)
 | 1, f, u => f 1 = .slice (some ⟨gI, 0, none⟩) N N
 | 2, f, u => f 2 = .int .i64 (n : Int)
 | 3, f, u => f 3 = .pointer (some ⟨gI, n, none⟩)
 | 4, f, u => f 4 = .slice (some ⟨gr, 0, none⟩) r1.n r1.c
 | 5, f, u => f 5 = .int .i64 (k : Int)
 | 6, f, u => f 6 = .pointer (some ⟨bA, 1, none⟩)
 | 7, f, u => f 7 = .agg #[.int .i64 b.f.G.W, .slice b.f.G.A b.f.G.n b.f.G.c, .int .i64 b.f.K.W, .slice b.f.K.A b.f.K.n b.f.K.c, .slice b.f.C b.f.k b.f.q]
 | 8, f, u => f 8 = .agg #[.int .i64 s.G.W, .slice s.G.A s.G.n s.G.c, .int .i64 s.K.W, .slice s.K.A s.K.n s.K.c, .slice s.C s.k s.q]
 | 9, f, u => ∃ f' : FH, f 9 = .tuple #[.agg #[.int .i64 v, .slice f'.G.A f'.G.n f'.G.c, .int .i64 v, .slice f'.K.A f'.K.n f'.K.c, .slice f'.C f'.k f'.q], .int .i64 0] ∧ f'.G.W = v ∧ f'.K.W = v ∧ FWt u v f' ∧ ∀ ss, f'.pf.vl v ss = s.pf.vl v (b.f.pf.vl v ss)
 | 10, f, u => ∃ f' : FH, f 10 = .tuple #[.agg #[.int .i64 v, .slice f'.G.A f'.G.n f'.G.c, .int .i64 v, .slice f'.K.A f'.K.n f'.K.c, .slice f'.C f'.k f'.q], .int .i64 0] ∧ f'.G.W = v ∧ f'.K.W = v ∧ FWt u v f' ∧ ∀ ss, f'.pf.vl v ss = s.pf.vl v (b.f.pf.vl v ss)
 | 11, f, u => ∃ f' : FH, f 11 = .agg #[.int .i64 v, .slice f'.G.A f'.G.n f'.G.c, .int .i64 v, .slice f'.K.A f'.K.n f'.K.c, .slice f'.C f'.k f'.q] ∧ f'.G.W = v ∧ f'.K.W = v ∧ FWt u v f' ∧ ∀ ss, f'.pf.vl v ss = s.pf.vl v (b.f.pf.vl v ss)
 | 12, f, u => f 12 = .int .i64 0
 | 13, f, u => f 13 = .pointer (some ⟨gr, k * 6, none⟩)
 | 14, f, u => f 14 = .pointer (some ⟨gr, k * 6 + 1, none⟩)
 | 15, f, u => ∃ f' : FH, Ow w0 v N gB gI B' ((J1.set n ⟨r1.A, r1.n, r1.c, r1.l.set k (arcSet b f')⟩).map AL.v) (J1.set n ⟨r1.A, r1.n, r1.c, r1.l.set k (arcSet b f')⟩) u ∧ ∀ ss, f'.pf.vl v ss = s.pf.vl v (b.f.pf.vl v ss)
 | 16, f, u => f 16 = .int .i64 0
 | _, _, _ => True
def v12U : Nat → Option Nat
 | _ => none
theorem v12F_st {w0 w : World} {v N gB gI n k gr bS bA : Nat} {s : FH} {b : AH} {r1 : AL} {B' : List ZH} {J1 : List AL} {ops : Array Oper}  (jx : Nat) (vx : Value) (u u' : World) (ix : Nat) (f : Nat → Value) (hR : v12R  jx u u') (hne : ix ≠ jx) (hu : v12U ix ≠ some jx) (hc : (reachL ops 5 ix).contains jx = false) (h : v12F w0 w v N gB gI n k gr bS bA s b r1 B' J1 ix f u) : v12F w0 w v N gB gI n k gr bS bA s b r1 B' J1 ix (updV f jx vx) u' := by
 match ix, hne, hu, hc, h with
 | 0, hne, hu, hc, h => exact (updV_ne f vx hne).trans h
 | 1, hne, hu, hc, h => exact (updV_ne f vx hne).trans h
 | 2, hne, hu, hc, h => exact (updV_ne f vx hne).trans h
 | 3, hne, hu, hc, h => exact (updV_ne f vx hne).trans h
 | 4, hne, hu, hc, h => exact (updV_ne f vx hne).trans h
 | 5, hne, hu, hc, h => exact (updV_ne f vx hne).trans h
 | 6, hne, hu, hc, h => exact (updV_ne f vx hne).trans h
 | 7, hne, hu, hc, h => exact (updV_ne f vx hne).trans h
 | 8, hne, hu, hc, h => exact (updV_ne f vx hne).trans h
 | 9, hne, hu, hc, h => obtain ⟨f', h1, h2, h3, h4, h5⟩ := h; exact ⟨f', (updV_ne f vx hne).trans h1, h2, h3, h4.stp (v12R_stp hR) (by decide) (by decide), h5⟩
 | 10, hne, hu, hc, h => obtain ⟨f', h1, h2, h3, h4, h5⟩ := h; exact ⟨f', (updV_ne f vx hne).trans h1, h2, h3, h4.stp (v12R_stp hR) (by decide) (by decide), h5⟩
 | 11, hne, hu, hc, h => obtain ⟨f', h1, h2, h3, h4, h5⟩ := h; exact ⟨f', (updV_ne f vx hne).trans h1, h2, h3, h4.stp (v12R_stp hR) (by decide) (by decide), h5⟩
 | 12, hne, hu, hc, h => exact (updV_ne f vx hne).trans h
 | 13, hne, hu, hc, h => exact (updV_ne f vx hne).trans h
 | 14, hne, hu, hc, h => exact (updV_ne f vx hne).trans h
 | 15, hne, hu, hc, h => obtain ⟨f', h1, h2⟩ := h; exact ⟨f', h1.below (v12R_bel hR (fun e => hne e.symm)), h2⟩
 | 16, hne, hu, hc, h => exact (updV_ne f vx hne).trans h
 | ix + 17, _, _, _, _ => trivial
def RetRs (w0 : World) (v N gB gI n : Nat) (B : List ZH) (J : List AL) (w : World) (e : Ending) (w' : World) : Prop :=
 ∃ (B' : List ZH) (J' : List AL), e = .returned (.int .i64 0) ∧ Ow w0 v N gB gI B' (J'.map AL.v) J' w' ∧ (pwO v B J).To (pwO v B' J') ∧ Fsub J J' ∧ (∀ r, J'[n]? = some r → ∀ a ∈ r.l, a.m ≠ n) ∧ TyX w w'
structure Rsl (w0 w : World) (v N gB gI n bS : Nat) (WEB : Array Value) (s : FH) (B : List ZH) (J : List AL) (r : AL) (l0 : List AH) (k : Nat) (u : World) : Prop where
 ow : ∃ L, Cmd v s.pf l0 k L ∧ Ow w0 v N gB gI B ((J.set n ⟨r.A, r.n - 1, r.c, L⟩).map AL.v) (J.set n ⟨r.A, r.n - 1, r.c, L⟩) u
 e : EB w v WEB bS s u
set_option maxHeartbeats 12800000 in
theorem resolve_any (w0 : World) (v N gB gI n : Nat) (B : List ZH) (J : List AL) (w : World) (h : Ow w0 v N gB gI B (J.map AL.v) J w) (hv : v ≤ 8) (hN : N ≤ 256) (hnN : n < N) :
 Calls Tryz.prog 100 #[.agg #[.int .i64 v, .slice (some ⟨gB, 0, none⟩) N N, .slice (some ⟨gI, 0, none⟩) N N], .int .i64 n] w (RetRs w0 v N gB gI n B J w) := by
 obtain ⟨r, hr⟩ : ∃ r, J[n]? = some r := ⟨_, List.getElem?_eq_getElem (by rw [h.jl]; exact hnN)⟩
 obtain ⟨z, hz⟩ : ∃ z, B[n]? = some z := ⟨_, List.getElem?_eq_getElem (by rw [h.bl]; exact hnN)⟩
 have Ht := hid hr
 have Hz := hid hz
 have hra := h.rt r (List.mem_of_getElem? hr)
 have Hra := hid hra
 have Hrn := hid (show r.n ≤ 256 from Nat.le_trans hra.few hN)
 have H0 := hid h
 obtain ⟨p, hp⟩ := plc_ex hra.ris n
 have Hp := hid hp
 have Hm := hid (show (J.map AL.v)[n]? = some (.slice r.A r.n r.c) from by rw [List.getElem?_map, hr]; rfl)
 have hb1 := (Below.refl w.heap.size w).alloc (Nat.le_refl _) (.cells #[.int .i64 v, .slice (some ⟨gB, 0, none⟩) N N, .slice (some ⟨gI, 0, none⟩) N N] 67)
 have HOw1 := hid (h.below hb1)
 have HW1 := hid (Fb.new w #[.int .i64 v, .slice (some ⟨gB, 0, none⟩) N N, .slice (some ⟨gI, 0, none⟩) N N] 67)
 have HX1 := hid (TyX.below hb1)
 have HS1 := hid (show w.heap.size < (w.alloc (.cells #[.int .i64 v, .slice (some ⟨gB, 0, none⟩) N N, .slice (some ⟨gI, 0, none⟩) N N] 67)).heap.size from HW1.out.lt)
 clear h hr hz hra hp hb1
 go_enter Tryz.func100, Tryz.ntmps100
 go_upto_region 1 with fail
 generalize w.alloc (.cells #[.int .i64 v, .slice (some ⟨gB, 0, none⟩) N N, .slice (some ⟨gI, 0, none⟩) N N] 67) = w1 at *
 have n0 : (0 : Int) ≤ n := by omega
 have n1 : (n : Int) < N := by omega
 have n2 : (n : Int).toNat = n := by omega
 obtain ⟨x0, x1, x2⟩ := HW1.out.three
 have m0 := HOw1.out.cellM Hm.out
 go_wp2_with fail
 refine (place2_any w0.heap.size v N r n p w1 (HOw1.out.rt r (List.mem_of_getElem? Ht.out)) hN Hp.out).mono ?_
 rintro _ w3 ⟨rfl, hb3⟩
 have HOw3 := hid (HOw1.out.below hb3)
 have HW3 := hid (HW1.out.below hb3 HW1.out.lt)
 have HX3 := hid (HX1.out.trans (TyX.below hb3))
 have HS3 := hid (Nat.lt_of_lt_of_le HS1.out hb3.size)
 clear x0 x1 x2 m0 hb3 HOw1 HW1 HX1 HS1
 generalize hf : fdA r.l p n = fd at *
 cases fd with
 | false =>
   have HFin := hid (show RetRs w0 v N gB gI n B J w (.returned (.int .i64 0)) w3 from ⟨B, J, rfl, HOw3.out, PW.To.refl _, Fsub.refl _, fun r2 hr2 a ha => by
    rw [Ht.out] at hr2
    obtain rfl := Option.some.inj hr2
    exact fdA_no Hra.out.ris Hp.out hf a ha, HX3.out⟩)
   clear hf
   go_wp2_with fail
   exact bodyPost_ret (v := .int .i64 0) (by simp [results, Tryz.results100, go_sem]) rfl HFin.out
 | true =>
   obtain ⟨a, ha, ham⟩ := fdA_yes hf
   have Ha := hid ha
   have Ham := hid ham
   have Hpl := hid (show p < r.n from by rw [← Hra.out.len]; exact (List.getElem?_eq_some_iff.1 ha).1)
   have HFa := hid ((HOw3.out.rt r (List.mem_of_getElem? Ht.out)).arcs a (List.mem_of_getElem? ha))
   obtain ⟨gr, hA, hg1, hg2, -, hcc, -⟩ := (HOw3.out.rt r (List.mem_of_getElem? Ht.out)).at ha
   have HA := hid hA
   obtain ⟨x0, x1, x2⟩ := HW3.out.three
   have m0 := HOw3.out.cellM Hm.out
   rw [hA] at m0
   have y1 := hcc 1 (by decide)
   have y2 : w3.cell? ⟨gr, p * 6 + 1 + 1, none⟩ = _ := hcc 2 (by decide)
   have y3 : w3.cell? ⟨gr, p * 6 + 1 + 2, none⟩ = _ := hcc 3 (by decide)
   have y4 : w3.cell? ⟨gr, p * 6 + 1 + 3, none⟩ = _ := hcc 4 (by decide)
   have y5 : w3.cell? ⟨gr, p * 6 + 1 + 4, none⟩ = _ := hcc 5 (by decide)
   simp only [AH.cells, List.getElem?_cons_zero, List.getElem?_cons_succ] at y1 y2 y3 y4 y5
   have p0 : (0 : Int) ≤ p := by omega
   have p1 : (p : Int) < r.n := by have := Hpl.out; omega
   have p2 : (p : Int).toNat = p := by omega
   clear hf ha ham hA hcc
   go_wp2_with fail
   refine (starF a.f v w3 HFa.out hv).mono ?_
   rintro _ w5 ⟨s, rfl, hs1, hs2, hfw, hst, hb5⟩
   have Hst := hid hst
   have hb6 := (Below.refl w5.heap.size w5).alloc (Nat.le_refl _) (.cells #[.int .i64 v, .slice s.G.A s.G.n s.G.c, .int .i64 v, .slice s.K.A s.K.n s.K.c, .slice s.C s.k s.q] 61)
   have hb7 := below_step hb5 hb6
   have HOw := hid (HOw3.out.below hb7)
   have HE := hid (show EB w v #[.int .i64 v, .slice (some ⟨gB, 0, none⟩) N N, .slice (some ⟨gI, 0, none⟩) N N] w5.heap.size s (w5.alloc (.cells #[.int .i64 v, .slice s.G.A s.G.n s.G.c, .int .i64 v, .slice s.K.A s.K.n s.K.c, .slice s.C s.k s.q] 61)) from ⟨HW3.out.below hb7 HS3.out, by rw [hs1, hs2]; exact Fb.new _ _ _, hfw.below hb6, HX3.out.trans (TyX.below hb7)⟩)
   clear x0 x1 x2 m0 y1 y2 y3 y4 y5 hs1 hs2 hfw hst hb5 hb6 hb7 HOw3 HW3 HX3 HS3 HFa
   go_upto_region 7 with fail
   rename_i Kx hKx
   generalize w5.alloc (.cells #[.int .i64 v, .slice s.G.A s.G.n s.G.c, .int .i64 v, .slice s.K.A s.K.n s.K.c, .slice s.C s.k s.q] 61) = w7 at *
   generalize w5.heap.size = bS at *
   clear p0 p1 p2 hg1 hg2
   refine wp_region_factsI (fun j u => (j = 7 ∨ j = 11) → Ow w0 v N gB gI B (J.map AL.v) J u) (v7F w0 w v N gB gI n p bS s r B J) (fun u => EB w v #[.int .i64 v, .slice (some ⟨gB, 0, none⟩) N N, .slice (some ⟨gI, 0, none⟩) N N] bS s u) v7U (v7R ) Kx (fun _ _ h => h) 14 14 (some 39 :: some 40 :: some 41 :: some 42 :: some 43 :: some 44 :: some 45 :: some 46 :: some 47 :: some 48 :: some 49 :: some 50 :: some 51 :: none :: []) (by kernel_rfl) (by kernel_rfl) (by kernel_rfl) (by kernel_rfl) (by kernel_rfl) (by kernel_rfl) (by decide)
    (v7F_st (fun j h e => by subst e; exact Bool.false_ne_true (h.symm.trans (by kernel_rfl)))) ?bs ?gb ?gs ?ar ?en
   case bs => exact HE.out.below (Below.refl _ _).drew
   case gb =>
    exact fun c _ => HOw.out.below (Below.refl _ _).drew
   case gs =>
    intro j u u' c hR hne hnr hG hc
    have h11 : j ≠ 11 := by
     rintro rfl
     rcases hc with rfl | rfl
     · exact Bool.false_ne_true (hnr.symm.trans (by kernel_rfl))
     · exact hne rfl
    have h13 : j ≠ 13 := by
     rintro rfl
     rcases hc with rfl | rfl
     · exact Bool.false_ne_true (hnr.symm.trans (by kernel_rfl))
     · exact Bool.false_ne_true (hnr.symm.trans (by kernel_rfl))
    exact (hG hc).below (v7R_bel hR h11 h13)
   case ar =>
    intro j o f u ho hi hB hG hpre K hK
    match j, ho, hG, hpre, hK with
    | 0, ho, hG, hpre, hK =>
      obtain rfl := Option.some.inj ho
      refine wpOp_step rfl fun K' hK' => ?_
      simp only [putL, updV]
      go_simp
      have hz := hK' _ _ (hK (.pointer (some ⟨w.heap.size, 2, none⟩)) (u) (hB) (v7R_of (Below.refl _ _) (by decide) (by decide)) (rfl))
      refine Eq.mp (congrArg (fun act => K' act (u)) ?_) hz
      kernel_rfl
    | 1, ho, hG, hpre, hK =>
      obtain rfl := Option.some.inj ho
      obtain ⟨x0, x1, x2⟩ := hB.ww.three
      have hl := hB.ww.lt
      have e0 : f 0 = .pointer (some ⟨w.heap.size, 2, none⟩) := hpre ⟨0, .data⟩ (by simp) rfl (.inl rfl)
      obtain ⟨f, rfl⟩ := fixG f 0 _ e0
      clear e0
      refine wpOp_step rfl fun K' hK' => ?_
      simp only [putL, updV]
      go_simp
      have hz := hK' _ _ (hK (.slice (some ⟨gI, 0, none⟩) N N) (u) (hB) (v7R_of (Below.refl _ _) (by decide) (by decide)) (rfl))
      refine Eq.mp (congrArg (fun act => K' act (u)) ?_) hz
      kernel_rfl
    | 2, ho, hG, hpre, hK =>
      obtain rfl := Option.some.inj ho
      refine wpOp_step rfl fun K' hK' => ?_
      simp only [putL, updV]
      go_simp
      have hz := hK' _ _ (hK (.int .i64 (n : Int)) (u) (hB) (v7R_of (Below.refl _ _) (by decide) (by decide)) (rfl))
      refine Eq.mp (congrArg (fun act => K' act (u)) ?_) hz
      kernel_rfl
    | 3, ho, hG, hpre, hK =>
      obtain rfl := Option.some.inj ho
      refine wpOp_step rfl fun K' hK' => ?_
      simp only [putL, updV]
      go_simp
      have hz := hK' _ _ (hK (.pointer (some ⟨w.heap.size, 2, none⟩)) (u) (hB) (v7R_of (Below.refl _ _) (by decide) (by decide)) (rfl))
      refine Eq.mp (congrArg (fun act => K' act (u)) ?_) hz
      kernel_rfl
    | 4, ho, hG, hpre, hK =>
      obtain rfl := Option.some.inj ho
      obtain ⟨x0, x1, x2⟩ := hB.ww.three
      have hl := hB.ww.lt
      have e3 : f 3 = .pointer (some ⟨w.heap.size, 2, none⟩) := hpre ⟨3, .data⟩ (by simp) rfl (.inl rfl)
      obtain ⟨f, rfl⟩ := fixG f 3 _ e3
      clear e3
      refine wpOp_step rfl fun K' hK' => ?_
      simp only [putL, updV]
      go_simp
      have hz := hK' _ _ (hK (.slice (some ⟨gI, 0, none⟩) N N) (u) (hB) (v7R_of (Below.refl _ _) (by decide) (by decide)) (rfl))
      refine Eq.mp (congrArg (fun act => K' act (u)) ?_) hz
      kernel_rfl
    | 5, ho, hG, hpre, hK =>
      obtain rfl := Option.some.inj ho
      refine wpOp_step rfl fun K' hK' => ?_
      simp only [putL, updV]
      go_simp
      have hz := hK' _ _ (hK (.int .i64 (n : Int)) (u) (hB) (v7R_of (Below.refl _ _) (by decide) (by decide)) (rfl))
      refine Eq.mp (congrArg (fun act => K' act (u)) ?_) hz
      kernel_rfl
    | 6, ho, hG, hpre, hK =>
      obtain rfl := Option.some.inj ho
      have k0 : (0 : Int) ≤ n := by omega
      have k1 : (n : Int) < N := by omega
      have k2 : (n : Int).toNat = n := by omega
      have e4 : f 4 = .slice (some ⟨gI, 0, none⟩) N N := hpre ⟨4, .data⟩ (by simp) rfl (.inl rfl)
      have e5 : f 5 = .int .i64 (n : Int) := hpre ⟨5, .data⟩ (by simp) rfl (.inl rfl)
      obtain ⟨f, rfl⟩ := fixG f 4 _ e4
      rw [updV_ne _ _ (by decide)] at e5
      obtain ⟨f, rfl⟩ := fixG f 5 _ e5
      clear e4 e5
      refine wpOp_step rfl fun K' hK' => ?_
      simp only [putL, updV]
      go_simp
      have hz := hK' _ _ (hK (.pointer (some ⟨gI, n, none⟩)) (u) (hB) (v7R_of (Below.refl _ _) (by decide) (by decide)) (rfl))
      refine Eq.mp (congrArg (fun act => K' act (u)) ?_) hz
      kernel_rfl
    | 7, ho, hG, hpre, hK =>
      obtain rfl := Option.some.inj ho
      have y0 := (hG (.inl rfl)).cellM Hm.out
      have hl := (hG (.inl rfl)).fi.lt
      have e6 : f 6 = .pointer (some ⟨gI, n, none⟩) := hpre ⟨6, .data⟩ (by simp) rfl (.inl rfl)
      obtain ⟨f, rfl⟩ := fixG f 6 _ e6
      clear e6
      refine wpOp_step rfl fun K' hK' => ?_
      simp only [putL, updV]
      go_simp
      have hz := hK' _ _ (hK (.slice r.A r.n r.c) (u) (hB) (v7R_of (Below.refl _ _) (by decide) (by decide)) (rfl))
      refine Eq.mp (congrArg (fun act => K' act (u)) ?_) hz
      kernel_rfl
    | 8, ho, hG, hpre, hK =>
      obtain rfl := Option.some.inj ho
      refine wpOp_step rfl fun K' hK' => ?_
      simp only [putL, updV]
      go_simp
      have hz := hK' _ _ (hK (.int .i64 (p : Int)) (u) (hB) (v7R_of (Below.refl _ _) (by decide) (by decide)) (rfl))
      refine Eq.mp (congrArg (fun act => K' act (u)) ?_) hz
      kernel_rfl
    | 9, ho, hG, hpre, hK =>
      obtain rfl := Option.some.inj ho
      refine wpOp_step rfl fun K' hK' => ?_
      simp only [putL, updV]
      go_simp
      have hz := hK' _ _ (hK (.int .i64 (p : Int)) (u) (hB) (v7R_of (Below.refl _ _) (by decide) (by decide)) (rfl))
      refine Eq.mp (congrArg (fun act => K' act (u)) ?_) hz
      kernel_rfl
    | 10, ho, hG, hpre, hK =>
      obtain rfl := Option.some.inj ho
      have hw : IntKind.i64.wrap ((p : Int) + 1) = (p : Int) + 1 := IntWalk.i64_in _ (by have := Hpl.out; have := Hrn.out; omega)
      have e9 : f 9 = .int .i64 (p : Int) := hpre ⟨9, .data⟩ (by simp) rfl (.inl rfl)
      obtain ⟨f, rfl⟩ := fixG f 9 _ e9
      clear e9
      refine wpOp_step rfl fun K' hK' => ?_
      simp only [putL, updV]
      go_simp
      have hz := hK' _ _ (hK (.int .i64 ((p : Int) + 1)) (u) (hB) (v7R_of (Below.refl _ _) (by decide) (by decide)) (rfl))
      refine Eq.mp (congrArg (fun act => K' act (u)) ?_) hz
      kernel_rfl
    | 11, ho, hG, hpre, hK =>
      obtain rfl := Option.some.inj ho
      have e7 : f 7 = .slice r.A r.n r.c := hpre ⟨7, .data⟩ (by simp) rfl (.inl rfl)
      have e8 : f 8 = .int .i64 (p : Int) := hpre ⟨8, .data⟩ (by simp) rfl (.inl rfl)
      have e10 : f 10 = .int .i64 ((p : Int) + 1) := hpre ⟨10, .data⟩ (by simp) rfl (.inl rfl)
      obtain ⟨f, rfl⟩ := fixG f 7 _ e7
      rw [updV_ne _ _ (by decide)] at e8
      rw [updV_ne _ _ (by decide)] at e10
      obtain ⟨f, rfl⟩ := fixG f 8 _ e8
      rw [updV_ne _ _ (by decide)] at e10
      obtain ⟨f, rfl⟩ := fixG f 10 _ e10
      clear e7 e8 e10
      refine wpOp_step rfl fun K' hK' => ?_
      simp only [putL, updV]
      go_simp
      go_at_call 129
      have how := hG (.inr rfl)
      have hra := how.rt r (List.mem_of_getElem? Ht.out)
      refine (delete_any w0.heap.size v N r p u hra hN Hpl.out).mono ?_
      rintro e u5 ⟨rfl, hrow, hgr⟩
      have how2 := how.row (r' := delA r p) Ht.out hgr hrow (fun g e => .inl ((delA_block r p).symm.trans e))
      have hs : Stp1 63 u u5 := ⟨_, hgr, fun k e => own_typ hra.own e⟩
      have hz := hK' _ _ (hK (.slice r.A (r.n - 1) r.c) (u5) (hB.stp hs (.inr (.inr rfl))) (v7R_row hs) (⟨rfl, how2⟩))
      refine Eq.mp (congrArg (fun act => K' act (u5)) ?_) hz
      kernel_rfl
    | 12, ho, hG, hpre, hK =>
      obtain rfl := Option.some.inj ho
      have k0 : (0 : Int) ≤ n := by omega
      have k1 : (n : Int) < N := by omega
      have k2 : (n : Int).toNat = n := by omega
      have e1 : f 1 = .slice (some ⟨gI, 0, none⟩) N N := hpre ⟨1, .data⟩ (by simp) rfl (.inl rfl)
      have e2 : f 2 = .int .i64 (n : Int) := hpre ⟨2, .data⟩ (by simp) rfl (.inl rfl)
      obtain ⟨f, rfl⟩ := fixG f 1 _ e1
      rw [updV_ne _ _ (by decide)] at e2
      obtain ⟨f, rfl⟩ := fixG f 2 _ e2
      clear e1 e2
      refine wpOp_step rfl fun K' hK' => ?_
      simp only [putL, updV]
      go_simp
      have hz := hK' _ _ (hK (.pointer (some ⟨gI, n, none⟩)) (u) (hB) (v7R_of (Below.refl _ _) (by decide) (by decide)) (rfl))
      refine Eq.mp (congrArg (fun act => K' act (u)) ?_) hz
      kernel_rfl
    | 13, ho, hG, hpre, hK =>
      obtain rfl := Option.some.inj ho
      have e12 : f 12 = .pointer (some ⟨gI, n, none⟩) := hpre ⟨12, .data⟩ (by simp) rfl (.inl rfl)
      obtain ⟨e11, how⟩ : f 11 = .slice r.A (r.n - 1) r.c ∧ Ow w0 v N gB gI B (J.map AL.v) (J.set n (delA r p)) u := hpre ⟨11, .data⟩ (by simp) rfl (.inr rfl)
      obtain ⟨f, rfl⟩ := fixG f 12 _ e12
      rw [updV_ne _ _ (by decide)] at e11
      obtain ⟨f, rfl⟩ := fixG f 11 _ e11
      clear e12 e11
      have y0 := how.cellM Hm.out
      have f0 := how.fi.frozen n
      have hl := how.fi.lt
      have hs := stp_cell how.fi n (.slice r.A (r.n - 1) r.c)
      have how2 := how.setM hnN (.slice r.A (r.n - 1) r.c)
      rw [show (J.map AL.v).set n (.slice r.A (r.n - 1) r.c) = (J.set n (delA r p)).map AL.v from by rw [List.map_set]; rfl] at how2
      refine wpOp_step rfl fun K' hK' => ?_
      simp only [putL, updV]
      go_simp
      have hz := hK' _ _ (hK (undef) (u.setCell ⟨gI, n, none⟩ (.slice r.A (r.n - 1) r.c)) (hB.stp hs (.inr (.inl rfl))) (v7R_w hs) (how2))
      refine Eq.mp (congrArg (fun act => K' act (u.setCell ⟨gI, n, none⟩ (.slice r.A (r.n - 1) r.c))) ?_) hz
      kernel_rfl
    | j + 14, ho, hG, hpre, hK => exact absurd hi (by omega)
   case en =>
    intro Q2 hQ2 f u hB hF
    have how : Ow w0 v N gB gI B ((J.set n (delA r p)).map AL.v) (J.set n (delA r p)) u := hF 13 (by decide) rfl
    have HOw8 := hid how
    have HE8 := hid hB
    clear hF
    show wpAny _ _ _ _ 0 (tailArr 14 14) _ _
    refine ⟨by kernel_rfl, hQ2 _ _ (hKx _ _ ?_)⟩
    simp only [putL, updV]
    clear how hB HOw HE
    obtain ⟨J', hJ'⟩ : ∃ J', J.set n (delA r p) = J' := ⟨_, rfl⟩
    have HJ' := hid hJ'
    rw [hJ'] at HOw8
    clear hJ'
    go_upto_region 8 with fail
    rename_i Kx hKx
    refine wp_region_factsI (fun j u => (j = 8 ∨ j = 9 ∨ j = 14) → Ow w0 v N gB gI B (J'.map AL.v) J' u) (v8F w0 w v N gB gI n bS s z B J') (fun u => EB w v #[.int .i64 v, .slice (some ⟨gB, 0, none⟩) N N, .slice (some ⟨gI, 0, none⟩) N N] bS s u) v8U (v8R ) Kx (fun _ _ h => h) 15 15 (some 53 :: some 54 :: some 55 :: some 56 :: some 57 :: some 58 :: some 59 :: some 60 :: some 61 :: some 62 :: some 52 :: some 63 :: some 64 :: some 65 :: none :: []) (by kernel_rfl) (by kernel_rfl) (by kernel_rfl) (by kernel_rfl) (by kernel_rfl) (by kernel_rfl) (by decide)
     (v8F_st) ?bs ?gb ?gs ?ar ?en
    case bs => exact HE8.out.below (Below.refl _ _).drew
    case gb =>
     exact fun c _ => HOw8.out.below (Below.refl _ _).drew
    case gs =>
     intro j u u' c hR hne hnr hG hc
     have h14 : j ≠ 14 := by
      rintro rfl
      rcases hc with rfl | rfl | rfl
      · exact Bool.false_ne_true (hnr.symm.trans (by kernel_rfl))
      · exact Bool.false_ne_true (hnr.symm.trans (by kernel_rfl))
      · exact hne rfl
     exact (hG hc).below (v8R_bel hR h14)
    case ar =>
     intro j o f u ho hi hB hG hpre K hK
     match j, ho, hG, hpre, hK with
     | 0, ho, hG, hpre, hK =>
       obtain rfl := Option.some.inj ho
       refine wpOp_step rfl fun K' hK' => ?_
       simp only [putL, updV]
       go_simp
       have hz := hK' _ _ (hK (.pointer (some ⟨w.heap.size, 1, none⟩)) (u) (hB) (v8R_refl _ _ (by decide)) (rfl))
       refine Eq.mp (congrArg (fun act => K' act (u)) ?_) hz
       kernel_rfl
     | 1, ho, hG, hpre, hK =>
       obtain rfl := Option.some.inj ho
       obtain ⟨x0, x1, x2⟩ := hB.ww.three
       have hl := hB.ww.lt
       have e0 : f 0 = .pointer (some ⟨w.heap.size, 1, none⟩) := hpre ⟨0, .data⟩ (by simp) rfl (.inl rfl)
       obtain ⟨f, rfl⟩ := fixG f 0 _ e0
       clear e0
       refine wpOp_step rfl fun K' hK' => ?_
       simp only [putL, updV]
       go_simp
       have hz := hK' _ _ (hK (.slice (some ⟨gB, 0, none⟩) N N) (u) (hB) (v8R_refl _ _ (by decide)) (rfl))
       refine Eq.mp (congrArg (fun act => K' act (u)) ?_) hz
       kernel_rfl
     | 2, ho, hG, hpre, hK =>
       obtain rfl := Option.some.inj ho
       refine wpOp_step rfl fun K' hK' => ?_
       simp only [putL, updV]
       go_simp
       have hz := hK' _ _ (hK (.int .i64 (n : Int)) (u) (hB) (v8R_refl _ _ (by decide)) (rfl))
       refine Eq.mp (congrArg (fun act => K' act (u)) ?_) hz
       kernel_rfl
     | 3, ho, hG, hpre, hK =>
       obtain rfl := Option.some.inj ho
       obtain ⟨z0, z1, z2, z3, z4⟩ := hB.ss.five
       have hl := hB.ss.lt
       refine wpOp_step rfl fun K' hK' => ?_
       simp only [putL, updV]
       go_simp
       have hz := hK' _ _ (hK (.agg #[.int .i64 s.G.W, .slice s.G.A s.G.n s.G.c, .int .i64 s.K.W, .slice s.K.A s.K.n s.K.c, .slice s.C s.k s.q]) (u) (hB) (v8R_refl _ _ (by decide)) (rfl))
       refine Eq.mp (congrArg (fun act => K' act (u)) ?_) hz
       kernel_rfl
     | 4, ho, hG, hpre, hK =>
       obtain rfl := Option.some.inj ho
       refine wpOp_step rfl fun K' hK' => ?_
       simp only [putL, updV]
       go_simp
       have hz := hK' _ _ (hK (.pointer (some ⟨w.heap.size, 1, none⟩)) (u) (hB) (v8R_refl _ _ (by decide)) (rfl))
       refine Eq.mp (congrArg (fun act => K' act (u)) ?_) hz
       kernel_rfl
     | 5, ho, hG, hpre, hK =>
       obtain rfl := Option.some.inj ho
       obtain ⟨x0, x1, x2⟩ := hB.ww.three
       have hl := hB.ww.lt
       have e4 : f 4 = .pointer (some ⟨w.heap.size, 1, none⟩) := hpre ⟨4, .data⟩ (by simp) rfl (.inl rfl)
       obtain ⟨f, rfl⟩ := fixG f 4 _ e4
       clear e4
       refine wpOp_step rfl fun K' hK' => ?_
       simp only [putL, updV]
       go_simp
       have hz := hK' _ _ (hK (.slice (some ⟨gB, 0, none⟩) N N) (u) (hB) (v8R_refl _ _ (by decide)) (rfl))
       refine Eq.mp (congrArg (fun act => K' act (u)) ?_) hz
       kernel_rfl
     | 6, ho, hG, hpre, hK =>
       obtain rfl := Option.some.inj ho
       refine wpOp_step rfl fun K' hK' => ?_
       simp only [putL, updV]
       go_simp
       have hz := hK' _ _ (hK (.int .i64 (n : Int)) (u) (hB) (v8R_refl _ _ (by decide)) (rfl))
       refine Eq.mp (congrArg (fun act => K' act (u)) ?_) hz
       kernel_rfl
     | 7, ho, hG, hpre, hK =>
       obtain rfl := Option.some.inj ho
       have k0 : (0 : Int) ≤ n := by omega
       have k1 : (n : Int) < N := by omega
       have k2 : (n : Int).toNat = n := by omega
       have e5 : f 5 = .slice (some ⟨gB, 0, none⟩) N N := hpre ⟨5, .data⟩ (by simp) rfl (.inl rfl)
       have e6 : f 6 = .int .i64 (n : Int) := hpre ⟨6, .data⟩ (by simp) rfl (.inl rfl)
       obtain ⟨f, rfl⟩ := fixG f 5 _ e5
       rw [updV_ne _ _ (by decide)] at e6
       obtain ⟨f, rfl⟩ := fixG f 6 _ e6
       clear e5 e6
       refine wpOp_step rfl fun K' hK' => ?_
       simp only [putL, updV]
       go_simp
       have hz := hK' _ _ (hK (.pointer (some ⟨gB, n * 2, none⟩)) (u) (hB) (v8R_refl _ _ (by decide)) (rfl))
       refine Eq.mp (congrArg (fun act => K' act (u)) ?_) hz
       kernel_rfl
     | 8, ho, hG, hpre, hK =>
       obtain rfl := Option.some.inj ho
       obtain ⟨y0, y1⟩ := (hG (.inl rfl)).cellB Hz.out
       have hl := (hG (.inl rfl)).fb.lt
       have e7 : f 7 = .pointer (some ⟨gB, n * 2, none⟩) := hpre ⟨7, .data⟩ (by simp) rfl (.inl rfl)
       obtain ⟨f, rfl⟩ := fixG f 7 _ e7
       clear e7
       refine wpOp_step rfl fun K' hK' => ?_
       simp only [putL, updV]
       go_simp
       have hz := hK' _ _ (hK (.agg #[.int .i64 z.W, .slice z.A z.n z.c]) (u) (hB) (v8R_refl _ _ (by decide)) (rfl))
       refine Eq.mp (congrArg (fun act => K' act (u)) ?_) hz
       kernel_rfl
     | 9, ho, hG, hpre, hK =>
       obtain rfl := Option.some.inj ho
       have e3 : f 3 = .agg #[.int .i64 s.G.W, .slice s.G.A s.G.n s.G.c, .int .i64 s.K.W, .slice s.K.A s.K.n s.K.c, .slice s.C s.k s.q] := hpre ⟨3, .data⟩ (by simp) rfl (.inl rfl)
       have e8 : f 8 = .agg #[.int .i64 z.W, .slice z.A z.n z.c] := hpre ⟨8, .data⟩ (by simp) rfl (.inl rfl)
       obtain ⟨f, rfl⟩ := fixG f 3 _ e3
       rw [updV_ne _ _ (by decide)] at e8
       obtain ⟨f, rfl⟩ := fixG f 8 _ e8
       clear e3 e8
       refine wpOp_step rfl fun K' hK' => ?_
       simp only [putL, updV]
       go_simp
       go_at_call 130
       have hzt := (hG (.inr (.inl rfl))).bt z (List.mem_of_getElem? Hz.out)
       refine (applyF s z v u hB.fw hzt (by omega)).mono ?_
       rintro e u5 ⟨g, rfl, hzw, hb⟩
       have hz := hK' _ _ (hK (.tuple #[.agg #[.int .i64 v, .slice (some ⟨g, 0, none⟩) (Bs.nw v) (Bs.nw v)], .int .i64 0]) (u5) (hB.below hb) (v8R_of hb (by decide)) (⟨g, rfl, hzw⟩))
       refine Eq.mp (congrArg (fun act => K' act (u5)) ?_) hz
       kernel_rfl
     | 10, ho, hG, hpre, hK =>
       obtain rfl := Option.some.inj ho
       obtain ⟨g, e9, hzw⟩ : ∃ g : Nat, f 9 = .tuple #[.agg #[.int .i64 v, .slice (some ⟨g, 0, none⟩) (Bs.nw v) (Bs.nw v)], .int .i64 0] ∧ ZWt u v ⟨v, some ⟨g, 0, none⟩, Bs.nw v, Bs.nw v, s.pf.vl v z.ws⟩ := hpre ⟨9, .data⟩ (by simp) rfl (.inl rfl)
       obtain ⟨f, rfl⟩ := fixG f 9 _ e9
       clear e9
       refine wpOp_step rfl fun K' hK' => ?_
       simp only [putL, updV]
       go_simp
       have hz := hK' _ _ (hK (.tuple #[.agg #[.int .i64 v, .slice (some ⟨g, 0, none⟩) (Bs.nw v) (Bs.nw v)], .int .i64 0]) (u) (hB) (v8R_refl _ _ (by decide)) (⟨g, rfl, hzw⟩))
       refine Eq.mp (congrArg (fun act => K' act (u)) ?_) hz
       kernel_rfl
     | 11, ho, hG, hpre, hK =>
       obtain rfl := Option.some.inj ho
       obtain ⟨g, e10, hzw⟩ : ∃ g : Nat, f 10 = .tuple #[.agg #[.int .i64 v, .slice (some ⟨g, 0, none⟩) (Bs.nw v) (Bs.nw v)], .int .i64 0] ∧ ZWt u v ⟨v, some ⟨g, 0, none⟩, Bs.nw v, Bs.nw v, s.pf.vl v z.ws⟩ := hpre ⟨10, .data⟩ (by simp) rfl (.inl rfl)
       obtain ⟨f, rfl⟩ := fixG f 10 _ e10
       clear e10
       refine wpOp_step rfl fun K' hK' => ?_
       simp only [putL, updV]
       go_simp
       have hz := hK' _ _ (hK (.agg #[.int .i64 v, .slice (some ⟨g, 0, none⟩) (Bs.nw v) (Bs.nw v)]) (u) (hB) (v8R_refl _ _ (by decide)) (⟨g, rfl, hzw⟩))
       refine Eq.mp (congrArg (fun act => K' act (u)) ?_) hz
       kernel_rfl
     | 12, ho, hG, hpre, hK =>
       obtain rfl := Option.some.inj ho
       obtain ⟨g, e10, hzw⟩ : ∃ g : Nat, f 10 = .tuple #[.agg #[.int .i64 v, .slice (some ⟨g, 0, none⟩) (Bs.nw v) (Bs.nw v)], .int .i64 0] ∧ ZWt u v ⟨v, some ⟨g, 0, none⟩, Bs.nw v, Bs.nw v, s.pf.vl v z.ws⟩ := hpre ⟨10, .data⟩ (by simp) rfl (.inl rfl)
       obtain ⟨f, rfl⟩ := fixG f 10 _ e10
       clear e10
       refine wpOp_step rfl fun K' hK' => ?_
       simp only [putL, updV]
       go_simp
       have hz := hK' _ _ (hK (.int .i64 0) (u) (hB) (v8R_refl _ _ (by decide)) (rfl))
       refine Eq.mp (congrArg (fun act => K' act (u)) ?_) hz
       kernel_rfl
     | 13, ho, hG, hpre, hK =>
       obtain rfl := Option.some.inj ho
       have k0 : (0 : Int) ≤ n := by omega
       have k1 : (n : Int) < N := by omega
       have k2 : (n : Int).toNat = n := by omega
       have e1 : f 1 = .slice (some ⟨gB, 0, none⟩) N N := hpre ⟨1, .data⟩ (by simp) rfl (.inl rfl)
       have e2 : f 2 = .int .i64 (n : Int) := hpre ⟨2, .data⟩ (by simp) rfl (.inl rfl)
       obtain ⟨f, rfl⟩ := fixG f 1 _ e1
       rw [updV_ne _ _ (by decide)] at e2
       obtain ⟨f, rfl⟩ := fixG f 2 _ e2
       clear e1 e2
       refine wpOp_step rfl fun K' hK' => ?_
       simp only [putL, updV]
       go_simp
       have hz := hK' _ _ (hK (.pointer (some ⟨gB, n * 2, none⟩)) (u) (hB) (v8R_refl _ _ (by decide)) (rfl))
       refine Eq.mp (congrArg (fun act => K' act (u)) ?_) hz
       kernel_rfl
     | 14, ho, hG, hpre, hK =>
       obtain rfl := Option.some.inj ho
       have e13 : f 13 = .pointer (some ⟨gB, n * 2, none⟩) := hpre ⟨13, .data⟩ (by simp) rfl (.inl rfl)
       obtain ⟨g, e11, hzw⟩ : ∃ g : Nat, f 11 = .agg #[.int .i64 v, .slice (some ⟨g, 0, none⟩) (Bs.nw v) (Bs.nw v)] ∧ ZWt u v ⟨v, some ⟨g, 0, none⟩, Bs.nw v, Bs.nw v, s.pf.vl v z.ws⟩ := hpre ⟨11, .data⟩ (by simp) rfl (.inl rfl)
       have how := hG (.inr (.inr rfl))
       obtain ⟨y0, y1⟩ := how.cellB Hz.out
       have f0 := how.fb.frozen (n * 2)
       have f1 := how.fb.frozen (n * 2 + 1)
       have hl := how.fb.lt
       have hs := two_cells how.fb (n * 2) (n * 2 + 1) (.int .i64 v) (.slice (some ⟨g, 0, none⟩) (Bs.nw v) (Bs.nw v))
       have how2 := how.setB hnN hzw
       obtain ⟨f, rfl⟩ := fixG f 13 _ e13
       rw [updV_ne _ _ (by decide)] at e11
       obtain ⟨f, rfl⟩ := fixG f 11 _ e11
       clear e13 e11
       refine wpOp_step rfl fun K' hK' => ?_
       simp only [putL, updV]
       go_simp
       have hz := hK' _ _ (hK (undef) ((u.setCell ⟨gB, n * 2, none⟩ (.int .i64 v)).setCell ⟨gB, n * 2 + 1, none⟩ (.slice (some ⟨g, 0, none⟩) (Bs.nw v) (Bs.nw v))) (hB.stp hs (.inl rfl)) (v8R_w hs) (⟨g, how2⟩))
       refine Eq.mp (congrArg (fun act => K' act ((u.setCell ⟨gB, n * 2, none⟩ (.int .i64 v)).setCell ⟨gB, n * 2 + 1, none⟩ (.slice (some ⟨g, 0, none⟩) (Bs.nw v) (Bs.nw v)))) ?_) hz
       kernel_rfl
     | j + 15, ho, hG, hpre, hK => exact absurd hi (by omega)
    case en =>
     intro Q2 hQ2 f u hB hF
     obtain ⟨g, how⟩ : ∃ g : Nat, Ow w0 v N gB gI (B.set n ⟨v, some ⟨g, 0, none⟩, Bs.nw v, Bs.nw v, s.pf.vl v z.ws⟩) (J'.map AL.v) J' u := hF 14 (by decide) rfl
     have HOw9 := hid how
     have HE9 := hid hB
     clear hF
     show wpAny _ _ _ _ 0 (tailArr 15 15) _ _
     refine ⟨by kernel_rfl, hQ2 _ _ (hKx _ _ ?_)⟩
     simp only [putL, updV]
     clear how hB HOw8 HE8
     obtain ⟨B', hB'⟩ : ∃ B', B.set n ⟨v, some ⟨g, 0, none⟩, Bs.nw v, Bs.nw v, s.pf.vl v z.ws⟩ = B' := ⟨_, rfl⟩
     have HB' := hid hB'
     rw [hB'] at HOw9
     have hlen : (r.l.eraseIdx p).length = r.n - 1 := by rw [List.length_eraseIdx, Hra.out.len, if_pos Hpl.out]
     have Hlen := hid hlen
     have hnJ : n < J.length := (List.getElem?_eq_some_iff.1 Ht.out).1
     have HnJ := hid hnJ
     have Hm9 := hid (show (J'.map AL.v)[n]? = some (.slice r.A (r.n - 1) r.c) from by rw [← HJ'.out, List.getElem?_map, List.getElem?_set_self hnJ]; rfl)
     have HI0 := hid (show Rsl w0 w v N gB gI n bS #[.int .i64 v, .slice (some ⟨gB, 0, none⟩) N N, .slice (some ⟨gI, 0, none⟩) N N] s B' J r (r.l.eraseIdx p) 0 u from ⟨⟨r.l.eraseIdx p, Cmd.start _ _ _, by
      have := HOw9.out
      rw [← HJ'.out] at this
      exact this⟩, HE9.out⟩)
     obtain ⟨x0, x1, x2⟩ := HE9.out.ww.three
     have m0 := HOw9.out.cellM Hm9.out
     rw [HA.out] at m0
     clear hB' hlen hnJ HOw9 HE9 HJ' Hm9
     go_wp2_with fail
     clear x0 x1 x2 m0
     go_loopw [72] (fun jv wr => ∃ k : Nat, k ≤ r.n - 1 ∧ jv = .int .i64 k ∧ Hid (Rsl w0 w v N gB gI n bS #[.int .i64 v, .slice (some ⟨gB, 0, none⟩) N N, .slice (some ⟨gI, 0, none⟩) N N] s B' J r (r.l.eraseIdx p) k wr)) (fun jv _ => (r.n - 1) - (intOf jv).toNat)
     case atStart => exact ⟨0, by omega, rfl, HI0⟩
     case round =>
      clear HI0
      obtain ⟨k, hk, rfl, HI⟩ := hrel
      obtain ⟨⟨L, hc, how⟩, he⟩ := HI.out
      have Hc := hid hc
      have HOw := hid how
      have HE := hid he
      clear HI hc how he
      by_cases hlt : k < r.n - 1
      · have hrn := Hrn.out
        obtain ⟨b, hb0, -⟩ := get_at Hlen.out hlt
        have Hb0 := hid hb0
        have Hb := hid (show (AL.mk r.A (r.n - 1) r.c L).l[k]? = some b from Hc.out.cur hb0)
        have Hr1 := hid (show (J.set n ⟨r.A, r.n - 1, r.c, L⟩)[n]? = some (AL.mk r.A (r.n - 1) r.c L) from List.getElem?_set_self HnJ.out)
        obtain ⟨J1, hJ1⟩ : ∃ J1, J.set n ⟨r.A, r.n - 1, r.c, L⟩ = J1 := ⟨_, rfl⟩
        have HJ1 := hid hJ1
        rw [hJ1] at HOw Hr1
        obtain ⟨r1, hr1⟩ : ∃ r1, AL.mk r.A (r.n - 1) r.c L = r1 := ⟨_, rfl⟩
        have HR1 := hid hr1
        have Hr1n := hid (show r1.n = r.n - 1 by rw [← hr1])
        have hr1A : r1.A = some ⟨gr, 0, none⟩ := by rw [← hr1]; exact HA.out
        rw [hr1] at Hr1 Hb
        have HA1 := hid hr1A
        have Hm1 := hid (show (J1.map AL.v)[n]? = some (.slice (some ⟨gr, 0, none⟩) r1.n r1.c) from by rw [List.getElem?_map, Hr1.out, ← hr1A]; rfl)
        have HFb := hid ((HOw.out.rt r1 (List.mem_of_getElem? Hr1.out)).arcs b (List.mem_of_getElem? Hb.out))
        obtain ⟨g', hA', hg1, hg2, -, hcc, -⟩ := (HOw.out.rt r1 (List.mem_of_getElem? Hr1.out)).at Hb.out
        rw [hr1A] at hA'
        obtain rfl : gr = g' := by injection hA' with h1; injection h1
        have y0 : wr.cell? ⟨gr, k * 6, none⟩ = _ := hcc 0 (by decide)
        have y1 := hcc 1 (by decide)
        have y2 := hcc 2 (by decide)
        have y3 := hcc 3 (by decide)
        have y4 := hcc 4 (by decide)
        have y5 := hcc 5 (by decide)
        simp only [AH.cells, List.getElem?_cons_zero, List.getElem?_cons_succ] at y0 y1 y2 y3 y4 y5
        have k0 : (0 : Int) ≤ k := by omega
        have k1 : (k : Int) < r.n - 1 := by omega
        have k2 : (k : Int).toNat = k := by omega
        have hba := (Below.refl wr.heap.size wr).alloc (Nat.le_refl _) (.cells #[.int .i64 b.m, .int .i64 b.f.G.W, .slice b.f.G.A b.f.G.n b.f.G.c, .int .i64 b.f.K.W, .slice b.f.K.A b.f.K.n b.f.K.c, .slice b.f.C b.f.k b.f.q] 63)
        have HOw1 := hid (HOw.out.below hba)
        have HE1 := hid (HE.out.below hba)
        have HFa := hid (HFb.out.below hba)
        have HAb := hid (Fb.new wr #[.int .i64 b.m, .int .i64 b.f.G.W, .slice b.f.G.A b.f.G.n b.f.G.c, .int .i64 b.f.K.W, .slice b.f.K.A b.f.K.n b.f.K.c, .slice b.f.C b.f.k b.f.q] 63)
        have Hne := hid (show wr.heap.size ≠ gr by omega)
        have hkr : k < r1.n := by rw [Hr1n.out]; omega
        clear HOw HE HFb hba hcc hA' hb0 hJ1 hr1 hr1A
        go_upto_region 12 with fail
        rename_i Kx hKx
        clear y0 y1 y2 y3 y4 y5
        generalize wr.alloc (.cells #[.int .i64 b.m, .int .i64 b.f.G.W, .slice b.f.G.A b.f.G.n b.f.G.c, .int .i64 b.f.K.W, .slice b.f.K.A b.f.K.n b.f.K.c, .slice b.f.C b.f.k b.f.q] 63) = w11 at *
        generalize wr.heap.size = bA at *
        refine wp_region_factsI (fun i u => (i = 4 ∨ i = 15) → Ow w0 v N gB gI B' (J1.map AL.v) J1 u) (v12F w0 w v N gB gI n k gr bS bA s b r1 B' J1) (fun u => EB w v #[.int .i64 v, .slice (some ⟨gB, 0, none⟩) N N, .slice (some ⟨gI, 0, none⟩) N N] bS s u ∧ Fb u bA #[.int .i64 b.m, .int .i64 b.f.G.W, .slice b.f.G.A b.f.G.n b.f.G.c, .int .i64 b.f.K.W, .slice b.f.K.A b.f.K.n b.f.K.c, .slice b.f.C b.f.k b.f.q] 63 ∧ FWt u v b.f) v12U (v12R ) Kx (fun _ _ h => h) 17 17 (some 78 :: some 79 :: some 80 :: some 81 :: some 82 :: some 83 :: some 84 :: some 85 :: some 86 :: some 87 :: some 77 :: some 88 :: some 89 :: some 90 :: some 91 :: none :: some 8 :: []) (by kernel_rfl) (by kernel_rfl) (by kernel_rfl) (by kernel_rfl) (by kernel_rfl) (by kernel_rfl) (by decide)
         (v12F_st) ?bs ?gb ?gs ?ar ?en
        case bs => exact ⟨HE1.out.below (Below.refl _ _).drew, HAb.out.below (Below.refl _ _).drew HAb.out.lt, HFa.out.below (Below.refl _ _).drew⟩
        case gb =>
         exact fun c _ => HOw1.out.below (Below.refl _ _).drew
        case gs =>
         intro i u u' c hR hne hnr hG hc
         have h15 : i ≠ 15 := by
          rintro rfl
          rcases hc with rfl | rfl
          · exact Bool.false_ne_true (hnr.symm.trans (by kernel_rfl))
          · exact hne rfl
         exact (hG hc).below (v12R_bel hR h15)
        case ar =>
         intro j o f u ho hi hB hG hpre K hK
         match j, ho, hG, hpre, hK with
         | 0, ho, hG, hpre, hK =>
           obtain rfl := Option.some.inj ho
           refine wpOp_step rfl fun K' hK' => ?_
           simp only [putL, updV]
           go_simp
           have hz := hK' _ _ (hK (.pointer (some ⟨w.heap.size, 2, none⟩)) (u) (hB) (v12R_refl _ _ (by decide)) (rfl))
           refine Eq.mp (congrArg (fun act => K' act (u)) ?_) hz
           kernel_rfl
         | 1, ho, hG, hpre, hK =>
           obtain rfl := Option.some.inj ho
           obtain ⟨x0, x1, x2⟩ := hB.1.ww.three
           have hl := hB.1.ww.lt
           have e0 : f 0 = .pointer (some ⟨w.heap.size, 2, none⟩) := hpre ⟨0, .data⟩ (by simp) rfl (.inl rfl)
           obtain ⟨f, rfl⟩ := fixG f 0 _ e0
           clear e0
           refine wpOp_step rfl fun K' hK' => ?_
           simp only [putL, updV]
           go_simp
           have hz := hK' _ _ (hK (.slice (some ⟨gI, 0, none⟩) N N) (u) (hB) (v12R_refl _ _ (by decide)) (rfl))
           refine Eq.mp (congrArg (fun act => K' act (u)) ?_) hz
           kernel_rfl
         | 2, ho, hG, hpre, hK =>
           obtain rfl := Option.some.inj ho
           refine wpOp_step rfl fun K' hK' => ?_
           simp only [putL, updV]
           go_simp
           have hz := hK' _ _ (hK (.int .i64 (n : Int)) (u) (hB) (v12R_refl _ _ (by decide)) (rfl))
           refine Eq.mp (congrArg (fun act => K' act (u)) ?_) hz
           kernel_rfl
         | 3, ho, hG, hpre, hK =>
           obtain rfl := Option.some.inj ho
           have k0 : (0 : Int) ≤ n := by omega
           have k1 : (n : Int) < N := by omega
           have k2 : (n : Int).toNat = n := by omega
           have e1 : f 1 = .slice (some ⟨gI, 0, none⟩) N N := hpre ⟨1, .data⟩ (by simp) rfl (.inl rfl)
           have e2 : f 2 = .int .i64 (n : Int) := hpre ⟨2, .data⟩ (by simp) rfl (.inl rfl)
           obtain ⟨f, rfl⟩ := fixG f 1 _ e1
           rw [updV_ne _ _ (by decide)] at e2
           obtain ⟨f, rfl⟩ := fixG f 2 _ e2
           clear e1 e2
           refine wpOp_step rfl fun K' hK' => ?_
           simp only [putL, updV]
           go_simp
           have hz := hK' _ _ (hK (.pointer (some ⟨gI, n, none⟩)) (u) (hB) (v12R_refl _ _ (by decide)) (rfl))
           refine Eq.mp (congrArg (fun act => K' act (u)) ?_) hz
           kernel_rfl
         | 4, ho, hG, hpre, hK =>
           obtain rfl := Option.some.inj ho
           have y0 := (hG (.inl rfl)).cellM Hm1.out
           have hl := (hG (.inl rfl)).fi.lt
           have e3 : f 3 = .pointer (some ⟨gI, n, none⟩) := hpre ⟨3, .data⟩ (by simp) rfl (.inl rfl)
           obtain ⟨f, rfl⟩ := fixG f 3 _ e3
           clear e3
           refine wpOp_step rfl fun K' hK' => ?_
           simp only [putL, updV]
           go_simp
           have hz := hK' _ _ (hK (.slice (some ⟨gr, 0, none⟩) r1.n r1.c) (u) (hB) (v12R_refl _ _ (by decide)) (rfl))
           refine Eq.mp (congrArg (fun act => K' act (u)) ?_) hz
           kernel_rfl
         | 5, ho, hG, hpre, hK =>
           obtain rfl := Option.some.inj ho
           refine wpOp_step rfl fun K' hK' => ?_
           simp only [putL, updV]
           go_simp
           have hz := hK' _ _ (hK (.int .i64 (k : Int)) (u) (hB) (v12R_refl _ _ (by decide)) (rfl))
           refine Eq.mp (congrArg (fun act => K' act (u)) ?_) hz
           kernel_rfl
         | 6, ho, hG, hpre, hK =>
           obtain rfl := Option.some.inj ho
           refine wpOp_step rfl fun K' hK' => ?_
           simp only [putL, updV]
           go_simp
           have hz := hK' _ _ (hK (.pointer (some ⟨bA, 1, none⟩)) (u) (hB) (v12R_refl _ _ (by decide)) (rfl))
           refine Eq.mp (congrArg (fun act => K' act (u)) ?_) hz
           kernel_rfl
         | 7, ho, hG, hpre, hK =>
           obtain rfl := Option.some.inj ho
           obtain ⟨y0, y1, y2, y3, y4, y5⟩ := hB.2.1.six
           have hl := hB.2.1.lt
           have e6 : f 6 = .pointer (some ⟨bA, 1, none⟩) := hpre ⟨6, .data⟩ (by simp) rfl (.inl rfl)
           obtain ⟨f, rfl⟩ := fixG f 6 _ e6
           clear e6
           refine wpOp_step rfl fun K' hK' => ?_
           simp only [putL, updV]
           go_simp
           have hz := hK' _ _ (hK (.agg #[.int .i64 b.f.G.W, .slice b.f.G.A b.f.G.n b.f.G.c, .int .i64 b.f.K.W, .slice b.f.K.A b.f.K.n b.f.K.c, .slice b.f.C b.f.k b.f.q]) (u) (hB) (v12R_refl _ _ (by decide)) (rfl))
           refine Eq.mp (congrArg (fun act => K' act (u)) ?_) hz
           kernel_rfl
         | 8, ho, hG, hpre, hK =>
           obtain rfl := Option.some.inj ho
           obtain ⟨z0, z1, z2, z3, z4⟩ := hB.1.ss.five
           have hl := hB.1.ss.lt
           refine wpOp_step rfl fun K' hK' => ?_
           simp only [putL, updV]
           go_simp
           have hz := hK' _ _ (hK (.agg #[.int .i64 s.G.W, .slice s.G.A s.G.n s.G.c, .int .i64 s.K.W, .slice s.K.A s.K.n s.K.c, .slice s.C s.k s.q]) (u) (hB) (v12R_refl _ _ (by decide)) (rfl))
           refine Eq.mp (congrArg (fun act => K' act (u)) ?_) hz
           kernel_rfl
         | 9, ho, hG, hpre, hK =>
           obtain rfl := Option.some.inj ho
           have e7 : f 7 = .agg #[.int .i64 b.f.G.W, .slice b.f.G.A b.f.G.n b.f.G.c, .int .i64 b.f.K.W, .slice b.f.K.A b.f.K.n b.f.K.c, .slice b.f.C b.f.k b.f.q] := hpre ⟨7, .data⟩ (by simp) rfl (.inl rfl)
           have e8 : f 8 = .agg #[.int .i64 s.G.W, .slice s.G.A s.G.n s.G.c, .int .i64 s.K.W, .slice s.K.A s.K.n s.K.c, .slice s.C s.k s.q] := hpre ⟨8, .data⟩ (by simp) rfl (.inl rfl)
           obtain ⟨f, rfl⟩ := fixG f 7 _ e7
           rw [updV_ne _ _ (by decide)] at e8
           obtain ⟨f, rfl⟩ := fixG f 8 _ e8
           clear e7 e8
           refine wpOp_step rfl fun K' hK' => ?_
           simp only [putL, updV]
           go_simp
           go_at_call 131
           refine (composeF b.f s v u hB.2.2 hB.1.fw hv).mono ?_
           rintro e u5 ⟨f', rfl, hw1, hw2, hfw, hsem, hb⟩
           have hz := hK' _ _ (hK (.tuple #[.agg #[.int .i64 v, .slice f'.G.A f'.G.n f'.G.c, .int .i64 v, .slice f'.K.A f'.K.n f'.K.c, .slice f'.C f'.k f'.q], .int .i64 0]) (u5) (⟨hB.1.below hb, hB.2.1.below hb hB.2.1.lt, hB.2.2.below hb⟩) (v12R_of hb (by decide)) (⟨f', rfl, hw1, hw2, hfw, hsem⟩))
           refine Eq.mp (congrArg (fun act => K' act (u5)) ?_) hz
           kernel_rfl
         | 10, ho, hG, hpre, hK =>
           obtain rfl := Option.some.inj ho
           obtain ⟨f', e9, hw1, hw2, hfw, hsem⟩ : ∃ f' : FH, f 9 = .tuple #[.agg #[.int .i64 v, .slice f'.G.A f'.G.n f'.G.c, .int .i64 v, .slice f'.K.A f'.K.n f'.K.c, .slice f'.C f'.k f'.q], .int .i64 0] ∧ f'.G.W = v ∧ f'.K.W = v ∧ FWt u v f' ∧ ∀ ss, f'.pf.vl v ss = s.pf.vl v (b.f.pf.vl v ss) := hpre ⟨9, .data⟩ (by simp) rfl (.inl rfl)
           obtain ⟨f, rfl⟩ := fixG f 9 _ e9
           clear e9
           refine wpOp_step rfl fun K' hK' => ?_
           simp only [putL, updV]
           go_simp
           have hz := hK' _ _ (hK (.tuple #[.agg #[.int .i64 v, .slice f'.G.A f'.G.n f'.G.c, .int .i64 v, .slice f'.K.A f'.K.n f'.K.c, .slice f'.C f'.k f'.q], .int .i64 0]) (u) (hB) (v12R_refl _ _ (by decide)) (⟨f', rfl, hw1, hw2, hfw, hsem⟩))
           refine Eq.mp (congrArg (fun act => K' act (u)) ?_) hz
           kernel_rfl
         | 11, ho, hG, hpre, hK =>
           obtain rfl := Option.some.inj ho
           obtain ⟨f', e10, hw1, hw2, hfw, hsem⟩ : ∃ f' : FH, f 10 = .tuple #[.agg #[.int .i64 v, .slice f'.G.A f'.G.n f'.G.c, .int .i64 v, .slice f'.K.A f'.K.n f'.K.c, .slice f'.C f'.k f'.q], .int .i64 0] ∧ f'.G.W = v ∧ f'.K.W = v ∧ FWt u v f' ∧ ∀ ss, f'.pf.vl v ss = s.pf.vl v (b.f.pf.vl v ss) := hpre ⟨10, .data⟩ (by simp) rfl (.inl rfl)
           obtain ⟨f, rfl⟩ := fixG f 10 _ e10
           clear e10
           refine wpOp_step rfl fun K' hK' => ?_
           simp only [putL, updV]
           go_simp
           have hz := hK' _ _ (hK (.agg #[.int .i64 v, .slice f'.G.A f'.G.n f'.G.c, .int .i64 v, .slice f'.K.A f'.K.n f'.K.c, .slice f'.C f'.k f'.q]) (u) (hB) (v12R_refl _ _ (by decide)) (⟨f', rfl, hw1, hw2, hfw, hsem⟩))
           refine Eq.mp (congrArg (fun act => K' act (u)) ?_) hz
           kernel_rfl
         | 12, ho, hG, hpre, hK =>
           obtain rfl := Option.some.inj ho
           obtain ⟨f', e10, hw1, hw2, hfw, hsem⟩ : ∃ f' : FH, f 10 = .tuple #[.agg #[.int .i64 v, .slice f'.G.A f'.G.n f'.G.c, .int .i64 v, .slice f'.K.A f'.K.n f'.K.c, .slice f'.C f'.k f'.q], .int .i64 0] ∧ f'.G.W = v ∧ f'.K.W = v ∧ FWt u v f' ∧ ∀ ss, f'.pf.vl v ss = s.pf.vl v (b.f.pf.vl v ss) := hpre ⟨10, .data⟩ (by simp) rfl (.inl rfl)
           obtain ⟨f, rfl⟩ := fixG f 10 _ e10
           clear e10
           refine wpOp_step rfl fun K' hK' => ?_
           simp only [putL, updV]
           go_simp
           have hz := hK' _ _ (hK (.int .i64 0) (u) (hB) (v12R_refl _ _ (by decide)) (rfl))
           refine Eq.mp (congrArg (fun act => K' act (u)) ?_) hz
           kernel_rfl
         | 13, ho, hG, hpre, hK =>
           obtain rfl := Option.some.inj ho
           have k0 : (0 : Int) ≤ k := by omega
           have k1 : (k : Int) < r1.n := by omega
           have k2 : (k : Int).toNat = k := by omega
           have e4 : f 4 = .slice (some ⟨gr, 0, none⟩) r1.n r1.c := hpre ⟨4, .data⟩ (by simp) rfl (.inl rfl)
           have e5 : f 5 = .int .i64 (k : Int) := hpre ⟨5, .data⟩ (by simp) rfl (.inl rfl)
           obtain ⟨f, rfl⟩ := fixG f 4 _ e4
           rw [updV_ne _ _ (by decide)] at e5
           obtain ⟨f, rfl⟩ := fixG f 5 _ e5
           clear e4 e5
           refine wpOp_step rfl fun K' hK' => ?_
           simp only [putL, updV]
           go_simp
           have hz := hK' _ _ (hK (.pointer (some ⟨gr, k * 6, none⟩)) (u) (hB) (v12R_refl _ _ (by decide)) (rfl))
           refine Eq.mp (congrArg (fun act => K' act (u)) ?_) hz
           kernel_rfl
         | 14, ho, hG, hpre, hK =>
           obtain rfl := Option.some.inj ho
           have e13 : f 13 = .pointer (some ⟨gr, k * 6, none⟩) := hpre ⟨13, .data⟩ (by simp) rfl (.inl rfl)
           obtain ⟨f, rfl⟩ := fixG f 13 _ e13
           clear e13
           refine wpOp_step rfl fun K' hK' => ?_
           simp only [putL, updV]
           go_simp
           have hz := hK' _ _ (hK (.pointer (some ⟨gr, k * 6 + 1, none⟩)) (u) (hB) (v12R_refl _ _ (by decide)) (rfl))
           refine Eq.mp (congrArg (fun act => K' act (u)) ?_) hz
           kernel_rfl
         | 15, ho, hG, hpre, hK =>
           obtain rfl := Option.some.inj ho
           have e14 : f 14 = .pointer (some ⟨gr, k * 6 + 1, none⟩) := hpre ⟨14, .data⟩ (by simp) rfl (.inl rfl)
           obtain ⟨f', e11, hw1, hw2, hfw, hsem⟩ : ∃ f' : FH, f 11 = .agg #[.int .i64 v, .slice f'.G.A f'.G.n f'.G.c, .int .i64 v, .slice f'.K.A f'.K.n f'.K.c, .slice f'.C f'.k f'.q] ∧ f'.G.W = v ∧ f'.K.W = v ∧ FWt u v f' ∧ ∀ ss, f'.pf.vl v ss = s.pf.vl v (b.f.pf.vl v ss) := hpre ⟨11, .data⟩ (by simp) rfl (.inl rfl)
           have how := hG (.inr rfl)
           obtain ⟨g', hA', hgg, hgl, -, hcc, hff⟩ := (how.rt r1 (List.mem_of_getElem? Hr1.out)).at Hb.out
           rw [HA1.out] at hA'
           obtain rfl : gr = g' := by injection hA' with h1; injection h1
           clear hA'
           have x1 := hcc 1 (by decide)
           have x2 : u.cell? ⟨gr, k * 6 + 1 + 1, none⟩ = _ := hcc 2 (by decide)
           have x3 : u.cell? ⟨gr, k * 6 + 1 + 2, none⟩ = _ := hcc 3 (by decide)
           have x4 : u.cell? ⟨gr, k * 6 + 1 + 3, none⟩ = _ := hcc 4 (by decide)
           have x5 : u.cell? ⟨gr, k * 6 + 1 + 4, none⟩ = _ := hcc 5 (by decide)
           have f1 := hff (k * 6 + 1)
           have f2 := hff (k * 6 + 1 + 1)
           have f3 := hff (k * 6 + 1 + 2)
           have f4 := hff (k * 6 + 1 + 3)
           have f5 := hff (k * 6 + 1 + 4)
           simp only [AH.cells, List.getElem?_cons_zero, List.getElem?_cons_succ] at x1 x2 x3 x4 x5
           have how2 := how.putF Hr1.out Hb.out hfw HA1.out
           have hgr := putF_grown u gr (k * 6 + 1) f'
           have hs : Stp1 63 u (putF u gr (k * 6 + 1) f') := ⟨_, hgr, fun k e => by obtain rfl := Option.some.inj e; exact own_typ (how.rt r1 (List.mem_of_getElem? Hr1.out)).own (by unfold AL.v; rw [HA1.out]; rfl)⟩
           clear hcc hff
           obtain ⟨f, rfl⟩ := fixG f 14 _ e14
           rw [updV_ne _ _ (by decide)] at e11
           obtain ⟨f, rfl⟩ := fixG f 11 _ e11
           clear e14 e11
           refine wpOp_step rfl fun K' hK' => ?_
           simp only [putL, updV]
           go_simp
           have hz := hK' _ _ (hK (undef) (((((u.setCell ⟨gr, k * 6 + 1, none⟩ (.int .i64 v)).setCell ⟨gr, k * 6 + 1 + 1, none⟩ (.slice f'.G.A f'.G.n f'.G.c)).setCell ⟨gr, k * 6 + 1 + 2, none⟩ (.int .i64 v)).setCell ⟨gr, k * 6 + 1 + 3, none⟩ (.slice f'.K.A f'.K.n f'.K.c)).setCell ⟨gr, k * 6 + 1 + 4, none⟩ (.slice f'.C f'.k f'.q)) (by rw [← putF_v hw1 hw2]; exact ⟨hB.1.stp hs (.inr (.inr rfl)), hB.2.1.grown hgr (fun e => Hne.out (Option.some.inj e)), hB.2.2.stp hs (by decide) (by decide)⟩) (by rw [← putF_v hw1 hw2]; exact v12R_w hs) (by rw [← putF_v hw1 hw2]; exact ⟨f', how2, hsem⟩))
           refine Eq.mp (congrArg (fun act => K' act (((((u.setCell ⟨gr, k * 6 + 1, none⟩ (.int .i64 v)).setCell ⟨gr, k * 6 + 1 + 1, none⟩ (.slice f'.G.A f'.G.n f'.G.c)).setCell ⟨gr, k * 6 + 1 + 2, none⟩ (.int .i64 v)).setCell ⟨gr, k * 6 + 1 + 3, none⟩ (.slice f'.K.A f'.K.n f'.K.c)).setCell ⟨gr, k * 6 + 1 + 4, none⟩ (.slice f'.C f'.k f'.q))) ?_) hz
           kernel_rfl
         | 16, ho, hG, hpre, hK =>
           obtain rfl := Option.some.inj ho
           have e12 : f 12 = .int .i64 0 := hpre ⟨12, .data⟩ (by simp) rfl (.inl rfl)
           obtain ⟨f, rfl⟩ := fixG f 12 _ e12
           clear e12
           refine wpOp_step rfl fun K' hK' => ?_
           simp only [putL, updV]
           go_simp
           have hz := hK' _ _ (hK (.int .i64 0) (u) (hB) (v12R_refl _ _ (by decide)) (rfl))
           refine Eq.mp (congrArg (fun act => K' act (u)) ?_) hz
           kernel_rfl
         | j + 17, ho, hG, hpre, hK => exact absurd hi (by omega)
        case en =>
         intro Q2 hQ2 f u hB hF
         obtain ⟨f', how, hsem⟩ : ∃ f' : FH, Ow w0 v N gB gI B' ((J1.set n ⟨r1.A, r1.n, r1.c, r1.l.set k (arcSet b f')⟩).map AL.v) (J1.set n ⟨r1.A, r1.n, r1.c, r1.l.set k (arcSet b f')⟩) u ∧ ∀ ss, f'.pf.vl v ss = s.pf.vl v (b.f.pf.vl v ss) := hF 15 (by decide) rfl
         have e16 : f 16 = .int .i64 0 := hF 16 (by decide) rfl
         have HOw2 := hid how
         have HE2 := hid hB.1
         have Hsem := hid hsem
         obtain ⟨f, rfl⟩ := fixG f 16 _ e16
         clear e16
         clear hF
         show wpAny _ _ _ _ 0 (tailArr 17 17) _ _
         refine ⟨by kernel_rfl, hQ2 _ _ (hKx _ _ ?_)⟩
         simp only [putL, updV]
         clear how hB hsem HOw1 HE1 HAb HFa
         have HI1 := hid (show Rsl w0 w v N gB gI n bS #[.int .i64 v, .slice (some ⟨gB, 0, none⟩) N N, .slice (some ⟨gI, 0, none⟩) N N] s B' J r (r.l.eraseIdx p) (k + 1) u from ⟨⟨L.set k (arcSet b f'), Hc.out.next Hb0.out Hsem.out, by
          have := HOw2.out
          rw [← HJ1.out, ← HR1.out, List.set_set] at this
          exact this⟩, HE2.out⟩)
         go_wp2_with fail
         go_roundw
         case rel => exact ⟨k + 1, by omega, by go_num, HI1⟩
         case measure => simp [intOf]; omega
      · have e : k = r.n - 1 := by omega
        have e2 : k = (r.l.eraseIdx p).length := by rw [Hlen.out]; exact e
        have hc := Hc.out
        rw [e2] at hc
        have hto := resolve_to (r' := ⟨r.A, r.n - 1, r.c, L⟩) (z' := ⟨v, some ⟨g, 0, none⟩, Bs.nw v, Bs.nw v, s.pf.vl v z.ws⟩) H0.out (by rw [HB'.out]; exact HOw.out) Ht.out Hz.out Ha.out Ham.out Hst.out rfl hc
        rw [HB'.out] at hto
        have HFin := hid (show RetRs w0 v N gB gI n B J w (.returned (.int .i64 0)) wr from ⟨B', _, rfl, HOw.out, hto, Fsub.set fun y hy => by
         obtain ⟨b, hb, e⟩ := Hc.out.from' y hy
         exact ⟨r, List.mem_of_getElem? Ht.out, b, (mem_del Ha.out b).2 (.inr hb), e⟩, fun r2 hr2 y hy => by
         rw [List.getElem?_set_self HnJ.out] at hr2
         obtain rfl := Option.some.inj hr2
         obtain ⟨b, hb, e⟩ := Hc.out.from' y hy
         have := del_ne Hra.out.ris Ha.out b hb
         rw [Ham.out] at this
         rw [e]; exact this, HE.out.tx⟩)
        clear hto hc
        go_wp2_with fail
        exact bodyPost_ret (v := .int .i64 0) (by simp [results, Tryz.results100, go_sem]) rfl HFin.out
end Go.Proofs.YtopkmeceakjocaaGreat
