/- Which texts are texts of sets, as the package's Parse reads them: lists and numbers, no program. -/
import Derived.Test.YtljdjidpbblbbaaDoorReading
import Derived.Test.YtljdjidpbblbbaaDoorDText
import Derived.Lib.CutLaws
import Derived.Lib.AtoiAll
namespace Go.Proofs.YtljdjidpbblbbaaDoor
set_option maxRecDepth 10000

theorem split_one {c : UInt8} : ∀ {A B x y : List UInt8}, c ∉ A → c ∉ B → A ++ c :: x = B ++ c :: y → A = B ∧ x = y
  | [], [], x, y, _, _, h => by simpa using h
  | [], b :: B, x, y, _, hB, h => by simp at h; exact absurd (h.1 ▸ List.mem_cons_self) hB
  | a :: A, [], x, y, hA, _, h => by simp at h; exact absurd (h.1 ▸ List.mem_cons_self) hA
  | a :: A, b :: B, x, y, hA, hB, h => by
    simp only [List.cons_append, List.cons.injEq] at h
    obtain ⟨rfl, h⟩ := h
    obtain ⟨rfl, h2⟩ := split_one (fun hm => hA (List.mem_cons_of_mem _ hm)) (fun hm => hB (List.mem_cons_of_mem _ hm)) h
    exact ⟨rfl, h2⟩

/-- Cut at a byte. -/
theorem cut_one (l : List UInt8) (c : UInt8) : (Lib.cut l [c] = (l, [], false) ∧ c ∉ l) ∨ ∃ a b, Lib.cut l [c] = (a, b, true) ∧ l = a ++ c :: b ∧ c ∉ a := by
  have hi := Lib.index_one l c
  unfold Lib.cut
  rw [hi]
  by_cases h : 0 ≤ Lib.indexByte l c
  · obtain ⟨i, he⟩ := Int.eq_ofNat_of_zero_le h
    obtain ⟨h1, h2⟩ := Lib.indexByte_some he
    refine .inr ⟨l.take i, l.drop (i + 1), ?_, ?_, ?_⟩
    · rw [if_pos h, he]; rfl
    · have hlt : i < l.length := by
        rcases Nat.lt_or_ge i l.length with h' | h'
        · exact h'
        · rw [List.getElem?_eq_none h'] at h1; cases h1
      have hg : l[i] = c := by rw [List.getElem?_eq_getElem hlt] at h1; injection h1
      rw [← hg, ← List.drop_eq_getElem_cons hlt, List.take_append_drop]
    · intro hm
      obtain ⟨k, hk⟩ := List.mem_iff_getElem?.1 hm
      have hk2 : k < i := by
        rcases Nat.lt_or_ge k i with h' | h'
        · exact h'
        · rw [List.getElem?_take, if_neg (by omega)] at hk; cases hk
      rw [List.getElem?_take, if_pos hk2] at hk
      exact h2 k hk2 hk
  · have hm1 : Lib.indexByte l c = -1 := by have := Lib.indexByte_ge l c; omega
    refine .inl ⟨by rw [if_neg h], fun hm => ?_⟩
    obtain ⟨k, hk⟩ := List.mem_iff_getElem?.1 hm
    exact Lib.indexByte_none hm1 k hk
theorem cut_at {a b : List UInt8} {c : UInt8} (h : c ∉ a) : Lib.cut (a ++ c :: b) [c] = (a, b, true) := by
  rcases cut_one (a ++ c :: b) c with ⟨_, h2⟩ | ⟨x, y, h1, h2, h3⟩
  · exact absurd (by simp) h2
  · obtain ⟨rfl, rfl⟩ := split_one h h3 h2
    exact h1
theorem cut_no {a : List UInt8} {c : UInt8} (h : c ∉ a) : Lib.cut a [c] = (a, [], false) := by
  rcases cut_one a c with ⟨h1, _⟩ | ⟨x, y, h1, h2, h3⟩
  · exact h1
  · exact absurd (by rw [h2]; simp) h

/-- The numbers of a list in decimal digits with commas between them. -/
def J (l : List Int) : List UInt8 := Lib.join (nums l) [44]
theorem J_nil : J [] = [] := rfl
theorem J_cons (x : Int) (r : List Int) : J (x :: r) = dec x.toNat ++ (if r = [] then [] else 44 :: J r) := by
  unfold J nums
  rw [List.map_cons, Lib.join_cons]
  cases r with
  | nil => simp [Lib.joinTail]
  | cons y r => rw [if_neg (by simp), List.map_cons, Lib.join_cons]; simp [Lib.joinTail]
theorem J_snoc (l : List Int) (x : Int) : J (l ++ [x]) = if l = [] then dec x.toNat else J l ++ 44 :: dec x.toNat := by
  unfold J nums
  rw [List.map_append, List.map_cons, List.map_nil, join_snoc]
  cases l with
  | nil => simp
  | cons y r => rw [if_neg (by simp), if_neg (by simp)]; simp
theorem joinTo_J (l : List Int) : joinTo l l.length = J l := by rw [joinTo_eq l _ (Nat.le_refl _), List.take_length]; rfl
theorem J_ne {l : List Int} (h : l ≠ []) : J l ≠ [] := by
  cases l with
  | nil => exact absurd rfl h
  | cons x r => rw [J_cons]; intro h0; exact dec_ne _ (List.append_eq_nil_iff.1 h0).1
theorem dig_not {c : UInt8} (n : Nat) (h : dig c = false) : c ∉ dec n := fun hm => by rw [dec_digs n c hm] at h; cases h

/-- What the package's number answers. -/
def NumQ (l : List UInt8) (v : Int) (ok : Bool) : Prop :=
  (ok = true ∧ Lib.itoa v = l ∧ -9223372036854775808 ≤ v ∧ v ≤ 9223372036854775807) ∨ (ok = false ∧ v = 0 ∧ ∀ m : Nat, m ≤ 256 → dec m ≠ l)
theorem itoa_nat (m : Nat) : Lib.itoa (m : Int) = dec m := by
  unfold Lib.itoa; rw [if_neg (by omega), Int.toNat_natCast, decDigits_dec]
theorem itoa_dec {v : Int} {m : Nat} (h : Lib.itoa v = dec m) : v = (m : Int) := by
  unfold Lib.itoa at h
  split at h
  · exfalso
    have : (45 : UInt8) ∈ dec m := by rw [← h]; exact List.mem_cons_self
    have := dec_digs m _ this
    simp [dig] at this
  · rw [decDigits_dec] at h
    have := dec_inj h
    omega

theorem parse_app (a b : List UInt8) : ∀ (acc u : Nat), Lib.parseUint10 acc a = .ok u → Lib.parseUint10 acc (a ++ b) = Lib.parseUint10 u b := by
  induction a with
  | nil => intro acc u h; simp only [Lib.parseUint10] at h; injection h with h; subst h; rfl
  | cons c r ih =>
    intro acc u h
    simp only [List.cons_append, Lib.parseUint10] at h ⊢
    split at h
    · rename_i hd
      rw [if_pos hd]
      split at h
      · cases h
      · rename_i h1
        rw [if_neg h1]
        split at h
        · cases h
        · rename_i h2
          rw [if_neg h2]
          exact ih _ _ h
    · cases h
theorem parse_dec (m : Nat) (hm : m < 1000) : Lib.parseUint10 0 (dec m) = .ok m := by
  induction m using Nat.strongRecOn with
  | ind m ih =>
    have key : ∀ u d : Nat, u < 1000 → d < 10 → Lib.parseUint10 u [UInt8.ofNat (48 + d)] = .ok (u * 10 + d) := fun u d hu hd => by
      have e := ofNat_toNat d hd
      simp only [Lib.parseUint10, e]
      rw [if_pos (by omega), if_neg (by omega), if_neg (by omega)]
      congr 2; omega
    unfold dec
    split
    · rename_i h
      have := key 0 m (by omega) h
      simpa using this
    · rename_i h
      rw [parse_app _ _ 0 (m / 10) (ih (m / 10) (by omega) (by omega)), key (m / 10) (m % 10) (by omega) (by omega)]
      congr 1; omega
theorem atoi_dec (m : Nat) (hm : m < 1000) : Lib.atoiAll (dec m) = .ok (m : Int) := by
  have hp := parse_dec m hm
  have hd := dec_digs m
  cases hl : dec m with
  | nil => exact absurd hl (dec_ne m)
  | cons c r =>
    rw [hl] at hp hd
    have hc := hd c List.mem_cons_self
    simp [dig] at hc
    have h1 : ¬ (c.toNat = 43 ∨ c.toNat = 45) := by omega
    have h2 : ¬ c.toNat = 45 := by omega
    unfold Lib.atoiAll
    simp only [if_neg h1, Lib.parseMag, if_neg (List.cons_ne_nil c r), hp, if_neg (show ¬ (¬ c.toNat = 45 ∧ 9223372036854775808 ≤ m) from by omega), if_neg (show ¬ (c.toNat = 45 ∧ 9223372036854775808 < m) from by omega), if_neg h2]
theorem atoi_range {l : List UInt8} {v : Int} (h : Lib.atoiAll l = .ok v) : -9223372036854775808 ≤ v ∧ v ≤ 9223372036854775807 := by
  unfold Lib.atoiAll at h
  split at h
  · cases h
  · simp only [] at h
    split at h
    · cases h
    · cases h
    · split at h
      · cases h
      · rename_i h1
        split at h
        · cases h
        · rename_i h2
          injection h with h
          subst h
          split <;> omega

/-- The members of a set W wide whose text begins so. -/
structure Cand (W : Int) (full : List UInt8) (l : List Int) : Prop where
  asc : l.Pairwise (· < ·)
  rng : ∀ x ∈ l, 0 ≤ x ∧ x < W
  txt : J l = full

/-- What has been read, and what has not. -/
structure Read (W : Int) (full : List UInt8) (L : List Int) (last : Int) (rest : List UInt8) (more : Bool) : Prop where
  asc : L.Pairwise (· < ·)
  rng : ∀ x ∈ L, 0 ≤ x ∧ x < W
  top : ∀ x ∈ L, x ≤ last
  lst : (L = [] ∧ last = -1) ∨ last ∈ L
  pos : full = if more then (if L = [] then rest else J L ++ 44 :: rest) else J L
  neg : ∀ l, Cand W full l → ∃ r, l = L ++ r ∧ (more = true → r ≠ [] ∧ rest = J r) ∧ (more = false → r = [])

theorem read_start (W : Int) (full : List UInt8) : Read W full [] (-1) full (decide (full ≠ [])) where
  asc := List.Pairwise.nil
  rng := by simp
  top := by simp
  lst := .inl ⟨rfl, rfl⟩
  pos := by
    by_cases h : full = []
    · subst h; rfl
    · simp [h]
  neg l hl := by
    refine ⟨l, rfl, fun h => ⟨?_, hl.txt.symm⟩, fun h => ?_⟩
    · rintro rfl
      have := hl.txt
      rw [J_nil] at this
      simp [← this] at h
    · by_cases h0 : l = []
      · exact h0
      · have := J_ne h0
        rw [hl.txt] at this
        simp [this] at h

/-- A further item: for the members of a set it is the next of them. -/
theorem read_next {W : Int} {full : List UInt8} {L : List Int} {last : Int} {rest item rest' : List UInt8} {more' : Bool} (hW : W ≤ 256) (h : Read W full L last rest true) (hc : Lib.cut rest [44] = (item, rest', more')) :
    ∀ l, Cand W full l → ∃ x r, l = L ++ x :: r ∧ item = dec x.toNat ∧ 0 ≤ x ∧ x < W ∧ last < x ∧ (more' = true → r ≠ [] ∧ rest' = J r) ∧ (more' = false → r = []) := by
  intro l hl
  obtain ⟨r0, rfl, h1, _⟩ := h.neg l hl
  obtain ⟨hne, hr⟩ := h1 rfl
  cases r0 with
  | nil => exact absurd rfl hne
  | cons x r =>
    have hx := hl.rng x (by simp)
    have hlast : last < x := by
      rcases h.lst with ⟨_, h'⟩ | h'
      · omega
      · exact (List.pairwise_append.1 hl.asc).2.2 last h' x (by simp)
    refine ⟨x, r, rfl, ?_⟩
    rw [hr, J_cons] at hc
    have hd : (44 : UInt8) ∉ dec x.toNat := dig_not _ (by decide)
    by_cases h0 : r = []
    · rw [if_pos h0, List.append_nil, cut_no hd] at hc
      injection hc with e1 hc
      injection hc with e2 e3
      subst e1; subst e2; subst e3
      exact ⟨rfl, hx.1, hx.2, hlast, fun h => (by cases h), fun _ => h0⟩
    · rw [if_neg h0, cut_at hd] at hc
      injection hc with e1 hc
      injection hc with e2 e3
      subst e1; subst e2; subst e3
      exact ⟨rfl, hx.1, hx.2, hlast, fun _ => ⟨h0, rfl⟩, fun h => (by cases h)⟩
/-- The item is no number, or not the next one: it is the text of no set. -/
theorem read_bad {W : Int} {full : List UInt8} {L : List Int} {last : Int} {rest item rest' : List UInt8} {more' : Bool} {v : Int} {ok : Bool} (hW : W ≤ 256) (h : Read W full L last rest true) (hc : Lib.cut rest [44] = (item, rest', more'))
    (hn : NumQ item v ok) (hb : ok = false ∨ v ≤ last ∨ (decide (0 ≤ v) && decide (v < W)) = false) : ∀ l, ¬ Cand W full l := by
  intro l hl
  obtain ⟨x, r, _, h1, h2, h3, h4, _⟩ := read_next hW h hc l hl
  rcases hn with ⟨rfl, h5, _⟩ | ⟨rfl, _, h5⟩
  · rw [h1] at h5
    have := itoa_dec h5
    rcases hb with hb | hb | hb
    · cases hb
    · omega
    · have : (decide (0 ≤ v) && decide (v < W)) = true := by simp; omega
      rw [this] at hb; cases hb
  · exact h5 x.toNat (by omega) h1.symm
theorem read_step {W : Int} {full : List UInt8} {L : List Int} {last : Int} {rest item rest' : List UInt8} {more' : Bool} {v : Int} (hW : W ≤ 256) (h : Read W full L last rest true) (hc : Lib.cut rest [44] = (item, rest', more'))
    (hn : NumQ item v true) (h1 : last < v) (h2 : 0 ≤ v) (h3 : v < W) : Read W full (L ++ [v]) v rest' more' := by
  have hitem : item = dec v.toNat := by
    rcases hn with ⟨_, h, _⟩ | ⟨h, _⟩
    · rw [← h, ← itoa_nat]; congr 1; omega
    · cases h
  refine ⟨?_, ?_, ?_, .inr (by simp), ?_, ?_⟩
  · rw [List.pairwise_append]
    refine ⟨h.asc, by simp, fun x hx y hy => ?_⟩
    simp at hy; subst hy
    have := h.top x hx; omega
  · intro x hx
    rcases List.mem_append.1 hx with hx | hx
    · exact h.rng x hx
    · simp at hx; subst hx; exact ⟨h2, h3⟩
  · intro x hx
    rcases List.mem_append.1 hx with hx | hx
    · have := h.top x hx; omega
    · simp at hx; omega
  · have hp := h.pos
    rw [if_pos rfl] at hp
    have hne : L ++ [v] ≠ [] := by simp
    rw [J_snoc, if_neg hne, ← hitem, hp]
    rcases cut_one rest 44 with ⟨e, _⟩ | ⟨a, b, e, hr, _⟩
    · rw [hc] at e
      injection e with e1 e; injection e with e2 e3
      rw [e1, e3]; rfl
    · rw [hc] at e
      injection e with e1 e; injection e with e2 e3
      rw [e1, e2, e3, if_pos rfl, hr]
      by_cases hL : L = []
      · rw [if_pos hL, if_pos hL]
      · rw [if_neg hL, if_neg hL]; simp
  · intro l hl
    obtain ⟨x, r, e, h4, h5, _, _, h6, h7⟩ := read_next hW h hc l hl
    have hx : v = x := by
      rw [hitem] at h4
      have := dec_inj h4
      omega
    subst hx
    exact ⟨r, by rw [e]; simp, h6, h7⟩
theorem read_done {W : Int} {full : List UInt8} {L : List Int} {last : Int} {rest : List UInt8} (h : Read W full L last rest false) : Cand W full L :=
  ⟨h.asc, h.rng, by have := h.pos; rw [if_neg (by simp)] at this; exact this.symm⟩

/-- The members of a set ascend, and a list that ascends is its set's members. -/
theorem memsTo_asc (ws : List Nat) (k : Nat) : (memsTo ws k).Pairwise (· < ·) := by
  induction k with
  | zero => exact List.Pairwise.nil
  | succ k ih =>
    unfold memsTo
    split
    · rw [List.pairwise_append]
      refine ⟨ih, by simp, fun x hx y hy => ?_⟩
      simp at hy; subst hy
      exact (memsTo_range ws k x hx).2
    · exact ih
theorem asc_ext : ∀ {l m : List Int}, l.Pairwise (· < ·) → m.Pairwise (· < ·) → (∀ x, x ∈ l ↔ x ∈ m) → l = m
  | [], [], _, _, _ => rfl
  | [], y :: m, _, _, h => by have := (h y).2 (by simp); simp at this
  | x :: l, [], _, _, h => by have := (h x).1 (by simp); simp at this
  | x :: l, y :: m, hl, hm, h => by
    rw [List.pairwise_cons] at hl hm
    have hxy : x = y := by
      have h1 := (h x).1 (by simp)
      have h2 := (h y).2 (by simp)
      rcases List.mem_cons.1 h1 with h1 | h1
      · exact h1
      · rcases List.mem_cons.1 h2 with h2 | h2
        · exact h2.symm
        · have := hl.1 y h2; have := hm.1 x h1; omega
    subst hxy
    congr 1
    refine asc_ext hl.2 hm.2 fun z => ⟨fun hz => ?_, fun hz => ?_⟩
    · rcases List.mem_cons.1 ((h z).1 (List.mem_cons_of_mem _ hz)) with h1 | h1
      · subst h1; have := hl.1 z hz; omega
      · exact h1
    · rcases List.mem_cons.1 ((h z).2 (List.mem_cons_of_mem _ hz)) with h1 | h1
      · subst h1; have := hm.1 z hz; omega
      · exact h1
def setOf (v : Nat) (L : List Int) : List Nat := Bs.ofP v (fun i => decide ((i : Int) ∈ L)) v
theorem mems_setOf {v : Nat} {L : List Int} (h1 : L.Pairwise (· < ·)) (h2 : ∀ x ∈ L, 0 ≤ x ∧ x < (v : Int)) : memsTo (setOf v L) v = L := by
  refine asc_ext (memsTo_asc _ _) h1 fun x => ?_
  rw [mem_memsTo]
  unfold setOf
  constructor
  · rintro ⟨i, hi, hb, rfl⟩
    rw [Bs.bit_ofP _ _ _ (Nat.le_refl _)] at hb
    simp at hb; exact hb.2
  · intro hx
    obtain ⟨i, rfl⟩ := Int.eq_ofNat_of_zero_le (h2 x hx).1
    have := (h2 _ hx).2
    refine ⟨i, by omega, ?_, rfl⟩
    rw [Bs.bit_ofP _ _ _ (Nat.le_refl _)]
    simp [hx]; omega

/-- A set's text, cut at its slash. -/
theorem text_parts {W : Int} {ws : List Nat} {text : List UInt8} (h : Bs.validB W ws = true) (ht : textB W ws = text) :
    Lib.cut text [47] = (J (memsTo ws W.toNat), dec W.toNat, true) ∧ Cand W (J (memsTo ws W.toNat)) (memsTo ws W.toNat) := by
  have hx := text_of h ht
  have h0 := (Bs.validB_iff.1 h).1
  have hno := joinTo_no (memsTo ws W.toNat) (memsTo ws W.toNat).length
  rw [joinTo_J] at hx hno
  refine ⟨?_, memsTo_asc _ _, fun x hx => ?_, rfl⟩
  · rw [hx, List.append_assoc, List.singleton_append]; exact cut_at hno
  · have := memsTo_range ws _ x hx; omega
/-- Parse answers a set. -/
theorem parse_good {text list after : List UInt8} {v : Nat} {L : List Int} (hc : Lib.cut text [47] = (list, after, true)) (hn : NumQ after v true) (hv : v ≤ 256) (hL : Cand v list L) : ParseR text ((v : Int), setOf v L, 0) := by
  have hf := Bs.fit_ofP v (fun i => decide ((i : Int) ∈ L)) v (Nat.le_refl _)
  have hval : Bs.validB (v : Int) (setOf v L) = true := Bs.valid_of_fit hf hv
  refine .inl ⟨rfl, hval, ?_⟩
  unfold textB
  rw [if_pos hval, Int.toNat_natCast, mems_setOf hL.asc hL.rng, joinTo_J, hL.txt]
  have ha : after = dec v := by
    rcases hn with ⟨_, h, _⟩ | ⟨h, _⟩
    · rw [← h, itoa_nat]
    · cases h
  rcases cut_one text 47 with ⟨e, _⟩ | ⟨a, b, e, hr, _⟩
  · rw [hc] at e; injection e with _ e; injection e with _ e; cases e
  · rw [hc] at e
    injection e with e1 e; injection e with e2 e3
    subst e1; subst e2
    rw [hr, ha]; simp
/-- Parse answers that there is none. -/
theorem parse_none {text list after : List UInt8} {found ok : Bool} {v : Int} (hc : Lib.cut text [47] = (list, after, found)) (hn : NumQ after v ok)
    (hb : found = false ∨ ok = false ∨ (decide (0 ≤ v) && decide (v ≤ 256)) = false ∨ (0 ≤ v ∧ v ≤ 256 ∧ ∀ l, ¬ Cand v list l)) : ParseR text (0, [], 4) := by
  refine .inr ⟨rfl, fun W ws h _ ht => ?_⟩
  obtain ⟨h1, h2⟩ := text_parts h ht
  have hW := Bs.validB_iff.1 h
  rw [hc] at h1
  injection h1 with e1 e
  injection e with e2 e3
  subst e1; subst e3
  have hv : ok = true → v = W := fun hok => by
    rcases hn with ⟨_, h5, _⟩ | ⟨h5, _⟩
    · rw [e2] at h5
      have := itoa_dec h5
      omega
    · rw [hok] at h5; cases h5
  rcases hb with hb | hb | hb | ⟨_, _, hb⟩
  · cases hb
  · rcases hn with ⟨h5, _⟩ | ⟨_, _, h5⟩
    · rw [hb] at h5; cases h5
    · exact h5 W.toNat (by omega) e2.symm
  · cases hok : ok with
    | true =>
      have := hv hok
      have : (decide (0 ≤ v) && decide (v ≤ 256)) = true := by simp; omega
      rw [this] at hb; cases hb
    | false =>
      rcases hn with ⟨h5, _⟩ | ⟨_, _, h5⟩
      · rw [hok] at h5; cases h5
      · exact h5 W.toNat (by omega) e2.symm
  · cases hok : ok with
    | true => have := hv hok; subst this; exact hb _ h2
    | false =>
      rcases hn with ⟨h5, _⟩ | ⟨_, _, h5⟩
      · rw [hok] at h5; cases h5
      · exact h5 W.toNat (by omega) e2.symm
end Go.Proofs.YtljdjidpbblbbaaDoor
