/- Merged texts: what YtbjaebbmajhjjaaGreatEliminationSolvesProof leans on. -/
import Derived.Test.YtbjaebbmajhjjaaGreatEsvM4
import Derived.Test.YtbjaebbmajhjjaaGreatEsvM2
import Derived.Test.YtbjaebbmajhjjaaGreatEsvM0a
namespace Go.Proofs.YtbjaebbmajhjjaaGreat
set_option maxRecDepth 20000
set_option linter.unusedVariables false
set_option linter.unusedSimpArgs false
open Go.ChangeShapes Go.WideShapes Go.ChangeAt Go.RowKit
def ac (v : Nat) (x : List (List Nat)) (l : List AH) (i : Nat) : Prop := ∃ a ∈ l, Bs.bit (a.f.pf.vl v (at0 x a.m.toNat)) i = true
structure JoinP (v : Nat) (l : List AH) (a : AH) (l' : List AH) : Prop where
  sem : ∀ x i, i < v → (ac v x l' i ↔ (ac v x l i ∨ Bs.bit (a.f.pf.vl v (at0 x a.m.toNat)) i = true))
  from' : ∀ y ∈ l', y.m = a.m ∨ ∃ z ∈ l, y.m = z.m
theorem mem_ins {α : Type} {l : List α} {i : Nat} (hi : i ≤ l.length) {a x : α} : x ∈ l.insertIdx i a ↔ (x = a ∨ x ∈ l) := by
  rw [ins_list l hi]
  have e : ∀ y, y ∈ l ↔ (y ∈ l.take i ∨ y ∈ l.drop i) := fun y => by rw [← List.mem_append, List.take_append_drop]
  rw [List.mem_append, List.mem_cons, e]
  constructor
  · rintro (h | h | h)
    · exact .inr (.inl h)
    · exact .inl h
    · exact .inr (.inr h)
  · rintro (h | h | h)
    · exact .inr (.inl h)
    · exact .inl h
    · exact .inr (.inr h)
theorem JoinP.ins {v : Nat} {l : List AH} {i : Nat} (hi : i ≤ l.length) (a : AH) : JoinP v l a (l.insertIdx i a) := by
  refine ⟨fun x j hj => ?_, fun y hy => ?_⟩
  · constructor
    · rintro ⟨y, hy, h⟩
      rcases (mem_ins hi).1 hy with rfl | hy
      · exact .inr h
      · exact .inl ⟨y, hy, h⟩
    · rintro (⟨y, hy, h⟩ | h)
      · exact ⟨y, (mem_ins hi).2 (.inr hy), h⟩
      · exact ⟨a, (mem_ins hi).2 (.inl rfl), h⟩
  · rcases (mem_ins hi).1 hy with rfl | hy
    · exact .inl rfl
    · exact .inr ⟨y, hy, rfl⟩
theorem mem_set {α : Type} {l : List α} {i : Nat} {b c x : α} (hb : l[i]? = some b) : x ∈ l.set i c ↔ (x = c ∨ ∃ j, j ≠ i ∧ l[j]? = some x) := by
  have hil := (List.getElem?_eq_some_iff.1 hb).1
  rw [List.mem_iff_getElem?]
  constructor
  · rintro ⟨j, hj⟩
    by_cases e : j = i
    · subst e; rw [List.getElem?_set_self hil] at hj; exact .inl (Option.some.inj hj).symm
    · rw [List.getElem?_set_ne (fun e' => e e'.symm)] at hj; exact .inr ⟨j, e, hj⟩
  · rintro (rfl | ⟨j, e, hj⟩)
    · exact ⟨i, List.getElem?_set_self hil⟩
    · exact ⟨j, by rw [List.getElem?_set_ne (fun e' => e e'.symm)]; exact hj⟩
theorem JoinP.both {v : Nat} {l : List AH} {i : Nat} {b a : AH} {f : FH} (hb : l[i]? = some b) (hm : b.m = a.m) (hf : ∀ ss, f.pf.vl v ss = orR v (b.f.pf.vl v ss) (a.f.pf.vl v ss)) : JoinP v l a (l.set i (arcSet b f)) := by
  refine ⟨fun x j hj => ?_, fun y hy => ?_⟩
  · have key : Bs.bit ((arcSet b f).f.pf.vl v (at0 x (arcSet b f).m.toNat)) j = true ↔ (Bs.bit (b.f.pf.vl v (at0 x b.m.toNat)) j = true ∨ Bs.bit (a.f.pf.vl v (at0 x a.m.toNat)) j = true) := by
      show Bs.bit (f.pf.vl v (at0 x b.m.toNat)) j = true ↔ _
      rw [hf, bit_orR_iff hj, hm]
    constructor
    · rintro ⟨y, hy, h⟩
      rcases (mem_set hb).1 hy with rfl | ⟨k, _, hk⟩
      · rcases key.1 h with h1 | h1
        · exact .inl ⟨b, List.mem_of_getElem? hb, h1⟩
        · exact .inr h1
      · exact .inl ⟨y, List.mem_of_getElem? hk, h⟩
    · rintro (⟨y, hy, h⟩ | h)
      · obtain ⟨k, hk⟩ := List.mem_iff_getElem?.1 hy
        by_cases e : k = i
        · subst e
          rw [hb] at hk
          obtain rfl := Option.some.inj hk
          exact ⟨_, (mem_set hb).2 (.inl rfl), key.2 (.inl h)⟩
        · exact ⟨y, (mem_set hb).2 (.inr ⟨k, e, hk⟩), h⟩
      · exact ⟨_, (mem_set hb).2 (.inl rfl), key.2 (.inr h)⟩
  · rcases (mem_set hb).1 hy with rfl | ⟨k, _, hk⟩
    · exact .inl hm
    · exact .inr ⟨y, List.mem_of_getElem? hk, rfl⟩
theorem Plc.one {N : Nat} {l : List AH} {m : Int} {p q : Nat} (h : Plc l m p) (h2 : Plc l m q) : p = q := by
  rcases Nat.lt_trichotomy p q with h3 | h3 | h3
  · obtain ⟨a, ha⟩ : ∃ a, l[p]? = some a := ⟨_, List.getElem?_eq_getElem (by have := h2.le; omega)⟩
    have := h2.lo p a h3 ha
    have := h.hi p a (Nat.le_refl _) ha
    omega
  · exact h3
  · obtain ⟨a, ha⟩ : ∃ a, l[q]? = some a := ⟨_, List.getElem?_eq_getElem (by have := h.le; omega)⟩
    have := h.lo q a h3 ha
    have := h2.hi q a (Nat.le_refl _) ha
    omega
theorem plc_ex {N : Nat} {l : List AH} (h : RisP N (l.map AH.m)) (m : Int) : ∃ p, Plc l m p := by
  by_cases hx : ∃ (i : Nat) (a : AH), l[i]? = some a ∧ m ≤ a.m
  · have hmin : ∀ n i : Nat, i ≤ n → (∃ a : AH, l[i]? = some a ∧ m ≤ a.m) → ∃ j : Nat, (∃ a : AH, l[j]? = some a ∧ m ≤ a.m) ∧ ∀ k, k < j → ∀ a : AH, l[k]? = some a → a.m < m := by
      intro n
      induction n with
      | zero => intro i hi ha; exact ⟨i, ha, fun k hk => by omega⟩
      | succ n ih =>
        intro i hi ha
        by_cases hex : ∃ (k : Nat) (a : AH), k < i ∧ l[k]? = some a ∧ m ≤ a.m
        · obtain ⟨k, a, hk, h1, h2⟩ := hex
          exact ih k (by omega) ⟨a, h1, h2⟩
        · exact ⟨i, ha, fun k hk a h1 => by
            rcases Int.lt_or_le a.m m with h2 | h2
            · exact h2
            · exact absurd ⟨k, a, hk, h1, h2⟩ hex⟩
    obtain ⟨i, a, h1, h2⟩ := hx
    obtain ⟨j, ⟨b, hb, hbm⟩, hj⟩ := hmin i i (Nat.le_refl _) ⟨a, h1, h2⟩
    refine ⟨j, Nat.le_of_lt (List.getElem?_eq_some_iff.1 hb).1, fun k c hk hc => hj k hk c hc, fun k c hk hc => ?_⟩
    rcases Nat.lt_or_eq_of_le hk with h3 | h3
    · have := ris_lt h h3 hb hc; omega
    · subst h3; rw [hb] at hc; obtain rfl := Option.some.inj hc; exact hbm
  · refine ⟨l.length, Nat.le_refl _, fun i a _ ha => ?_, fun i a hi ha => absurd (List.getElem?_eq_some_iff.1 ha).1 (by omega)⟩
    rcases Int.lt_or_le a.m m with h2 | h2
    · exact h2
    · exact absurd ⟨i, a, ha, h2⟩ hx
theorem place2_any (b v N : Nat) (r : AL) (m : Int) (p : Nat) (w : World) (h : RowA b w v N r) (hN : N ≤ 256) (hp : Plc r.l m p) :
    Calls Tryz.prog 90 #[r.v, .int .i64 m] w fun e w' => e = .returned (.tuple #[.int .i64 p, .bool (fdA r.l p m)]) ∧ Below w.heap.size w w' := by
  refine (place_any b v N r m w h hN).mono ?_
  rintro e w' ⟨q, hq, rfl, hb⟩
  obtain rfl := Plc.one (N := N) hq hp
  exact ⟨rfl, hb⟩
theorem FWt.okf {u : World} {v : Nat} {f : FH} (h : FWt u v f) : Okf v f.G.ws f.K.ws f.cs := by
  obtain ⟨h1, h2, h3, h4, h5⟩ := validT_iff h.ok.ok
  have f1 := Bs.fit_of_valid h1 h.t.gen.arg.ok
  have f2 := Bs.fit_of_valid h2 h.t.kill.arg.ok
  rw [Int.toNat_natCast] at f1 f2
  exact ⟨h.ok.ok, f1, f2, inW_of_ok h5⟩
theorem FWt.ret {u : World} {v : Nat} {gs ks : List Nat} {cs : List (Int × Int)} {A B C : Option Addr} {n c m d q : Nat} (ho : Okf v gs ks cs) (h1 : ArgT u A n gs) (h2 : ArgT u B m ks) (h3 : CopT u C cs.length cs) :
    FWt u v ⟨⟨v, A, n, c, gs⟩, ⟨v, B, m, d, ks⟩, C, cs.length, q, cs⟩ := ⟨⟨rfl, rfl, ho.valid⟩, h1, h2, h3⟩
theorem fdA_yes {l : List AH} {p : Nat} {m : Int} (h : fdA l p m = true) : ∃ a, l[p]? = some a ∧ a.m = m := by
  unfold fdA at h
  split at h
  · next a ha => exact ⟨a, ha, by simpa using h⟩
  · cases h
theorem fdA_no {N : Nat} {l : List AH} {p : Nat} {m : Int} (hr : RisP N (l.map AH.m)) (hp : Plc l m p) (h : fdA l p m = false) : ∀ a ∈ l, a.m ≠ m := by
  intro a ha e
  obtain ⟨i, hi⟩ := List.mem_iff_getElem?.1 ha
  rcases Nat.lt_trichotomy i p with h1 | h1 | h1
  · have := hp.lo i a h1 hi; omega
  · subst h1
    unfold fdA at h
    rw [hi] at h
    simp [e] at h
  · obtain ⟨b, hb⟩ : ∃ b, l[p]? = some b := ⟨_, List.getElem?_eq_getElem (by have := (List.getElem?_eq_some_iff.1 hi).1; omega)⟩
    have h2 := hp.hi p b (Nat.le_refl _) hb
    have h3 := ris_lt hr h1 hb hi
    omega
theorem map_set_v {J : List AL} {t : Nat} {r r' : AL} (ht : J[t]? = some r) (h : r'.v = r.v) : (J.set t r').map AL.v = J.map AL.v := by
  rw [List.map_set, h]
  apply List.ext_getElem?
  intro j
  by_cases e : j = t
  · subst e
    rw [List.getElem?_set_self (by rw [List.length_map]; exact (List.getElem?_eq_some_iff.1 ht).1), List.getElem?_map, ht]; rfl
  · rw [List.getElem?_set_ne (fun e' => e e'.symm)]
theorem Ow.putF {w0 u : World} {v N gB gI t p : Nat} {B : List ZH} {J : List AL} {r : AL} {b : AH} {f : FH} {g : Nat} (h : Ow w0 v N gB gI B (J.map AL.v) J u) (ht : J[t]? = some r) (hp : r.l[p]? = some b) (hf : FWt u v f) (hg : r.A = some ⟨g, 0, none⟩) :
    Ow w0 v N gB gI B ((J.set t ⟨r.A, r.n, r.c, r.l.set p (arcSet b f)⟩).map AL.v) (J.set t ⟨r.A, r.n, r.c, r.l.set p (arcSet b f)⟩) (putF u g (p * 6 + 1) f) := by
  have hrow := (h.rt r (List.mem_of_getElem? ht)).putF hp hf hg
  have hbk : r.v.ownBlock = some g := by unfold AL.v; rw [hg]; rfl
  have := h.row (r' := ⟨r.A, r.n, r.c, r.l.set p (arcSet b f)⟩) ht (by rw [hbk]; exact putF_grown u g (p * 6 + 1) f) hrow (fun k e => .inl e)
  rwa [← map_set_v ht (r' := ⟨r.A, r.n, r.c, r.l.set p (arcSet b f)⟩) rfl] at this
def RetRw (w0 : World) (v N gB gI t : Nat) (B : List ZH) (J : List AL) (r : AL) (P : List AH → Prop) (w : World) (e : Ending) (w' : World) : Prop :=
  ∃ r' : AL, e = .returned (.int .i64 0) ∧ Ow w0 v N gB gI B ((J.set t r').map AL.v) (J.set t r') w' ∧ P r'.l ∧ GrX w [some gB, some gI, r.v.ownBlock] w' ∧ ∀ g, r'.v.ownBlock = some g → r.v.ownBlock = some g ∨ w.heap.size ≤ g
end Go.Proofs.YtbjaebbmajhjjaaGreat
namespace Go.Proofs.YtbjaebbmajhjjaaGreat
set_option maxRecDepth 20000
set_option linter.unusedVariables false
set_option linter.unusedSimpArgs false
open Go.ChangeShapes Go.WideShapes Go.ChangeAt Go.RowKit
structure Awo (w0 w : World) (v N gB gI : Nat) (B : List ZH) (J : List AL) (u : World) : Prop where
  ow : Ow w0 v N gB gI B (J.map AL.v) J u
  ww : Fb u w.heap.size #[.int .i64 v, .slice (some ⟨gB, 0, none⟩) N N, .slice (some ⟨gI, 0, none⟩) N N] 37
  bel : Below w.heap.size w u
theorem Awo.below {w0 w u u' : World} {v N gB gI : Nat} {B : List ZH} {J : List AL} (h : Awo w0 w v N gB gI B J u) (hb : Below u.heap.size u u') : Awo w0 w v N gB gI B J u' := ⟨h.ow.below hb, h.ww.below hb h.ww.lt, below_step h.bel hb⟩
set_option maxHeartbeats 6400000 in
theorem arcsWithout_any (w0 : World) (v N gB gI n : Nat) (B : List ZH) (J : List AL) (w : World) (h : Ow w0 v N gB gI B (J.map AL.v) J w) (hN : N ≤ 20) (hnN : n < N) :
    Calls Tryz.prog 60 #[.agg #[.int .i64 v, .slice (some ⟨gB, 0, none⟩) N N, .slice (some ⟨gI, 0, none⟩) N N], .int .i64 n] w fun e w' => ∃ c : Int, e = .returned (.int .i64 c) ∧ c ≤ 1024 ∧ Below w.heap.size w w' := by
  have hN2 : N ≤ 256 := by omega
  obtain ⟨rn, hrn⟩ : ∃ rn, J[n]? = some rn := ⟨_, List.getElem?_eq_getElem (by rw [h.jl]; exact hnN)⟩
  have Hrn := hid hrn
  have Hjl := hid h.jl
  have hrnn : rn.n ≤ N := (h.rt rn (List.mem_of_getElem? hrn)).few
  have Hrl := hid (h.rt rn (List.mem_of_getElem? hrn)).len
  have hb1 := (Below.refl w.heap.size w).alloc (Nat.le_refl _) (.cells #[.int .i64 v, .slice (some ⟨gB, 0, none⟩) N N, .slice (some ⟨gI, 0, none⟩) N N] 37)
  have HI0 := hid (show Awo w0 w v N gB gI B J (w.alloc (.cells #[.int .i64 v, .slice (some ⟨gB, 0, none⟩) N N, .slice (some ⟨gI, 0, none⟩) N N] 37)) from ⟨h.below hb1, Fb.new w _ _, hb1⟩)
  clear h hrn hb1
  go_enter Tryz.func60, Tryz.ntmps60
  go_upto_region 2 with fail
  generalize w.alloc (.cells #[.int .i64 v, .slice (some ⟨gB, 0, none⟩) N N, .slice (some ⟨gI, 0, none⟩) N N] 37) = w1 at *
  obtain ⟨x0, x1, x2⟩ := HI0.out.ww.three
  go_wp2_with fail
  clear x0 x1 x2
  go_loopw [5, 17] (fun cv tv wr => ∃ (c : Int) (t : Nat), t ≤ N ∧ cv = .int .i64 c ∧ tv = .int .i64 t ∧ -(t : Int) ≤ c ∧ c ≤ t * 40 ∧ Hid (Awo w0 w v N gB gI B J wr)) (fun _ tv _ => N - (intOf tv).toNat)
  case atStart => exact ⟨0, 0, by omega, rfl, rfl, by omega, by omega, HI0⟩
  case round =>
    clear HI0
    obtain ⟨c, t, ht, rfl, rfl, hc0, hc1, HI⟩ := hrel
    by_cases hlt : t < N
    · have n0 : (0 : Int) ≤ t := by omega
      have n1 : (t : Int) < N := by omega
      have n2 : (t : Int).toNat = t := by omega
      obtain ⟨r, hr, hrm⟩ := get_at Hjl.out hlt
      have Hr := hid hr
      have hra := HI.out.ow.rt r hrm
      have hrn2 := hra.few
      have Hm := hid (show (J.map AL.v)[t]? = some (.slice r.A r.n r.c) from by rw [List.getElem?_map, hr]; rfl)
      have m0 := HI.out.ow.cellM Hm.out
      obtain ⟨p, hp⟩ := plc_ex hra.ris n
      have Hp := hid hp
      have hw5 : IntKind.i64.wrap (c + (r.n : Int)) = c + r.n := IntWalk.i64_in _ (by omega)
      have hw6 : IntKind.i64.wrap (c + (r.n : Int) - 1) = c + r.n - 1 := IntWalk.i64_in _ (by omega)
      clear hr hrm hra hp
      go_wp2_with fail
      refine (place2_any w0.heap.size v N r n p wr (HI.out.ow.rt r (List.mem_of_getElem? Hr.out)) hN2 Hp.out).mono ?_
      rintro _ w3 ⟨rfl, hb3⟩
      have HI3 := hid (HI.out.below hb3)
      clear m0 hb3 HI
      generalize fdA r.l p n = fd at *
      cases fd with
      | false =>
        go_wp2_with fail
        go_roundw
        case rel => exact ⟨c + r.n, t + 1, by omega, rfl, by go_num, by omega, by omega, HI3⟩
        case measure => simp [intOf]; omega
      | true =>
        obtain ⟨x0, x1, x2⟩ := HI3.out.ww.three
        have m0 := HI3.out.ow.cellM (k := n) (x := .slice rn.A rn.n rn.c) (by rw [List.getElem?_map, Hrn.out]; rfl)
        have n3 : (0 : Int) ≤ n := by omega
        have n4 : (n : Int) < N := by omega
        have n5 : (n : Int).toNat = n := by omega
        go_wp2_with fail
        clear x0 x1 x2 m0
        go_loopw [5, 41] (fun dv jv wr => ∃ (d : Int) (j : Nat), j ≤ rn.n ∧ dv = .int .i64 d ∧ jv = .int .i64 j ∧ -(t : Int) - 1 ≤ d ∧ d ≤ t * 40 + r.n + j ∧ Hid (Awo w0 w v N gB gI B J wr)) (fun _ jv _ => rn.n - (intOf jv).toNat)
        case atStart => exact ⟨c + r.n - 1, 0, by omega, rfl, rfl, by omega, by omega, HI3⟩
        case round =>
          clear HI3
          obtain ⟨d, j, hj, rfl, rfl, hd0, hd1, HI4⟩ := hrel
          by_cases hjl : j < rn.n
          · have k0 : (0 : Int) ≤ j := by omega
            have k1 : (j : Int) < rn.n := by omega
            have k2 : (j : Int).toNat = j := by omega
            obtain ⟨b, hb, -⟩ := get_at Hrl.out hjl
            obtain ⟨g, hA, hgl, y0, y1, y2, y3, y4, y5⟩ := (HI4.out.ow.rt rn (List.mem_of_getElem? Hrn.out)).later hb
            have hba := (Below.refl wr.heap.size wr).alloc (Nat.le_refl _) (.cells #[.int .i64 b.m, .int .i64 b.f.G.W, .slice b.f.G.A b.f.G.n b.f.G.c, .int .i64 b.f.K.W, .slice b.f.K.A b.f.K.n b.f.K.c, .slice b.f.C b.f.k b.f.q] 33)
            have HI5 := hid (HI4.out.below hba)
            have HAb := hid (Fb.new wr #[.int .i64 b.m, .int .i64 b.f.G.W, .slice b.f.G.A b.f.G.n b.f.G.c, .int .i64 b.f.K.W, .slice b.f.K.A b.f.K.n b.f.K.c, .slice b.f.C b.f.k b.f.q] 33)
            obtain ⟨q, hq⟩ := plc_ex (HI4.out.ow.rt r (List.mem_of_getElem? Hr.out)).ris b.m
            have Hq := hid hq
            have hw7 : IntKind.i64.wrap (d + 1) = d + 1 := IntWalk.i64_in _ (by omega)
            clear HI4 hba hb hq
            rw [hA]
            go_upto_region 12 with fail
            clear y0 y1 y2 y3 y4 y5
            generalize wr.alloc (.cells #[.int .i64 b.m, .int .i64 b.f.G.W, .slice b.f.G.A b.f.G.n b.f.G.c, .int .i64 b.f.K.W, .slice b.f.K.A b.f.K.n b.f.K.c, .slice b.f.C b.f.k b.f.q] 33) = w11 at *
            generalize wr.heap.size = bA at *
            obtain ⟨y0, y1, y2, y3, y4, y5⟩ := HAb.out.six
            go_wp2_with fail
            refine (place2_any w0.heap.size v N r b.m q w11 (HI5.out.ow.rt r (List.mem_of_getElem? Hr.out)) hN2 Hq.out).mono ?_
            rintro _ w12 ⟨rfl, hb12⟩
            have HI6 := hid (HI5.out.below hb12)
            clear y0 y1 y2 y3 y4 y5 hb12 HI5 HAb
            generalize fdA r.l q b.m = fe at *
            cases fe with
            | false =>
              go_wp2_with fail
              go_roundw
              case rel => exact ⟨d + 1, j + 1, by omega, rfl, by go_num, by omega, by omega, HI6⟩
              case measure => simp [intOf]; omega
            | true =>
              go_wp2_with fail
              go_roundw
              case rel => exact ⟨d, j + 1, by omega, rfl, by go_num, by omega, by omega, HI6⟩
              case measure => simp [intOf]; omega
          · have e : j = rn.n := by omega
            subst e
            go_wp2_with fail
            go_roundw
            case rel => exact ⟨d, t + 1, by omega, rfl, by go_num, by omega, by omega, HI4⟩
            case measure => simp [intOf]; omega
    · have e : t = N := by omega
      subst e
      have HFin := hid (show c ≤ 1024 ∧ Below w.heap.size w wr from ⟨by omega, HI.out.bel⟩)
      go_wp2_with fail
      exact bodyPost_ret (v := .int .i64 c) (by simp [results, Tryz.results60, go_sem]) rfl ⟨c, rfl, HFin.out.1, HFin.out.2⟩
end Go.Proofs.YtbjaebbmajhjjaaGreat
namespace Go.Proofs.YtbjaebbmajhjjaaGreat
set_option maxRecDepth 20000
set_option linter.unusedVariables false
set_option linter.unusedSimpArgs false
open Go.ChangeShapes Go.WideShapes Go.ChangeAt Go.RowKit
def zTr : Array Value := #[.int .i64 0, .slice none 0 0, .int .i64 0, .slice none 0 0, .slice none 0 0]
theorem five_set {u : World} {b t : Nat} {x y z x' y' : Value} (h : Fb u b #[x, y, z, x', y'] t) (p q r s m : Value) : Fb (stored5 u b p q r s m) b #[p, q, r, s, m] t := ((((h.set 0 p).set 1 q).set 2 r).set 3 s).set 4 m
theorem five_stp {u : World} {b t : Nat} {cs : Array Value} (h : Fb u b cs t) (p q r s m : Value) : Stp1 t u (stored5 u b p q r s m) :=
  ⟨some b, grown_trans (grown_trans (grown_trans (grown_trans (grown_set u b rfl p) (grown_set _ b rfl q)) (grown_set _ b rfl r)) (grown_set _ b rfl s)) (grown_set _ b rfl m), fun g e => by obtain rfl := Option.some.inj e; exact h.typ⟩
theorem putF_v {u : World} {g o v : Nat} {f : FH} (h1 : f.G.W = v) (h2 : f.K.W = v) : putF u g o f = ((((u.setCell ⟨g, o, none⟩ (.int .i64 v)).setCell ⟨g, o + 1, none⟩ (.slice f.G.A f.G.n f.G.c)).setCell ⟨g, o + 2, none⟩ (.int .i64 v)).setCell ⟨g, o + 3, none⟩ (.slice f.K.A f.K.n f.K.c)).setCell ⟨g, o + 4, none⟩ (.slice f.C f.k f.q) := by
  unfold putF; rw [h1, h2]
structure JB (w : World) (v N gB gI : Nat) (a : AH) (r : AL) (WEB : Array Value) (u : World) : Prop where
  ww : Fb u w.heap.size WEB 37
  aa : Fb u (w.heap.size + 1) #[.int .i64 a.m, .int .i64 a.f.G.W, .slice a.f.G.A a.f.G.n a.f.G.c, .int .i64 a.f.K.W, .slice a.f.K.A a.f.K.n a.f.K.c, .slice a.f.C a.f.k a.f.q] 33
  gx : GrX w [some gB, some gI, r.v.ownBlock] u
  fw : FWt u v a.f
section
variable {w u u' : World} {v N gB gI : Nat} {a : AH} {r : AL} {WEB : Array Value}
theorem JB.below (h : JB w v N gB gI a r WEB u) (hb : Below u.heap.size u u') : JB w v N gB gI a r WEB u' := ⟨h.ww.below hb h.ww.lt, h.aa.below hb h.aa.lt, h.gx.below hb, h.fw.below hb⟩
theorem JB.row {w0 : World} {B : List ZH} {M : List Value} {J : List AL} {t : Nat} (h : JB w v N gB gI a r WEB u) (hg : u.grownBy u' r.v.ownBlock) (hr : ∀ g, r.v.ownBlock = some g → g < w.heap.size) (ho : Ow w0 v N gB gI B M J u) (ht : J[t]? = some r) : JB w v N gB gI a r WEB u' := by
  have hs : Stp1 33 u u' := ⟨_, hg, fun k e => own_typ (ho.rt r (List.mem_of_getElem? ht)).own e⟩
  exact ⟨h.ww.grown hg (fun e => by have := hr _ e.symm; omega), h.aa.grown hg (fun e => by have := hr _ e.symm; omega), h.gx.step hg (fun g e => .inl (by simp)), h.fw.stp hs (by decide) (by decide)⟩
theorem JB.put {cs : Array Value} (h : JB w v N gB gI a r WEB u) (hf : Fb u gI cs 34) (k : Nat) (x : Value) : JB w v N gB gI a r WEB (u.setCell ⟨gI, k, none⟩ x) := by
  have hs := stp_cell hf k x
  exact ⟨hs.fb h.ww (by decide), hs.fb h.aa (by decide), h.gx.step (setCell_grown u ⟨gI, k, none⟩ x) (fun g e => .inl (by simp)), h.fw.stp hs (by decide) (by decide)⟩
theorem JB.stp5 {bT : Nat} {cs : Array Value} (h : JB w v N gB gI a r WEB u) (hf : Fb u bT cs 30) (hge : w.heap.size ≤ bT) (h1 : bT ≠ w.heap.size) (h2 : bT ≠ w.heap.size + 1) (p q x y z : Value) : JB w v N gB gI a r WEB (stored5 u bT p q x y z) := by
  have hs := five_stp hf p q x y z
  have hg : u.grownBy (stored5 u bT p q x y z) (some bT) := grown_trans (grown_trans (grown_trans (grown_trans (grown_set u bT rfl p) (grown_set _ bT rfl q)) (grown_set _ bT rfl x)) (grown_set _ bT rfl y)) (grown_set _ bT rfl z)
  exact ⟨hs.fb h.ww (by decide), hs.fb h.aa (by decide), h.gx.step hg (fun g e => by obtain rfl := Option.some.inj e; exact .inr hge), h.fw.stp hs (by decide) (by decide)⟩
end
def j3R (r : AL) (j : Nat) (u u' : World) : Prop := if j = 11 then u.grownBy u' r.v.ownBlock else if j = 13 then Stp1 34 u u' else Below u.heap.size u u'
theorem j3R_of {r : AL} {j : Nat} {u u' : World} (h : Below u.heap.size u u') (h1 : j ≠ 11) (h2 : j ≠ 13) : j3R r j u u' := by unfold j3R; rw [if_neg h1, if_neg h2]; exact h
theorem j3R_bel {r : AL} {j : Nat} {u u' : World} (h : j3R r j u u') (h1 : j ≠ 11) (h2 : j ≠ 13) : Below u.heap.size u u' := by unfold j3R at h; rwa [if_neg h1, if_neg h2] at h
theorem j3R_row {r : AL} {u u' : World} (h : u.grownBy u' r.v.ownBlock) : j3R r 11 u u' := by unfold j3R; rw [if_pos rfl]; exact h
theorem j3R_w {r : AL} {u u' : World} (h : Stp1 34 u u') : j3R r 13 u u' := by unfold j3R; rw [if_neg (by decide), if_pos rfl]; exact h
theorem j3R_keep {r : AL} {j : Nat} {u u' : World} (h : j3R r j u u') (h1 : j ≠ 11) {g : Nat} {cs : Array Value} (hf : Fb u g cs 33) : Fb u' g cs 33 := by
  unfold j3R at h
  rw [if_neg h1] at h
  split at h
  · exact h.fb hf (by decide)
  · exact hf.below h hf.lt
def j3F (w0 w : World) (v N gB gI t p : Nat) (a : AH) (r : AL) (B : List ZH) (J : List AL) : Nat → (Nat → Value) → World → Prop
  | 0, f, u => f 0 = .pointer (some ⟨w.heap.size, 2, none⟩)
  | 1, f, u => f 1 = .slice (some ⟨gI, 0, none⟩) N N
  | 2, f, u => f 2 = .int .i64 (t : Int)
  | 3, f, u => f 3 = .pointer (some ⟨w.heap.size, 2, none⟩)
  | 4, f, u => f 4 = .slice (some ⟨gI, 0, none⟩) N N
  | 5, f, u => f 5 = .int .i64 (t : Int)
  | 6, f, u => f 6 = .pointer (some ⟨gI, t, none⟩)
  | 7, f, u => f 7 = .slice r.A r.n r.c
  | 8, f, u => f 8 = .int .i64 (p : Int)
  | 9, f, u => f 9 = .agg #[.int .i64 a.m, .int .i64 a.f.G.W, .slice a.f.G.A a.f.G.n a.f.G.c, .int .i64 a.f.K.W, .slice a.f.K.A a.f.K.n a.f.K.c, .slice a.f.C a.f.k a.f.q]
  | 10, f, u => ∃ g0, f 10 = .slice (some ⟨g0, 0, none⟩) 1 1 ∧ Fb u g0 a.cells.toArray 33 ∧ r.v.ownBlock ≠ some g0
  | 11, f, u => ∃ r' : AL, f 11 = r'.v ∧ Ow w0 v N gB gI B (J.map AL.v) (J.set t r') u ∧ JoinP v r.l a r'.l ∧ ∀ g, r'.v.ownBlock = some g → r.v.ownBlock = some g ∨ w.heap.size ≤ g
  | 12, f, u => f 12 = .pointer (some ⟨gI, t, none⟩)
  | 13, f, u => ∃ r' : AL, Ow w0 v N gB gI B ((J.set t r').map AL.v) (J.set t r') u ∧ JoinP v r.l a r'.l ∧ ∀ g, r'.v.ownBlock = some g → r.v.ownBlock = some g ∨ w.heap.size ≤ g
  | _, _, _ => True
def j3U : Nat → Option Nat
  | 10 => some 11
  | 11 => some 13
  | _ => none
theorem j3F_st {w0 w : World} {v N gB gI t p : Nat} {a : AH} {r : AL} {B : List ZH} {J : List AL} {ops : Array Oper} (hq13 : ∀ j, (reachL ops 5 13).contains j = false → j ≠ 11)  (jx : Nat) (vx : Value) (u u' : World) (ix : Nat) (f : Nat → Value) (hR : j3R r jx u u') (hne : ix ≠ jx) (hu : j3U ix ≠ some jx) (hc : (reachL ops 5 ix).contains jx = false) (h : j3F w0 w v N gB gI t p a r B J ix f u) : j3F w0 w v N gB gI t p a r B J ix (updV f jx vx) u' := by
  match ix, hne, hu, hc, h with
  | 0, hne, hu, hc, h => exact (updV_ne f vx hne).trans h
  | 1, hne, hu, hc, h => exact (updV_ne f vx hne).trans h
  | 2, hne, hu, hc, h => exact (updV_ne f vx hne).trans h
  | 3, hne, hu, hc, h => exact (updV_ne f vx hne).trans h
  | 4, hne, hu, hc, h => exact (updV_ne f vx hne).trans h
  | 5, hne, hu, hc, h => exact (updV_ne f vx hne).trans h
  | 6, hne, hu, hc, h => exact (updV_ne f vx hne).trans h
  | 7, hne, hu, hc, h => exact (updV_ne f vx hne).trans h
  | 8, hne, hu, hc, h => exact (updV_ne f vx hne).trans h
  | 9, hne, hu, hc, h => exact (updV_ne f vx hne).trans h
  | 10, hne, hu, hc, h => obtain ⟨g, h1, h2, h3⟩ := h; have h11 : jx ≠ 11 := fun e => hu (by rw [e]; rfl); exact ⟨g, (updV_ne f vx hne).trans h1, j3R_keep hR h11 h2, h3⟩
  | 11, hne, hu, hc, h => obtain ⟨r', h1, h2, h3⟩ := h; have h13 : jx ≠ 13 := fun e => hu (by rw [e]; rfl); exact ⟨r', (updV_ne f vx hne).trans h1, h2.below (j3R_bel hR (fun e => hne e.symm) h13), h3⟩
  | 12, hne, hu, hc, h => exact (updV_ne f vx hne).trans h
  | 13, hne, hu, hc, h => obtain ⟨r', h1, h2⟩ := h; have h11 : jx ≠ 11 := hq13 jx hc; exact ⟨r', h1.below (j3R_bel hR h11 (fun e => hne e.symm)), h2⟩
  | ix + 14, _, _, _, _ => trivial
def j5R (j : Nat) (u u' : World) : Prop := if j = 16 then Stp1 30 u u' else Below u.heap.size u u'
theorem j5R_stp {j : Nat} {u u' : World} (h : j5R j u u') : Stp1 30 u u' := by
  unfold j5R at h
  split at h
  · exact h
  · exact Stp1.below h
theorem j5R_bel {j : Nat} {u u' : World} (h : j5R j u u') (hj : j ≠ 16) : Below u.heap.size u u' := by
  unfold j5R at h
  rwa [if_neg hj] at h
theorem j5R_of {j : Nat} {u u' : World} (h : Below u.heap.size u u') (hj : j ≠ 16) : j5R j u u' := by
  unfold j5R; rwa [if_neg hj]
theorem j5R_refl (j : Nat) (u : World) (hj : j ≠ 16) : j5R j u u := j5R_of (Below.refl _ _) hj
theorem j5R_w {u u' : World} (h : Stp1 30 u u') : j5R 16 u u' := by unfold j5R; rw [if_pos rfl]; exact h
def j5F (w : World) (v N gB gI t p gr : Nat) (a b : AH) (r : AL) : Nat → (Nat → Value) → World → Prop
  | 0, f, u => f 0 = .pointer (some ⟨w.heap.size, 2, none⟩)
  | 1, f, u => f 1 = .slice (some ⟨gI, 0, none⟩) N N
  | 2, f, u => f 2 = .int .i64 (t : Int)
  | 3, f, u => f 3 = .pointer (some ⟨gI, t, none⟩)
  | 4, f, u => f 4 = .slice (some ⟨gr, 0, none⟩) r.n r.c
  | 5, f, u => f 5 = .int .i64 (p : Int)
  | 6, f, u => f 6 = .pointer (some ⟨gr, p * 6, none⟩)
  | 7, f, u => f 7 = .pointer (some ⟨gr, p * 6 + 1, none⟩)
  | 8, f, u => f 8 = .agg #[.int .i64 b.f.G.W, .slice b.f.G.A b.f.G.n b.f.G.c, .int .i64 b.f.K.W, .slice b.f.K.A b.f.K.n b.f.K.c, .slice b.f.C b.f.k b.f.q]
  | 9, f, u => f 9 = .pointer (some ⟨w.heap.size + 1, 1, none⟩)
  | 10, f, u => f 10 = .agg #[.int .i64 a.f.G.W, .slice a.f.G.A a.f.G.n a.f.G.c, .int .i64 a.f.K.W, .slice a.f.K.A a.f.K.n a.f.K.c, .slice a.f.C a.f.k a.f.q]
  | 11, f, u => ∃ f' : FH, f 11 = .tuple #[.agg #[.int .i64 v, .slice f'.G.A f'.G.n f'.G.c, .int .i64 v, .slice f'.K.A f'.K.n f'.K.c, .slice f'.C f'.k f'.q], .int .i64 0] ∧ f'.G.W = v ∧ f'.K.W = v ∧ FWt u v f' ∧ ∀ ss, f'.pf.vl v ss = orR v (b.f.pf.vl v ss) (a.f.pf.vl v ss)
  | 12, f, u => ∃ f' : FH, f 12 = .tuple #[.agg #[.int .i64 v, .slice f'.G.A f'.G.n f'.G.c, .int .i64 v, .slice f'.K.A f'.K.n f'.K.c, .slice f'.C f'.k f'.q], .int .i64 0] ∧ f'.G.W = v ∧ f'.K.W = v ∧ FWt u v f' ∧ ∀ ss, f'.pf.vl v ss = orR v (b.f.pf.vl v ss) (a.f.pf.vl v ss)
  | 13, f, u => ∃ f' : FH, f 13 = .agg #[.int .i64 v, .slice f'.G.A f'.G.n f'.G.c, .int .i64 v, .slice f'.K.A f'.K.n f'.K.c, .slice f'.C f'.k f'.q] ∧ f'.G.W = v ∧ f'.K.W = v ∧ FWt u v f' ∧ ∀ ss, f'.pf.vl v ss = orR v (b.f.pf.vl v ss) (a.f.pf.vl v ss)
  | 14, f, u => f 14 = .int .i64 0
  | 15, f, u => ∃ bT, f 15 = .pointer (some ⟨bT, 0, none⟩) ∧ Fb u bT zTr 30 ∧ w.heap.size + 1 < bT
  | 16, f, u => ∃ (bT : Nat) (f' : FH), f 15 = .pointer (some ⟨bT, 0, none⟩) ∧ Fb u bT #[.int .i64 v, .slice f'.G.A f'.G.n f'.G.c, .int .i64 v, .slice f'.K.A f'.K.n f'.K.c, .slice f'.C f'.k f'.q] 30 ∧ w.heap.size + 1 < bT ∧ f'.G.W = v ∧ f'.K.W = v ∧ FWt u v f' ∧ ∀ ss, f'.pf.vl v ss = orR v (b.f.pf.vl v ss) (a.f.pf.vl v ss)
  | 17, f, u => f 17 = .int .i64 0
  | _, _, _ => True
def j5U : Nat → Option Nat
  | 15 => some 16
  | _ => none
theorem j5F_st {w : World} {v N gB gI t p gr : Nat} {a b : AH} {r : AL} {ops : Array Oper} (hq16 : ∀ j, (reachL ops 5 16).contains j = false → j ≠ 15)  (jx : Nat) (vx : Value) (u u' : World) (ix : Nat) (f : Nat → Value) (hR : j5R  jx u u') (hne : ix ≠ jx) (hu : j5U ix ≠ some jx) (hc : (reachL ops 5 ix).contains jx = false) (h : j5F w v N gB gI t p gr a b r ix f u) : j5F w v N gB gI t p gr a b r ix (updV f jx vx) u' := by
  match ix, hne, hu, hc, h with
  | 0, hne, hu, hc, h => exact (updV_ne f vx hne).trans h
  | 1, hne, hu, hc, h => exact (updV_ne f vx hne).trans h
  | 2, hne, hu, hc, h => exact (updV_ne f vx hne).trans h
  | 3, hne, hu, hc, h => exact (updV_ne f vx hne).trans h
  | 4, hne, hu, hc, h => exact (updV_ne f vx hne).trans h
  | 5, hne, hu, hc, h => exact (updV_ne f vx hne).trans h
  | 6, hne, hu, hc, h => exact (updV_ne f vx hne).trans h
  | 7, hne, hu, hc, h => exact (updV_ne f vx hne).trans h
  | 8, hne, hu, hc, h => exact (updV_ne f vx hne).trans h
  | 9, hne, hu, hc, h => exact (updV_ne f vx hne).trans h
  | 10, hne, hu, hc, h => exact (updV_ne f vx hne).trans h
  | 11, hne, hu, hc, h => obtain ⟨f', h1, h2, h3, h4, h5⟩ := h; exact ⟨f', (updV_ne f vx hne).trans h1, h2, h3, h4.stp (j5R_stp hR) (by decide) (by decide), h5⟩
  | 12, hne, hu, hc, h => obtain ⟨f', h1, h2, h3, h4, h5⟩ := h; exact ⟨f', (updV_ne f vx hne).trans h1, h2, h3, h4.stp (j5R_stp hR) (by decide) (by decide), h5⟩
  | 13, hne, hu, hc, h => obtain ⟨f', h1, h2, h3, h4, h5⟩ := h; exact ⟨f', (updV_ne f vx hne).trans h1, h2, h3, h4.stp (j5R_stp hR) (by decide) (by decide), h5⟩
  | 14, hne, hu, hc, h => exact (updV_ne f vx hne).trans h
  | 15, hne, hu, hc, h => obtain ⟨g, h1, h2, h3⟩ := h; have hb := j5R_bel hR (fun e => hu (by rw [e]; rfl)); exact ⟨g, (updV_ne f vx hne).trans h1, h2.below hb h2.lt, h3⟩
  | 16, hne, hu, hc, h => obtain ⟨bT, f', h1, h2, h3, h4, h5, h6, h7⟩ := h; have hb := j5R_bel hR (fun e => hne e.symm); exact ⟨bT, f', (updV_ne f vx (fun e => hq16 jx hc e.symm)).trans h1, h2.below hb h2.lt, h3, h4, h5, h6.below hb, h7⟩
  | 17, hne, hu, hc, h => exact (updV_ne f vx hne).trans h
  | ix + 18, _, _, _, _ => trivial
def j6R (j : Nat) (u u' : World) : Prop := if j = 9 then Stp1 33 u u' else Below u.heap.size u u'
theorem j6R_bel {j : Nat} {u u' : World} (h : j6R j u u') (hj : j ≠ 9) : Below u.heap.size u u' := by
  unfold j6R at h
  rwa [if_neg hj] at h
theorem j6R_of {j : Nat} {u u' : World} (h : Below u.heap.size u u') (hj : j ≠ 9) : j6R j u u' := by
  unfold j6R; rwa [if_neg hj]
theorem j6R_refl (j : Nat) (u : World) (hj : j ≠ 9) : j6R j u u := j6R_of (Below.refl _ _) hj
theorem j6R_w {u u' : World} (h : Stp1 33 u u') : j6R 9 u u' := by unfold j6R; rw [if_pos rfl]; exact h
def j6F (w0 w : World) (v N gB gI t p gr bT : Nat) (a b : AH) (r : AL) (f' : FH) (B : List ZH) (J : List AL) : Nat → (Nat → Value) → World → Prop
  | 0, f, u => f 0 = .pointer (some ⟨w.heap.size, 2, none⟩)
  | 1, f, u => f 1 = .slice (some ⟨gI, 0, none⟩) N N
  | 2, f, u => f 2 = .int .i64 (t : Int)
  | 3, f, u => f 3 = .pointer (some ⟨gI, t, none⟩)
  | 4, f, u => f 4 = .slice (some ⟨gr, 0, none⟩) r.n r.c
  | 5, f, u => f 5 = .int .i64 (p : Int)
  | 6, f, u => f 6 = .agg #[.int .i64 v, .slice f'.G.A f'.G.n f'.G.c, .int .i64 v, .slice f'.K.A f'.K.n f'.K.c, .slice f'.C f'.k f'.q]
  | 7, f, u => f 7 = .pointer (some ⟨gr, p * 6, none⟩)
  | 8, f, u => f 8 = .pointer (some ⟨gr, p * 6 + 1, none⟩)
  | 9, f, u => Ow w0 v N gB gI B ((J.set t ⟨r.A, r.n, r.c, r.l.set p (arcSet b f')⟩).map AL.v) (J.set t ⟨r.A, r.n, r.c, r.l.set p (arcSet b f')⟩) u
  | _, _, _ => True
def j6U : Nat → Option Nat
  | _ => none
theorem j6F_st {w0 w : World} {v N gB gI t p gr bT : Nat} {a b : AH} {r : AL} {f' : FH} {B : List ZH} {J : List AL} {ops : Array Oper}  (jx : Nat) (vx : Value) (u u' : World) (ix : Nat) (f : Nat → Value) (hR : j6R  jx u u') (hne : ix ≠ jx) (hu : j6U ix ≠ some jx) (hc : (reachL ops 5 ix).contains jx = false) (h : j6F w0 w v N gB gI t p gr bT a b r f' B J ix f u) : j6F w0 w v N gB gI t p gr bT a b r f' B J ix (updV f jx vx) u' := by
  match ix, hne, hu, hc, h with
  | 0, hne, hu, hc, h => exact (updV_ne f vx hne).trans h
  | 1, hne, hu, hc, h => exact (updV_ne f vx hne).trans h
  | 2, hne, hu, hc, h => exact (updV_ne f vx hne).trans h
  | 3, hne, hu, hc, h => exact (updV_ne f vx hne).trans h
  | 4, hne, hu, hc, h => exact (updV_ne f vx hne).trans h
  | 5, hne, hu, hc, h => exact (updV_ne f vx hne).trans h
  | 6, hne, hu, hc, h => exact (updV_ne f vx hne).trans h
  | 7, hne, hu, hc, h => exact (updV_ne f vx hne).trans h
  | 8, hne, hu, hc, h => exact (updV_ne f vx hne).trans h
  | 9, hne, hu, hc, h => exact (show Ow w0 v N gB gI B ((J.set t ⟨r.A, r.n, r.c, r.l.set p (arcSet b f')⟩).map AL.v) (J.set t ⟨r.A, r.n, r.c, r.l.set p (arcSet b f')⟩) u from h).below (j6R_bel hR (fun e => hne e.symm))
  | ix + 10, _, _, _, _ => trivial
set_option maxHeartbeats 12800000 in
theorem join_arc (w0 : World) (v N gB gI t : Nat) (B : List ZH) (J : List AL) (r : AL) (a : AH) (w : World) (h : Ow w0 v N gB gI B (J.map AL.v) J w) (hv : v ≤ 8) (hN : N ≤ 256) (hr : J[t]? = some r) (ha : FWt w v a.f) (hm : 0 ≤ a.m ∧ a.m < (N : Int)) :
    Calls Tryz.prog 96 #[.agg #[.int .i64 v, .slice (some ⟨gB, 0, none⟩) N N, .slice (some ⟨gI, 0, none⟩) N N], .int .i64 t, a.a] w (RetRw w0 v N gB gI t B J r (JoinP v r.l a) w) := by
  have ht : t < N := by rw [← h.jl]; exact (List.getElem?_eq_some_iff.1 hr).1
  have Ht := hid hr
  have hra := h.rt r (List.mem_of_getElem? hr)
  have hgI := hid (show gI < w.heap.size from h.fi.lt)
  have hrb := hid (show ∀ g, r.v.ownBlock = some g → g < w.heap.size from fun g e => (hra.own.lt g e).2)
  obtain ⟨p, hp⟩ := plc_ex hra.ris a.m
  have Hp := hid hp
  have Hm := hid (show (J.map AL.v)[t]? = some (.slice r.A r.n r.c) from by rw [List.getElem?_map, hr]; rfl)
  have hb1 := (Below.refl w.heap.size w).alloc (Nat.le_refl _) (.cells #[.int .i64 v, .slice (some ⟨gB, 0, none⟩) N N, .slice (some ⟨gI, 0, none⟩) N N] 37)
  have hb2 := hb1.alloc hb1.size (.cells #[.int .i64 a.m, .int .i64 a.f.G.W, .slice a.f.G.A a.f.G.n a.f.G.c, .int .i64 a.f.K.W, .slice a.f.K.A a.f.K.n a.f.K.c, .slice a.f.C a.f.k a.f.q] 33)
  have HOw2 := hid (h.below hb2)
  have HB2 := hid (show JB w v N gB gI a r #[.int .i64 v, .slice (some ⟨gB, 0, none⟩) N N, .slice (some ⟨gI, 0, none⟩) N N] ((w.alloc (.cells #[.int .i64 v, .slice (some ⟨gB, 0, none⟩) N N, .slice (some ⟨gI, 0, none⟩) N N] 37)).alloc (.cells #[.int .i64 a.m, .int .i64 a.f.G.W, .slice a.f.G.A a.f.G.n a.f.G.c, .int .i64 a.f.K.W, .slice a.f.K.A a.f.K.n a.f.K.c, .slice a.f.C a.f.k a.f.q] 33)) from by
    have f1 := Fb.new w #[.int .i64 v, .slice (some ⟨gB, 0, none⟩) N N, .slice (some ⟨gI, 0, none⟩) N N] 37
    have f2 := Fb.new (w.alloc (.cells #[.int .i64 v, .slice (some ⟨gB, 0, none⟩) N N, .slice (some ⟨gI, 0, none⟩) N N] 37)) #[.int .i64 a.m, .int .i64 a.f.G.W, .slice a.f.G.A a.f.G.n a.f.G.c, .int .i64 a.f.K.W, .slice a.f.K.A a.f.K.n a.f.K.c, .slice a.f.C a.f.k a.f.q] 33
    exact ⟨f1.below ((Below.refl _ _).alloc (Nat.le_refl _) _) f1.lt, by simpa using f2, (GrX.refl w _).below hb2, ha.below hb2⟩)
  clear h hr hra hp ha hb1 hb2
  unfold AH.a
  go_enter Tryz.func96, Tryz.ntmps96
  go_wp2_with fail
  generalize (w.alloc (.cells #[.int .i64 v, .slice (some ⟨gB, 0, none⟩) N N, .slice (some ⟨gI, 0, none⟩) N N] 37)).alloc (.cells #[.int .i64 a.m, .int .i64 a.f.G.W, .slice a.f.G.A a.f.G.n a.f.G.c, .int .i64 a.f.K.W, .slice a.f.K.A a.f.K.n a.f.K.c, .slice a.f.C a.f.k a.f.q] 33) = w2 at *
  have n0 : (0 : Int) ≤ t := by omega
  have n1 : (t : Int) < N := by omega
  have n2 : (t : Int).toNat = t := by omega
  obtain ⟨x0, x1, x2⟩ := HB2.out.ww.three
  obtain ⟨y0, y1, y2, y3, y4, y5⟩ := HB2.out.aa.six
  have m0 := HOw2.out.cellM Hm.out
  have q0 : w.heap.size < w2.heap.size := HB2.out.ww.lt
  have q1 : w.heap.size + 1 < w2.heap.size := HB2.out.aa.lt
  have q2 : gI < w2.heap.size := HOw2.out.fi.lt
  have l2 := Later.cell (show (⟨w.heap.size, 2, none⟩ : Addr).block < w2.heap.size from q0) x2
  have l3 := Later.cell (show (⟨w.heap.size + 1, 0, none⟩ : Addr).block < w2.heap.size from q1) y0
  have l4 := Later.cell (show (⟨gI, t, none⟩ : Addr).block < w2.heap.size from q2) m0
  have HC := hid (fun (p2 : Later w2) => place2_any w0.heap.size v N r a.m p p2.wd ((HOw2.out.below p2.keeps).rt r (List.mem_of_getElem? Ht.out)) hN Hp.out)
  clear x0 x1 x2 y0 y1 y2 y3 y4 y5 m0
  refine wp_region_below (by kernel_rfl) (by kernel_rfl) ?_
  repeat (go_big_quiet_step ((go_at_call 90; exact Later.call (HC.out _))))
  refine wpQuiet_nil ?_
  rintro _ ⟨pq, rfl⟩
  have HOw := hid (HOw2.out.below pq.keeps)
  have HB5 := hid (HB2.out.below pq.keeps)
  generalize pq.wd = w5 at *
  clear pq l2 l3 l4 q0 q1 q2 HC HOw2 HB2 n0 n1 n2
  generalize hf : fdA r.l p a.m = fd at *
  cases fd with
  | false =>
    have Hf := hid hf
    clear hf
    go_upto_region 3 with fail
    rename_i Kx hKx
    refine wp_region_factsI (fun j u => (j = 7 ∨ j = 11) → Ow w0 v N gB gI B (J.map AL.v) J u) (j3F w0 w v N gB gI t p a r B J) (fun u => JB w v N gB gI a r (#[.int .i64 v, .slice (some ⟨gB, 0, none⟩) N N, .slice (some ⟨gI, 0, none⟩) N N]) u) j3U (j3R r) Kx (fun _ _ h => h) 14 14 (some 24 :: some 25 :: some 26 :: some 27 :: some 28 :: some 29 :: some 30 :: some 31 :: some 32 :: some 33 :: some 34 :: some 35 :: some 36 :: none :: []) (by kernel_rfl) (by kernel_rfl) (by kernel_rfl) (by kernel_rfl) (by kernel_rfl) (by kernel_rfl) (by decide)
      (j3F_st (fun j h e => by subst e; exact Bool.false_ne_true (h.symm.trans (by kernel_rfl)))) ?bs ?gb ?gs ?ar ?en
    case bs => exact HB5.out.below (Below.refl _ _).drew
    case gb =>
      exact fun c _ => HOw.out.below (Below.refl _ _).drew
    case gs =>
      intro j u u' c hR hne hnr hG hc
      have h11 : j ≠ 11 := by
        rintro rfl
        rcases hc with rfl | rfl
        · exact Bool.false_ne_true (hnr.symm.trans (by kernel_rfl))
        · exact hne rfl
      have h13 : j ≠ 13 := by
        rintro rfl
        rcases hc with rfl | rfl
        · exact Bool.false_ne_true (hnr.symm.trans (by kernel_rfl))
        · exact Bool.false_ne_true (hnr.symm.trans (by kernel_rfl))
      exact (hG hc).below (j3R_bel hR h11 h13)
    case ar =>
      intro j o f u ho hi hB hG hpre K hK
      match j, ho, hG, hpre, hK with
      | 0, ho, hG, hpre, hK =>
        obtain rfl := Option.some.inj ho
        refine wpOp_step rfl fun K' hK' => ?_
        simp only [putL, updV]
        go_simp
        have hz := hK' _ _ (hK (.pointer (some ⟨w.heap.size, 2, none⟩)) (u) (hB) (j3R_of (Below.refl _ _) (by decide) (by decide)) (rfl))
        refine Eq.mp (congrArg (fun act => K' act (u)) ?_) hz
        kernel_rfl
      | 1, ho, hG, hpre, hK =>
        obtain rfl := Option.some.inj ho
        obtain ⟨x0, x1, x2⟩ := hB.ww.three
        have hl := hB.ww.lt
        have e0 : f 0 = .pointer (some ⟨w.heap.size, 2, none⟩) := hpre ⟨0, .data⟩ (by simp) rfl (.inl rfl)
        obtain ⟨f, rfl⟩ := fixG f 0 _ e0
        clear e0
        refine wpOp_step rfl fun K' hK' => ?_
        simp only [putL, updV]
        go_simp
        have hz := hK' _ _ (hK (.slice (some ⟨gI, 0, none⟩) N N) (u) (hB) (j3R_of (Below.refl _ _) (by decide) (by decide)) (rfl))
        refine Eq.mp (congrArg (fun act => K' act (u)) ?_) hz
        kernel_rfl
      | 2, ho, hG, hpre, hK =>
        obtain rfl := Option.some.inj ho
        refine wpOp_step rfl fun K' hK' => ?_
        simp only [putL, updV]
        go_simp
        have hz := hK' _ _ (hK (.int .i64 (t : Int)) (u) (hB) (j3R_of (Below.refl _ _) (by decide) (by decide)) (rfl))
        refine Eq.mp (congrArg (fun act => K' act (u)) ?_) hz
        kernel_rfl
      | 3, ho, hG, hpre, hK =>
        obtain rfl := Option.some.inj ho
        refine wpOp_step rfl fun K' hK' => ?_
        simp only [putL, updV]
        go_simp
        have hz := hK' _ _ (hK (.pointer (some ⟨w.heap.size, 2, none⟩)) (u) (hB) (j3R_of (Below.refl _ _) (by decide) (by decide)) (rfl))
        refine Eq.mp (congrArg (fun act => K' act (u)) ?_) hz
        kernel_rfl
      | 4, ho, hG, hpre, hK =>
        obtain rfl := Option.some.inj ho
        obtain ⟨x0, x1, x2⟩ := hB.ww.three
        have hl := hB.ww.lt
        have e3 : f 3 = .pointer (some ⟨w.heap.size, 2, none⟩) := hpre ⟨3, .data⟩ (by simp) rfl (.inl rfl)
        obtain ⟨f, rfl⟩ := fixG f 3 _ e3
        clear e3
        refine wpOp_step rfl fun K' hK' => ?_
        simp only [putL, updV]
        go_simp
        have hz := hK' _ _ (hK (.slice (some ⟨gI, 0, none⟩) N N) (u) (hB) (j3R_of (Below.refl _ _) (by decide) (by decide)) (rfl))
        refine Eq.mp (congrArg (fun act => K' act (u)) ?_) hz
        kernel_rfl
      | 5, ho, hG, hpre, hK =>
        obtain rfl := Option.some.inj ho
        refine wpOp_step rfl fun K' hK' => ?_
        simp only [putL, updV]
        go_simp
        have hz := hK' _ _ (hK (.int .i64 (t : Int)) (u) (hB) (j3R_of (Below.refl _ _) (by decide) (by decide)) (rfl))
        refine Eq.mp (congrArg (fun act => K' act (u)) ?_) hz
        kernel_rfl
      | 6, ho, hG, hpre, hK =>
        obtain rfl := Option.some.inj ho
        have k0 : (0 : Int) ≤ t := by omega
        have k1 : (t : Int) < N := by omega
        have k2 : (t : Int).toNat = t := by omega
        have e4 : f 4 = .slice (some ⟨gI, 0, none⟩) N N := hpre ⟨4, .data⟩ (by simp) rfl (.inl rfl)
        have e5 : f 5 = .int .i64 (t : Int) := hpre ⟨5, .data⟩ (by simp) rfl (.inl rfl)
        obtain ⟨f, rfl⟩ := fixG f 4 _ e4
        rw [updV_ne _ _ (by decide)] at e5
        obtain ⟨f, rfl⟩ := fixG f 5 _ e5
        clear e4 e5
        refine wpOp_step rfl fun K' hK' => ?_
        simp only [putL, updV]
        go_simp
        have hz := hK' _ _ (hK (.pointer (some ⟨gI, t, none⟩)) (u) (hB) (j3R_of (Below.refl _ _) (by decide) (by decide)) (rfl))
        refine Eq.mp (congrArg (fun act => K' act (u)) ?_) hz
        kernel_rfl
      | 7, ho, hG, hpre, hK =>
        obtain rfl := Option.some.inj ho
        have y0 := (hG (.inl rfl)).cellM Hm.out
        have hl := (hG (.inl rfl)).fi.lt
        have e6 : f 6 = .pointer (some ⟨gI, t, none⟩) := hpre ⟨6, .data⟩ (by simp) rfl (.inl rfl)
        obtain ⟨f, rfl⟩ := fixG f 6 _ e6
        clear e6
        refine wpOp_step rfl fun K' hK' => ?_
        simp only [putL, updV]
        go_simp
        have hz := hK' _ _ (hK (.slice r.A r.n r.c) (u) (hB) (j3R_of (Below.refl _ _) (by decide) (by decide)) (rfl))
        refine Eq.mp (congrArg (fun act => K' act (u)) ?_) hz
        kernel_rfl
      | 8, ho, hG, hpre, hK =>
        obtain rfl := Option.some.inj ho
        refine wpOp_step rfl fun K' hK' => ?_
        simp only [putL, updV]
        go_simp
        have hz := hK' _ _ (hK (.int .i64 (p : Int)) (u) (hB) (j3R_of (Below.refl _ _) (by decide) (by decide)) (rfl))
        refine Eq.mp (congrArg (fun act => K' act (u)) ?_) hz
        kernel_rfl
      | 9, ho, hG, hpre, hK =>
        obtain rfl := Option.some.inj ho
        obtain ⟨y0, y1, y2, y3, y4, y5⟩ := hB.aa.six
        have hl2 := hB.aa.lt
        refine wpOp_step rfl fun K' hK' => ?_
        simp only [putL, updV]
        go_simp
        have hz := hK' _ _ (hK (.agg #[.int .i64 a.m, .int .i64 a.f.G.W, .slice a.f.G.A a.f.G.n a.f.G.c, .int .i64 a.f.K.W, .slice a.f.K.A a.f.K.n a.f.K.c, .slice a.f.C a.f.k a.f.q]) (u) (hB) (j3R_of (Below.refl _ _) (by decide) (by decide)) (rfl))
        refine Eq.mp (congrArg (fun act => K' act (u)) ?_) hz
        kernel_rfl
      | 10, ho, hG, hpre, hK =>
        obtain rfl := Option.some.inj ho
        have hbl := (Below.refl u.heap.size u).alloc (Nat.le_refl _) (.cells #[.int .i64 a.m, .int .i64 a.f.G.W, .slice a.f.G.A a.f.G.n a.f.G.c, .int .i64 a.f.K.W, .slice a.f.K.A a.f.K.n a.f.K.c, .slice a.f.C a.f.k a.f.q] 33)
        have e9 : f 9 = .agg #[.int .i64 a.m, .int .i64 a.f.G.W, .slice a.f.G.A a.f.G.n a.f.G.c, .int .i64 a.f.K.W, .slice a.f.K.A a.f.K.n a.f.K.c, .slice a.f.C a.f.k a.f.q] := hpre ⟨9, .data⟩ (by simp) rfl (.inl rfl)
        obtain ⟨f, rfl⟩ := fixG f 9 _ e9
        clear e9
        refine wpOp_step rfl fun K' hK' => ?_
        simp only [putL, updV]
        go_simp
        have hz := hK' _ _ (hK (.slice (some ⟨u.heap.size, 0, none⟩) 1 1) (u.alloc (.cells #[.int .i64 a.m, .int .i64 a.f.G.W, .slice a.f.G.A a.f.G.n a.f.G.c, .int .i64 a.f.K.W, .slice a.f.K.A a.f.K.n a.f.K.c, .slice a.f.C a.f.k a.f.q] 33)) (hB.below hbl) (j3R_of hbl (by decide) (by decide)) (⟨_, rfl, Fb.new u _ _, fun e => by have := hrb.out _ e; have := hB.gx.size; omega⟩))
        refine Eq.mp (congrArg (fun act => K' act (u.alloc (.cells #[.int .i64 a.m, .int .i64 a.f.G.W, .slice a.f.G.A a.f.G.n a.f.G.c, .int .i64 a.f.K.W, .slice a.f.K.A a.f.K.n a.f.K.c, .slice a.f.C a.f.k a.f.q] 33))) ?_) hz
        kernel_rfl
      | 11, ho, hG, hpre, hK =>
        obtain rfl := Option.some.inj ho
        have e7 : f 7 = .slice r.A r.n r.c := hpre ⟨7, .data⟩ (by simp) rfl (.inl rfl)
        have e8 : f 8 = .int .i64 (p : Int) := hpre ⟨8, .data⟩ (by simp) rfl (.inl rfl)
        obtain ⟨g0, e10, hx, hne0⟩ : ∃ g0 : Nat, f 10 = .slice (some ⟨g0, 0, none⟩) 1 1 ∧ Fb u g0 a.cells.toArray 33 ∧ r.v.ownBlock ≠ some g0 := hpre ⟨10, .data⟩ (by simp) rfl (.inr rfl)
        obtain ⟨f, rfl⟩ := fixG f 7 _ e7
        rw [updV_ne _ _ (by decide)] at e8
        rw [updV_ne _ _ (by decide)] at e10
        obtain ⟨f, rfl⟩ := fixG f 8 _ e8
        rw [updV_ne _ _ (by decide)] at e10
        obtain ⟨f, rfl⟩ := fixG f 10 _ e10
        clear e7 e8 e10
        refine wpOp_step rfl fun K' hK' => ?_
        simp only [putL, updV]
        go_simp
        go_at_call 124
        have how := hG (.inr rfl)
        have hra := how.rt r (List.mem_of_getElem? Ht.out)
        refine (insertA_any hra hN (Nat.le_of_lt (Nat.lt_of_le_of_lt how.gi how.fi.lt)) Hp.out Hf.out hB.fw hm hx hne0).mono ?_
        rintro e u5 ⟨A', c', rfl, hrow, hgr, hbk⟩
        have how2 := how.row (r' := ⟨A', r.n + 1, c', r.l.insertIdx p a⟩) Ht.out hgr hrow hbk
        have hz := hK' _ _ (hK (.slice A' (r.n + 1) c') (u5) (hB.row hgr hrb.out how Ht.out) (j3R_row hgr) (⟨⟨A', r.n + 1, c', r.l.insertIdx p a⟩, rfl, how2, JoinP.ins Hp.out.le a, fun g e => by rcases hbk g e with h1 | h1; exact .inl h1; exact .inr (Nat.le_trans hB.gx.size h1)⟩))
        refine Eq.mp (congrArg (fun act => K' act (u5)) ?_) hz
        kernel_rfl
      | 12, ho, hG, hpre, hK =>
        obtain rfl := Option.some.inj ho
        have k0 : (0 : Int) ≤ t := by omega
        have k1 : (t : Int) < N := by omega
        have k2 : (t : Int).toNat = t := by omega
        have e1 : f 1 = .slice (some ⟨gI, 0, none⟩) N N := hpre ⟨1, .data⟩ (by simp) rfl (.inl rfl)
        have e2 : f 2 = .int .i64 (t : Int) := hpre ⟨2, .data⟩ (by simp) rfl (.inl rfl)
        obtain ⟨f, rfl⟩ := fixG f 1 _ e1
        rw [updV_ne _ _ (by decide)] at e2
        obtain ⟨f, rfl⟩ := fixG f 2 _ e2
        clear e1 e2
        refine wpOp_step rfl fun K' hK' => ?_
        simp only [putL, updV]
        go_simp
        have hz := hK' _ _ (hK (.pointer (some ⟨gI, t, none⟩)) (u) (hB) (j3R_of (Below.refl _ _) (by decide) (by decide)) (rfl))
        refine Eq.mp (congrArg (fun act => K' act (u)) ?_) hz
        kernel_rfl
      | 13, ho, hG, hpre, hK =>
        obtain rfl := Option.some.inj ho
        have e12 : f 12 = .pointer (some ⟨gI, t, none⟩) := hpre ⟨12, .data⟩ (by simp) rfl (.inl rfl)
        obtain ⟨r', e11, how, hj, hbk⟩ : ∃ r' : AL, f 11 = r'.v ∧ Ow w0 v N gB gI B (J.map AL.v) (J.set t r') u ∧ JoinP v r.l a r'.l ∧ ∀ g, r'.v.ownBlock = some g → r.v.ownBlock = some g ∨ w.heap.size ≤ g := hpre ⟨11, .data⟩ (by simp) rfl (.inr rfl)
        unfold AL.v at e11
        obtain ⟨f, rfl⟩ := fixG f 12 _ e12
        rw [updV_ne _ _ (by decide)] at e11
        obtain ⟨f, rfl⟩ := fixG f 11 _ e11
        clear e12 e11
        have y0 := how.cellM Hm.out
        have f0 := how.fi.frozen t
        have hl := how.fi.lt
        have how2 := how.setM ht (.slice r'.A r'.n r'.c)
        rw [show (J.map AL.v).set t (.slice r'.A r'.n r'.c) = (J.set t r').map AL.v from by rw [List.map_set]; rfl] at how2
        refine wpOp_step rfl fun K' hK' => ?_
        simp only [putL, updV]
        go_simp
        have hz := hK' _ _ (hK (undef) (u.setCell ⟨gI, t, none⟩ (.slice r'.A r'.n r'.c)) (hB.put how.fi t _) (j3R_w (stp_cell how.fi t _)) (⟨r', how2, hj, hbk⟩))
        refine Eq.mp (congrArg (fun act => K' act (u.setCell ⟨gI, t, none⟩ (.slice r'.A r'.n r'.c))) ?_) hz
        kernel_rfl
      | j + 14, ho, hG, hpre, hK => exact absurd hi (by omega)
    case en =>
      intro Q2 hQ2 f u hB hF
      obtain ⟨r', how, hj, hbk⟩ : ∃ r' : AL, Ow w0 v N gB gI B ((J.set t r').map AL.v) (J.set t r') u ∧ JoinP v r.l a r'.l ∧ ∀ g, r'.v.ownBlock = some g → r.v.ownBlock = some g ∨ w.heap.size ≤ g := hF 13 (by decide) rfl
      have HFin := hid (show RetRw w0 v N gB gI t B J r (JoinP v r.l a) w (.returned (.int .i64 0)) u from ⟨r', rfl, how, hj, hB.gx, hbk⟩)
      clear hF
      show wpAny _ _ _ _ 0 (tailArr 14 14) _ _
      refine ⟨by kernel_rfl, hQ2 _ _ (hKx _ _ ?_)⟩
      simp only [putL, updV]
      clear how hj hbk hB HOw HB5
      go_wp2_with fail
      exact bodyPost_ret (v := .int .i64 0) (by simp [results, Tryz.results96, go_sem]) rfl HFin.out
  | true =>
    obtain ⟨b, hb, hbm⟩ := fdA_yes hf
    have Hb := hid hb
    have Hbm := hid hbm
    have Hpl := hid (show p < r.n from by rw [← (HOw.out.rt r (List.mem_of_getElem? Ht.out)).len]; exact (List.getElem?_eq_some_iff.1 hb).1)
    have HFb := hid ((HOw.out.rt r (List.mem_of_getElem? Ht.out)).arcs b (List.mem_of_getElem? hb))
    obtain ⟨gr, hA, -⟩ := (HOw.out.rt r (List.mem_of_getElem? Ht.out)).at hb
    have HA := hid hA
    rw [hA] at Hm
    clear hf hb hbm hA
    go_upto_region 5 with fail
    rename_i Kx hKx
    refine wp_region_factsI (fun _ _ => True) (j5F w v N gB gI t p gr a b r) (fun u => JB w v N gB gI a r (#[.int .i64 v, .slice (some ⟨gB, 0, none⟩) N N, .slice (some ⟨gI, 0, none⟩) N N]) u ∧ FWt u v b.f ∧ Ow w0 v N gB gI B (J.map AL.v) J u) j5U (j5R ) Kx (fun _ _ h => h) 18 18 (some 38 :: some 39 :: some 40 :: some 41 :: some 42 :: some 43 :: some 44 :: some 45 :: some 46 :: some 47 :: some 48 :: some 49 :: some 37 :: some 50 :: some 51 :: some 9 :: none :: some 10 :: []) (by kernel_rfl) (by kernel_rfl) (by kernel_rfl) (by kernel_rfl) (by kernel_rfl) (by kernel_rfl) (by decide)
      (j5F_st (fun j h e => by subst e; exact Bool.false_ne_true (h.symm.trans (by kernel_rfl)))) ?bs ?gb ?gs ?ar ?en
    case bs => exact ⟨HB5.out.below (Below.refl _ _).drew, HFb.out.below (Below.refl _ _).drew, HOw.out.below (Below.refl _ _).drew⟩
    case gb =>
      exact fun c => trivial
    case gs =>
      exact fun _ _ _ _ _ _ _ _ => trivial
    case ar =>
      intro j o f u ho hi hB hG hpre K hK
      match j, ho, hG, hpre, hK with
      | 0, ho, hG, hpre, hK =>
        obtain rfl := Option.some.inj ho
        refine wpOp_step rfl fun K' hK' => ?_
        simp only [putL, updV]
        go_simp
        have hz := hK' _ _ (hK (.pointer (some ⟨w.heap.size, 2, none⟩)) (u) (hB) (j5R_refl _ _ (by decide)) (rfl))
        refine Eq.mp (congrArg (fun act => K' act (u)) ?_) hz
        kernel_rfl
      | 1, ho, hG, hpre, hK =>
        obtain rfl := Option.some.inj ho
        obtain ⟨x0, x1, x2⟩ := hB.1.ww.three
        have hl := hB.1.ww.lt
        have e0 : f 0 = .pointer (some ⟨w.heap.size, 2, none⟩) := hpre ⟨0, .data⟩ (by simp) rfl (.inl rfl)
        obtain ⟨f, rfl⟩ := fixG f 0 _ e0
        clear e0
        refine wpOp_step rfl fun K' hK' => ?_
        simp only [putL, updV]
        go_simp
        have hz := hK' _ _ (hK (.slice (some ⟨gI, 0, none⟩) N N) (u) (hB) (j5R_refl _ _ (by decide)) (rfl))
        refine Eq.mp (congrArg (fun act => K' act (u)) ?_) hz
        kernel_rfl
      | 2, ho, hG, hpre, hK =>
        obtain rfl := Option.some.inj ho
        refine wpOp_step rfl fun K' hK' => ?_
        simp only [putL, updV]
        go_simp
        have hz := hK' _ _ (hK (.int .i64 (t : Int)) (u) (hB) (j5R_refl _ _ (by decide)) (rfl))
        refine Eq.mp (congrArg (fun act => K' act (u)) ?_) hz
        kernel_rfl
      | 3, ho, hG, hpre, hK =>
        obtain rfl := Option.some.inj ho
        have k0 : (0 : Int) ≤ t := by omega
        have k1 : (t : Int) < N := by omega
        have k2 : (t : Int).toNat = t := by omega
        have e1 : f 1 = .slice (some ⟨gI, 0, none⟩) N N := hpre ⟨1, .data⟩ (by simp) rfl (.inl rfl)
        have e2 : f 2 = .int .i64 (t : Int) := hpre ⟨2, .data⟩ (by simp) rfl (.inl rfl)
        obtain ⟨f, rfl⟩ := fixG f 1 _ e1
        rw [updV_ne _ _ (by decide)] at e2
        obtain ⟨f, rfl⟩ := fixG f 2 _ e2
        clear e1 e2
        refine wpOp_step rfl fun K' hK' => ?_
        simp only [putL, updV]
        go_simp
        have hz := hK' _ _ (hK (.pointer (some ⟨gI, t, none⟩)) (u) (hB) (j5R_refl _ _ (by decide)) (rfl))
        refine Eq.mp (congrArg (fun act => K' act (u)) ?_) hz
        kernel_rfl
      | 4, ho, hG, hpre, hK =>
        obtain rfl := Option.some.inj ho
        have y0 := hB.2.2.cellM Hm.out
        have hl := hB.2.2.fi.lt
        have e3 : f 3 = .pointer (some ⟨gI, t, none⟩) := hpre ⟨3, .data⟩ (by simp) rfl (.inl rfl)
        obtain ⟨f, rfl⟩ := fixG f 3 _ e3
        clear e3
        refine wpOp_step rfl fun K' hK' => ?_
        simp only [putL, updV]
        go_simp
        have hz := hK' _ _ (hK (.slice (some ⟨gr, 0, none⟩) r.n r.c) (u) (hB) (j5R_refl _ _ (by decide)) (rfl))
        refine Eq.mp (congrArg (fun act => K' act (u)) ?_) hz
        kernel_rfl
      | 5, ho, hG, hpre, hK =>
        obtain rfl := Option.some.inj ho
        refine wpOp_step rfl fun K' hK' => ?_
        simp only [putL, updV]
        go_simp
        have hz := hK' _ _ (hK (.int .i64 (p : Int)) (u) (hB) (j5R_refl _ _ (by decide)) (rfl))
        refine Eq.mp (congrArg (fun act => K' act (u)) ?_) hz
        kernel_rfl
      | 6, ho, hG, hpre, hK =>
        obtain rfl := Option.some.inj ho
        have k0 : (0 : Int) ≤ p := by omega
        have k1 : (p : Int) < r.n := by have := Hpl.out; omega
        have k2 : (p : Int).toNat = p := by omega
        have e4 : f 4 = .slice (some ⟨gr, 0, none⟩) r.n r.c := hpre ⟨4, .data⟩ (by simp) rfl (.inl rfl)
        have e5 : f 5 = .int .i64 (p : Int) := hpre ⟨5, .data⟩ (by simp) rfl (.inl rfl)
        obtain ⟨f, rfl⟩ := fixG f 4 _ e4
        rw [updV_ne _ _ (by decide)] at e5
        obtain ⟨f, rfl⟩ := fixG f 5 _ e5
        clear e4 e5
        refine wpOp_step rfl fun K' hK' => ?_
        simp only [putL, updV]
        go_simp
        have hz := hK' _ _ (hK (.pointer (some ⟨gr, p * 6, none⟩)) (u) (hB) (j5R_refl _ _ (by decide)) (rfl))
        refine Eq.mp (congrArg (fun act => K' act (u)) ?_) hz
        kernel_rfl
      | 7, ho, hG, hpre, hK =>
        obtain rfl := Option.some.inj ho
        have e6 : f 6 = .pointer (some ⟨gr, p * 6, none⟩) := hpre ⟨6, .data⟩ (by simp) rfl (.inl rfl)
        obtain ⟨f, rfl⟩ := fixG f 6 _ e6
        clear e6
        refine wpOp_step rfl fun K' hK' => ?_
        simp only [putL, updV]
        go_simp
        have hz := hK' _ _ (hK (.pointer (some ⟨gr, p * 6 + 1, none⟩)) (u) (hB) (j5R_refl _ _ (by decide)) (rfl))
        refine Eq.mp (congrArg (fun act => K' act (u)) ?_) hz
        kernel_rfl
      | 8, ho, hG, hpre, hK =>
        obtain rfl := Option.some.inj ho
        obtain ⟨g', hA', hl, y0, y1, y2, y3, y4, y5⟩ := (hB.2.2.rt r (List.mem_of_getElem? Ht.out)).later Hb.out
        rw [HA.out] at hA'
        obtain rfl : gr = g' := by injection hA' with h1; injection h1
        clear hA'
        have e7 : f 7 = .pointer (some ⟨gr, p * 6 + 1, none⟩) := hpre ⟨7, .data⟩ (by simp) rfl (.inl rfl)
        obtain ⟨f, rfl⟩ := fixG f 7 _ e7
        clear e7
        refine wpOp_step rfl fun K' hK' => ?_
        simp only [putL, updV]
        go_simp
        have hz := hK' _ _ (hK (.agg #[.int .i64 b.f.G.W, .slice b.f.G.A b.f.G.n b.f.G.c, .int .i64 b.f.K.W, .slice b.f.K.A b.f.K.n b.f.K.c, .slice b.f.C b.f.k b.f.q]) (u) (hB) (j5R_refl _ _ (by decide)) (rfl))
        refine Eq.mp (congrArg (fun act => K' act (u)) ?_) hz
        kernel_rfl
      | 9, ho, hG, hpre, hK =>
        obtain rfl := Option.some.inj ho
        refine wpOp_step rfl fun K' hK' => ?_
        simp only [putL, updV]
        go_simp
        have hz := hK' _ _ (hK (.pointer (some ⟨w.heap.size + 1, 1, none⟩)) (u) (hB) (j5R_refl _ _ (by decide)) (rfl))
        refine Eq.mp (congrArg (fun act => K' act (u)) ?_) hz
        kernel_rfl
      | 10, ho, hG, hpre, hK =>
        obtain rfl := Option.some.inj ho
        obtain ⟨y0, y1, y2, y3, y4, y5⟩ := hB.1.aa.six
        have hl2 := hB.1.aa.lt
        have e9 : f 9 = .pointer (some ⟨w.heap.size + 1, 1, none⟩) := hpre ⟨9, .data⟩ (by simp) rfl (.inl rfl)
        obtain ⟨f, rfl⟩ := fixG f 9 _ e9
        clear e9
        refine wpOp_step rfl fun K' hK' => ?_
        simp only [putL, updV]
        go_simp
        have hz := hK' _ _ (hK (.agg #[.int .i64 a.f.G.W, .slice a.f.G.A a.f.G.n a.f.G.c, .int .i64 a.f.K.W, .slice a.f.K.A a.f.K.n a.f.K.c, .slice a.f.C a.f.k a.f.q]) (u) (hB) (j5R_refl _ _ (by decide)) (rfl))
        refine Eq.mp (congrArg (fun act => K' act (u)) ?_) hz
        kernel_rfl
      | 11, ho, hG, hpre, hK =>
        obtain rfl := Option.some.inj ho
        have e8 : f 8 = .agg #[.int .i64 b.f.G.W, .slice b.f.G.A b.f.G.n b.f.G.c, .int .i64 b.f.K.W, .slice b.f.K.A b.f.K.n b.f.K.c, .slice b.f.C b.f.k b.f.q] := hpre ⟨8, .data⟩ (by simp) rfl (.inl rfl)
        have e10 : f 10 = .agg #[.int .i64 a.f.G.W, .slice a.f.G.A a.f.G.n a.f.G.c, .int .i64 a.f.K.W, .slice a.f.K.A a.f.K.n a.f.K.c, .slice a.f.C a.f.k a.f.q] := hpre ⟨10, .data⟩ (by simp) rfl (.inl rfl)
        obtain ⟨f, rfl⟩ := fixG f 8 _ e8
        rw [updV_ne _ _ (by decide)] at e10
        obtain ⟨f, rfl⟩ := fixG f 10 _ e10
        clear e8 e10
        refine wpOp_step rfl fun K' hK' => ?_
        simp only [putL, updV]
        go_simp
        go_at_call 125
        have o1 := hB.2.1.okf
        have o2 := hB.1.fw.okf
        obtain ⟨G9, K9, C9, hj1, hj2, hj3⟩ := join_ok hv o1 o2
        have hcon := devJoinT b.f.G.W b.f.K.W b.f.G.A b.f.K.A b.f.C b.f.G.n b.f.G.c b.f.K.n b.f.K.c b.f.k b.f.q b.f.G.ws b.f.K.ws b.f.cs a.f.G.W a.f.K.W a.f.G.A a.f.K.A a.f.C a.f.G.n a.f.G.c a.f.K.n a.f.K.c a.f.k a.f.q a.f.G.ws a.f.K.ws a.f.cs u hB.2.1.t.farg hB.1.fw.t.farg
        have hj0 : joinR b.f.G.W b.f.G.ws b.f.K.W b.f.K.ws b.f.cs a.f.G.W a.f.G.ws a.f.K.W a.f.K.ws a.f.cs = ((v : Int), G9, K9, C9, 0) := by
          rw [hB.2.1.ok.w1, hB.2.1.ok.w2, hB.1.fw.ok.w1, hB.1.fw.ok.w2]; exact hj1
        rw [hj0] at hcon
        refine hcon.mono ?_
        rintro e u5 ⟨A9, n9, c9, B9, m9, d9, Cc9, q9, rfl, h1, h2, h3, hb⟩
        have hfw := FWt.ret hj2.ok h1 h2 h3 (c := c9) (d := d9) (q := q9)
        have hz := hK' _ _ (hK (.tuple #[.agg #[.int .i64 v, .slice A9 n9 c9, .int .i64 v, .slice B9 m9 d9, .slice Cc9 C9.length q9], .int .i64 0]) (u5) (⟨hB.1.below hb, hB.2.1.below hb, hB.2.2.below hb⟩) (j5R_of hb (by decide)) (⟨⟨⟨v, A9, n9, c9, G9⟩, ⟨v, B9, m9, d9, K9⟩, Cc9, C9.length, q9, C9⟩, rfl, rfl, rfl, hfw, hj3⟩))
        refine Eq.mp (congrArg (fun act => K' act (u5)) ?_) hz
        kernel_rfl
      | 12, ho, hG, hpre, hK =>
        obtain rfl := Option.some.inj ho
        obtain ⟨f', e11, hw1, hw2, hfw, hsem⟩ : ∃ f' : FH, f 11 = .tuple #[.agg #[.int .i64 v, .slice f'.G.A f'.G.n f'.G.c, .int .i64 v, .slice f'.K.A f'.K.n f'.K.c, .slice f'.C f'.k f'.q], .int .i64 0] ∧ f'.G.W = v ∧ f'.K.W = v ∧ FWt u v f' ∧ ∀ ss, f'.pf.vl v ss = orR v (b.f.pf.vl v ss) (a.f.pf.vl v ss) := hpre ⟨11, .data⟩ (by simp) rfl (.inl rfl)
        obtain ⟨f, rfl⟩ := fixG f 11 _ e11
        clear e11
        refine wpOp_step rfl fun K' hK' => ?_
        simp only [putL, updV]
        go_simp
        have hz := hK' _ _ (hK (.tuple #[.agg #[.int .i64 v, .slice f'.G.A f'.G.n f'.G.c, .int .i64 v, .slice f'.K.A f'.K.n f'.K.c, .slice f'.C f'.k f'.q], .int .i64 0]) (u) (hB) (j5R_refl _ _ (by decide)) (⟨f', rfl, hw1, hw2, hfw, hsem⟩))
        refine Eq.mp (congrArg (fun act => K' act (u)) ?_) hz
        kernel_rfl
      | 13, ho, hG, hpre, hK =>
        obtain rfl := Option.some.inj ho
        obtain ⟨f', e12, hw1, hw2, hfw, hsem⟩ : ∃ f' : FH, f 12 = .tuple #[.agg #[.int .i64 v, .slice f'.G.A f'.G.n f'.G.c, .int .i64 v, .slice f'.K.A f'.K.n f'.K.c, .slice f'.C f'.k f'.q], .int .i64 0] ∧ f'.G.W = v ∧ f'.K.W = v ∧ FWt u v f' ∧ ∀ ss, f'.pf.vl v ss = orR v (b.f.pf.vl v ss) (a.f.pf.vl v ss) := hpre ⟨12, .data⟩ (by simp) rfl (.inl rfl)
        obtain ⟨f, rfl⟩ := fixG f 12 _ e12
        clear e12
        refine wpOp_step rfl fun K' hK' => ?_
        simp only [putL, updV]
        go_simp
        have hz := hK' _ _ (hK (.agg #[.int .i64 v, .slice f'.G.A f'.G.n f'.G.c, .int .i64 v, .slice f'.K.A f'.K.n f'.K.c, .slice f'.C f'.k f'.q]) (u) (hB) (j5R_refl _ _ (by decide)) (⟨f', rfl, hw1, hw2, hfw, hsem⟩))
        refine Eq.mp (congrArg (fun act => K' act (u)) ?_) hz
        kernel_rfl
      | 14, ho, hG, hpre, hK =>
        obtain rfl := Option.some.inj ho
        obtain ⟨f', e12, hw1, hw2, hfw, hsem⟩ : ∃ f' : FH, f 12 = .tuple #[.agg #[.int .i64 v, .slice f'.G.A f'.G.n f'.G.c, .int .i64 v, .slice f'.K.A f'.K.n f'.K.c, .slice f'.C f'.k f'.q], .int .i64 0] ∧ f'.G.W = v ∧ f'.K.W = v ∧ FWt u v f' ∧ ∀ ss, f'.pf.vl v ss = orR v (b.f.pf.vl v ss) (a.f.pf.vl v ss) := hpre ⟨12, .data⟩ (by simp) rfl (.inl rfl)
        obtain ⟨f, rfl⟩ := fixG f 12 _ e12
        clear e12
        refine wpOp_step rfl fun K' hK' => ?_
        simp only [putL, updV]
        go_simp
        have hz := hK' _ _ (hK (.int .i64 0) (u) (hB) (j5R_refl _ _ (by decide)) (rfl))
        refine Eq.mp (congrArg (fun act => K' act (u)) ?_) hz
        kernel_rfl
      | 15, ho, hG, hpre, hK =>
        obtain rfl := Option.some.inj ho
        have hb := (Below.refl u.heap.size u).alloc (Nat.le_refl _) (.cells zTr 30)
        have hl := hB.1.aa.lt
        refine wpOp_step rfl fun K' hK' => ?_
        simp only [putL, updV]
        go_simp
        have hz := hK' _ _ (hK (.pointer (some ⟨u.heap.size, 0, none⟩)) (u.alloc (.cells zTr 30)) (⟨hB.1.below hb, hB.2.1.below hb, hB.2.2.below hb⟩) (j5R_of hb (by decide)) (⟨_, rfl, Fb.new u _ _, hl⟩))
        refine Eq.mp (congrArg (fun act => K' act (u.alloc (.cells zTr 30))) ?_) hz
        kernel_rfl
      | 16, ho, hG, hpre, hK =>
        obtain rfl := Option.some.inj ho
        obtain ⟨bT, e15, hz, hbt⟩ : ∃ bT : Nat, f 15 = .pointer (some ⟨bT, 0, none⟩) ∧ Fb u bT zTr 30 ∧ w.heap.size + 1 < bT := hpre ⟨15, .data⟩ (by simp) rfl (.inr rfl)
        obtain ⟨f', e13, hw1, hw2, hfw, hsem⟩ : ∃ f' : FH, f 13 = .agg #[.int .i64 v, .slice f'.G.A f'.G.n f'.G.c, .int .i64 v, .slice f'.K.A f'.K.n f'.K.c, .slice f'.C f'.k f'.q] ∧ f'.G.W = v ∧ f'.K.W = v ∧ FWt u v f' ∧ ∀ ss, f'.pf.vl v ss = orR v (b.f.pf.vl v ss) (a.f.pf.vl v ss) := hpre ⟨13, .data⟩ (by simp) rfl (.inl rfl)
        obtain ⟨z0, z1, z2, z3, z4⟩ := hz.five
        have f0 := hz.frozen 0
        have f1 := hz.frozen 1
        have f2 := hz.frozen 2
        have f3 := hz.frozen 3
        have f4 := hz.frozen 4
        have hlz := hz.lt
        have hs := five_stp hz (.int .i64 v) (.slice f'.G.A f'.G.n f'.G.c) (.int .i64 v) (.slice f'.K.A f'.K.n f'.K.c) (.slice f'.C f'.k f'.q)
        have hge : w.heap.size ≤ bT := by omega
        obtain ⟨f, rfl⟩ := fixG f 15 _ e15
        rw [updV_ne _ _ (by decide)] at e13
        obtain ⟨f, rfl⟩ := fixG f 13 _ e13
        clear e15 e13
        refine wpOp_step rfl fun K' hK' => ?_
        simp only [putL, updV]
        go_simp
        have hz := hK' _ _ (hK (undef) (stored5 u bT (.int .i64 v) (.slice f'.G.A f'.G.n f'.G.c) (.int .i64 v) (.slice f'.K.A f'.K.n f'.K.c) (.slice f'.C f'.k f'.q)) (⟨hB.1.stp5 hz hge (by omega) (by omega) _ _ _ _ _, hB.2.1.stp hs (by decide) (by decide), hB.2.2.stp hs (below_stored5 hB.2.2.bel (by have := hB.2.2.gi; have := hgI.out; omega) _ _ _ _ _) (by decide) (by decide) (by decide) (by decide) (by decide)⟩) (j5R_w hs) (⟨bT, f', rfl, five_set hz _ _ _ _ _, hbt, hw1, hw2, hfw.stp hs (by decide) (by decide), hsem⟩))
        refine Eq.mp (congrArg (fun act => K' act (stored5 u bT (.int .i64 v) (.slice f'.G.A f'.G.n f'.G.c) (.int .i64 v) (.slice f'.K.A f'.K.n f'.K.c) (.slice f'.C f'.k f'.q))) ?_) hz
        kernel_rfl
      | 17, ho, hG, hpre, hK =>
        obtain rfl := Option.some.inj ho
        have e14 : f 14 = .int .i64 0 := hpre ⟨14, .data⟩ (by simp) rfl (.inl rfl)
        obtain ⟨f, rfl⟩ := fixG f 14 _ e14
        clear e14
        refine wpOp_step rfl fun K' hK' => ?_
        simp only [putL, updV]
        go_simp
        have hz := hK' _ _ (hK (.int .i64 0) (u) (hB) (j5R_refl _ _ (by decide)) (rfl))
        refine Eq.mp (congrArg (fun act => K' act (u)) ?_) hz
        kernel_rfl
      | j + 18, ho, hG, hpre, hK => exact absurd hi (by omega)
    case en =>
      intro Q2 hQ2 f u hB hF
      obtain ⟨bT, f', e15, hbT, hbt, hw1, hw2, hfw, hsem⟩ : ∃ (bT : Nat) (f' : FH), f 15 = .pointer (some ⟨bT, 0, none⟩) ∧ Fb u bT #[.int .i64 v, .slice f'.G.A f'.G.n f'.G.c, .int .i64 v, .slice f'.K.A f'.K.n f'.K.c, .slice f'.C f'.k f'.q] 30 ∧ w.heap.size + 1 < bT ∧ f'.G.W = v ∧ f'.K.W = v ∧ FWt u v f' ∧ ∀ ss, f'.pf.vl v ss = orR v (b.f.pf.vl v ss) (a.f.pf.vl v ss) := hF 16 (by decide) rfl
      have e17 : f 17 = .int .i64 0 := hF 17 (by decide) rfl
      have HbT := hid hbT
      have Hfw := hid hfw
      have Hsem := hid hsem
      have HB6 := hid hB.1
      have HOw6 := hid hB.2.2
      obtain ⟨f, rfl⟩ := fixG f 15 _ e15
      rw [updV_ne _ _ (by decide)] at e17
      obtain ⟨f, rfl⟩ := fixG f 17 _ e17
      clear e15 e17
      clear hF
      show wpAny _ _ _ _ 0 (tailArr 18 18) _ _
      refine ⟨by kernel_rfl, hQ2 _ _ (hKx _ _ ?_)⟩
      simp only [putL, updV]
      clear hbT hfw hsem hB HB5 HFb HOw
      go_upto_region 6 with fail
      rename_i Kx hKx
      refine wp_region_factsI (fun j u => (j = 4 ∨ j = 9) → Ow w0 v N gB gI B (J.map AL.v) J u ∧ FWt u v f') (j6F w0 w v N gB gI t p gr bT a b r f' B J) (fun u => JB w v N gB gI a r (#[.int .i64 v, .slice (some ⟨gB, 0, none⟩) N N, .slice (some ⟨gI, 0, none⟩) N N]) u ∧ Fb u bT #[.int .i64 v, .slice f'.G.A f'.G.n f'.G.c, .int .i64 v, .slice f'.K.A f'.K.n f'.K.c, .slice f'.C f'.k f'.q] 30) j6U (j6R ) Kx (fun _ _ h => h) 10 10 (some 52 :: some 53 :: some 54 :: some 55 :: some 56 :: some 57 :: some 58 :: some 59 :: some 60 :: none :: []) (by kernel_rfl) (by kernel_rfl) (by kernel_rfl) (by kernel_rfl) (by kernel_rfl) (by kernel_rfl) (by decide)
        (j6F_st) ?bs ?gb ?gs ?ar ?en
      case bs => exact ⟨HB6.out.below (Below.refl _ _).drew, HbT.out.below (Below.refl _ _).drew HbT.out.lt⟩
      case gb =>
        exact fun c _ => ⟨HOw6.out.below (Below.refl _ _).drew, Hfw.out.below (Below.refl _ _).drew⟩
      case gs =>
        intro j u u' c hR hne hnr hG hc
        have h9 : j ≠ 9 := by
          rintro rfl
          rcases hc with rfl | rfl
          · exact Bool.false_ne_true (hnr.symm.trans (by kernel_rfl))
          · exact hne rfl
        obtain ⟨h1, h2⟩ := hG hc
        exact ⟨h1.below (j6R_bel hR h9), h2.below (j6R_bel hR h9)⟩
      case ar =>
        intro j o f u ho hi hB hG hpre K hK
        match j, ho, hG, hpre, hK with
        | 0, ho, hG, hpre, hK =>
          obtain rfl := Option.some.inj ho
          refine wpOp_step rfl fun K' hK' => ?_
          simp only [putL, updV]
          go_simp
          have hz := hK' _ _ (hK (.pointer (some ⟨w.heap.size, 2, none⟩)) (u) (hB) (j6R_refl _ _ (by decide)) (rfl))
          refine Eq.mp (congrArg (fun act => K' act (u)) ?_) hz
          kernel_rfl
        | 1, ho, hG, hpre, hK =>
          obtain rfl := Option.some.inj ho
          obtain ⟨x0, x1, x2⟩ := hB.1.ww.three
          have hl := hB.1.ww.lt
          have e0 : f 0 = .pointer (some ⟨w.heap.size, 2, none⟩) := hpre ⟨0, .data⟩ (by simp) rfl (.inl rfl)
          obtain ⟨f, rfl⟩ := fixG f 0 _ e0
          clear e0
          refine wpOp_step rfl fun K' hK' => ?_
          simp only [putL, updV]
          go_simp
          have hz := hK' _ _ (hK (.slice (some ⟨gI, 0, none⟩) N N) (u) (hB) (j6R_refl _ _ (by decide)) (rfl))
          refine Eq.mp (congrArg (fun act => K' act (u)) ?_) hz
          kernel_rfl
        | 2, ho, hG, hpre, hK =>
          obtain rfl := Option.some.inj ho
          refine wpOp_step rfl fun K' hK' => ?_
          simp only [putL, updV]
          go_simp
          have hz := hK' _ _ (hK (.int .i64 (t : Int)) (u) (hB) (j6R_refl _ _ (by decide)) (rfl))
          refine Eq.mp (congrArg (fun act => K' act (u)) ?_) hz
          kernel_rfl
        | 3, ho, hG, hpre, hK =>
          obtain rfl := Option.some.inj ho
          have k0 : (0 : Int) ≤ t := by omega
          have k1 : (t : Int) < N := by omega
          have k2 : (t : Int).toNat = t := by omega
          have e1 : f 1 = .slice (some ⟨gI, 0, none⟩) N N := hpre ⟨1, .data⟩ (by simp) rfl (.inl rfl)
          have e2 : f 2 = .int .i64 (t : Int) := hpre ⟨2, .data⟩ (by simp) rfl (.inl rfl)
          obtain ⟨f, rfl⟩ := fixG f 1 _ e1
          rw [updV_ne _ _ (by decide)] at e2
          obtain ⟨f, rfl⟩ := fixG f 2 _ e2
          clear e1 e2
          refine wpOp_step rfl fun K' hK' => ?_
          simp only [putL, updV]
          go_simp
          have hz := hK' _ _ (hK (.pointer (some ⟨gI, t, none⟩)) (u) (hB) (j6R_refl _ _ (by decide)) (rfl))
          refine Eq.mp (congrArg (fun act => K' act (u)) ?_) hz
          kernel_rfl
        | 4, ho, hG, hpre, hK =>
          obtain rfl := Option.some.inj ho
          have y0 := (hG (.inl rfl)).1.cellM Hm.out
          have hl := (hG (.inl rfl)).1.fi.lt
          have e3 : f 3 = .pointer (some ⟨gI, t, none⟩) := hpre ⟨3, .data⟩ (by simp) rfl (.inl rfl)
          obtain ⟨f, rfl⟩ := fixG f 3 _ e3
          clear e3
          refine wpOp_step rfl fun K' hK' => ?_
          simp only [putL, updV]
          go_simp
          have hz := hK' _ _ (hK (.slice (some ⟨gr, 0, none⟩) r.n r.c) (u) (hB) (j6R_refl _ _ (by decide)) (rfl))
          refine Eq.mp (congrArg (fun act => K' act (u)) ?_) hz
          kernel_rfl
        | 5, ho, hG, hpre, hK =>
          obtain rfl := Option.some.inj ho
          refine wpOp_step rfl fun K' hK' => ?_
          simp only [putL, updV]
          go_simp
          have hz := hK' _ _ (hK (.int .i64 (p : Int)) (u) (hB) (j6R_refl _ _ (by decide)) (rfl))
          refine Eq.mp (congrArg (fun act => K' act (u)) ?_) hz
          kernel_rfl
        | 6, ho, hG, hpre, hK =>
          obtain rfl := Option.some.inj ho
          obtain ⟨z0, z1, z2, z3, z4⟩ := hB.2.five
          have hl := hB.2.lt
          refine wpOp_step rfl fun K' hK' => ?_
          simp only [putL, updV]
          go_simp
          have hz := hK' _ _ (hK (.agg #[.int .i64 v, .slice f'.G.A f'.G.n f'.G.c, .int .i64 v, .slice f'.K.A f'.K.n f'.K.c, .slice f'.C f'.k f'.q]) (u) (hB) (j6R_refl _ _ (by decide)) (rfl))
          refine Eq.mp (congrArg (fun act => K' act (u)) ?_) hz
          kernel_rfl
        | 7, ho, hG, hpre, hK =>
          obtain rfl := Option.some.inj ho
          have k0 : (0 : Int) ≤ p := by omega
          have k1 : (p : Int) < r.n := by have := Hpl.out; omega
          have k2 : (p : Int).toNat = p := by omega
          have e4 : f 4 = .slice (some ⟨gr, 0, none⟩) r.n r.c := hpre ⟨4, .data⟩ (by simp) rfl (.inl rfl)
          have e5 : f 5 = .int .i64 (p : Int) := hpre ⟨5, .data⟩ (by simp) rfl (.inl rfl)
          obtain ⟨f, rfl⟩ := fixG f 4 _ e4
          rw [updV_ne _ _ (by decide)] at e5
          obtain ⟨f, rfl⟩ := fixG f 5 _ e5
          clear e4 e5
          refine wpOp_step rfl fun K' hK' => ?_
          simp only [putL, updV]
          go_simp
          have hz := hK' _ _ (hK (.pointer (some ⟨gr, p * 6, none⟩)) (u) (hB) (j6R_refl _ _ (by decide)) (rfl))
          refine Eq.mp (congrArg (fun act => K' act (u)) ?_) hz
          kernel_rfl
        | 8, ho, hG, hpre, hK =>
          obtain rfl := Option.some.inj ho
          have e7 : f 7 = .pointer (some ⟨gr, p * 6, none⟩) := hpre ⟨7, .data⟩ (by simp) rfl (.inl rfl)
          obtain ⟨f, rfl⟩ := fixG f 7 _ e7
          clear e7
          refine wpOp_step rfl fun K' hK' => ?_
          simp only [putL, updV]
          go_simp
          have hz := hK' _ _ (hK (.pointer (some ⟨gr, p * 6 + 1, none⟩)) (u) (hB) (j6R_refl _ _ (by decide)) (rfl))
          refine Eq.mp (congrArg (fun act => K' act (u)) ?_) hz
          kernel_rfl
        | 9, ho, hG, hpre, hK =>
          obtain rfl := Option.some.inj ho
          have how := (hG (.inr rfl)).1
          have hfw := (hG (.inr rfl)).2
          obtain ⟨g', hA', hgg, hgl, -, hcc, hff⟩ := (how.rt r (List.mem_of_getElem? Ht.out)).at Hb.out
          rw [HA.out] at hA'
          obtain rfl : gr = g' := by injection hA' with h1; injection h1
          clear hA'
          have x1 := hcc 1 (by decide)
          have x2 : u.cell? ⟨gr, p * 6 + 1 + 1, none⟩ = _ := hcc 2 (by decide)
          have x3 : u.cell? ⟨gr, p * 6 + 1 + 2, none⟩ = _ := hcc 3 (by decide)
          have x4 : u.cell? ⟨gr, p * 6 + 1 + 3, none⟩ = _ := hcc 4 (by decide)
          have x5 : u.cell? ⟨gr, p * 6 + 1 + 4, none⟩ = _ := hcc 5 (by decide)
          have f1 := hff (p * 6 + 1)
          have f2 := hff (p * 6 + 1 + 1)
          have f3 := hff (p * 6 + 1 + 2)
          have f4 := hff (p * 6 + 1 + 3)
          have f5 := hff (p * 6 + 1 + 4)
          simp only [AH.cells, List.getElem?_cons_zero, List.getElem?_cons_succ] at x1 x2 x3 x4 x5
          have how2 := how.putF Ht.out Hb.out hfw HA.out
          have hgr := putF_grown u gr (p * 6 + 1) f'
          have hs : Stp1 33 u (putF u gr (p * 6 + 1) f') := ⟨_, hgr, fun k e => by obtain rfl := Option.some.inj e; exact own_typ (how.rt r (List.mem_of_getElem? Ht.out)).own (by unfold AL.v; rw [HA.out]; rfl)⟩
          have hrow : u.grownBy (putF u gr (p * 6 + 1) f') r.v.ownBlock := by rw [show r.v.ownBlock = some gr from by unfold AL.v; rw [HA.out]; rfl]; exact hgr
          clear hcc hff
          have e8 : f 8 = .pointer (some ⟨gr, p * 6 + 1, none⟩) := hpre ⟨8, .data⟩ (by simp) rfl (.inl rfl)
          have e6 : f 6 = .agg #[.int .i64 v, .slice f'.G.A f'.G.n f'.G.c, .int .i64 v, .slice f'.K.A f'.K.n f'.K.c, .slice f'.C f'.k f'.q] := hpre ⟨6, .data⟩ (by simp) rfl (.inl rfl)
          obtain ⟨f, rfl⟩ := fixG f 8 _ e8
          rw [updV_ne _ _ (by decide)] at e6
          obtain ⟨f, rfl⟩ := fixG f 6 _ e6
          clear e8 e6
          refine wpOp_step rfl fun K' hK' => ?_
          simp only [putL, updV]
          go_simp
          have hz := hK' _ _ (hK (undef) (((((u.setCell ⟨gr, p * 6 + 1, none⟩ (.int .i64 v)).setCell ⟨gr, p * 6 + 1 + 1, none⟩ (.slice f'.G.A f'.G.n f'.G.c)).setCell ⟨gr, p * 6 + 1 + 2, none⟩ (.int .i64 v)).setCell ⟨gr, p * 6 + 1 + 3, none⟩ (.slice f'.K.A f'.K.n f'.K.c)).setCell ⟨gr, p * 6 + 1 + 4, none⟩ (.slice f'.C f'.k f'.q)) (by rw [← putF_v hw1 hw2]; exact ⟨hB.1.row hrow hrb.out how Ht.out, hs.fb hB.2 (by decide)⟩) (by rw [← putF_v hw1 hw2]; exact j6R_w hs) (by rw [← putF_v hw1 hw2]; exact how2))
          refine Eq.mp (congrArg (fun act => K' act (((((u.setCell ⟨gr, p * 6 + 1, none⟩ (.int .i64 v)).setCell ⟨gr, p * 6 + 1 + 1, none⟩ (.slice f'.G.A f'.G.n f'.G.c)).setCell ⟨gr, p * 6 + 1 + 2, none⟩ (.int .i64 v)).setCell ⟨gr, p * 6 + 1 + 3, none⟩ (.slice f'.K.A f'.K.n f'.K.c)).setCell ⟨gr, p * 6 + 1 + 4, none⟩ (.slice f'.C f'.k f'.q))) ?_) hz
          kernel_rfl
        | j + 10, ho, hG, hpre, hK => exact absurd hi (by omega)
      case en =>
        intro Q2 hQ2 f u hB hF
        have how : Ow w0 v N gB gI B ((J.set t ⟨r.A, r.n, r.c, r.l.set p (arcSet b f')⟩).map AL.v) (J.set t ⟨r.A, r.n, r.c, r.l.set p (arcSet b f')⟩) u := hF 9 (by decide) rfl
        have HFin := hid (show RetRw w0 v N gB gI t B J r (JoinP v r.l a) w (.returned (.int .i64 0)) u from ⟨_, rfl, how, JoinP.both Hb.out Hbm.out Hsem.out, hB.1.gx, fun g e => .inl e⟩)
        clear hF
        show wpAny _ _ _ _ 0 (tailArr 10 10) _ _
        refine ⟨by kernel_rfl, hQ2 _ _ (hKx _ _ ?_)⟩
        simp only [putL, updV]
        clear how hB HOw6 HB6 Hfw HbT
        go_wp2_with fail
        exact bodyPost_ret (v := .int .i64 0) (by simp [results, Tryz.results96, go_sem]) rfl HFin.out
end Go.Proofs.YtbjaebbmajhjjaaGreat
namespace Go.Proofs.YtbjaebbmajhjjaaGreat
set_option linter.unusedVariables false
structure PW.To (w q : PW) : Prop where
  v : q.v = w.v
  n : q.n = w.n
  pre : ∀ x, w.Vals x → LeV w (w.rights x) x → LeV q (q.rights x) x
  sol : ∀ x, w.Vals x → q.rights x = x → w.rights x = x
theorem PW.To.vals {w q : PW} (h : w.To q) {x : List (List Nat)} (hx : w.Vals x) : q.Vals x := ⟨by rw [h.n]; exact hx.len, by rw [h.v]; exact hx.fit⟩
theorem PW.To.back {w q : PW} (h : w.To q) {x : List (List Nat)} (hx : q.Vals x) : w.Vals x := ⟨by rw [← h.n]; exact hx.len, by rw [← h.v]; exact hx.fit⟩
theorem PW.To.refl (w : PW) : w.To w := ⟨rfl, rfl, fun _ _ h => h, fun _ _ h => h⟩
theorem PW.To.trans {w q r : PW} (h : w.To q) (h2 : q.To r) : w.To r :=
  ⟨h2.v.trans h.v, h2.n.trans h.n, fun x hx hp => h2.pre x (h.vals hx) (h.pre x hx hp), fun x hx hs => h.sol x hx (h2.sol x (h.vals hx) hs)⟩
theorem PW.To.least {w q : PW} (h : w.To q) (hw : w.In) (hq : q.In) (hwo : w.Ok) (hqo : q.Ok) {K J : Nat} (hK : w.Last K) (hJ : q.Last J) : q.round J = w.round K := by
  have vK := PW.round_vals hwo K
  have vJ := PW.round_vals hqo J
  have e1 : LeV w (w.rights (w.round K)) (w.round K) := by rw [hK.sol]; exact LeV.refl _ _
  have l1 := PW.round_least hq (h.pre _ vK e1) J
  have e2 : w.rights (q.round J) = q.round J := h.sol _ (h.back vJ) hJ.sol
  have l2 := PW.round_least hw (b := q.round J) (by rw [e2]; exact LeV.refl _ _) K
  refine LeV.antisymm (w := w) (h.back vJ) vK (fun k hk i hi => l1 k (by rw [h.n]; exact hk) i (by rw [h.v]; exact hi)) l2
theorem PW.right_same {w q : PW} {k : Nat} (hv : q.v = w.v) (h1 : at0 q.bd k = at0 w.bd k) (h2 : q.arcs.getD k [] = w.arcs.getD k []) (x : List (List Nat)) : q.right x k = w.right x k := by
  unfold PW.right; rw [hv, h1, h2]
theorem PW.To.row {w q : PW} {t : Nat} (hv : q.v = w.v) (hn : q.n = w.n) (hwo : w.Ok) (hb : ∀ k, k < w.n → k ≠ t → at0 q.bd k = at0 w.bd k ∧ q.arcs.getD k [] = w.arcs.getD k [])
    (h1 : ∀ x, w.Vals x → LeV w (w.rights x) x → ∀ i, i < w.v → Bs.bit (q.right x t) i = true → Bs.bit (at0 x t) i = true)
    (h2 : ∀ x, w.Vals x → q.rights x = x → w.right x t = at0 x t) : w.To q := by
  refine ⟨hv, hn, fun x hx hp k hk i hi hbit => ?_, fun x hx hs => ?_⟩
  · rw [PW.rights_at hk] at hbit
    rw [hn] at hk
    rw [hv] at hi
    by_cases e : k = t
    · subst e; exact h1 x hx hp i hi hbit
    · obtain ⟨e1, e2⟩ := hb k hk e
      rw [PW.right_same hv e1 e2] at hbit
      refine hp k hk i hi ?_
      rw [PW.rights_at hk]; exact hbit
  · refine vals_ext (n := w.n) (by simp [PW.rights]) hx.len fun k hk => ?_
    rw [PW.rights_at hk]
    by_cases e : k = t
    · subst e; exact h2 x hx hs
    · obtain ⟨e1, e2⟩ := hb k hk e
      rw [← PW.right_same hv e1 e2, ← PW.rights_at (by rw [hn]; exact hk), hs]
theorem PW.bit_right {w : PW} {x : List (List Nat)} {k i : Nat} (hi : i < w.v) : Bs.bit (w.right x k) i = true ↔ (Bs.bit (at0 w.bd k) i = true ∨ ∃ a ∈ w.arcs.getD k [], Bs.bit (a.2.vl w.v (at0 x a.1)) i = true) := bit_side hi _ _ _
theorem Pf.parts (f : Pf) {v i : Nat} (hi : i < v) {ss : List Nat} {P : List Nat → Prop} (h0 : ∃ p, P p) (hp : ∀ y, y < v → Bs.bit ss y = true → ∃ p, P p ∧ Bs.bit p y = true) (h : Bs.bit (f.vl v ss) i = true) : ∃ p, P p ∧ Bs.bit (f.vl v p) i = true := by
  unfold Pf.vl YtbjaebbmajhjjaaGreat.vl at *
  rw [bit_valR_iff hi] at h
  rcases h with h | ⟨y, hy, h1, h2⟩
  · obtain ⟨p, hP⟩ := h0
    exact ⟨p, hP, by rw [bit_valR_iff hi]; exact .inl h⟩
  · obtain ⟨p, hP, hb⟩ := hp y hy h1
    exact ⟨p, hP, by rw [bit_valR_iff hi]; exact .inr ⟨y, hy, hb, h2⟩⟩
theorem PW.To.resolve {w q : PW} {t : Nat} (ht : t < w.n) (hv : q.v = w.v) (hn : q.n = w.n) (hwo : w.Ok) (hqo : q.Ok) (hb : ∀ k, k < w.n → k ≠ t → at0 q.bd k = at0 w.bd k ∧ q.arcs.getD k [] = w.arcs.getD k [])
    {f s : Pf} {l : List (Nat × Pf)} (hl : ∀ a, a ∈ w.arcs.getD t [] ↔ (a = (t, f) ∨ a ∈ l))
    (hq : ∀ x i, i < w.v → (Bs.bit (q.right x t) i = true ↔ (Bs.bit (s.vl w.v (at0 w.bd t)) i = true ∨ ∃ a ∈ l, Bs.bit (s.vl w.v (a.2.vl w.v (at0 x a.1))) i = true)))
    (up : ∀ ss i, i < w.v → Bs.bit ss i = true → Bs.bit (s.vl w.v ss) i = true)
    (cl : ∀ ss i, i < w.v → Bs.bit (f.vl w.v (s.vl w.v ss)) i = true → Bs.bit (s.vl w.v ss) i = true)
    (le : ∀ ss ts, (∀ i, i < w.v → Bs.bit ss i = true → Bs.bit ts i = true) → (∀ i, i < w.v → Bs.bit (f.vl w.v ts) i = true → Bs.bit ts i = true) → ∀ i, i < w.v → Bs.bit (s.vl w.v ss) i = true → Bs.bit ts i = true) : w.To q := by
  have hself : (t, f) ∈ w.arcs.getD t [] := (hl _).2 (.inl rfl)
  refine PW.To.row hv hn hwo hb (fun x hx hp i hi hbit => ?_) (fun x hx hs => ?_)
  · have hR : ∀ j, j < w.v → Bs.bit (w.right x t) j = true → Bs.bit (at0 x t) j = true := fun j hj hbj => hp t ht j hj (by rw [PW.rights_at ht]; exact hbj)
    have hF : ∀ j, j < w.v → Bs.bit (f.vl w.v (at0 x t)) j = true → Bs.bit (at0 x t) j = true := fun j hj hbj => hR j hj ((PW.bit_right hj).2 (.inr ⟨_, hself, hbj⟩))
    rcases (hq x i hi).1 hbit with h | ⟨a, ha, h⟩
    · exact le _ _ (fun j hj hbj => hR j hj ((PW.bit_right hj).2 (.inl hbj))) hF i hi h
    · exact le _ _ (fun j hj hbj => hR j hj ((PW.bit_right hj).2 (.inr ⟨a, (hl a).2 (.inr ha), hbj⟩))) hF i hi h
  · have hx' : q.right x t = at0 x t := by
      have := PW.rights_at (w := q) (vals := x) (k := t) (by rw [hn]; exact ht)
      rw [← this, hs]
    have hto : ∀ i, i < w.v → Bs.bit (w.right x t) i = true → Bs.bit (at0 x t) i = true := fun i hi h => by
      rw [← hx']
      rcases (PW.bit_right hi).1 h with h1 | ⟨a, ha, h1⟩
      · exact (hq x i hi).2 (.inl (up _ i hi h1))
      · rcases (hl a).1 ha with rfl | ha
        · obtain ⟨p, hP, hbp⟩ := f.parts (P := fun p => p = s.vl w.v (at0 w.bd t) ∨ ∃ a ∈ l, p = s.vl w.v (a.2.vl w.v (at0 x a.1))) hi ⟨_, .inl rfl⟩ (fun y hy hby => by
            rw [← hx'] at hby
            rcases (hq x y hy).1 hby with h2 | ⟨a, ha, h2⟩
            · exact ⟨_, .inl rfl, h2⟩
            · exact ⟨_, .inr ⟨a, ha, rfl⟩, h2⟩) h1
          rcases hP with rfl | ⟨a, ha, rfl⟩
          · exact (hq x i hi).2 (.inl (cl _ i hi hbp))
          · exact (hq x i hi).2 (.inr ⟨a, ha, cl _ i hi hbp⟩)
        · exact (hq x i hi).2 (.inr ⟨a, ha, up _ i hi h1⟩)
    refine Bs.ext (hwo.right x ht) (hx.at ht) fun i hi => Bool.eq_iff_iff.2 ⟨hto i hi, fun h => ?_⟩
    have hF : ∀ j, j < w.v → Bs.bit (f.vl w.v (w.right x t)) j = true → Bs.bit (w.right x t) j = true := fun j hj hbj => (PW.bit_right hj).2 (.inr ⟨_, hself, f.mono hj hto hbj⟩)
    rw [← hx'] at h
    rcases (hq x i hi).1 h with h1 | ⟨a, ha, h1⟩
    · exact le _ _ (fun j hj hbj => (PW.bit_right hj).2 (.inl hbj)) hF i hi h1
    · exact le _ _ (fun j hj hbj => (PW.bit_right hj).2 (.inr ⟨a, (hl a).2 (.inr ha), hbj⟩)) hF i hi h1
theorem PW.To.remove {w q : PW} {t m : Nat} (ht : t < w.n) (hm : m < w.n) (hne : m ≠ t) (hv : q.v = w.v) (hn : q.n = w.n) (hwo : w.Ok) (hb : ∀ k, k < w.n → k ≠ t → at0 q.bd k = at0 w.bd k ∧ q.arcs.getD k [] = w.arcs.getD k [])
    {f : Pf} {l : List (Nat × Pf)} (hl : ∀ a, a ∈ w.arcs.getD t [] ↔ (a = (m, f) ∨ a ∈ l))
    (hq : ∀ x i, i < w.v → (Bs.bit (q.right x t) i = true ↔ ((Bs.bit (at0 w.bd t) i = true ∨ ∃ a ∈ l, Bs.bit (a.2.vl w.v (at0 x a.1)) i = true) ∨ Bs.bit (f.vl w.v (at0 w.bd m)) i = true ∨ ∃ a ∈ w.arcs.getD m [], Bs.bit (f.vl w.v (a.2.vl w.v (at0 x a.1))) i = true))) : w.To q := by
  have hself : (m, f) ∈ w.arcs.getD t [] := (hl _).2 (.inl rfl)
  have hdis : ∀ x i, i < w.v → (Bs.bit (f.vl w.v (w.right x m)) i = true ↔ (Bs.bit (f.vl w.v (at0 w.bd m)) i = true ∨ ∃ a ∈ w.arcs.getD m [], Bs.bit (f.vl w.v (a.2.vl w.v (at0 x a.1))) i = true)) := fun x i hi => by
    constructor
    · intro h
      obtain ⟨p, hP, hbp⟩ := f.parts (P := fun p => p = at0 w.bd m ∨ ∃ a ∈ w.arcs.getD m [], p = a.2.vl w.v (at0 x a.1)) hi ⟨_, .inl rfl⟩ (fun y hy hby => by
        rcases (PW.bit_right hy).1 hby with h2 | ⟨a, ha, h2⟩
        · exact ⟨_, .inl rfl, h2⟩
        · exact ⟨_, .inr ⟨a, ha, rfl⟩, h2⟩) h
      rcases hP with rfl | ⟨a, ha, rfl⟩
      · exact .inl hbp
      · exact .inr ⟨a, ha, hbp⟩
    · rintro (h | ⟨a, ha, h⟩)
      · exact f.mono hi (fun j hj hbj => (PW.bit_right hj).2 (.inl hbj)) h
      · exact f.mono hi (fun j hj hbj => (PW.bit_right hj).2 (.inr ⟨a, ha, hbj⟩)) h
  have hiff : ∀ x i, i < w.v → (Bs.bit (q.right x t) i = true ↔ ((Bs.bit (at0 w.bd t) i = true ∨ ∃ a ∈ l, Bs.bit (a.2.vl w.v (at0 x a.1)) i = true) ∨ Bs.bit (f.vl w.v (w.right x m)) i = true)) := fun x i hi => by
    rw [hq x i hi, hdis x i hi]
  refine PW.To.row hv hn hwo hb (fun x hx hp i hi hbit => ?_) (fun x hx hs => ?_)
  · have hR : ∀ k, k < w.n → ∀ j, j < w.v → Bs.bit (w.right x k) j = true → Bs.bit (at0 x k) j = true := fun k hk j hj hbj => hp k hk j hj (by rw [PW.rights_at hk]; exact hbj)
    refine hR t ht i hi ((PW.bit_right hi).2 ?_)
    rcases (hiff x i hi).1 hbit with (h | ⟨a, ha, h⟩) | h
    · exact .inl h
    · exact .inr ⟨a, (hl a).2 (.inr ha), h⟩
    · exact .inr ⟨_, hself, f.mono hi (fun j hj hbj => hR m hm j hj hbj) h⟩
  · have hx' : ∀ k, k < w.n → q.right x k = at0 x k := fun k hk => by
      have := PW.rights_at (w := q) (vals := x) (k := k) (by rw [hn]; exact hk)
      rw [← this, hs]
    have hxm : w.right x m = at0 x m := by
      obtain ⟨e1, e2⟩ := hb m hm hne
      rw [← PW.right_same hv e1 e2]; exact hx' m hm
    rw [← hx' t ht]
    refine Bs.ext (hwo.right x ht) (by rw [hx' t ht]; exact hx.at ht) fun i hi => Bool.eq_iff_iff.2 ?_
    rw [hiff x i hi, PW.bit_right hi, hxm]
    constructor
    · rintro (h | ⟨a, ha, h⟩)
      · exact .inl (.inl h)
      · rcases (hl a).1 ha with rfl | ha
        · exact .inr h
        · exact .inl (.inr ⟨a, ha, h⟩)
    · rintro ((h | ⟨a, ha, h⟩) | h)
      · exact .inl h
      · exact .inr ⟨a, (hl a).2 (.inr ha), h⟩
      · exact .inr ⟨_, hself, h⟩
end Go.Proofs.YtbjaebbmajhjjaaGreat
namespace Go.Proofs.YtbjaebbmajhjjaaGreat
set_option maxRecDepth 20000
set_option linter.unusedVariables false
set_option linter.unusedSimpArgs false
open Go.ChangeShapes Go.WideShapes Go.ChangeAt Go.RowKit
def RetFn (v : Nat) (F : List Nat → List Nat) (w : World) (e : Ending) (w' : World) : Prop :=
  ∃ h : FH, e = .returned (.tuple #[.agg #[.int .i64 v, .slice h.G.A h.G.n h.G.c, .int .i64 v, .slice h.K.A h.K.n h.K.c, .slice h.C h.k h.q], .int .i64 0]) ∧ h.G.W = v ∧ h.K.W = v ∧ FWt w' v h ∧ (∀ ss, h.pf.vl v ss = F ss) ∧ Below w.heap.size w w'
theorem composeF (f g : FH) (v : Nat) (w : World) (hf : FWt w v f) (hg : FWt w v g) (hv : v ≤ 8) :
    Calls Tryz.prog 94 #[f.a, g.a] w (RetFn v (fun ss => g.pf.vl v (f.pf.vl v ss)) w) := by
  obtain ⟨G9, K9, C9, hj1, hj2, hj3⟩ := comp_ok hv hf.okf hg.okf
  have hj0 : composeR f.G.W f.G.ws f.K.W f.K.ws f.cs g.G.W g.G.ws g.K.W g.K.ws g.cs = ((v : Int), G9, K9, C9, 0) := by
    rw [hf.ok.w1, hf.ok.w2, hg.ok.w1, hg.ok.w2]; exact hj1
  have hcon := devComposeT f.G.W f.K.W f.G.A f.K.A f.C f.G.n f.G.c f.K.n f.K.c f.k f.q f.G.ws f.K.ws f.cs g.G.W g.K.W g.G.A g.K.A g.C g.G.n g.G.c g.K.n g.K.c g.k g.q g.G.ws g.K.ws g.cs w hf.t.farg hg.t.farg
  rw [hj0] at hcon
  refine hcon.mono ?_
  rintro e u5 ⟨A9, n9, c9, B9, m9, d9, Cc9, q9, rfl, h1, h2, h3, hb⟩
  exact ⟨⟨⟨v, A9, n9, c9, G9⟩, ⟨v, B9, m9, d9, K9⟩, Cc9, C9.length, q9, C9⟩, rfl, rfl, rfl, FWt.ret hj2.ok h1 h2 h3, hj3, hb⟩
structure StarOf (v : Nat) (f s : Pf) : Prop where
  up : ∀ ss i, i < v → Bs.bit ss i = true → Bs.bit (s.vl v ss) i = true
  cl : ∀ ss i, i < v → Bs.bit (f.vl v (s.vl v ss)) i = true → Bs.bit (s.vl v ss) i = true
  le : ∀ ss ts, (∀ i, i < v → Bs.bit ss i = true → Bs.bit ts i = true) → (∀ i, i < v → Bs.bit (f.vl v ts) i = true → Bs.bit ts i = true) → ∀ i, i < v → Bs.bit (s.vl v ss) i = true → Bs.bit ts i = true
def RetStar (v : Nat) (f : FH) (w : World) (e : Ending) (w' : World) : Prop :=
  ∃ h : FH, e = .returned (.tuple #[.agg #[.int .i64 v, .slice h.G.A h.G.n h.G.c, .int .i64 v, .slice h.K.A h.K.n h.K.c, .slice h.C h.k h.q], .int .i64 0]) ∧ h.G.W = v ∧ h.K.W = v ∧ FWt w' v h ∧ StarOf v f.pf h.pf ∧ Below w.heap.size w w'
theorem starF (f : FH) (v : Nat) (w : World) (hf : FWt w v f) (hv : v ≤ 8) : Calls Tryz.prog 91 #[f.a] w (RetStar v f w) := by
  obtain ⟨G9, C9, hj1, hj2, -, -, hup, hcl, hle⟩ := star_ok hv hf.okf
  have hj0 : starR f.G.W f.G.ws f.K.W f.K.ws f.cs = ((v : Int), G9, G9, C9, 0) := by
    rw [hf.ok.w1, hf.ok.w2]; exact hj1
  have hcon := devStarT f.G.W f.K.W f.G.A f.K.A f.C f.G.n f.G.c f.K.n f.K.c f.k f.q f.G.ws f.K.ws f.cs w hf.t.farg
  rw [hj0] at hcon
  refine hcon.mono ?_
  rintro e u5 ⟨A9, n9, c9, B9, m9, d9, Cc9, q9, rfl, h1, h2, h3, hb⟩
  exact ⟨⟨⟨v, A9, n9, c9, G9⟩, ⟨v, B9, m9, d9, G9⟩, Cc9, C9.length, q9, C9⟩, rfl, rfl, rfl, FWt.ret hj2 h1 h2 h3, ⟨hup, hcl, hle⟩, hb⟩
def RetZs (v : Nat) (zs : List Nat) (w : World) (e : Ending) (w' : World) : Prop :=
  ∃ g : Nat, e = .returned (.tuple #[.agg #[.int .i64 v, .slice (some ⟨g, 0, none⟩) (Bs.nw v) (Bs.nw v)], .int .i64 0]) ∧ ZWt w' v ⟨v, some ⟨g, 0, none⟩, Bs.nw v, Bs.nw v, zs⟩ ∧ Below w.heap.size w w'
theorem ZWt.row {u : World} {v g : Nat} {zs : List Nat} (h : Row u g zs) (hf : Bs.Fit v zs) : ZWt u v ⟨v, some ⟨g, 0, none⟩, Bs.nw v, Bs.nw v, zs⟩ := by
  have := ArgT.row h hf.ok
  rw [hf.len] at this
  exact ⟨rfl, hf, this⟩
theorem applyF (f : FH) (z : ZH) (v : Nat) (w : World) (hf : FWt w v f) (hz : ZWt w v z) (hv : v ≤ 256) : Calls Tryz.prog 93 #[f.a, z.a] w (RetZs v (f.pf.vl v z.ws) w) := by
  have hcon := devApply_own v f.G.A f.K.A f.C z.A f.G.n f.G.c f.K.n f.K.c f.k f.q z.n z.c f.G.ws f.K.ws z.ws f.cs w hf.t.gen.arg hf.t.kill.arg hf.t.cops.arg hz.t.arg hf.ok.ok (Bs.valid_of_fit hz.fit hv)
  unfold FH.a ZH.a
  rw [hf.ok.w1, hf.ok.w2, hz.w]
  refine hcon.mono ?_
  rintro e w' ⟨g, rfl, hr, -, hb⟩
  exact ⟨g, rfl, ZWt.row hr (fit_valR _ _ _ _), hb⟩
theorem unionZ (y z : ZH) (v : Nat) (w : World) (hy : ZWt w v y) (hz : ZWt w v z) (hv : v ≤ 256) : Calls Tryz.prog 95 #[y.a, z.a] w (RetZs v (orR v y.ws z.ws) w) := by
  have hcon := devUnion_own v y.A z.A y.n y.c z.n z.c y.ws z.ws w hy.t.arg hz.t.arg hv hy.fit hz.fit
  unfold ZH.a
  rw [hy.w, hz.w]
  refine hcon.mono ?_
  rintro e w' ⟨g, rfl, hr, -, hb⟩
  exact ⟨g, rfl, ZWt.row hr (fit_orR _ _ _), hb⟩
structure TyX (w w' : World) : Prop where
  size : w.heap.size ≤ w'.heap.size
  keep : ∀ k t, Typ w k t → t ≠ 24 → t ≠ 34 → t ≠ 33 → w'.heap[k]? = w.heap[k]?
theorem TyX.trans {w w' w'' : World} (h : TyX w w') (h2 : TyX w' w'') : TyX w w'' := ⟨Nat.le_trans h.size h2.size, fun k t hk h3 h4 h5 => by
  have e := h.keep k t hk h3 h4 h5
  obtain ⟨cs, m, hc⟩ := id hk
  exact (h2.keep k t ⟨cs, m, e.trans hc⟩ h3 h4 h5).trans e⟩
theorem TyX.below {w w' : World} (h : Below w.heap.size w w') : TyX w w' := ⟨h.size, fun k t hk _ _ _ => h.block k hk.lt⟩
theorem TyX.stp {w w' : World} {t : Nat} (h : Stp1 t w w') (ht : t = 24 ∨ t = 34 ∨ t = 33) : TyX w w' := ⟨h.size, fun k t' hk h1 h2 h3 => h.block hk (by rintro rfl; rcases ht with h | h | h; exact h1 h; exact h2 h; exact h3 h) hk.lt⟩
theorem TyX.fb {w w' : World} (h : TyX w w') {g t : Nat} {cs : Array Value} (hf : Fb w g cs t) (h1 : t ≠ 24) (h2 : t ≠ 34) (h3 : t ≠ 33) : Fb w' g cs t := (h.keep g t hf.typ h1 h2 h3).trans hf
theorem TyX.fw {w w' : World} (h : TyX w w') {v : Nat} {f : FH} (hf : FWt w v f) : FWt w' v f :=
  ⟨hf.ok, hf.t.gen.keep h.size (fun k hk => h.keep k _ hk (by decide) (by decide) (by decide)), hf.t.kill.keep h.size (fun k hk => h.keep k _ hk (by decide) (by decide) (by decide)), hf.t.cops.keep h.size (fun k hk => h.keep k _ hk (by decide) (by decide) (by decide))⟩
structure EB (w : World) (v : Nat) (WEB : Array Value) (bS : Nat) (s : FH) (u : World) : Prop where
  ww : Fb u w.heap.size WEB 37
  ss : Fb u bS #[.int .i64 s.G.W, .slice s.G.A s.G.n s.G.c, .int .i64 s.K.W, .slice s.K.A s.K.n s.K.c, .slice s.C s.k s.q] 30
  fw : FWt u v s
  tx : TyX w u
section
variable {w u u' : World} {v bS t : Nat} {WEB : Array Value} {s : FH}
theorem EB.ty (h : EB w v WEB bS s u) (hx : TyX u u') : EB w v WEB bS s u' := ⟨hx.fb h.ww (by decide) (by decide) (by decide), hx.fb h.ss (by decide) (by decide) (by decide), hx.fw h.fw, h.tx.trans hx⟩
theorem EB.below (h : EB w v WEB bS s u) (hb : Below u.heap.size u u') : EB w v WEB bS s u' := h.ty (TyX.below hb)
theorem EB.stp (h : EB w v WEB bS s u) (hs : Stp1 t u u') (ht : t = 24 ∨ t = 34 ∨ t = 33) : EB w v WEB bS s u' := h.ty (TyX.stp hs ht)
end
def pwO (v : Nat) (B : List ZH) (J : List AL) : PW := ⟨v, B.map ZH.ws, J.map AL.pa⟩
theorem Ow.pok {w0 u : World} {v N gB gI : Nat} {B : List ZH} {M : List Value} {J : List AL} (h : Ow w0 v N gB gI B M J u) : (pwO v B J).Ok ∧ (pwO v B J).In ∧ (pwO v B J).n = N := by
  have hn : (pwO v B J).n = N := by show (J.map AL.pa).length = N; rw [List.length_map, h.jl]
  refine ⟨⟨by rw [hn]; show (B.map ZH.ws).length = N; rw [List.length_map, h.bl], fun s hs => ?_⟩, fun l hl a ha => ?_, hn⟩
  · obtain ⟨z, hz, rfl⟩ := List.mem_map.1 hs
    exact (h.bt z hz).fit
  · obtain ⟨r, hr, rfl⟩ := List.mem_map.1 hl
    obtain ⟨b, hb, rfl⟩ := List.mem_map.1 ha
    rw [hn]
    have := (h.rt r hr).ris.2 b.m (List.mem_map.2 ⟨b, hb, rfl⟩)
    show b.m.toNat < N
    omega
theorem pwO_row {v k : Nat} {B : List ZH} {J : List AL} {r : AL} (h : J[k]? = some r) : (pwO v B J).arcs.getD k [] = r.l.map AH.pa := by
  show (J.map AL.pa).getD k [] = _
  rw [List.getD_eq_getElem?_getD, List.getElem?_map, h]; rfl
theorem pwO_bd {v k : Nat} {B : List ZH} {J : List AL} {z : ZH} (h : B[k]? = some z) : at0 (pwO v B J).bd k = z.ws := at0_get (by show (B.map ZH.ws)[k]? = _; rw [List.getElem?_map, h]; rfl)
theorem ac_pa {v i : Nat} {x : List (List Nat)} {l : List AH} : (∃ a ∈ l.map AH.pa, Bs.bit (a.2.vl v (at0 x a.1)) i = true) ↔ ac v x l i := by
  constructor
  · rintro ⟨a, ha, h⟩
    obtain ⟨b, hb, rfl⟩ := List.mem_map.1 ha
    exact ⟨b, hb, h⟩
  · rintro ⟨b, hb, h⟩
    exact ⟨_, List.mem_map.2 ⟨b, hb, rfl⟩, h⟩
theorem pwO_right {v k i : Nat} {B : List ZH} {J : List AL} {r : AL} {z : ZH} {x : List (List Nat)} (hi : i < v) (hr : J[k]? = some r) (hz : B[k]? = some z) : Bs.bit ((pwO v B J).right x k) i = true ↔ (Bs.bit z.ws i = true ∨ ac v x r.l i) := by
  rw [PW.bit_right (w := pwO v B J) hi, pwO_row hr, pwO_bd hz, ← ac_pa]; rfl
end Go.Proofs.YtbjaebbmajhjjaaGreat
namespace Go.Proofs.YtbjaebbmajhjjaaGreat
set_option maxRecDepth 20000
set_option linter.unusedVariables false
set_option linter.unusedSimpArgs false
open Go.ChangeShapes Go.WideShapes Go.ChangeAt Go.RowKit
def delA (r : AL) (p : Nat) : AL := ⟨r.A, r.n - 1, r.c, r.l.eraseIdx p⟩
theorem delA_block (r : AL) (p : Nat) : (delA r p).v.ownBlock = r.v.ownBlock := by
  show (Value.slice r.A (r.n - 1) r.c).ownBlock = (Value.slice r.A r.n r.c).ownBlock
  cases r.A <;> rfl
theorem mem_del {α : Type} {l : List α} {p : Nat} {a : α} (h : l[p]? = some a) (x : α) : x ∈ l ↔ (x = a ∨ x ∈ l.eraseIdx p) := by
  rw [List.mem_iff_getElem?, List.mem_iff_getElem?]
  constructor
  · rintro ⟨j, hj⟩
    rcases Nat.lt_trichotomy j p with e | e | e
    · exact .inr ⟨j, by rw [List.getElem?_eraseIdx, if_pos e]; exact hj⟩
    · subst e; rw [h] at hj; exact .inl (Option.some.inj hj).symm
    · refine .inr ⟨j - 1, ?_⟩
      rw [List.getElem?_eraseIdx, if_neg (by omega), show j - 1 + 1 = j by omega]; exact hj
  · rintro (rfl | ⟨j, hj⟩)
    · exact ⟨p, h⟩
    · rw [List.getElem?_eraseIdx] at hj
      split at hj
      · exact ⟨j, hj⟩
      · exact ⟨j + 1, hj⟩
theorem del_ne {N : Nat} {l : List AH} {p : Nat} {a : AH} (hr : RisP N (l.map AH.m)) (h : l[p]? = some a) : ∀ b ∈ l.eraseIdx p, b.m ≠ a.m := by
  intro b hb
  obtain ⟨j, hj⟩ := List.mem_iff_getElem?.1 hb
  rw [List.getElem?_eraseIdx] at hj
  split at hj
  · have := ris_lt hr (by assumption) hj h; omega
  · have := ris_lt hr (show p < j + 1 by omega) h hj; omega
structure Cmd (v : Nat) (s : Pf) (l0 : List AH) (j : Nat) (L : List AH) : Prop where
  len : L.length = l0.length
  at' : ∀ k a, l0[k]? = some a → ∃ b, L[k]? = some b ∧ b.m = a.m ∧ (k < j → ∀ ss, b.f.pf.vl v ss = s.vl v (a.f.pf.vl v ss)) ∧ (j ≤ k → b = a)
theorem Cmd.start (v : Nat) (s : Pf) (l0 : List AH) : Cmd v s l0 0 l0 := ⟨rfl, fun k a h => ⟨a, h, rfl, fun h => absurd h (by omega), fun _ => rfl⟩⟩
theorem Cmd.cur {v j : Nat} {s : Pf} {l0 L : List AH} (h : Cmd v s l0 j L) {a : AH} (ha : l0[j]? = some a) : L[j]? = some a := by
  obtain ⟨b, h1, -, -, h4⟩ := h.at' j a ha
  rw [← h4 (Nat.le_refl _)]; exact h1
theorem Cmd.next {v j : Nat} {s : Pf} {l0 L : List AH} (h : Cmd v s l0 j L) {a : AH} (ha : l0[j]? = some a) {f : FH} (hf : ∀ ss, f.pf.vl v ss = s.vl v (a.f.pf.vl v ss)) : Cmd v s l0 (j + 1) (L.set j (arcSet a f)) := by
  have hj := (List.getElem?_eq_some_iff.1 ha).1
  refine ⟨by rw [List.length_set]; exact h.len, fun k b hb => ?_⟩
  by_cases e : k = j
  · subst e
    rw [ha] at hb
    obtain rfl := Option.some.inj hb
    exact ⟨_, List.getElem?_set_self (by rw [h.len]; exact hj), rfl, fun _ => hf, fun h => absurd h (by omega)⟩
  · obtain ⟨c, h1, h2, h3, h4⟩ := h.at' k b hb
    exact ⟨c, by rw [List.getElem?_set_ne (fun e' => e e'.symm)]; exact h1, h2, fun hk => h3 (by omega), fun hk => h4 (by omega)⟩
theorem Cmd.ac {v : Nat} {s : Pf} {l0 L : List AH} (h : Cmd v s l0 l0.length L) (x : List (List Nat)) (i : Nat) : ac v x L i ↔ ∃ a ∈ l0, Bs.bit (s.vl v (a.f.pf.vl v (at0 x a.m.toNat))) i = true := by
  constructor
  · rintro ⟨b, hb, h1⟩
    obtain ⟨k, hk⟩ := List.mem_iff_getElem?.1 hb
    have hkl : k < l0.length := by rw [← h.len]; exact (List.getElem?_eq_some_iff.1 hk).1
    obtain ⟨c, h2, h3, h4, -⟩ := h.at' k _ (List.getElem?_eq_getElem hkl)
    rw [hk] at h2
    obtain rfl := Option.some.inj h2
    rw [h4 hkl, h3] at h1
    exact ⟨_, List.getElem_mem hkl, h1⟩
  · rintro ⟨a, ha, h1⟩
    obtain ⟨k, hk⟩ := List.mem_iff_getElem?.1 ha
    have hkl := (List.getElem?_eq_some_iff.1 hk).1
    obtain ⟨c, h2, h3, h4, -⟩ := h.at' k _ hk
    refine ⟨c, List.mem_of_getElem? h2, ?_⟩
    rw [h4 hkl, h3]; exact h1
theorem Cmd.from' {v j : Nat} {s : Pf} {l0 L : List AH} (h : Cmd v s l0 j L) : ∀ b ∈ L, ∃ a ∈ l0, b.m = a.m := by
  intro b hb
  obtain ⟨k, hk⟩ := List.mem_iff_getElem?.1 hb
  have hkl : k < l0.length := by rw [← h.len]; exact (List.getElem?_eq_some_iff.1 hk).1
  obtain ⟨c, h2, h3, -, -⟩ := h.at' k _ (List.getElem?_eq_getElem hkl)
  rw [hk] at h2
  obtain rfl := Option.some.inj h2
  exact ⟨_, List.getElem_mem hkl, h3⟩
def Fsub (J J' : List AL) : Prop := ∀ r ∈ J', ∀ a ∈ r.l, ∃ r2 ∈ J, ∃ b ∈ r2.l, a.m = b.m
theorem Fsub.refl (J : List AL) : Fsub J J := fun r hr a ha => ⟨r, hr, a, ha, rfl⟩
theorem Fsub.trans {J J' J'' : List AL} (h : Fsub J J') (h2 : Fsub J' J'') : Fsub J J'' := fun r hr a ha => by
  obtain ⟨r2, hr2, b, hb, e⟩ := h2 r hr a ha
  obtain ⟨r3, hr3, c, hc, e2⟩ := h r2 hr2 b hb
  exact ⟨r3, hr3, c, hc, e.trans e2⟩
theorem Fsub.set {J : List AL} {t : Nat} {r' : AL} (h : ∀ a ∈ r'.l, ∃ r2 ∈ J, ∃ b ∈ r2.l, a.m = b.m) : Fsub J (J.set t r') := fun r hr a ha => by
  rcases List.mem_or_eq_of_mem_set hr with hr | rfl
  · exact ⟨r, hr, a, ha, rfl⟩
  · exact h a ha
theorem pwO_other {v t : Nat} {B : List ZH} {J : List AL} {z' : ZH} {r' : AL} {k : Nat} (hk : k ≠ t) : at0 (pwO v (B.set t z') (J.set t r')).bd k = at0 (pwO v B J).bd k ∧ (pwO v (B.set t z') (J.set t r')).arcs.getD k [] = (pwO v B J).arcs.getD k [] := by
  constructor
  · show ((B.set t z').map ZH.ws).getD k [] = (B.map ZH.ws).getD k []
    rw [List.getD_eq_getElem?_getD, List.getD_eq_getElem?_getD, List.getElem?_map, List.getElem?_map, List.getElem?_set_ne (fun e => hk e.symm)]
  · show ((J.set t r').map AL.pa).getD k [] = (J.map AL.pa).getD k []
    rw [List.getD_eq_getElem?_getD, List.getD_eq_getElem?_getD, List.getElem?_map, List.getElem?_map, List.getElem?_set_ne (fun e => hk e.symm)]
theorem mem_pa {l : List AH} {l0 : List AH} {a : AH} {n : Nat} (hm : a.m = n) (h : ∀ x, x ∈ l ↔ (x = a ∨ x ∈ l0)) (y : Nat × Pf) : y ∈ l.map AH.pa ↔ (y = (n, a.f.pf) ∨ y ∈ l0.map AH.pa) := by
  have e : a.pa = (n, a.f.pf) := by unfold AH.pa; rw [hm, Int.toNat_natCast]
  constructor
  · intro hy
    obtain ⟨x, hx, rfl⟩ := List.mem_map.1 hy
    rcases (h x).1 hx with rfl | hx
    · exact .inl e
    · exact .inr (List.mem_map.2 ⟨x, hx, rfl⟩)
  · rintro (rfl | hy)
    · exact List.mem_map.2 ⟨a, (h a).2 (.inl rfl), e⟩
    · obtain ⟨x, hx, rfl⟩ := List.mem_map.1 hy
      exact List.mem_map.2 ⟨x, (h x).2 (.inr hx), rfl⟩
section
variable {w0 u u' : World} {v N gB gI n : Nat} {B : List ZH} {M M' : List Value} {J : List AL} {r r' : AL} {z z' : ZH}
theorem resolve_to (h : Ow w0 v N gB gI B M J u) (h' : Ow w0 v N gB gI (B.set n z') M' (J.set n r') u') (hr : J[n]? = some r) (hz : B[n]? = some z) {p : Nat} {a : AH} (hp : r.l[p]? = some a) (hm : a.m = n) {s : Pf} (hs : StarOf v a.f.pf s) (hz' : z'.ws = s.vl v z.ws) (hc : Cmd v s (r.l.eraseIdx p) (r.l.eraseIdx p).length r'.l) :
    (pwO v B J).To (pwO v (B.set n z') (J.set n r')) := by
  obtain ⟨o1, -, n1⟩ := h.pok
  obtain ⟨o2, -, n2⟩ := h'.pok
  have hn : n < J.length := (List.getElem?_eq_some_iff.1 hr).1
  have hnb : n < B.length := (List.getElem?_eq_some_iff.1 hz).1
  refine PW.To.resolve (w := pwO v B J) (t := n) (f := a.f.pf) (s := s) (l := (r.l.eraseIdx p).map AH.pa) (by rw [n1, ← h.jl]; exact hn) rfl (by rw [n1, n2]) o1 o2 (fun k _ hk => pwO_other hk) (fun y => ?_) (fun x i hi => ?_) hs.up hs.cl hs.le
  · rw [pwO_row hr]; exact mem_pa hm (mem_del hp) y
  · replace hi : i < v := hi
    show _ ↔ (Bs.bit (s.vl v (at0 (pwO v B J).bd n)) i = true ∨ ∃ a' ∈ (r.l.eraseIdx p).map AH.pa, Bs.bit (s.vl v (a'.2.vl v (at0 x a'.1))) i = true)
    rw [pwO_right (J := J.set n r') (B := B.set n z') (k := n) hi (List.getElem?_set_self hn) (List.getElem?_set_self hnb), hz', pwO_bd hz, hc.ac x i]
    have e : (∃ a' ∈ r.l.eraseIdx p, Bs.bit (s.vl v (a'.f.pf.vl v (at0 x a'.m.toNat))) i = true) ↔ ∃ a' ∈ (r.l.eraseIdx p).map AH.pa, Bs.bit (s.vl v (a'.2.vl v (at0 x a'.1))) i = true := by
      constructor
      · rintro ⟨b, hb, h1⟩; exact ⟨_, List.mem_map.2 ⟨b, hb, rfl⟩, h1⟩
      · rintro ⟨y, hy, h1⟩
        obtain ⟨b, hb, rfl⟩ := List.mem_map.1 hy
        exact ⟨b, hb, h1⟩
    exact or_congr Iff.rfl e
structure Jnd (v : Nat) (f : Pf) (l0 L : List AH) (k : Nat) (l' : List AH) : Prop where
  sem : ∀ x i, i < v → (ac v x l' i ↔ (ac v x l0 i ∨ ∃ (j : Nat) (b : AH), j < k ∧ L[j]? = some b ∧ Bs.bit (f.vl v (b.f.pf.vl v (at0 x b.m.toNat))) i = true))
  from' : ∀ y ∈ l', (∃ z ∈ l0, y.m = z.m) ∨ ∃ b ∈ L, y.m = b.m
theorem Jnd.start (v : Nat) (f : Pf) (l0 L : List AH) : Jnd v f l0 L 0 l0 := ⟨fun x i hi => ⟨.inl, fun h => by
  rcases h with h | ⟨j, b, h, -⟩
  · exact h
  · omega⟩, fun y hy => .inl ⟨y, hy, rfl⟩⟩
theorem Jnd.next {k : Nat} {f : Pf} {l0 L l' l'' : List AH} (h : Jnd v f l0 L k l') {b : AH} (hb : L[k]? = some b) {f' : FH} (hf : ∀ ss, f'.pf.vl v ss = f.vl v (b.f.pf.vl v ss)) (hj : JoinP v l' ⟨b.m, f'⟩ l'') : Jnd v f l0 L (k + 1) l'' := by
  refine ⟨fun x i hi => ?_, fun y hy => ?_⟩
  · rw [hj.sem x i hi, h.sem x i hi]
    show _ ∨ Bs.bit (f'.pf.vl v (at0 x b.m.toNat)) i = true ↔ _
    rw [hf]
    constructor
    · rintro ((h1 | ⟨j, c, h1, h2, h3⟩) | h1)
      · exact .inl h1
      · exact .inr ⟨j, c, by omega, h2, h3⟩
      · exact .inr ⟨k, b, by omega, hb, h1⟩
    · rintro (h1 | ⟨j, c, h1, h2, h3⟩)
      · exact .inl (.inl h1)
      · rcases Nat.lt_or_eq_of_le (Nat.le_of_lt_succ h1) with e | e
        · exact .inl (.inr ⟨j, c, e, h2, h3⟩)
        · subst e
          rw [hb] at h2
          obtain rfl := Option.some.inj h2
          exact .inr h3
  · rcases hj.from' y hy with e | ⟨c, hc, e⟩
    · exact .inr ⟨b, List.mem_of_getElem? hb, e⟩
    · rcases h.from' c hc with ⟨d, hd, e2⟩ | ⟨d, hd, e2⟩
      · exact .inl ⟨d, hd, e.trans e2⟩
      · exact .inr ⟨d, hd, e.trans e2⟩
theorem Jnd.ac {f : Pf} {l0 L l' : List AH} (h : Jnd v f l0 L L.length l') (x : List (List Nat)) {i : Nat} (hi : i < v) : ac v x l' i ↔ (YtbjaebbmajhjjaaGreat.ac v x l0 i ∨ ∃ b ∈ L, Bs.bit (f.vl v (b.f.pf.vl v (at0 x b.m.toNat))) i = true) := by
  rw [h.sem x i hi]
  constructor
  · rintro (h1 | ⟨j, b, -, h2, h3⟩)
    · exact .inl h1
    · exact .inr ⟨b, List.mem_of_getElem? h2, h3⟩
  · rintro (h1 | ⟨b, hb, h3⟩)
    · exact .inl h1
    · obtain ⟨j, hj⟩ := List.mem_iff_getElem?.1 hb
      exact .inr ⟨j, b, (List.getElem?_eq_some_iff.1 hj).1, hj, h3⟩
theorem remove_to {t : Nat} {rn : AL} {zn : ZH} (h : Ow w0 v N gB gI B M J u) (h' : Ow w0 v N gB gI (B.set t z') M' (J.set t r') u') (hne : n ≠ t) (hr : J[t]? = some r) (hz : B[t]? = some z) (hrn : J[n]? = some rn) (hzn : B[n]? = some zn) {p : Nat} {a : AH} (hp : r.l[p]? = some a) (hm : a.m = n) (hz' : z'.ws = orR v z.ws (a.f.pf.vl v zn.ws)) (hj : Jnd v a.f.pf (r.l.eraseIdx p) rn.l rn.l.length r'.l) :
    (pwO v B J).To (pwO v (B.set t z') (J.set t r')) := by
  obtain ⟨o1, -, n1⟩ := h.pok
  obtain ⟨o2, -, n2⟩ := h'.pok
  have htl : t < J.length := (List.getElem?_eq_some_iff.1 hr).1
  have htb : t < B.length := (List.getElem?_eq_some_iff.1 hz).1
  have hnl : n < J.length := (List.getElem?_eq_some_iff.1 hrn).1
  refine PW.To.remove (w := pwO v B J) (t := t) (m := n) (f := a.f.pf) (l := (r.l.eraseIdx p).map AH.pa) (by rw [n1, ← h.jl]; exact htl) (by rw [n1, ← h.jl]; exact hnl) hne rfl (by rw [n1, n2]) o1 (fun k _ hk => pwO_other hk) (fun y => ?_) (fun x i hi => ?_)
  · rw [pwO_row hr]; exact mem_pa hm (mem_del hp) y
  · replace hi : i < v := hi
    rw [pwO_right (J := J.set t r') (B := B.set t z') (k := t) hi (List.getElem?_set_self htl) (List.getElem?_set_self htb), hz', pwO_bd hz, pwO_bd hzn, pwO_row hrn, hj.ac x hi, bit_orR_iff hi]
    have e : (∃ a' ∈ rn.l, Bs.bit (a.f.pf.vl v (a'.f.pf.vl v (at0 x a'.m.toNat))) i = true) ↔ ∃ a' ∈ rn.l.map AH.pa, Bs.bit (a.f.pf.vl v (a'.2.vl v (at0 x a'.1))) i = true := by
      constructor
      · rintro ⟨b, hb, h1⟩; exact ⟨_, List.mem_map.2 ⟨b, hb, rfl⟩, h1⟩
      · rintro ⟨y, hy, h1⟩
        obtain ⟨b, hb, rfl⟩ := List.mem_map.1 hy
        exact ⟨b, hb, h1⟩
    have e2 : ac v x (r.l.eraseIdx p) i ↔ ∃ a' ∈ (r.l.eraseIdx p).map AH.pa, Bs.bit (a'.2.vl v (at0 x a'.1)) i = true := ac_pa.symm
    show ((Bs.bit z.ws i = true ∨ Bs.bit (a.f.pf.vl v zn.ws) i = true) ∨ ac v x (r.l.eraseIdx p) i ∨ _) ↔ ((Bs.bit z.ws i = true ∨ ∃ a' ∈ (r.l.eraseIdx p).map AH.pa, Bs.bit (a'.2.vl v (at0 x a'.1)) i = true) ∨ Bs.bit (a.f.pf.vl v zn.ws) i = true ∨ ∃ a' ∈ rn.l.map AH.pa, Bs.bit (a.f.pf.vl v (a'.2.vl v (at0 x a'.1))) i = true)
    rw [e, e2]
    constructor
    · rintro ((h1 | h1) | h1 | h1)
      · exact .inl (.inl h1)
      · exact .inr (.inl h1)
      · exact .inl (.inr h1)
      · exact .inr (.inr h1)
    · rintro ((h1 | h1) | h1 | h1)
      · exact .inl (.inl h1)
      · exact .inr (.inl h1)
      · exact .inl (.inr h1)
      · exact .inr (.inr h1)
end
end Go.Proofs.YtbjaebbmajhjjaaGreat
namespace Go.Proofs.YtbjaebbmajhjjaaGreat
set_option maxRecDepth 20000
set_option linter.unusedVariables false
set_option linter.unusedSimpArgs false
open Go.ChangeShapes Go.WideShapes Go.ChangeAt Go.RowKit
def v7R (j : Nat) (u u' : World) : Prop := if j = 11 then Stp1 33 u u' else if j = 13 then Stp1 34 u u' else Below u.heap.size u u'
theorem v7R_of {j : Nat} {u u' : World} (h : Below u.heap.size u u') (h1 : j ≠ 11) (h2 : j ≠ 13) : v7R j u u' := by unfold v7R; rw [if_neg h1, if_neg h2]; exact h
theorem v7R_bel {j : Nat} {u u' : World} (h : v7R j u u') (h1 : j ≠ 11) (h2 : j ≠ 13) : Below u.heap.size u u' := by unfold v7R at h; rwa [if_neg h1, if_neg h2] at h
theorem v7R_row {u u' : World} (h : Stp1 33 u u') : v7R 11 u u' := by unfold v7R; rw [if_pos rfl]; exact h
theorem v7R_w {u u' : World} (h : Stp1 34 u u') : v7R 13 u u' := by unfold v7R; rw [if_neg (by decide), if_pos rfl]; exact h
def v7F (w0 w : World) (v N gB gI n p bS : Nat) (s : FH) (r : AL) (B : List ZH) (J : List AL) : Nat → (Nat → Value) → World → Prop
  | 0, f, u => f 0 = .pointer (some ⟨w.heap.size, 2, none⟩)
  | 1, f, u => f 1 = .slice (some ⟨gI, 0, none⟩) N N
  | 2, f, u => f 2 = .int .i64 (n : Int)
  | 3, f, u => f 3 = .pointer (some ⟨w.heap.size, 2, none⟩)
  | 4, f, u => f 4 = .slice (some ⟨gI, 0, none⟩) N N
  | 5, f, u => f 5 = .int .i64 (n : Int)
  | 6, f, u => f 6 = .pointer (some ⟨gI, n, none⟩)
  | 7, f, u => f 7 = .slice r.A r.n r.c
  | 8, f, u => f 8 = .int .i64 (p : Int)
  | 9, f, u => f 9 = .int .i64 (p : Int)
  | 10, f, u => f 10 = .int .i64 ((p : Int) + 1)
  | 11, f, u => f 11 = .slice r.A (r.n - 1) r.c ∧ Ow w0 v N gB gI B (J.map AL.v) (J.set n (delA r p)) u
  | 12, f, u => f 12 = .pointer (some ⟨gI, n, none⟩)
  | 13, f, u => Ow w0 v N gB gI B ((J.set n (delA r p)).map AL.v) (J.set n (delA r p)) u
  | _, _, _ => True
def v7U : Nat → Option Nat
  | 11 => some 13
  | _ => none
theorem v7F_st {w0 w : World} {v N gB gI n p bS : Nat} {s : FH} {r : AL} {B : List ZH} {J : List AL} {ops : Array Oper} (hq13 : ∀ j, (reachL ops 5 13).contains j = false → j ≠ 11)  (jx : Nat) (vx : Value) (u u' : World) (ix : Nat) (f : Nat → Value) (hR : v7R  jx u u') (hne : ix ≠ jx) (hu : v7U ix ≠ some jx) (hc : (reachL ops 5 ix).contains jx = false) (h : v7F w0 w v N gB gI n p bS s r B J ix f u) : v7F w0 w v N gB gI n p bS s r B J ix (updV f jx vx) u' := by
  match ix, hne, hu, hc, h with
  | 0, hne, hu, hc, h => exact (updV_ne f vx hne).trans h
  | 1, hne, hu, hc, h => exact (updV_ne f vx hne).trans h
  | 2, hne, hu, hc, h => exact (updV_ne f vx hne).trans h
  | 3, hne, hu, hc, h => exact (updV_ne f vx hne).trans h
  | 4, hne, hu, hc, h => exact (updV_ne f vx hne).trans h
  | 5, hne, hu, hc, h => exact (updV_ne f vx hne).trans h
  | 6, hne, hu, hc, h => exact (updV_ne f vx hne).trans h
  | 7, hne, hu, hc, h => exact (updV_ne f vx hne).trans h
  | 8, hne, hu, hc, h => exact (updV_ne f vx hne).trans h
  | 9, hne, hu, hc, h => exact (updV_ne f vx hne).trans h
  | 10, hne, hu, hc, h => exact (updV_ne f vx hne).trans h
  | 11, hne, hu, hc, h => obtain ⟨h1, h2⟩ := h; have h13 : jx ≠ 13 := fun e => hu (by rw [e]; rfl); exact ⟨(updV_ne f vx hne).trans h1, h2.below (v7R_bel hR (fun e => hne e.symm) h13)⟩
  | 12, hne, hu, hc, h => exact (updV_ne f vx hne).trans h
  | 13, hne, hu, hc, h => have h11 : jx ≠ 11 := hq13 jx hc; exact (show Ow w0 v N gB gI B ((J.set n (delA r p)).map AL.v) (J.set n (delA r p)) u from h).below (v7R_bel hR h11 (fun e => hne e.symm))
  | ix + 14, _, _, _, _ => trivial
def v8R (j : Nat) (u u' : World) : Prop := if j = 14 then Stp1 24 u u' else Below u.heap.size u u'
theorem v8R_stp {j : Nat} {u u' : World} (h : v8R j u u') : Stp1 24 u u' := by
  unfold v8R at h
  split at h
  · exact h
  · exact Stp1.below h
theorem v8R_bel {j : Nat} {u u' : World} (h : v8R j u u') (hj : j ≠ 14) : Below u.heap.size u u' := by
  unfold v8R at h
  rwa [if_neg hj] at h
theorem v8R_of {j : Nat} {u u' : World} (h : Below u.heap.size u u') (hj : j ≠ 14) : v8R j u u' := by
  unfold v8R; rwa [if_neg hj]
theorem v8R_refl (j : Nat) (u : World) (hj : j ≠ 14) : v8R j u u := v8R_of (Below.refl _ _) hj
theorem v8R_w {u u' : World} (h : Stp1 24 u u') : v8R 14 u u' := by unfold v8R; rw [if_pos rfl]; exact h
def v8F (w0 w : World) (v N gB gI n bS : Nat) (s : FH) (z : ZH) (B : List ZH) (J' : List AL) : Nat → (Nat → Value) → World → Prop
  | 0, f, u => f 0 = .pointer (some ⟨w.heap.size, 1, none⟩)
  | 1, f, u => f 1 = .slice (some ⟨gB, 0, none⟩) N N
  | 2, f, u => f 2 = .int .i64 (n : Int)
  | 3, f, u => f 3 = .agg #[.int .i64 s.G.W, .slice s.G.A s.G.n s.G.c, .int .i64 s.K.W, .slice s.K.A s.K.n s.K.c, .slice s.C s.k s.q]
  | 4, f, u => f 4 = .pointer (some ⟨w.heap.size, 1, none⟩)
  | 5, f, u => f 5 = .slice (some ⟨gB, 0, none⟩) N N
  | 6, f, u => f 6 = .int .i64 (n : Int)
  | 7, f, u => f 7 = .pointer (some ⟨gB, n * 2, none⟩)
  | 8, f, u => f 8 = .agg #[.int .i64 z.W, .slice z.A z.n z.c]
  | 9, f, u => ∃ g : Nat, f 9 = .tuple #[.agg #[.int .i64 v, .slice (some ⟨g, 0, none⟩) (Bs.nw v) (Bs.nw v)], .int .i64 0] ∧ ZWt u v ⟨v, some ⟨g, 0, none⟩, Bs.nw v, Bs.nw v, s.pf.vl v z.ws⟩
  | 10, f, u => ∃ g : Nat, f 10 = .tuple #[.agg #[.int .i64 v, .slice (some ⟨g, 0, none⟩) (Bs.nw v) (Bs.nw v)], .int .i64 0] ∧ ZWt u v ⟨v, some ⟨g, 0, none⟩, Bs.nw v, Bs.nw v, s.pf.vl v z.ws⟩
  | 11, f, u => ∃ g : Nat, f 11 = .agg #[.int .i64 v, .slice (some ⟨g, 0, none⟩) (Bs.nw v) (Bs.nw v)] ∧ ZWt u v ⟨v, some ⟨g, 0, none⟩, Bs.nw v, Bs.nw v, s.pf.vl v z.ws⟩
  | 12, f, u => f 12 = .int .i64 0
  | 13, f, u => f 13 = .pointer (some ⟨gB, n * 2, none⟩)
  | 14, f, u => ∃ g : Nat, Ow w0 v N gB gI (B.set n ⟨v, some ⟨g, 0, none⟩, Bs.nw v, Bs.nw v, s.pf.vl v z.ws⟩) (J'.map AL.v) J' u
  | _, _, _ => True
def v8U : Nat → Option Nat
  | _ => none
theorem v8F_st {w0 w : World} {v N gB gI n bS : Nat} {s : FH} {z : ZH} {B : List ZH} {J' : List AL} {ops : Array Oper}  (jx : Nat) (vx : Value) (u u' : World) (ix : Nat) (f : Nat → Value) (hR : v8R  jx u u') (hne : ix ≠ jx) (hu : v8U ix ≠ some jx) (hc : (reachL ops 5 ix).contains jx = false) (h : v8F w0 w v N gB gI n bS s z B J' ix f u) : v8F w0 w v N gB gI n bS s z B J' ix (updV f jx vx) u' := by
  match ix, hne, hu, hc, h with
  | 0, hne, hu, hc, h => exact (updV_ne f vx hne).trans h
  | 1, hne, hu, hc, h => exact (updV_ne f vx hne).trans h
  | 2, hne, hu, hc, h => exact (updV_ne f vx hne).trans h
  | 3, hne, hu, hc, h => exact (updV_ne f vx hne).trans h
  | 4, hne, hu, hc, h => exact (updV_ne f vx hne).trans h
  | 5, hne, hu, hc, h => exact (updV_ne f vx hne).trans h
  | 6, hne, hu, hc, h => exact (updV_ne f vx hne).trans h
  | 7, hne, hu, hc, h => exact (updV_ne f vx hne).trans h
  | 8, hne, hu, hc, h => exact (updV_ne f vx hne).trans h
  | 9, hne, hu, hc, h => obtain ⟨g, h1, h2⟩ := h; exact ⟨g, (updV_ne f vx hne).trans h1, h2.stp (v8R_stp hR) (by decide)⟩
  | 10, hne, hu, hc, h => obtain ⟨g, h1, h2⟩ := h; exact ⟨g, (updV_ne f vx hne).trans h1, h2.stp (v8R_stp hR) (by decide)⟩
  | 11, hne, hu, hc, h => obtain ⟨g, h1, h2⟩ := h; exact ⟨g, (updV_ne f vx hne).trans h1, h2.stp (v8R_stp hR) (by decide)⟩
  | 12, hne, hu, hc, h => exact (updV_ne f vx hne).trans h
  | 13, hne, hu, hc, h => exact (updV_ne f vx hne).trans h
  | 14, hne, hu, hc, h => obtain ⟨g, h1⟩ := h; exact ⟨g, h1.below (v8R_bel hR (fun e => hne e.symm))⟩
  | ix + 15, _, _, _, _ => trivial
def v12R (j : Nat) (u u' : World) : Prop := if j = 15 then Stp1 33 u u' else Below u.heap.size u u'
theorem v12R_stp {j : Nat} {u u' : World} (h : v12R j u u') : Stp1 33 u u' := by
  unfold v12R at h
  split at h
  · exact h
  · exact Stp1.below h
theorem v12R_bel {j : Nat} {u u' : World} (h : v12R j u u') (hj : j ≠ 15) : Below u.heap.size u u' := by
  unfold v12R at h
  rwa [if_neg hj] at h
theorem v12R_of {j : Nat} {u u' : World} (h : Below u.heap.size u u') (hj : j ≠ 15) : v12R j u u' := by
  unfold v12R; rwa [if_neg hj]
theorem v12R_refl (j : Nat) (u : World) (hj : j ≠ 15) : v12R j u u := v12R_of (Below.refl _ _) hj
theorem v12R_w {u u' : World} (h : Stp1 33 u u') : v12R 15 u u' := by unfold v12R; rw [if_pos rfl]; exact h
def v12F (w0 w : World) (v N gB gI n k gr bS bA : Nat) (s : FH) (b : AH) (r1 : AL) (B' : List ZH) (J1 : List AL) : Nat → (Nat → Value) → World → Prop
  | 0, f, u => f 0 = .pointer (some ⟨w.heap.size, 2, none⟩)
  | 1, f, u => f 1 = .slice (some ⟨gI, 0, none⟩) N N
  | 2, f, u => f 2 = .int .i64 (n : Int)
  | 3, f, u => f 3 = .pointer (some ⟨gI, n, none⟩)
  | 4, f, u => f 4 = .slice (some ⟨gr, 0, none⟩) r1.n r1.c
  | 5, f, u => f 5 = .int .i64 (k : Int)
  | 6, f, u => f 6 = .pointer (some ⟨bA, 1, none⟩)
  | 7, f, u => f 7 = .agg #[.int .i64 b.f.G.W, .slice b.f.G.A b.f.G.n b.f.G.c, .int .i64 b.f.K.W, .slice b.f.K.A b.f.K.n b.f.K.c, .slice b.f.C b.f.k b.f.q]
  | 8, f, u => f 8 = .agg #[.int .i64 s.G.W, .slice s.G.A s.G.n s.G.c, .int .i64 s.K.W, .slice s.K.A s.K.n s.K.c, .slice s.C s.k s.q]
  | 9, f, u => ∃ f' : FH, f 9 = .tuple #[.agg #[.int .i64 v, .slice f'.G.A f'.G.n f'.G.c, .int .i64 v, .slice f'.K.A f'.K.n f'.K.c, .slice f'.C f'.k f'.q], .int .i64 0] ∧ f'.G.W = v ∧ f'.K.W = v ∧ FWt u v f' ∧ ∀ ss, f'.pf.vl v ss = s.pf.vl v (b.f.pf.vl v ss)
  | 10, f, u => ∃ f' : FH, f 10 = .tuple #[.agg #[.int .i64 v, .slice f'.G.A f'.G.n f'.G.c, .int .i64 v, .slice f'.K.A f'.K.n f'.K.c, .slice f'.C f'.k f'.q], .int .i64 0] ∧ f'.G.W = v ∧ f'.K.W = v ∧ FWt u v f' ∧ ∀ ss, f'.pf.vl v ss = s.pf.vl v (b.f.pf.vl v ss)
  | 11, f, u => ∃ f' : FH, f 11 = .agg #[.int .i64 v, .slice f'.G.A f'.G.n f'.G.c, .int .i64 v, .slice f'.K.A f'.K.n f'.K.c, .slice f'.C f'.k f'.q] ∧ f'.G.W = v ∧ f'.K.W = v ∧ FWt u v f' ∧ ∀ ss, f'.pf.vl v ss = s.pf.vl v (b.f.pf.vl v ss)
  | 12, f, u => f 12 = .int .i64 0
  | 13, f, u => f 13 = .pointer (some ⟨gr, k * 6, none⟩)
  | 14, f, u => f 14 = .pointer (some ⟨gr, k * 6 + 1, none⟩)
  | 15, f, u => ∃ f' : FH, Ow w0 v N gB gI B' ((J1.set n ⟨r1.A, r1.n, r1.c, r1.l.set k (arcSet b f')⟩).map AL.v) (J1.set n ⟨r1.A, r1.n, r1.c, r1.l.set k (arcSet b f')⟩) u ∧ ∀ ss, f'.pf.vl v ss = s.pf.vl v (b.f.pf.vl v ss)
  | 16, f, u => f 16 = .int .i64 0
  | _, _, _ => True
def v12U : Nat → Option Nat
  | _ => none
theorem v12F_st {w0 w : World} {v N gB gI n k gr bS bA : Nat} {s : FH} {b : AH} {r1 : AL} {B' : List ZH} {J1 : List AL} {ops : Array Oper}  (jx : Nat) (vx : Value) (u u' : World) (ix : Nat) (f : Nat → Value) (hR : v12R  jx u u') (hne : ix ≠ jx) (hu : v12U ix ≠ some jx) (hc : (reachL ops 5 ix).contains jx = false) (h : v12F w0 w v N gB gI n k gr bS bA s b r1 B' J1 ix f u) : v12F w0 w v N gB gI n k gr bS bA s b r1 B' J1 ix (updV f jx vx) u' := by
  match ix, hne, hu, hc, h with
  | 0, hne, hu, hc, h => exact (updV_ne f vx hne).trans h
  | 1, hne, hu, hc, h => exact (updV_ne f vx hne).trans h
  | 2, hne, hu, hc, h => exact (updV_ne f vx hne).trans h
  | 3, hne, hu, hc, h => exact (updV_ne f vx hne).trans h
  | 4, hne, hu, hc, h => exact (updV_ne f vx hne).trans h
  | 5, hne, hu, hc, h => exact (updV_ne f vx hne).trans h
  | 6, hne, hu, hc, h => exact (updV_ne f vx hne).trans h
  | 7, hne, hu, hc, h => exact (updV_ne f vx hne).trans h
  | 8, hne, hu, hc, h => exact (updV_ne f vx hne).trans h
  | 9, hne, hu, hc, h => obtain ⟨f', h1, h2, h3, h4, h5⟩ := h; exact ⟨f', (updV_ne f vx hne).trans h1, h2, h3, h4.stp (v12R_stp hR) (by decide) (by decide), h5⟩
  | 10, hne, hu, hc, h => obtain ⟨f', h1, h2, h3, h4, h5⟩ := h; exact ⟨f', (updV_ne f vx hne).trans h1, h2, h3, h4.stp (v12R_stp hR) (by decide) (by decide), h5⟩
  | 11, hne, hu, hc, h => obtain ⟨f', h1, h2, h3, h4, h5⟩ := h; exact ⟨f', (updV_ne f vx hne).trans h1, h2, h3, h4.stp (v12R_stp hR) (by decide) (by decide), h5⟩
  | 12, hne, hu, hc, h => exact (updV_ne f vx hne).trans h
  | 13, hne, hu, hc, h => exact (updV_ne f vx hne).trans h
  | 14, hne, hu, hc, h => exact (updV_ne f vx hne).trans h
  | 15, hne, hu, hc, h => obtain ⟨f', h1, h2⟩ := h; exact ⟨f', h1.below (v12R_bel hR (fun e => hne e.symm)), h2⟩
  | 16, hne, hu, hc, h => exact (updV_ne f vx hne).trans h
  | ix + 17, _, _, _, _ => trivial
def RetRs (w0 : World) (v N gB gI n : Nat) (B : List ZH) (J : List AL) (w : World) (e : Ending) (w' : World) : Prop :=
  ∃ (B' : List ZH) (J' : List AL), e = .returned (.int .i64 0) ∧ Ow w0 v N gB gI B' (J'.map AL.v) J' w' ∧ (pwO v B J).To (pwO v B' J') ∧ Fsub J J' ∧ (∀ r, J'[n]? = some r → ∀ a ∈ r.l, a.m ≠ n) ∧ TyX w w'
structure Rsl (w0 w : World) (v N gB gI n bS : Nat) (WEB : Array Value) (s : FH) (B : List ZH) (J : List AL) (r : AL) (l0 : List AH) (k : Nat) (u : World) : Prop where
  ow : ∃ L, Cmd v s.pf l0 k L ∧ Ow w0 v N gB gI B ((J.set n ⟨r.A, r.n - 1, r.c, L⟩).map AL.v) (J.set n ⟨r.A, r.n - 1, r.c, L⟩) u
  e : EB w v WEB bS s u
set_option maxHeartbeats 12800000 in
theorem resolve_any (w0 : World) (v N gB gI n : Nat) (B : List ZH) (J : List AL) (w : World) (h : Ow w0 v N gB gI B (J.map AL.v) J w) (hv : v ≤ 8) (hN : N ≤ 256) (hnN : n < N) :
    Calls Tryz.prog 59 #[.agg #[.int .i64 v, .slice (some ⟨gB, 0, none⟩) N N, .slice (some ⟨gI, 0, none⟩) N N], .int .i64 n] w (RetRs w0 v N gB gI n B J w) := by
  obtain ⟨r, hr⟩ : ∃ r, J[n]? = some r := ⟨_, List.getElem?_eq_getElem (by rw [h.jl]; exact hnN)⟩
  obtain ⟨z, hz⟩ : ∃ z, B[n]? = some z := ⟨_, List.getElem?_eq_getElem (by rw [h.bl]; exact hnN)⟩
  have Ht := hid hr
  have Hz := hid hz
  have hra := h.rt r (List.mem_of_getElem? hr)
  have Hra := hid hra
  have Hrn := hid (show r.n ≤ 256 from Nat.le_trans hra.few hN)
  have H0 := hid h
  obtain ⟨p, hp⟩ := plc_ex hra.ris n
  have Hp := hid hp
  have Hm := hid (show (J.map AL.v)[n]? = some (.slice r.A r.n r.c) from by rw [List.getElem?_map, hr]; rfl)
  have hb1 := (Below.refl w.heap.size w).alloc (Nat.le_refl _) (.cells #[.int .i64 v, .slice (some ⟨gB, 0, none⟩) N N, .slice (some ⟨gI, 0, none⟩) N N] 37)
  have HOw1 := hid (h.below hb1)
  have HW1 := hid (Fb.new w #[.int .i64 v, .slice (some ⟨gB, 0, none⟩) N N, .slice (some ⟨gI, 0, none⟩) N N] 37)
  have HX1 := hid (TyX.below hb1)
  have HS1 := hid (show w.heap.size < (w.alloc (.cells #[.int .i64 v, .slice (some ⟨gB, 0, none⟩) N N, .slice (some ⟨gI, 0, none⟩) N N] 37)).heap.size from HW1.out.lt)
  clear h hr hz hra hp hb1
  go_enter Tryz.func59, Tryz.ntmps59
  go_upto_region 1 with fail
  generalize w.alloc (.cells #[.int .i64 v, .slice (some ⟨gB, 0, none⟩) N N, .slice (some ⟨gI, 0, none⟩) N N] 37) = w1 at *
  have n0 : (0 : Int) ≤ n := by omega
  have n1 : (n : Int) < N := by omega
  have n2 : (n : Int).toNat = n := by omega
  obtain ⟨x0, x1, x2⟩ := HW1.out.three
  have m0 := HOw1.out.cellM Hm.out
  go_wp2_with fail
  refine (place2_any w0.heap.size v N r n p w1 (HOw1.out.rt r (List.mem_of_getElem? Ht.out)) hN Hp.out).mono ?_
  rintro _ w3 ⟨rfl, hb3⟩
  have HOw3 := hid (HOw1.out.below hb3)
  have HW3 := hid (HW1.out.below hb3 HW1.out.lt)
  have HX3 := hid (HX1.out.trans (TyX.below hb3))
  have HS3 := hid (Nat.lt_of_lt_of_le HS1.out hb3.size)
  clear x0 x1 x2 m0 hb3 HOw1 HW1 HX1 HS1
  generalize hf : fdA r.l p n = fd at *
  cases fd with
  | false =>
    have HFin := hid (show RetRs w0 v N gB gI n B J w (.returned (.int .i64 0)) w3 from ⟨B, J, rfl, HOw3.out, PW.To.refl _, Fsub.refl _, fun r2 hr2 a ha => by
      rw [Ht.out] at hr2
      obtain rfl := Option.some.inj hr2
      exact fdA_no Hra.out.ris Hp.out hf a ha, HX3.out⟩)
    clear hf
    go_wp2_with fail
    exact bodyPost_ret (v := .int .i64 0) (by simp [results, Tryz.results59, go_sem]) rfl HFin.out
  | true =>
    obtain ⟨a, ha, ham⟩ := fdA_yes hf
    have Ha := hid ha
    have Ham := hid ham
    have Hpl := hid (show p < r.n from by rw [← Hra.out.len]; exact (List.getElem?_eq_some_iff.1 ha).1)
    have HFa := hid ((HOw3.out.rt r (List.mem_of_getElem? Ht.out)).arcs a (List.mem_of_getElem? ha))
    obtain ⟨gr, hA, hg1, hg2, -, hcc, -⟩ := (HOw3.out.rt r (List.mem_of_getElem? Ht.out)).at ha
    have HA := hid hA
    obtain ⟨x0, x1, x2⟩ := HW3.out.three
    have m0 := HOw3.out.cellM Hm.out
    rw [hA] at m0
    have y1 := hcc 1 (by decide)
    have y2 : w3.cell? ⟨gr, p * 6 + 1 + 1, none⟩ = _ := hcc 2 (by decide)
    have y3 : w3.cell? ⟨gr, p * 6 + 1 + 2, none⟩ = _ := hcc 3 (by decide)
    have y4 : w3.cell? ⟨gr, p * 6 + 1 + 3, none⟩ = _ := hcc 4 (by decide)
    have y5 : w3.cell? ⟨gr, p * 6 + 1 + 4, none⟩ = _ := hcc 5 (by decide)
    simp only [AH.cells, List.getElem?_cons_zero, List.getElem?_cons_succ] at y1 y2 y3 y4 y5
    have p0 : (0 : Int) ≤ p := by omega
    have p1 : (p : Int) < r.n := by have := Hpl.out; omega
    have p2 : (p : Int).toNat = p := by omega
    clear hf ha ham hA hcc
    go_wp2_with fail
    refine (starF a.f v w3 HFa.out hv).mono ?_
    rintro _ w5 ⟨s, rfl, hs1, hs2, hfw, hst, hb5⟩
    have Hst := hid hst
    have hb6 := (Below.refl w5.heap.size w5).alloc (Nat.le_refl _) (.cells #[.int .i64 v, .slice s.G.A s.G.n s.G.c, .int .i64 v, .slice s.K.A s.K.n s.K.c, .slice s.C s.k s.q] 30)
    have hb7 := below_step hb5 hb6
    have HOw := hid (HOw3.out.below hb7)
    have HE := hid (show EB w v #[.int .i64 v, .slice (some ⟨gB, 0, none⟩) N N, .slice (some ⟨gI, 0, none⟩) N N] w5.heap.size s (w5.alloc (.cells #[.int .i64 v, .slice s.G.A s.G.n s.G.c, .int .i64 v, .slice s.K.A s.K.n s.K.c, .slice s.C s.k s.q] 30)) from ⟨HW3.out.below hb7 HS3.out, by rw [hs1, hs2]; exact Fb.new _ _ _, hfw.below hb6, HX3.out.trans (TyX.below hb7)⟩)
    clear x0 x1 x2 m0 y1 y2 y3 y4 y5 hs1 hs2 hfw hst hb5 hb6 hb7 HOw3 HW3 HX3 HS3 HFa
    go_upto_region 7 with fail
    rename_i Kx hKx
    generalize w5.alloc (.cells #[.int .i64 v, .slice s.G.A s.G.n s.G.c, .int .i64 v, .slice s.K.A s.K.n s.K.c, .slice s.C s.k s.q] 30) = w7 at *
    generalize w5.heap.size = bS at *
    clear p0 p1 p2 hg1 hg2
    refine wp_region_factsI (fun j u => (j = 7 ∨ j = 11) → Ow w0 v N gB gI B (J.map AL.v) J u) (v7F w0 w v N gB gI n p bS s r B J) (fun u => EB w v #[.int .i64 v, .slice (some ⟨gB, 0, none⟩) N N, .slice (some ⟨gI, 0, none⟩) N N] bS s u) v7U (v7R ) Kx (fun _ _ h => h) 14 14 (some 39 :: some 40 :: some 41 :: some 42 :: some 43 :: some 44 :: some 45 :: some 46 :: some 47 :: some 48 :: some 49 :: some 50 :: some 51 :: none :: []) (by kernel_rfl) (by kernel_rfl) (by kernel_rfl) (by kernel_rfl) (by kernel_rfl) (by kernel_rfl) (by decide)
      (v7F_st (fun j h e => by subst e; exact Bool.false_ne_true (h.symm.trans (by kernel_rfl)))) ?bs ?gb ?gs ?ar ?en
    case bs => exact HE.out.below (Below.refl _ _).drew
    case gb =>
      exact fun c _ => HOw.out.below (Below.refl _ _).drew
    case gs =>
      intro j u u' c hR hne hnr hG hc
      have h11 : j ≠ 11 := by
        rintro rfl
        rcases hc with rfl | rfl
        · exact Bool.false_ne_true (hnr.symm.trans (by kernel_rfl))
        · exact hne rfl
      have h13 : j ≠ 13 := by
        rintro rfl
        rcases hc with rfl | rfl
        · exact Bool.false_ne_true (hnr.symm.trans (by kernel_rfl))
        · exact Bool.false_ne_true (hnr.symm.trans (by kernel_rfl))
      exact (hG hc).below (v7R_bel hR h11 h13)
    case ar =>
      intro j o f u ho hi hB hG hpre K hK
      match j, ho, hG, hpre, hK with
      | 0, ho, hG, hpre, hK =>
        obtain rfl := Option.some.inj ho
        refine wpOp_step rfl fun K' hK' => ?_
        simp only [putL, updV]
        go_simp
        have hz := hK' _ _ (hK (.pointer (some ⟨w.heap.size, 2, none⟩)) (u) (hB) (v7R_of (Below.refl _ _) (by decide) (by decide)) (rfl))
        refine Eq.mp (congrArg (fun act => K' act (u)) ?_) hz
        kernel_rfl
      | 1, ho, hG, hpre, hK =>
        obtain rfl := Option.some.inj ho
        obtain ⟨x0, x1, x2⟩ := hB.ww.three
        have hl := hB.ww.lt
        have e0 : f 0 = .pointer (some ⟨w.heap.size, 2, none⟩) := hpre ⟨0, .data⟩ (by simp) rfl (.inl rfl)
        obtain ⟨f, rfl⟩ := fixG f 0 _ e0
        clear e0
        refine wpOp_step rfl fun K' hK' => ?_
        simp only [putL, updV]
        go_simp
        have hz := hK' _ _ (hK (.slice (some ⟨gI, 0, none⟩) N N) (u) (hB) (v7R_of (Below.refl _ _) (by decide) (by decide)) (rfl))
        refine Eq.mp (congrArg (fun act => K' act (u)) ?_) hz
        kernel_rfl
      | 2, ho, hG, hpre, hK =>
        obtain rfl := Option.some.inj ho
        refine wpOp_step rfl fun K' hK' => ?_
        simp only [putL, updV]
        go_simp
        have hz := hK' _ _ (hK (.int .i64 (n : Int)) (u) (hB) (v7R_of (Below.refl _ _) (by decide) (by decide)) (rfl))
        refine Eq.mp (congrArg (fun act => K' act (u)) ?_) hz
        kernel_rfl
      | 3, ho, hG, hpre, hK =>
        obtain rfl := Option.some.inj ho
        refine wpOp_step rfl fun K' hK' => ?_
        simp only [putL, updV]
        go_simp
        have hz := hK' _ _ (hK (.pointer (some ⟨w.heap.size, 2, none⟩)) (u) (hB) (v7R_of (Below.refl _ _) (by decide) (by decide)) (rfl))
        refine Eq.mp (congrArg (fun act => K' act (u)) ?_) hz
        kernel_rfl
      | 4, ho, hG, hpre, hK =>
        obtain rfl := Option.some.inj ho
        obtain ⟨x0, x1, x2⟩ := hB.ww.three
        have hl := hB.ww.lt
        have e3 : f 3 = .pointer (some ⟨w.heap.size, 2, none⟩) := hpre ⟨3, .data⟩ (by simp) rfl (.inl rfl)
        obtain ⟨f, rfl⟩ := fixG f 3 _ e3
        clear e3
        refine wpOp_step rfl fun K' hK' => ?_
        simp only [putL, updV]
        go_simp
        have hz := hK' _ _ (hK (.slice (some ⟨gI, 0, none⟩) N N) (u) (hB) (v7R_of (Below.refl _ _) (by decide) (by decide)) (rfl))
        refine Eq.mp (congrArg (fun act => K' act (u)) ?_) hz
        kernel_rfl
      | 5, ho, hG, hpre, hK =>
        obtain rfl := Option.some.inj ho
        refine wpOp_step rfl fun K' hK' => ?_
        simp only [putL, updV]
        go_simp
        have hz := hK' _ _ (hK (.int .i64 (n : Int)) (u) (hB) (v7R_of (Below.refl _ _) (by decide) (by decide)) (rfl))
        refine Eq.mp (congrArg (fun act => K' act (u)) ?_) hz
        kernel_rfl
      | 6, ho, hG, hpre, hK =>
        obtain rfl := Option.some.inj ho
        have k0 : (0 : Int) ≤ n := by omega
        have k1 : (n : Int) < N := by omega
        have k2 : (n : Int).toNat = n := by omega
        have e4 : f 4 = .slice (some ⟨gI, 0, none⟩) N N := hpre ⟨4, .data⟩ (by simp) rfl (.inl rfl)
        have e5 : f 5 = .int .i64 (n : Int) := hpre ⟨5, .data⟩ (by simp) rfl (.inl rfl)
        obtain ⟨f, rfl⟩ := fixG f 4 _ e4
        rw [updV_ne _ _ (by decide)] at e5
        obtain ⟨f, rfl⟩ := fixG f 5 _ e5
        clear e4 e5
        refine wpOp_step rfl fun K' hK' => ?_
        simp only [putL, updV]
        go_simp
        have hz := hK' _ _ (hK (.pointer (some ⟨gI, n, none⟩)) (u) (hB) (v7R_of (Below.refl _ _) (by decide) (by decide)) (rfl))
        refine Eq.mp (congrArg (fun act => K' act (u)) ?_) hz
        kernel_rfl
      | 7, ho, hG, hpre, hK =>
        obtain rfl := Option.some.inj ho
        have y0 := (hG (.inl rfl)).cellM Hm.out
        have hl := (hG (.inl rfl)).fi.lt
        have e6 : f 6 = .pointer (some ⟨gI, n, none⟩) := hpre ⟨6, .data⟩ (by simp) rfl (.inl rfl)
        obtain ⟨f, rfl⟩ := fixG f 6 _ e6
        clear e6
        refine wpOp_step rfl fun K' hK' => ?_
        simp only [putL, updV]
        go_simp
        have hz := hK' _ _ (hK (.slice r.A r.n r.c) (u) (hB) (v7R_of (Below.refl _ _) (by decide) (by decide)) (rfl))
        refine Eq.mp (congrArg (fun act => K' act (u)) ?_) hz
        kernel_rfl
      | 8, ho, hG, hpre, hK =>
        obtain rfl := Option.some.inj ho
        refine wpOp_step rfl fun K' hK' => ?_
        simp only [putL, updV]
        go_simp
        have hz := hK' _ _ (hK (.int .i64 (p : Int)) (u) (hB) (v7R_of (Below.refl _ _) (by decide) (by decide)) (rfl))
        refine Eq.mp (congrArg (fun act => K' act (u)) ?_) hz
        kernel_rfl
      | 9, ho, hG, hpre, hK =>
        obtain rfl := Option.some.inj ho
        refine wpOp_step rfl fun K' hK' => ?_
        simp only [putL, updV]
        go_simp
        have hz := hK' _ _ (hK (.int .i64 (p : Int)) (u) (hB) (v7R_of (Below.refl _ _) (by decide) (by decide)) (rfl))
        refine Eq.mp (congrArg (fun act => K' act (u)) ?_) hz
        kernel_rfl
      | 10, ho, hG, hpre, hK =>
        obtain rfl := Option.some.inj ho
        have hw : IntKind.i64.wrap ((p : Int) + 1) = (p : Int) + 1 := IntWalk.i64_in _ (by have := Hpl.out; have := Hrn.out; omega)
        have e9 : f 9 = .int .i64 (p : Int) := hpre ⟨9, .data⟩ (by simp) rfl (.inl rfl)
        obtain ⟨f, rfl⟩ := fixG f 9 _ e9
        clear e9
        refine wpOp_step rfl fun K' hK' => ?_
        simp only [putL, updV]
        go_simp
        have hz := hK' _ _ (hK (.int .i64 ((p : Int) + 1)) (u) (hB) (v7R_of (Below.refl _ _) (by decide) (by decide)) (rfl))
        refine Eq.mp (congrArg (fun act => K' act (u)) ?_) hz
        kernel_rfl
      | 11, ho, hG, hpre, hK =>
        obtain rfl := Option.some.inj ho
        have e7 : f 7 = .slice r.A r.n r.c := hpre ⟨7, .data⟩ (by simp) rfl (.inl rfl)
        have e8 : f 8 = .int .i64 (p : Int) := hpre ⟨8, .data⟩ (by simp) rfl (.inl rfl)
        have e10 : f 10 = .int .i64 ((p : Int) + 1) := hpre ⟨10, .data⟩ (by simp) rfl (.inl rfl)
        obtain ⟨f, rfl⟩ := fixG f 7 _ e7
        rw [updV_ne _ _ (by decide)] at e8
        rw [updV_ne _ _ (by decide)] at e10
        obtain ⟨f, rfl⟩ := fixG f 8 _ e8
        rw [updV_ne _ _ (by decide)] at e10
        obtain ⟨f, rfl⟩ := fixG f 10 _ e10
        clear e7 e8 e10
        refine wpOp_step rfl fun K' hK' => ?_
        simp only [putL, updV]
        go_simp
        go_at_call 92
        have how := hG (.inr rfl)
        have hra := how.rt r (List.mem_of_getElem? Ht.out)
        refine (delete_any w0.heap.size v N r p u hra hN Hpl.out).mono ?_
        rintro e u5 ⟨rfl, hrow, hgr⟩
        have how2 := how.row (r' := delA r p) Ht.out hgr hrow (fun g e => .inl ((delA_block r p).symm.trans e))
        have hs : Stp1 33 u u5 := ⟨_, hgr, fun k e => own_typ hra.own e⟩
        have hz := hK' _ _ (hK (.slice r.A (r.n - 1) r.c) (u5) (hB.stp hs (.inr (.inr rfl))) (v7R_row hs) (⟨rfl, how2⟩))
        refine Eq.mp (congrArg (fun act => K' act (u5)) ?_) hz
        kernel_rfl
      | 12, ho, hG, hpre, hK =>
        obtain rfl := Option.some.inj ho
        have k0 : (0 : Int) ≤ n := by omega
        have k1 : (n : Int) < N := by omega
        have k2 : (n : Int).toNat = n := by omega
        have e1 : f 1 = .slice (some ⟨gI, 0, none⟩) N N := hpre ⟨1, .data⟩ (by simp) rfl (.inl rfl)
        have e2 : f 2 = .int .i64 (n : Int) := hpre ⟨2, .data⟩ (by simp) rfl (.inl rfl)
        obtain ⟨f, rfl⟩ := fixG f 1 _ e1
        rw [updV_ne _ _ (by decide)] at e2
        obtain ⟨f, rfl⟩ := fixG f 2 _ e2
        clear e1 e2
        refine wpOp_step rfl fun K' hK' => ?_
        simp only [putL, updV]
        go_simp
        have hz := hK' _ _ (hK (.pointer (some ⟨gI, n, none⟩)) (u) (hB) (v7R_of (Below.refl _ _) (by decide) (by decide)) (rfl))
        refine Eq.mp (congrArg (fun act => K' act (u)) ?_) hz
        kernel_rfl
      | 13, ho, hG, hpre, hK =>
        obtain rfl := Option.some.inj ho
        have e12 : f 12 = .pointer (some ⟨gI, n, none⟩) := hpre ⟨12, .data⟩ (by simp) rfl (.inl rfl)
        obtain ⟨e11, how⟩ : f 11 = .slice r.A (r.n - 1) r.c ∧ Ow w0 v N gB gI B (J.map AL.v) (J.set n (delA r p)) u := hpre ⟨11, .data⟩ (by simp) rfl (.inr rfl)
        obtain ⟨f, rfl⟩ := fixG f 12 _ e12
        rw [updV_ne _ _ (by decide)] at e11
        obtain ⟨f, rfl⟩ := fixG f 11 _ e11
        clear e12 e11
        have y0 := how.cellM Hm.out
        have f0 := how.fi.frozen n
        have hl := how.fi.lt
        have hs := stp_cell how.fi n (.slice r.A (r.n - 1) r.c)
        have how2 := how.setM hnN (.slice r.A (r.n - 1) r.c)
        rw [show (J.map AL.v).set n (.slice r.A (r.n - 1) r.c) = (J.set n (delA r p)).map AL.v from by rw [List.map_set]; rfl] at how2
        refine wpOp_step rfl fun K' hK' => ?_
        simp only [putL, updV]
        go_simp
        have hz := hK' _ _ (hK (undef) (u.setCell ⟨gI, n, none⟩ (.slice r.A (r.n - 1) r.c)) (hB.stp hs (.inr (.inl rfl))) (v7R_w hs) (how2))
        refine Eq.mp (congrArg (fun act => K' act (u.setCell ⟨gI, n, none⟩ (.slice r.A (r.n - 1) r.c))) ?_) hz
        kernel_rfl
      | j + 14, ho, hG, hpre, hK => exact absurd hi (by omega)
    case en =>
      intro Q2 hQ2 f u hB hF
      have how : Ow w0 v N gB gI B ((J.set n (delA r p)).map AL.v) (J.set n (delA r p)) u := hF 13 (by decide) rfl
      have HOw8 := hid how
      have HE8 := hid hB
      clear hF
      show wpAny _ _ _ _ 0 (tailArr 14 14) _ _
      refine ⟨by kernel_rfl, hQ2 _ _ (hKx _ _ ?_)⟩
      simp only [putL, updV]
      clear how hB HOw HE
      obtain ⟨J', hJ'⟩ : ∃ J', J.set n (delA r p) = J' := ⟨_, rfl⟩
      have HJ' := hid hJ'
      rw [hJ'] at HOw8
      clear hJ'
      go_upto_region 8 with fail
      rename_i Kx hKx
      refine wp_region_factsI (fun j u => (j = 8 ∨ j = 9 ∨ j = 14) → Ow w0 v N gB gI B (J'.map AL.v) J' u) (v8F w0 w v N gB gI n bS s z B J') (fun u => EB w v #[.int .i64 v, .slice (some ⟨gB, 0, none⟩) N N, .slice (some ⟨gI, 0, none⟩) N N] bS s u) v8U (v8R ) Kx (fun _ _ h => h) 15 15 (some 53 :: some 54 :: some 55 :: some 56 :: some 57 :: some 58 :: some 59 :: some 60 :: some 61 :: some 62 :: some 52 :: some 63 :: some 64 :: some 65 :: none :: []) (by kernel_rfl) (by kernel_rfl) (by kernel_rfl) (by kernel_rfl) (by kernel_rfl) (by kernel_rfl) (by decide)
        (v8F_st) ?bs ?gb ?gs ?ar ?en
      case bs => exact HE8.out.below (Below.refl _ _).drew
      case gb =>
        exact fun c _ => HOw8.out.below (Below.refl _ _).drew
      case gs =>
        intro j u u' c hR hne hnr hG hc
        have h14 : j ≠ 14 := by
          rintro rfl
          rcases hc with rfl | rfl | rfl
          · exact Bool.false_ne_true (hnr.symm.trans (by kernel_rfl))
          · exact Bool.false_ne_true (hnr.symm.trans (by kernel_rfl))
          · exact hne rfl
        exact (hG hc).below (v8R_bel hR h14)
      case ar =>
        intro j o f u ho hi hB hG hpre K hK
        match j, ho, hG, hpre, hK with
        | 0, ho, hG, hpre, hK =>
          obtain rfl := Option.some.inj ho
          refine wpOp_step rfl fun K' hK' => ?_
          simp only [putL, updV]
          go_simp
          have hz := hK' _ _ (hK (.pointer (some ⟨w.heap.size, 1, none⟩)) (u) (hB) (v8R_refl _ _ (by decide)) (rfl))
          refine Eq.mp (congrArg (fun act => K' act (u)) ?_) hz
          kernel_rfl
        | 1, ho, hG, hpre, hK =>
          obtain rfl := Option.some.inj ho
          obtain ⟨x0, x1, x2⟩ := hB.ww.three
          have hl := hB.ww.lt
          have e0 : f 0 = .pointer (some ⟨w.heap.size, 1, none⟩) := hpre ⟨0, .data⟩ (by simp) rfl (.inl rfl)
          obtain ⟨f, rfl⟩ := fixG f 0 _ e0
          clear e0
          refine wpOp_step rfl fun K' hK' => ?_
          simp only [putL, updV]
          go_simp
          have hz := hK' _ _ (hK (.slice (some ⟨gB, 0, none⟩) N N) (u) (hB) (v8R_refl _ _ (by decide)) (rfl))
          refine Eq.mp (congrArg (fun act => K' act (u)) ?_) hz
          kernel_rfl
        | 2, ho, hG, hpre, hK =>
          obtain rfl := Option.some.inj ho
          refine wpOp_step rfl fun K' hK' => ?_
          simp only [putL, updV]
          go_simp
          have hz := hK' _ _ (hK (.int .i64 (n : Int)) (u) (hB) (v8R_refl _ _ (by decide)) (rfl))
          refine Eq.mp (congrArg (fun act => K' act (u)) ?_) hz
          kernel_rfl
        | 3, ho, hG, hpre, hK =>
          obtain rfl := Option.some.inj ho
          obtain ⟨z0, z1, z2, z3, z4⟩ := hB.ss.five
          have hl := hB.ss.lt
          refine wpOp_step rfl fun K' hK' => ?_
          simp only [putL, updV]
          go_simp
          have hz := hK' _ _ (hK (.agg #[.int .i64 s.G.W, .slice s.G.A s.G.n s.G.c, .int .i64 s.K.W, .slice s.K.A s.K.n s.K.c, .slice s.C s.k s.q]) (u) (hB) (v8R_refl _ _ (by decide)) (rfl))
          refine Eq.mp (congrArg (fun act => K' act (u)) ?_) hz
          kernel_rfl
        | 4, ho, hG, hpre, hK =>
          obtain rfl := Option.some.inj ho
          refine wpOp_step rfl fun K' hK' => ?_
          simp only [putL, updV]
          go_simp
          have hz := hK' _ _ (hK (.pointer (some ⟨w.heap.size, 1, none⟩)) (u) (hB) (v8R_refl _ _ (by decide)) (rfl))
          refine Eq.mp (congrArg (fun act => K' act (u)) ?_) hz
          kernel_rfl
        | 5, ho, hG, hpre, hK =>
          obtain rfl := Option.some.inj ho
          obtain ⟨x0, x1, x2⟩ := hB.ww.three
          have hl := hB.ww.lt
          have e4 : f 4 = .pointer (some ⟨w.heap.size, 1, none⟩) := hpre ⟨4, .data⟩ (by simp) rfl (.inl rfl)
          obtain ⟨f, rfl⟩ := fixG f 4 _ e4
          clear e4
          refine wpOp_step rfl fun K' hK' => ?_
          simp only [putL, updV]
          go_simp
          have hz := hK' _ _ (hK (.slice (some ⟨gB, 0, none⟩) N N) (u) (hB) (v8R_refl _ _ (by decide)) (rfl))
          refine Eq.mp (congrArg (fun act => K' act (u)) ?_) hz
          kernel_rfl
        | 6, ho, hG, hpre, hK =>
          obtain rfl := Option.some.inj ho
          refine wpOp_step rfl fun K' hK' => ?_
          simp only [putL, updV]
          go_simp
          have hz := hK' _ _ (hK (.int .i64 (n : Int)) (u) (hB) (v8R_refl _ _ (by decide)) (rfl))
          refine Eq.mp (congrArg (fun act => K' act (u)) ?_) hz
          kernel_rfl
        | 7, ho, hG, hpre, hK =>
          obtain rfl := Option.some.inj ho
          have k0 : (0 : Int) ≤ n := by omega
          have k1 : (n : Int) < N := by omega
          have k2 : (n : Int).toNat = n := by omega
          have e5 : f 5 = .slice (some ⟨gB, 0, none⟩) N N := hpre ⟨5, .data⟩ (by simp) rfl (.inl rfl)
          have e6 : f 6 = .int .i64 (n : Int) := hpre ⟨6, .data⟩ (by simp) rfl (.inl rfl)
          obtain ⟨f, rfl⟩ := fixG f 5 _ e5
          rw [updV_ne _ _ (by decide)] at e6
          obtain ⟨f, rfl⟩ := fixG f 6 _ e6
          clear e5 e6
          refine wpOp_step rfl fun K' hK' => ?_
          simp only [putL, updV]
          go_simp
          have hz := hK' _ _ (hK (.pointer (some ⟨gB, n * 2, none⟩)) (u) (hB) (v8R_refl _ _ (by decide)) (rfl))
          refine Eq.mp (congrArg (fun act => K' act (u)) ?_) hz
          kernel_rfl
        | 8, ho, hG, hpre, hK =>
          obtain rfl := Option.some.inj ho
          obtain ⟨y0, y1⟩ := (hG (.inl rfl)).cellB Hz.out
          have hl := (hG (.inl rfl)).fb.lt
          have e7 : f 7 = .pointer (some ⟨gB, n * 2, none⟩) := hpre ⟨7, .data⟩ (by simp) rfl (.inl rfl)
          obtain ⟨f, rfl⟩ := fixG f 7 _ e7
          clear e7
          refine wpOp_step rfl fun K' hK' => ?_
          simp only [putL, updV]
          go_simp
          have hz := hK' _ _ (hK (.agg #[.int .i64 z.W, .slice z.A z.n z.c]) (u) (hB) (v8R_refl _ _ (by decide)) (rfl))
          refine Eq.mp (congrArg (fun act => K' act (u)) ?_) hz
          kernel_rfl
        | 9, ho, hG, hpre, hK =>
          obtain rfl := Option.some.inj ho
          have e3 : f 3 = .agg #[.int .i64 s.G.W, .slice s.G.A s.G.n s.G.c, .int .i64 s.K.W, .slice s.K.A s.K.n s.K.c, .slice s.C s.k s.q] := hpre ⟨3, .data⟩ (by simp) rfl (.inl rfl)
          have e8 : f 8 = .agg #[.int .i64 z.W, .slice z.A z.n z.c] := hpre ⟨8, .data⟩ (by simp) rfl (.inl rfl)
          obtain ⟨f, rfl⟩ := fixG f 3 _ e3
          rw [updV_ne _ _ (by decide)] at e8
          obtain ⟨f, rfl⟩ := fixG f 8 _ e8
          clear e3 e8
          refine wpOp_step rfl fun K' hK' => ?_
          simp only [putL, updV]
          go_simp
          go_at_call 93
          have hzt := (hG (.inr (.inl rfl))).bt z (List.mem_of_getElem? Hz.out)
          refine (applyF s z v u hB.fw hzt (by omega)).mono ?_
          rintro e u5 ⟨g, rfl, hzw, hb⟩
          have hz := hK' _ _ (hK (.tuple #[.agg #[.int .i64 v, .slice (some ⟨g, 0, none⟩) (Bs.nw v) (Bs.nw v)], .int .i64 0]) (u5) (hB.below hb) (v8R_of hb (by decide)) (⟨g, rfl, hzw⟩))
          refine Eq.mp (congrArg (fun act => K' act (u5)) ?_) hz
          kernel_rfl
        | 10, ho, hG, hpre, hK =>
          obtain rfl := Option.some.inj ho
          obtain ⟨g, e9, hzw⟩ : ∃ g : Nat, f 9 = .tuple #[.agg #[.int .i64 v, .slice (some ⟨g, 0, none⟩) (Bs.nw v) (Bs.nw v)], .int .i64 0] ∧ ZWt u v ⟨v, some ⟨g, 0, none⟩, Bs.nw v, Bs.nw v, s.pf.vl v z.ws⟩ := hpre ⟨9, .data⟩ (by simp) rfl (.inl rfl)
          obtain ⟨f, rfl⟩ := fixG f 9 _ e9
          clear e9
          refine wpOp_step rfl fun K' hK' => ?_
          simp only [putL, updV]
          go_simp
          have hz := hK' _ _ (hK (.tuple #[.agg #[.int .i64 v, .slice (some ⟨g, 0, none⟩) (Bs.nw v) (Bs.nw v)], .int .i64 0]) (u) (hB) (v8R_refl _ _ (by decide)) (⟨g, rfl, hzw⟩))
          refine Eq.mp (congrArg (fun act => K' act (u)) ?_) hz
          kernel_rfl
        | 11, ho, hG, hpre, hK =>
          obtain rfl := Option.some.inj ho
          obtain ⟨g, e10, hzw⟩ : ∃ g : Nat, f 10 = .tuple #[.agg #[.int .i64 v, .slice (some ⟨g, 0, none⟩) (Bs.nw v) (Bs.nw v)], .int .i64 0] ∧ ZWt u v ⟨v, some ⟨g, 0, none⟩, Bs.nw v, Bs.nw v, s.pf.vl v z.ws⟩ := hpre ⟨10, .data⟩ (by simp) rfl (.inl rfl)
          obtain ⟨f, rfl⟩ := fixG f 10 _ e10
          clear e10
          refine wpOp_step rfl fun K' hK' => ?_
          simp only [putL, updV]
          go_simp
          have hz := hK' _ _ (hK (.agg #[.int .i64 v, .slice (some ⟨g, 0, none⟩) (Bs.nw v) (Bs.nw v)]) (u) (hB) (v8R_refl _ _ (by decide)) (⟨g, rfl, hzw⟩))
          refine Eq.mp (congrArg (fun act => K' act (u)) ?_) hz
          kernel_rfl
        | 12, ho, hG, hpre, hK =>
          obtain rfl := Option.some.inj ho
          obtain ⟨g, e10, hzw⟩ : ∃ g : Nat, f 10 = .tuple #[.agg #[.int .i64 v, .slice (some ⟨g, 0, none⟩) (Bs.nw v) (Bs.nw v)], .int .i64 0] ∧ ZWt u v ⟨v, some ⟨g, 0, none⟩, Bs.nw v, Bs.nw v, s.pf.vl v z.ws⟩ := hpre ⟨10, .data⟩ (by simp) rfl (.inl rfl)
          obtain ⟨f, rfl⟩ := fixG f 10 _ e10
          clear e10
          refine wpOp_step rfl fun K' hK' => ?_
          simp only [putL, updV]
          go_simp
          have hz := hK' _ _ (hK (.int .i64 0) (u) (hB) (v8R_refl _ _ (by decide)) (rfl))
          refine Eq.mp (congrArg (fun act => K' act (u)) ?_) hz
          kernel_rfl
        | 13, ho, hG, hpre, hK =>
          obtain rfl := Option.some.inj ho
          have k0 : (0 : Int) ≤ n := by omega
          have k1 : (n : Int) < N := by omega
          have k2 : (n : Int).toNat = n := by omega
          have e1 : f 1 = .slice (some ⟨gB, 0, none⟩) N N := hpre ⟨1, .data⟩ (by simp) rfl (.inl rfl)
          have e2 : f 2 = .int .i64 (n : Int) := hpre ⟨2, .data⟩ (by simp) rfl (.inl rfl)
          obtain ⟨f, rfl⟩ := fixG f 1 _ e1
          rw [updV_ne _ _ (by decide)] at e2
          obtain ⟨f, rfl⟩ := fixG f 2 _ e2
          clear e1 e2
          refine wpOp_step rfl fun K' hK' => ?_
          simp only [putL, updV]
          go_simp
          have hz := hK' _ _ (hK (.pointer (some ⟨gB, n * 2, none⟩)) (u) (hB) (v8R_refl _ _ (by decide)) (rfl))
          refine Eq.mp (congrArg (fun act => K' act (u)) ?_) hz
          kernel_rfl
        | 14, ho, hG, hpre, hK =>
          obtain rfl := Option.some.inj ho
          have e13 : f 13 = .pointer (some ⟨gB, n * 2, none⟩) := hpre ⟨13, .data⟩ (by simp) rfl (.inl rfl)
          obtain ⟨g, e11, hzw⟩ : ∃ g : Nat, f 11 = .agg #[.int .i64 v, .slice (some ⟨g, 0, none⟩) (Bs.nw v) (Bs.nw v)] ∧ ZWt u v ⟨v, some ⟨g, 0, none⟩, Bs.nw v, Bs.nw v, s.pf.vl v z.ws⟩ := hpre ⟨11, .data⟩ (by simp) rfl (.inl rfl)
          have how := hG (.inr (.inr rfl))
          obtain ⟨y0, y1⟩ := how.cellB Hz.out
          have f0 := how.fb.frozen (n * 2)
          have f1 := how.fb.frozen (n * 2 + 1)
          have hl := how.fb.lt
          have hs := two_cells how.fb (n * 2) (n * 2 + 1) (.int .i64 v) (.slice (some ⟨g, 0, none⟩) (Bs.nw v) (Bs.nw v))
          have how2 := how.setB hnN hzw
          obtain ⟨f, rfl⟩ := fixG f 13 _ e13
          rw [updV_ne _ _ (by decide)] at e11
          obtain ⟨f, rfl⟩ := fixG f 11 _ e11
          clear e13 e11
          refine wpOp_step rfl fun K' hK' => ?_
          simp only [putL, updV]
          go_simp
          have hz := hK' _ _ (hK (undef) ((u.setCell ⟨gB, n * 2, none⟩ (.int .i64 v)).setCell ⟨gB, n * 2 + 1, none⟩ (.slice (some ⟨g, 0, none⟩) (Bs.nw v) (Bs.nw v))) (hB.stp hs (.inl rfl)) (v8R_w hs) (⟨g, how2⟩))
          refine Eq.mp (congrArg (fun act => K' act ((u.setCell ⟨gB, n * 2, none⟩ (.int .i64 v)).setCell ⟨gB, n * 2 + 1, none⟩ (.slice (some ⟨g, 0, none⟩) (Bs.nw v) (Bs.nw v)))) ?_) hz
          kernel_rfl
        | j + 15, ho, hG, hpre, hK => exact absurd hi (by omega)
      case en =>
        intro Q2 hQ2 f u hB hF
        obtain ⟨g, how⟩ : ∃ g : Nat, Ow w0 v N gB gI (B.set n ⟨v, some ⟨g, 0, none⟩, Bs.nw v, Bs.nw v, s.pf.vl v z.ws⟩) (J'.map AL.v) J' u := hF 14 (by decide) rfl
        have HOw9 := hid how
        have HE9 := hid hB
        clear hF
        show wpAny _ _ _ _ 0 (tailArr 15 15) _ _
        refine ⟨by kernel_rfl, hQ2 _ _ (hKx _ _ ?_)⟩
        simp only [putL, updV]
        clear how hB HOw8 HE8
        obtain ⟨B', hB'⟩ : ∃ B', B.set n ⟨v, some ⟨g, 0, none⟩, Bs.nw v, Bs.nw v, s.pf.vl v z.ws⟩ = B' := ⟨_, rfl⟩
        have HB' := hid hB'
        rw [hB'] at HOw9
        have hlen : (r.l.eraseIdx p).length = r.n - 1 := by rw [List.length_eraseIdx, Hra.out.len, if_pos Hpl.out]
        have Hlen := hid hlen
        have hnJ : n < J.length := (List.getElem?_eq_some_iff.1 Ht.out).1
        have HnJ := hid hnJ
        have Hm9 := hid (show (J'.map AL.v)[n]? = some (.slice r.A (r.n - 1) r.c) from by rw [← HJ'.out, List.getElem?_map, List.getElem?_set_self hnJ]; rfl)
        have HI0 := hid (show Rsl w0 w v N gB gI n bS #[.int .i64 v, .slice (some ⟨gB, 0, none⟩) N N, .slice (some ⟨gI, 0, none⟩) N N] s B' J r (r.l.eraseIdx p) 0 u from ⟨⟨r.l.eraseIdx p, Cmd.start _ _ _, by
          have := HOw9.out
          rw [← HJ'.out] at this
          exact this⟩, HE9.out⟩)
        obtain ⟨x0, x1, x2⟩ := HE9.out.ww.three
        have m0 := HOw9.out.cellM Hm9.out
        rw [HA.out] at m0
        clear hB' hlen hnJ HOw9 HE9 HJ' Hm9
        go_wp2_with fail
        clear x0 x1 x2 m0
        go_loopw [72] (fun jv wr => ∃ k : Nat, k ≤ r.n - 1 ∧ jv = .int .i64 k ∧ Hid (Rsl w0 w v N gB gI n bS #[.int .i64 v, .slice (some ⟨gB, 0, none⟩) N N, .slice (some ⟨gI, 0, none⟩) N N] s B' J r (r.l.eraseIdx p) k wr)) (fun jv _ => (r.n - 1) - (intOf jv).toNat)
        case atStart => exact ⟨0, by omega, rfl, HI0⟩
        case round =>
          clear HI0
          obtain ⟨k, hk, rfl, HI⟩ := hrel
          obtain ⟨⟨L, hc, how⟩, he⟩ := HI.out
          have Hc := hid hc
          have HOw := hid how
          have HE := hid he
          clear HI hc how he
          by_cases hlt : k < r.n - 1
          · have hrn := Hrn.out
            obtain ⟨b, hb0, -⟩ := get_at Hlen.out hlt
            have Hb0 := hid hb0
            have Hb := hid (show (AL.mk r.A (r.n - 1) r.c L).l[k]? = some b from Hc.out.cur hb0)
            have Hr1 := hid (show (J.set n ⟨r.A, r.n - 1, r.c, L⟩)[n]? = some (AL.mk r.A (r.n - 1) r.c L) from List.getElem?_set_self HnJ.out)
            obtain ⟨J1, hJ1⟩ : ∃ J1, J.set n ⟨r.A, r.n - 1, r.c, L⟩ = J1 := ⟨_, rfl⟩
            have HJ1 := hid hJ1
            rw [hJ1] at HOw Hr1
            obtain ⟨r1, hr1⟩ : ∃ r1, AL.mk r.A (r.n - 1) r.c L = r1 := ⟨_, rfl⟩
            have HR1 := hid hr1
            have Hr1n := hid (show r1.n = r.n - 1 by rw [← hr1])
            have hr1A : r1.A = some ⟨gr, 0, none⟩ := by rw [← hr1]; exact HA.out
            rw [hr1] at Hr1 Hb
            have HA1 := hid hr1A
            have Hm1 := hid (show (J1.map AL.v)[n]? = some (.slice (some ⟨gr, 0, none⟩) r1.n r1.c) from by rw [List.getElem?_map, Hr1.out, ← hr1A]; rfl)
            have HFb := hid ((HOw.out.rt r1 (List.mem_of_getElem? Hr1.out)).arcs b (List.mem_of_getElem? Hb.out))
            obtain ⟨g', hA', hg1, hg2, -, hcc, -⟩ := (HOw.out.rt r1 (List.mem_of_getElem? Hr1.out)).at Hb.out
            rw [hr1A] at hA'
            obtain rfl : gr = g' := by injection hA' with h1; injection h1
            have y0 : wr.cell? ⟨gr, k * 6, none⟩ = _ := hcc 0 (by decide)
            have y1 := hcc 1 (by decide)
            have y2 := hcc 2 (by decide)
            have y3 := hcc 3 (by decide)
            have y4 := hcc 4 (by decide)
            have y5 := hcc 5 (by decide)
            simp only [AH.cells, List.getElem?_cons_zero, List.getElem?_cons_succ] at y0 y1 y2 y3 y4 y5
            have k0 : (0 : Int) ≤ k := by omega
            have k1 : (k : Int) < r.n - 1 := by omega
            have k2 : (k : Int).toNat = k := by omega
            have hba := (Below.refl wr.heap.size wr).alloc (Nat.le_refl _) (.cells #[.int .i64 b.m, .int .i64 b.f.G.W, .slice b.f.G.A b.f.G.n b.f.G.c, .int .i64 b.f.K.W, .slice b.f.K.A b.f.K.n b.f.K.c, .slice b.f.C b.f.k b.f.q] 33)
            have HOw1 := hid (HOw.out.below hba)
            have HE1 := hid (HE.out.below hba)
            have HFa := hid (HFb.out.below hba)
            have HAb := hid (Fb.new wr #[.int .i64 b.m, .int .i64 b.f.G.W, .slice b.f.G.A b.f.G.n b.f.G.c, .int .i64 b.f.K.W, .slice b.f.K.A b.f.K.n b.f.K.c, .slice b.f.C b.f.k b.f.q] 33)
            have Hne := hid (show wr.heap.size ≠ gr by omega)
            have hkr : k < r1.n := by rw [Hr1n.out]; omega
            clear HOw HE HFb hba hcc hA' hb0 hJ1 hr1 hr1A
            go_upto_region 12 with fail
            rename_i Kx hKx
            clear y0 y1 y2 y3 y4 y5
            generalize wr.alloc (.cells #[.int .i64 b.m, .int .i64 b.f.G.W, .slice b.f.G.A b.f.G.n b.f.G.c, .int .i64 b.f.K.W, .slice b.f.K.A b.f.K.n b.f.K.c, .slice b.f.C b.f.k b.f.q] 33) = w11 at *
            generalize wr.heap.size = bA at *
            refine wp_region_factsI (fun i u => (i = 4 ∨ i = 15) → Ow w0 v N gB gI B' (J1.map AL.v) J1 u) (v12F w0 w v N gB gI n k gr bS bA s b r1 B' J1) (fun u => EB w v #[.int .i64 v, .slice (some ⟨gB, 0, none⟩) N N, .slice (some ⟨gI, 0, none⟩) N N] bS s u ∧ Fb u bA #[.int .i64 b.m, .int .i64 b.f.G.W, .slice b.f.G.A b.f.G.n b.f.G.c, .int .i64 b.f.K.W, .slice b.f.K.A b.f.K.n b.f.K.c, .slice b.f.C b.f.k b.f.q] 33 ∧ FWt u v b.f) v12U (v12R ) Kx (fun _ _ h => h) 17 17 (some 78 :: some 79 :: some 80 :: some 81 :: some 82 :: some 83 :: some 84 :: some 85 :: some 86 :: some 87 :: some 77 :: some 88 :: some 89 :: some 90 :: some 91 :: none :: some 8 :: []) (by kernel_rfl) (by kernel_rfl) (by kernel_rfl) (by kernel_rfl) (by kernel_rfl) (by kernel_rfl) (by decide)
              (v12F_st) ?bs ?gb ?gs ?ar ?en
            case bs => exact ⟨HE1.out.below (Below.refl _ _).drew, HAb.out.below (Below.refl _ _).drew HAb.out.lt, HFa.out.below (Below.refl _ _).drew⟩
            case gb =>
              exact fun c _ => HOw1.out.below (Below.refl _ _).drew
            case gs =>
              intro i u u' c hR hne hnr hG hc
              have h15 : i ≠ 15 := by
                rintro rfl
                rcases hc with rfl | rfl
                · exact Bool.false_ne_true (hnr.symm.trans (by kernel_rfl))
                · exact hne rfl
              exact (hG hc).below (v12R_bel hR h15)
            case ar =>
              intro j o f u ho hi hB hG hpre K hK
              match j, ho, hG, hpre, hK with
              | 0, ho, hG, hpre, hK =>
                obtain rfl := Option.some.inj ho
                refine wpOp_step rfl fun K' hK' => ?_
                simp only [putL, updV]
                go_simp
                have hz := hK' _ _ (hK (.pointer (some ⟨w.heap.size, 2, none⟩)) (u) (hB) (v12R_refl _ _ (by decide)) (rfl))
                refine Eq.mp (congrArg (fun act => K' act (u)) ?_) hz
                kernel_rfl
              | 1, ho, hG, hpre, hK =>
                obtain rfl := Option.some.inj ho
                obtain ⟨x0, x1, x2⟩ := hB.1.ww.three
                have hl := hB.1.ww.lt
                have e0 : f 0 = .pointer (some ⟨w.heap.size, 2, none⟩) := hpre ⟨0, .data⟩ (by simp) rfl (.inl rfl)
                obtain ⟨f, rfl⟩ := fixG f 0 _ e0
                clear e0
                refine wpOp_step rfl fun K' hK' => ?_
                simp only [putL, updV]
                go_simp
                have hz := hK' _ _ (hK (.slice (some ⟨gI, 0, none⟩) N N) (u) (hB) (v12R_refl _ _ (by decide)) (rfl))
                refine Eq.mp (congrArg (fun act => K' act (u)) ?_) hz
                kernel_rfl
              | 2, ho, hG, hpre, hK =>
                obtain rfl := Option.some.inj ho
                refine wpOp_step rfl fun K' hK' => ?_
                simp only [putL, updV]
                go_simp
                have hz := hK' _ _ (hK (.int .i64 (n : Int)) (u) (hB) (v12R_refl _ _ (by decide)) (rfl))
                refine Eq.mp (congrArg (fun act => K' act (u)) ?_) hz
                kernel_rfl
              | 3, ho, hG, hpre, hK =>
                obtain rfl := Option.some.inj ho
                have k0 : (0 : Int) ≤ n := by omega
                have k1 : (n : Int) < N := by omega
                have k2 : (n : Int).toNat = n := by omega
                have e1 : f 1 = .slice (some ⟨gI, 0, none⟩) N N := hpre ⟨1, .data⟩ (by simp) rfl (.inl rfl)
                have e2 : f 2 = .int .i64 (n : Int) := hpre ⟨2, .data⟩ (by simp) rfl (.inl rfl)
                obtain ⟨f, rfl⟩ := fixG f 1 _ e1
                rw [updV_ne _ _ (by decide)] at e2
                obtain ⟨f, rfl⟩ := fixG f 2 _ e2
                clear e1 e2
                refine wpOp_step rfl fun K' hK' => ?_
                simp only [putL, updV]
                go_simp
                have hz := hK' _ _ (hK (.pointer (some ⟨gI, n, none⟩)) (u) (hB) (v12R_refl _ _ (by decide)) (rfl))
                refine Eq.mp (congrArg (fun act => K' act (u)) ?_) hz
                kernel_rfl
              | 4, ho, hG, hpre, hK =>
                obtain rfl := Option.some.inj ho
                have y0 := (hG (.inl rfl)).cellM Hm1.out
                have hl := (hG (.inl rfl)).fi.lt
                have e3 : f 3 = .pointer (some ⟨gI, n, none⟩) := hpre ⟨3, .data⟩ (by simp) rfl (.inl rfl)
                obtain ⟨f, rfl⟩ := fixG f 3 _ e3
                clear e3
                refine wpOp_step rfl fun K' hK' => ?_
                simp only [putL, updV]
                go_simp
                have hz := hK' _ _ (hK (.slice (some ⟨gr, 0, none⟩) r1.n r1.c) (u) (hB) (v12R_refl _ _ (by decide)) (rfl))
                refine Eq.mp (congrArg (fun act => K' act (u)) ?_) hz
                kernel_rfl
              | 5, ho, hG, hpre, hK =>
                obtain rfl := Option.some.inj ho
                refine wpOp_step rfl fun K' hK' => ?_
                simp only [putL, updV]
                go_simp
                have hz := hK' _ _ (hK (.int .i64 (k : Int)) (u) (hB) (v12R_refl _ _ (by decide)) (rfl))
                refine Eq.mp (congrArg (fun act => K' act (u)) ?_) hz
                kernel_rfl
              | 6, ho, hG, hpre, hK =>
                obtain rfl := Option.some.inj ho
                refine wpOp_step rfl fun K' hK' => ?_
                simp only [putL, updV]
                go_simp
                have hz := hK' _ _ (hK (.pointer (some ⟨bA, 1, none⟩)) (u) (hB) (v12R_refl _ _ (by decide)) (rfl))
                refine Eq.mp (congrArg (fun act => K' act (u)) ?_) hz
                kernel_rfl
              | 7, ho, hG, hpre, hK =>
                obtain rfl := Option.some.inj ho
                obtain ⟨y0, y1, y2, y3, y4, y5⟩ := hB.2.1.six
                have hl := hB.2.1.lt
                have e6 : f 6 = .pointer (some ⟨bA, 1, none⟩) := hpre ⟨6, .data⟩ (by simp) rfl (.inl rfl)
                obtain ⟨f, rfl⟩ := fixG f 6 _ e6
                clear e6
                refine wpOp_step rfl fun K' hK' => ?_
                simp only [putL, updV]
                go_simp
                have hz := hK' _ _ (hK (.agg #[.int .i64 b.f.G.W, .slice b.f.G.A b.f.G.n b.f.G.c, .int .i64 b.f.K.W, .slice b.f.K.A b.f.K.n b.f.K.c, .slice b.f.C b.f.k b.f.q]) (u) (hB) (v12R_refl _ _ (by decide)) (rfl))
                refine Eq.mp (congrArg (fun act => K' act (u)) ?_) hz
                kernel_rfl
              | 8, ho, hG, hpre, hK =>
                obtain rfl := Option.some.inj ho
                obtain ⟨z0, z1, z2, z3, z4⟩ := hB.1.ss.five
                have hl := hB.1.ss.lt
                refine wpOp_step rfl fun K' hK' => ?_
                simp only [putL, updV]
                go_simp
                have hz := hK' _ _ (hK (.agg #[.int .i64 s.G.W, .slice s.G.A s.G.n s.G.c, .int .i64 s.K.W, .slice s.K.A s.K.n s.K.c, .slice s.C s.k s.q]) (u) (hB) (v12R_refl _ _ (by decide)) (rfl))
                refine Eq.mp (congrArg (fun act => K' act (u)) ?_) hz
                kernel_rfl
              | 9, ho, hG, hpre, hK =>
                obtain rfl := Option.some.inj ho
                have e7 : f 7 = .agg #[.int .i64 b.f.G.W, .slice b.f.G.A b.f.G.n b.f.G.c, .int .i64 b.f.K.W, .slice b.f.K.A b.f.K.n b.f.K.c, .slice b.f.C b.f.k b.f.q] := hpre ⟨7, .data⟩ (by simp) rfl (.inl rfl)
                have e8 : f 8 = .agg #[.int .i64 s.G.W, .slice s.G.A s.G.n s.G.c, .int .i64 s.K.W, .slice s.K.A s.K.n s.K.c, .slice s.C s.k s.q] := hpre ⟨8, .data⟩ (by simp) rfl (.inl rfl)
                obtain ⟨f, rfl⟩ := fixG f 7 _ e7
                rw [updV_ne _ _ (by decide)] at e8
                obtain ⟨f, rfl⟩ := fixG f 8 _ e8
                clear e7 e8
                refine wpOp_step rfl fun K' hK' => ?_
                simp only [putL, updV]
                go_simp
                go_at_call 94
                refine (composeF b.f s v u hB.2.2 hB.1.fw hv).mono ?_
                rintro e u5 ⟨f', rfl, hw1, hw2, hfw, hsem, hb⟩
                have hz := hK' _ _ (hK (.tuple #[.agg #[.int .i64 v, .slice f'.G.A f'.G.n f'.G.c, .int .i64 v, .slice f'.K.A f'.K.n f'.K.c, .slice f'.C f'.k f'.q], .int .i64 0]) (u5) (⟨hB.1.below hb, hB.2.1.below hb hB.2.1.lt, hB.2.2.below hb⟩) (v12R_of hb (by decide)) (⟨f', rfl, hw1, hw2, hfw, hsem⟩))
                refine Eq.mp (congrArg (fun act => K' act (u5)) ?_) hz
                kernel_rfl
              | 10, ho, hG, hpre, hK =>
                obtain rfl := Option.some.inj ho
                obtain ⟨f', e9, hw1, hw2, hfw, hsem⟩ : ∃ f' : FH, f 9 = .tuple #[.agg #[.int .i64 v, .slice f'.G.A f'.G.n f'.G.c, .int .i64 v, .slice f'.K.A f'.K.n f'.K.c, .slice f'.C f'.k f'.q], .int .i64 0] ∧ f'.G.W = v ∧ f'.K.W = v ∧ FWt u v f' ∧ ∀ ss, f'.pf.vl v ss = s.pf.vl v (b.f.pf.vl v ss) := hpre ⟨9, .data⟩ (by simp) rfl (.inl rfl)
                obtain ⟨f, rfl⟩ := fixG f 9 _ e9
                clear e9
                refine wpOp_step rfl fun K' hK' => ?_
                simp only [putL, updV]
                go_simp
                have hz := hK' _ _ (hK (.tuple #[.agg #[.int .i64 v, .slice f'.G.A f'.G.n f'.G.c, .int .i64 v, .slice f'.K.A f'.K.n f'.K.c, .slice f'.C f'.k f'.q], .int .i64 0]) (u) (hB) (v12R_refl _ _ (by decide)) (⟨f', rfl, hw1, hw2, hfw, hsem⟩))
                refine Eq.mp (congrArg (fun act => K' act (u)) ?_) hz
                kernel_rfl
              | 11, ho, hG, hpre, hK =>
                obtain rfl := Option.some.inj ho
                obtain ⟨f', e10, hw1, hw2, hfw, hsem⟩ : ∃ f' : FH, f 10 = .tuple #[.agg #[.int .i64 v, .slice f'.G.A f'.G.n f'.G.c, .int .i64 v, .slice f'.K.A f'.K.n f'.K.c, .slice f'.C f'.k f'.q], .int .i64 0] ∧ f'.G.W = v ∧ f'.K.W = v ∧ FWt u v f' ∧ ∀ ss, f'.pf.vl v ss = s.pf.vl v (b.f.pf.vl v ss) := hpre ⟨10, .data⟩ (by simp) rfl (.inl rfl)
                obtain ⟨f, rfl⟩ := fixG f 10 _ e10
                clear e10
                refine wpOp_step rfl fun K' hK' => ?_
                simp only [putL, updV]
                go_simp
                have hz := hK' _ _ (hK (.agg #[.int .i64 v, .slice f'.G.A f'.G.n f'.G.c, .int .i64 v, .slice f'.K.A f'.K.n f'.K.c, .slice f'.C f'.k f'.q]) (u) (hB) (v12R_refl _ _ (by decide)) (⟨f', rfl, hw1, hw2, hfw, hsem⟩))
                refine Eq.mp (congrArg (fun act => K' act (u)) ?_) hz
                kernel_rfl
              | 12, ho, hG, hpre, hK =>
                obtain rfl := Option.some.inj ho
                obtain ⟨f', e10, hw1, hw2, hfw, hsem⟩ : ∃ f' : FH, f 10 = .tuple #[.agg #[.int .i64 v, .slice f'.G.A f'.G.n f'.G.c, .int .i64 v, .slice f'.K.A f'.K.n f'.K.c, .slice f'.C f'.k f'.q], .int .i64 0] ∧ f'.G.W = v ∧ f'.K.W = v ∧ FWt u v f' ∧ ∀ ss, f'.pf.vl v ss = s.pf.vl v (b.f.pf.vl v ss) := hpre ⟨10, .data⟩ (by simp) rfl (.inl rfl)
                obtain ⟨f, rfl⟩ := fixG f 10 _ e10
                clear e10
                refine wpOp_step rfl fun K' hK' => ?_
                simp only [putL, updV]
                go_simp
                have hz := hK' _ _ (hK (.int .i64 0) (u) (hB) (v12R_refl _ _ (by decide)) (rfl))
                refine Eq.mp (congrArg (fun act => K' act (u)) ?_) hz
                kernel_rfl
              | 13, ho, hG, hpre, hK =>
                obtain rfl := Option.some.inj ho
                have k0 : (0 : Int) ≤ k := by omega
                have k1 : (k : Int) < r1.n := by omega
                have k2 : (k : Int).toNat = k := by omega
                have e4 : f 4 = .slice (some ⟨gr, 0, none⟩) r1.n r1.c := hpre ⟨4, .data⟩ (by simp) rfl (.inl rfl)
                have e5 : f 5 = .int .i64 (k : Int) := hpre ⟨5, .data⟩ (by simp) rfl (.inl rfl)
                obtain ⟨f, rfl⟩ := fixG f 4 _ e4
                rw [updV_ne _ _ (by decide)] at e5
                obtain ⟨f, rfl⟩ := fixG f 5 _ e5
                clear e4 e5
                refine wpOp_step rfl fun K' hK' => ?_
                simp only [putL, updV]
                go_simp
                have hz := hK' _ _ (hK (.pointer (some ⟨gr, k * 6, none⟩)) (u) (hB) (v12R_refl _ _ (by decide)) (rfl))
                refine Eq.mp (congrArg (fun act => K' act (u)) ?_) hz
                kernel_rfl
              | 14, ho, hG, hpre, hK =>
                obtain rfl := Option.some.inj ho
                have e13 : f 13 = .pointer (some ⟨gr, k * 6, none⟩) := hpre ⟨13, .data⟩ (by simp) rfl (.inl rfl)
                obtain ⟨f, rfl⟩ := fixG f 13 _ e13
                clear e13
                refine wpOp_step rfl fun K' hK' => ?_
                simp only [putL, updV]
                go_simp
                have hz := hK' _ _ (hK (.pointer (some ⟨gr, k * 6 + 1, none⟩)) (u) (hB) (v12R_refl _ _ (by decide)) (rfl))
                refine Eq.mp (congrArg (fun act => K' act (u)) ?_) hz
                kernel_rfl
              | 15, ho, hG, hpre, hK =>
                obtain rfl := Option.some.inj ho
                have e14 : f 14 = .pointer (some ⟨gr, k * 6 + 1, none⟩) := hpre ⟨14, .data⟩ (by simp) rfl (.inl rfl)
                obtain ⟨f', e11, hw1, hw2, hfw, hsem⟩ : ∃ f' : FH, f 11 = .agg #[.int .i64 v, .slice f'.G.A f'.G.n f'.G.c, .int .i64 v, .slice f'.K.A f'.K.n f'.K.c, .slice f'.C f'.k f'.q] ∧ f'.G.W = v ∧ f'.K.W = v ∧ FWt u v f' ∧ ∀ ss, f'.pf.vl v ss = s.pf.vl v (b.f.pf.vl v ss) := hpre ⟨11, .data⟩ (by simp) rfl (.inl rfl)
                have how := hG (.inr rfl)
                obtain ⟨g', hA', hgg, hgl, -, hcc, hff⟩ := (how.rt r1 (List.mem_of_getElem? Hr1.out)).at Hb.out
                rw [HA1.out] at hA'
                obtain rfl : gr = g' := by injection hA' with h1; injection h1
                clear hA'
                have x1 := hcc 1 (by decide)
                have x2 : u.cell? ⟨gr, k * 6 + 1 + 1, none⟩ = _ := hcc 2 (by decide)
                have x3 : u.cell? ⟨gr, k * 6 + 1 + 2, none⟩ = _ := hcc 3 (by decide)
                have x4 : u.cell? ⟨gr, k * 6 + 1 + 3, none⟩ = _ := hcc 4 (by decide)
                have x5 : u.cell? ⟨gr, k * 6 + 1 + 4, none⟩ = _ := hcc 5 (by decide)
                have f1 := hff (k * 6 + 1)
                have f2 := hff (k * 6 + 1 + 1)
                have f3 := hff (k * 6 + 1 + 2)
                have f4 := hff (k * 6 + 1 + 3)
                have f5 := hff (k * 6 + 1 + 4)
                simp only [AH.cells, List.getElem?_cons_zero, List.getElem?_cons_succ] at x1 x2 x3 x4 x5
                have how2 := how.putF Hr1.out Hb.out hfw HA1.out
                have hgr := putF_grown u gr (k * 6 + 1) f'
                have hs : Stp1 33 u (putF u gr (k * 6 + 1) f') := ⟨_, hgr, fun k e => by obtain rfl := Option.some.inj e; exact own_typ (how.rt r1 (List.mem_of_getElem? Hr1.out)).own (by unfold AL.v; rw [HA1.out]; rfl)⟩
                clear hcc hff
                obtain ⟨f, rfl⟩ := fixG f 14 _ e14
                rw [updV_ne _ _ (by decide)] at e11
                obtain ⟨f, rfl⟩ := fixG f 11 _ e11
                clear e14 e11
                refine wpOp_step rfl fun K' hK' => ?_
                simp only [putL, updV]
                go_simp
                have hz := hK' _ _ (hK (undef) (((((u.setCell ⟨gr, k * 6 + 1, none⟩ (.int .i64 v)).setCell ⟨gr, k * 6 + 1 + 1, none⟩ (.slice f'.G.A f'.G.n f'.G.c)).setCell ⟨gr, k * 6 + 1 + 2, none⟩ (.int .i64 v)).setCell ⟨gr, k * 6 + 1 + 3, none⟩ (.slice f'.K.A f'.K.n f'.K.c)).setCell ⟨gr, k * 6 + 1 + 4, none⟩ (.slice f'.C f'.k f'.q)) (by rw [← putF_v hw1 hw2]; exact ⟨hB.1.stp hs (.inr (.inr rfl)), hB.2.1.grown hgr (fun e => Hne.out (Option.some.inj e)), hB.2.2.stp hs (by decide) (by decide)⟩) (by rw [← putF_v hw1 hw2]; exact v12R_w hs) (by rw [← putF_v hw1 hw2]; exact ⟨f', how2, hsem⟩))
                refine Eq.mp (congrArg (fun act => K' act (((((u.setCell ⟨gr, k * 6 + 1, none⟩ (.int .i64 v)).setCell ⟨gr, k * 6 + 1 + 1, none⟩ (.slice f'.G.A f'.G.n f'.G.c)).setCell ⟨gr, k * 6 + 1 + 2, none⟩ (.int .i64 v)).setCell ⟨gr, k * 6 + 1 + 3, none⟩ (.slice f'.K.A f'.K.n f'.K.c)).setCell ⟨gr, k * 6 + 1 + 4, none⟩ (.slice f'.C f'.k f'.q))) ?_) hz
                kernel_rfl
              | 16, ho, hG, hpre, hK =>
                obtain rfl := Option.some.inj ho
                have e12 : f 12 = .int .i64 0 := hpre ⟨12, .data⟩ (by simp) rfl (.inl rfl)
                obtain ⟨f, rfl⟩ := fixG f 12 _ e12
                clear e12
                refine wpOp_step rfl fun K' hK' => ?_
                simp only [putL, updV]
                go_simp
                have hz := hK' _ _ (hK (.int .i64 0) (u) (hB) (v12R_refl _ _ (by decide)) (rfl))
                refine Eq.mp (congrArg (fun act => K' act (u)) ?_) hz
                kernel_rfl
              | j + 17, ho, hG, hpre, hK => exact absurd hi (by omega)
            case en =>
              intro Q2 hQ2 f u hB hF
              obtain ⟨f', how, hsem⟩ : ∃ f' : FH, Ow w0 v N gB gI B' ((J1.set n ⟨r1.A, r1.n, r1.c, r1.l.set k (arcSet b f')⟩).map AL.v) (J1.set n ⟨r1.A, r1.n, r1.c, r1.l.set k (arcSet b f')⟩) u ∧ ∀ ss, f'.pf.vl v ss = s.pf.vl v (b.f.pf.vl v ss) := hF 15 (by decide) rfl
              have e16 : f 16 = .int .i64 0 := hF 16 (by decide) rfl
              have HOw2 := hid how
              have HE2 := hid hB.1
              have Hsem := hid hsem
              obtain ⟨f, rfl⟩ := fixG f 16 _ e16
              clear e16
              clear hF
              show wpAny _ _ _ _ 0 (tailArr 17 17) _ _
              refine ⟨by kernel_rfl, hQ2 _ _ (hKx _ _ ?_)⟩
              simp only [putL, updV]
              clear how hB hsem HOw1 HE1 HAb HFa
              have HI1 := hid (show Rsl w0 w v N gB gI n bS #[.int .i64 v, .slice (some ⟨gB, 0, none⟩) N N, .slice (some ⟨gI, 0, none⟩) N N] s B' J r (r.l.eraseIdx p) (k + 1) u from ⟨⟨L.set k (arcSet b f'), Hc.out.next Hb0.out Hsem.out, by
                have := HOw2.out
                rw [← HJ1.out, ← HR1.out, List.set_set] at this
                exact this⟩, HE2.out⟩)
              go_wp2_with fail
              go_roundw
              case rel => exact ⟨k + 1, by omega, by go_num, HI1⟩
              case measure => simp [intOf]; omega
          · have e : k = r.n - 1 := by omega
            have e2 : k = (r.l.eraseIdx p).length := by rw [Hlen.out]; exact e
            have hc := Hc.out
            rw [e2] at hc
            have hto := resolve_to (r' := ⟨r.A, r.n - 1, r.c, L⟩) (z' := ⟨v, some ⟨g, 0, none⟩, Bs.nw v, Bs.nw v, s.pf.vl v z.ws⟩) H0.out (by rw [HB'.out]; exact HOw.out) Ht.out Hz.out Ha.out Ham.out Hst.out rfl hc
            rw [HB'.out] at hto
            have HFin := hid (show RetRs w0 v N gB gI n B J w (.returned (.int .i64 0)) wr from ⟨B', _, rfl, HOw.out, hto, Fsub.set fun y hy => by
              obtain ⟨b, hb, e⟩ := Hc.out.from' y hy
              exact ⟨r, List.mem_of_getElem? Ht.out, b, (mem_del Ha.out b).2 (.inr hb), e⟩, fun r2 hr2 y hy => by
              rw [List.getElem?_set_self HnJ.out] at hr2
              obtain rfl := Option.some.inj hr2
              obtain ⟨b, hb, e⟩ := Hc.out.from' y hy
              have := del_ne Hra.out.ris Ha.out b hb
              rw [Ham.out] at this
              rw [e]; exact this, HE.out.tx⟩)
            clear hto hc
            go_wp2_with fail
            exact bodyPost_ret (v := .int .i64 0) (by simp [results, Tryz.results59, go_sem]) rfl HFin.out
end Go.Proofs.YtbjaebbmajhjjaaGreat
namespace Go.Proofs.YtbjaebbmajhjjaaGreat
set_option maxRecDepth 20000
set_option linter.unusedVariables false
set_option linter.unusedSimpArgs false
open Go.ChangeShapes Go.WideShapes Go.ChangeAt Go.RowKit
theorem TyX.grx {u u' : World} {gB gI : Nat} {b : Option Nat} {cB cI : Array Value} (h : GrX u [some gB, some gI, b] u') (fB : Fb u gB cB 24) (fI : Fb u gI cI 34) (hb : ∀ g, b = some g → Typ u g 33) : TyX u u' :=
  ⟨h.size, fun k t hk h1 h2 h3 => h.block k hk.lt (by
    intro hm
    rcases List.mem_cons.1 hm with e | hm
    · exact hk.ne fB.typ h1 (Option.some.inj e)
    · rcases List.mem_cons.1 hm with e | hm
      · exact hk.ne fI.typ h2 (Option.some.inj e)
      · exact hk.ne (hb k (List.mem_singleton.1 hm).symm) h3 rfl)⟩
theorem Ow.box {w0 u : World} {v N gB gI bZ : Nat} {B : List ZH} {M : List Value} {J : List AL} {cs : Array Value} (h : Ow w0 v N gB gI B M J u) (hz : Fb u bZ cs 24) (hge : w0.heap.size ≤ bZ) (hne : gB ≠ bZ) (p q : Value) :
    Ow w0 v N gB gI B M J ((u.setCell ⟨bZ, 0, none⟩ p).setCell ⟨bZ, 1, none⟩ q) := by
  have hs := two_cells hz 0 1 p q
  have hg : u.grownBy ((u.setCell ⟨bZ, 0, none⟩ p).setCell ⟨bZ, 1, none⟩ q) (some bZ) := grown_trans (grown_set u bZ rfl p) (grown_set _ bZ rfl q)
  exact ⟨below_set (below_set h.bel hge p) hge q, h.gb, h.gi, h.fb.grown hg (fun e => hne (Option.some.inj e)), hs.fb h.fi (by decide), h.bl, h.ml, h.jl, fun z hz => (h.bt z hz).stp hs (by decide), fun r hr => (h.rt r hr).stp hs (by decide) (by decide) (by decide), h.ap⟩
def d5R (j : Nat) (u u' : World) : Prop := if j = 11 then Stp1 33 u u' else if j = 13 then Stp1 34 u u' else Below u.heap.size u u'
theorem d5R_of {j : Nat} {u u' : World} (h : Below u.heap.size u u') (h1 : j ≠ 11) (h2 : j ≠ 13) : d5R j u u' := by unfold d5R; rw [if_neg h1, if_neg h2]; exact h
theorem d5R_bel {j : Nat} {u u' : World} (h : d5R j u u') (h1 : j ≠ 11) (h2 : j ≠ 13) : Below u.heap.size u u' := by unfold d5R at h; rwa [if_neg h1, if_neg h2] at h
theorem d5R_row {u u' : World} (h : Stp1 33 u u') : d5R 11 u u' := by unfold d5R; rw [if_pos rfl]; exact h
theorem d5R_w {u u' : World} (h : Stp1 34 u u') : d5R 13 u u' := by unfold d5R; rw [if_neg (by decide), if_pos rfl]; exact h
def d5F (w0 w : World) (v N gB gI t p bS : Nat) (s : FH) (r : AL) (B : List ZH) (J : List AL) : Nat → (Nat → Value) → World → Prop
  | 0, f, u => f 0 = .pointer (some ⟨w.heap.size, 2, none⟩)
  | 1, f, u => f 1 = .slice (some ⟨gI, 0, none⟩) N N
  | 2, f, u => f 2 = .int .i64 (t : Int)
  | 3, f, u => f 3 = .pointer (some ⟨w.heap.size, 2, none⟩)
  | 4, f, u => f 4 = .slice (some ⟨gI, 0, none⟩) N N
  | 5, f, u => f 5 = .int .i64 (t : Int)
  | 6, f, u => f 6 = .pointer (some ⟨gI, t, none⟩)
  | 7, f, u => f 7 = .slice r.A r.n r.c
  | 8, f, u => f 8 = .int .i64 (p : Int)
  | 9, f, u => f 9 = .int .i64 (p : Int)
  | 10, f, u => f 10 = .int .i64 ((p : Int) + 1)
  | 11, f, u => f 11 = .slice r.A (r.n - 1) r.c ∧ Ow w0 v N gB gI B (J.map AL.v) (J.set t (delA r p)) u
  | 12, f, u => f 12 = .pointer (some ⟨gI, t, none⟩)
  | 13, f, u => Ow w0 v N gB gI B ((J.set t (delA r p)).map AL.v) (J.set t (delA r p)) u
  | _, _, _ => True
def d5U : Nat → Option Nat
  | 11 => some 13
  | _ => none
theorem d5F_st {w0 w : World} {v N gB gI t p bS : Nat} {s : FH} {r : AL} {B : List ZH} {J : List AL} {ops : Array Oper} (hq13 : ∀ j, (reachL ops 5 13).contains j = false → j ≠ 11)  (jx : Nat) (vx : Value) (u u' : World) (ix : Nat) (f : Nat → Value) (hR : d5R  jx u u') (hne : ix ≠ jx) (hu : d5U ix ≠ some jx) (hc : (reachL ops 5 ix).contains jx = false) (h : d5F w0 w v N gB gI t p bS s r B J ix f u) : d5F w0 w v N gB gI t p bS s r B J ix (updV f jx vx) u' := by
  match ix, hne, hu, hc, h with
  | 0, hne, hu, hc, h => exact (updV_ne f vx hne).trans h
  | 1, hne, hu, hc, h => exact (updV_ne f vx hne).trans h
  | 2, hne, hu, hc, h => exact (updV_ne f vx hne).trans h
  | 3, hne, hu, hc, h => exact (updV_ne f vx hne).trans h
  | 4, hne, hu, hc, h => exact (updV_ne f vx hne).trans h
  | 5, hne, hu, hc, h => exact (updV_ne f vx hne).trans h
  | 6, hne, hu, hc, h => exact (updV_ne f vx hne).trans h
  | 7, hne, hu, hc, h => exact (updV_ne f vx hne).trans h
  | 8, hne, hu, hc, h => exact (updV_ne f vx hne).trans h
  | 9, hne, hu, hc, h => exact (updV_ne f vx hne).trans h
  | 10, hne, hu, hc, h => exact (updV_ne f vx hne).trans h
  | 11, hne, hu, hc, h => obtain ⟨h1, h2⟩ := h; have h13 : jx ≠ 13 := fun e => hu (by rw [e]; rfl); exact ⟨(updV_ne f vx hne).trans h1, h2.below (d5R_bel hR (fun e => hne e.symm) h13)⟩
  | 12, hne, hu, hc, h => exact (updV_ne f vx hne).trans h
  | 13, hne, hu, hc, h => have h11 : jx ≠ 11 := hq13 jx hc; exact (show Ow w0 v N gB gI B ((J.set t (delA r p)).map AL.v) (J.set t (delA r p)) u from h).below (d5R_bel hR h11 (fun e => hne e.symm))
  | ix + 14, _, _, _, _ => trivial
def d6R (j : Nat) (u u' : World) : Prop := if j = 11 then Stp1 24 u u' else Below u.heap.size u u'
theorem d6R_stp {j : Nat} {u u' : World} (h : d6R j u u') : Stp1 24 u u' := by
  unfold d6R at h
  split at h
  · exact h
  · exact Stp1.below h
theorem d6R_bel {j : Nat} {u u' : World} (h : d6R j u u') (hj : j ≠ 11) : Below u.heap.size u u' := by
  unfold d6R at h
  rwa [if_neg hj] at h
theorem d6R_of {j : Nat} {u u' : World} (h : Below u.heap.size u u') (hj : j ≠ 11) : d6R j u u' := by
  unfold d6R; rwa [if_neg hj]
theorem d6R_refl (j : Nat) (u : World) (hj : j ≠ 11) : d6R j u u := d6R_of (Below.refl _ _) hj
theorem d6R_w {u u' : World} (h : Stp1 24 u u') : d6R 11 u u' := by unfold d6R; rw [if_pos rfl]; exact h
def d6F (w0 w : World) (v N gB gI n bS : Nat) (s : FH) (zn : ZH) (B : List ZH) (J' : List AL) : Nat → (Nat → Value) → World → Prop
  | 0, f, u => f 0 = .agg #[.int .i64 s.G.W, .slice s.G.A s.G.n s.G.c, .int .i64 s.K.W, .slice s.K.A s.K.n s.K.c, .slice s.C s.k s.q]
  | 1, f, u => f 1 = .pointer (some ⟨w.heap.size, 1, none⟩)
  | 2, f, u => f 2 = .slice (some ⟨gB, 0, none⟩) N N
  | 3, f, u => f 3 = .int .i64 (n : Int)
  | 4, f, u => f 4 = .pointer (some ⟨gB, n * 2, none⟩)
  | 5, f, u => f 5 = .agg #[.int .i64 zn.W, .slice zn.A zn.n zn.c]
  | 6, f, u => ∃ g : Nat, f 6 = .tuple #[.agg #[.int .i64 v, .slice (some ⟨g, 0, none⟩) (Bs.nw v) (Bs.nw v)], .int .i64 0] ∧ ZWt u v ⟨v, some ⟨g, 0, none⟩, Bs.nw v, Bs.nw v, s.pf.vl v zn.ws⟩
  | 7, f, u => ∃ g : Nat, f 7 = .tuple #[.agg #[.int .i64 v, .slice (some ⟨g, 0, none⟩) (Bs.nw v) (Bs.nw v)], .int .i64 0] ∧ ZWt u v ⟨v, some ⟨g, 0, none⟩, Bs.nw v, Bs.nw v, s.pf.vl v zn.ws⟩
  | 8, f, u => ∃ g : Nat, f 8 = .agg #[.int .i64 v, .slice (some ⟨g, 0, none⟩) (Bs.nw v) (Bs.nw v)] ∧ ZWt u v ⟨v, some ⟨g, 0, none⟩, Bs.nw v, Bs.nw v, s.pf.vl v zn.ws⟩
  | 9, f, u => f 9 = .int .i64 0
  | 10, f, u => ∃ bZ : Nat, f 10 = .pointer (some ⟨bZ, 0, none⟩) ∧ Fb u bZ #[.int .i64 0, .slice none 0 0] 24 ∧ w.heap.size ≤ bZ ∧ gB ≠ bZ
  | 11, f, u => ∃ bZ g : Nat, f 10 = .pointer (some ⟨bZ, 0, none⟩) ∧ Fb u bZ #[.int .i64 v, .slice (some ⟨g, 0, none⟩) (Bs.nw v) (Bs.nw v)] 24 ∧ gB ≠ bZ ∧ ZWt u v ⟨v, some ⟨g, 0, none⟩, Bs.nw v, Bs.nw v, s.pf.vl v zn.ws⟩
  | 12, f, u => f 12 = .int .i64 0
  | _, _, _ => True
def d6U : Nat → Option Nat
  | 10 => some 11
  | _ => none
theorem d6F_st {w0 w : World} {v N gB gI n bS : Nat} {s : FH} {zn : ZH} {B : List ZH} {J' : List AL} {ops : Array Oper} (hq11 : ∀ j, (reachL ops 5 11).contains j = false → j ≠ 10)  (jx : Nat) (vx : Value) (u u' : World) (ix : Nat) (f : Nat → Value) (hR : d6R  jx u u') (hne : ix ≠ jx) (hu : d6U ix ≠ some jx) (hc : (reachL ops 5 ix).contains jx = false) (h : d6F w0 w v N gB gI n bS s zn B J' ix f u) : d6F w0 w v N gB gI n bS s zn B J' ix (updV f jx vx) u' := by
  match ix, hne, hu, hc, h with
  | 0, hne, hu, hc, h => exact (updV_ne f vx hne).trans h
  | 1, hne, hu, hc, h => exact (updV_ne f vx hne).trans h
  | 2, hne, hu, hc, h => exact (updV_ne f vx hne).trans h
  | 3, hne, hu, hc, h => exact (updV_ne f vx hne).trans h
  | 4, hne, hu, hc, h => exact (updV_ne f vx hne).trans h
  | 5, hne, hu, hc, h => exact (updV_ne f vx hne).trans h
  | 6, hne, hu, hc, h => obtain ⟨g, h1, h2⟩ := h; exact ⟨g, (updV_ne f vx hne).trans h1, h2.stp (d6R_stp hR) (by decide)⟩
  | 7, hne, hu, hc, h => obtain ⟨g, h1, h2⟩ := h; exact ⟨g, (updV_ne f vx hne).trans h1, h2.stp (d6R_stp hR) (by decide)⟩
  | 8, hne, hu, hc, h => obtain ⟨g, h1, h2⟩ := h; exact ⟨g, (updV_ne f vx hne).trans h1, h2.stp (d6R_stp hR) (by decide)⟩
  | 9, hne, hu, hc, h => exact (updV_ne f vx hne).trans h
  | 10, hne, hu, hc, h => obtain ⟨g, h1, h2, h3⟩ := h; have hb := d6R_bel hR (fun e => hu (by rw [e]; rfl)); exact ⟨g, (updV_ne f vx hne).trans h1, h2.below hb h2.lt, h3⟩
  | 11, hne, hu, hc, h => obtain ⟨bZ, g, h1, h2, h3, h4⟩ := h; have hb := d6R_bel hR (fun e => hne e.symm); exact ⟨bZ, g, (updV_ne f vx (fun e => hq11 jx hc e.symm)).trans h1, h2.below hb h2.lt, h3, h4.below hb⟩
  | 12, hne, hu, hc, h => exact (updV_ne f vx hne).trans h
  | ix + 13, _, _, _, _ => trivial
def d7R (j : Nat) (u u' : World) : Prop := if j = 14 then Stp1 24 u u' else Below u.heap.size u u'
theorem d7R_stp {j : Nat} {u u' : World} (h : d7R j u u') : Stp1 24 u u' := by
  unfold d7R at h
  split at h
  · exact h
  · exact Stp1.below h
theorem d7R_bel {j : Nat} {u u' : World} (h : d7R j u u') (hj : j ≠ 14) : Below u.heap.size u u' := by
  unfold d7R at h
  rwa [if_neg hj] at h
theorem d7R_of {j : Nat} {u u' : World} (h : Below u.heap.size u u') (hj : j ≠ 14) : d7R j u u' := by
  unfold d7R; rwa [if_neg hj]
theorem d7R_refl (j : Nat) (u : World) (hj : j ≠ 14) : d7R j u u := d7R_of (Below.refl _ _) hj
theorem d7R_w {u u' : World} (h : Stp1 24 u u') : d7R 14 u u' := by unfold d7R; rw [if_pos rfl]; exact h
def d7F (w0 w : World) (v N gB gI t bS bZ : Nat) (s : FH) (z zp : ZH) (B : List ZH) (J' : List AL) : Nat → (Nat → Value) → World → Prop
  | 0, f, u => f 0 = .pointer (some ⟨w.heap.size, 1, none⟩)
  | 1, f, u => f 1 = .slice (some ⟨gB, 0, none⟩) N N
  | 2, f, u => f 2 = .int .i64 (t : Int)
  | 3, f, u => f 3 = .pointer (some ⟨w.heap.size, 1, none⟩)
  | 4, f, u => f 4 = .slice (some ⟨gB, 0, none⟩) N N
  | 5, f, u => f 5 = .int .i64 (t : Int)
  | 6, f, u => f 6 = .pointer (some ⟨gB, t * 2, none⟩)
  | 7, f, u => f 7 = .agg #[.int .i64 z.W, .slice z.A z.n z.c]
  | 8, f, u => f 8 = .agg #[.int .i64 zp.W, .slice zp.A zp.n zp.c]
  | 9, f, u => ∃ g : Nat, f 9 = .tuple #[.agg #[.int .i64 v, .slice (some ⟨g, 0, none⟩) (Bs.nw v) (Bs.nw v)], .int .i64 0] ∧ ZWt u v ⟨v, some ⟨g, 0, none⟩, Bs.nw v, Bs.nw v, orR v z.ws zp.ws⟩
  | 10, f, u => ∃ g : Nat, f 10 = .tuple #[.agg #[.int .i64 v, .slice (some ⟨g, 0, none⟩) (Bs.nw v) (Bs.nw v)], .int .i64 0] ∧ ZWt u v ⟨v, some ⟨g, 0, none⟩, Bs.nw v, Bs.nw v, orR v z.ws zp.ws⟩
  | 11, f, u => ∃ g : Nat, f 11 = .agg #[.int .i64 v, .slice (some ⟨g, 0, none⟩) (Bs.nw v) (Bs.nw v)] ∧ ZWt u v ⟨v, some ⟨g, 0, none⟩, Bs.nw v, Bs.nw v, orR v z.ws zp.ws⟩
  | 12, f, u => f 12 = .int .i64 0
  | 13, f, u => f 13 = .pointer (some ⟨gB, t * 2, none⟩)
  | 14, f, u => ∃ g : Nat, Ow w0 v N gB gI (B.set t ⟨v, some ⟨g, 0, none⟩, Bs.nw v, Bs.nw v, orR v z.ws zp.ws⟩) (J'.map AL.v) J' u
  | _, _, _ => True
def d7U : Nat → Option Nat
  | _ => none
theorem d7F_st {w0 w : World} {v N gB gI t bS bZ : Nat} {s : FH} {z zp : ZH} {B : List ZH} {J' : List AL} {ops : Array Oper}  (jx : Nat) (vx : Value) (u u' : World) (ix : Nat) (f : Nat → Value) (hR : d7R  jx u u') (hne : ix ≠ jx) (hu : d7U ix ≠ some jx) (hc : (reachL ops 5 ix).contains jx = false) (h : d7F w0 w v N gB gI t bS bZ s z zp B J' ix f u) : d7F w0 w v N gB gI t bS bZ s z zp B J' ix (updV f jx vx) u' := by
  match ix, hne, hu, hc, h with
  | 0, hne, hu, hc, h => exact (updV_ne f vx hne).trans h
  | 1, hne, hu, hc, h => exact (updV_ne f vx hne).trans h
  | 2, hne, hu, hc, h => exact (updV_ne f vx hne).trans h
  | 3, hne, hu, hc, h => exact (updV_ne f vx hne).trans h
  | 4, hne, hu, hc, h => exact (updV_ne f vx hne).trans h
  | 5, hne, hu, hc, h => exact (updV_ne f vx hne).trans h
  | 6, hne, hu, hc, h => exact (updV_ne f vx hne).trans h
  | 7, hne, hu, hc, h => exact (updV_ne f vx hne).trans h
  | 8, hne, hu, hc, h => exact (updV_ne f vx hne).trans h
  | 9, hne, hu, hc, h => obtain ⟨g, h1, h2⟩ := h; exact ⟨g, (updV_ne f vx hne).trans h1, h2.stp (d7R_stp hR) (by decide)⟩
  | 10, hne, hu, hc, h => obtain ⟨g, h1, h2⟩ := h; exact ⟨g, (updV_ne f vx hne).trans h1, h2.stp (d7R_stp hR) (by decide)⟩
  | 11, hne, hu, hc, h => obtain ⟨g, h1, h2⟩ := h; exact ⟨g, (updV_ne f vx hne).trans h1, h2.stp (d7R_stp hR) (by decide)⟩
  | 12, hne, hu, hc, h => exact (updV_ne f vx hne).trans h
  | 13, hne, hu, hc, h => exact (updV_ne f vx hne).trans h
  | 14, hne, hu, hc, h => obtain ⟨g, h1⟩ := h; exact ⟨g, h1.below (d7R_bel hR (fun e => hne e.symm))⟩
  | ix + 15, _, _, _, _ => trivial
def RetRm (w0 : World) (v N gB gI n t : Nat) (B : List ZH) (J : List AL) (w : World) (e : Ending) (w' : World) : Prop :=
  ∃ (B' : List ZH) (J' : List AL), e = .returned (.int .i64 0) ∧ Ow w0 v N gB gI B' (J'.map AL.v) J' w' ∧ (pwO v B J).To (pwO v B' J') ∧ Fsub J J' ∧ (∀ k, k ≠ t → J'[k]? = J[k]?) ∧ (∀ r, J'[t]? = some r → ∀ a ∈ r.l, a.m ≠ n) ∧ TyX w w'
structure Rml (w0 w : World) (v N gB gI t bS : Nat) (WEB : Array Value) (s : FH) (B : List ZH) (J : List AL) (l0 L : List AH) (k : Nat) (u : World) : Prop where
  ow : ∃ r, Jnd v s.pf l0 L k r.l ∧ Ow w0 v N gB gI B ((J.set t r).map AL.v) (J.set t r) u
  e : EB w v WEB bS s u
set_option maxHeartbeats 12800000 in
theorem remove_any (w0 : World) (v N gB gI n t : Nat) (B : List ZH) (J : List AL) (w : World) (h : Ow w0 v N gB gI B (J.map AL.v) J w) (hv : v ≤ 8) (hN : N ≤ 256) (hnN : n < N) (htN : t < N) (hno : ∀ r, J[n]? = some r → ∀ a ∈ r.l, a.m ≠ n) :
    Calls Tryz.prog 61 #[.agg #[.int .i64 v, .slice (some ⟨gB, 0, none⟩) N N, .slice (some ⟨gI, 0, none⟩) N N], .int .i64 n, .int .i64 t] w (RetRm w0 v N gB gI n t B J w) := by
  obtain ⟨r, hr⟩ : ∃ r, J[t]? = some r := ⟨_, List.getElem?_eq_getElem (by rw [h.jl]; exact htN)⟩
  obtain ⟨z, hz⟩ : ∃ z, B[t]? = some z := ⟨_, List.getElem?_eq_getElem (by rw [h.bl]; exact htN)⟩
  obtain ⟨rn, hrn⟩ : ∃ rn, J[n]? = some rn := ⟨_, List.getElem?_eq_getElem (by rw [h.jl]; exact hnN)⟩
  obtain ⟨zn, hzn⟩ : ∃ zn, B[n]? = some zn := ⟨_, List.getElem?_eq_getElem (by rw [h.bl]; exact hnN)⟩
  have Hno := hid (hno rn hrn)
  have HnoT := hid (fun (e : n = t) => show ∀ a ∈ r.l, a.m ≠ n from hno r (by rw [e]; exact hr))
  have Ht := hid hr
  have Hz := hid hz
  have Hrnn := hid hrn
  have Hzn := hid hzn
  have hra := h.rt r (List.mem_of_getElem? hr)
  have Hra := hid hra
  have Hrn := hid (show r.n ≤ 256 from Nat.le_trans hra.few hN)
  have H0 := hid h
  have Hw0 := hid h.bel.size
  obtain ⟨p, hp⟩ := plc_ex hra.ris n
  have Hp := hid hp
  have Hm := hid (show (J.map AL.v)[t]? = some (.slice r.A r.n r.c) from by rw [List.getElem?_map, hr]; rfl)
  have hb1 := (Below.refl w.heap.size w).alloc (Nat.le_refl _) (.cells #[.int .i64 v, .slice (some ⟨gB, 0, none⟩) N N, .slice (some ⟨gI, 0, none⟩) N N] 37)
  have HOw1 := hid (h.below hb1)
  have HW1 := hid (Fb.new w #[.int .i64 v, .slice (some ⟨gB, 0, none⟩) N N, .slice (some ⟨gI, 0, none⟩) N N] 37)
  have HX1 := hid (TyX.below hb1)
  have HS1 := hid (show w.heap.size < (w.alloc (.cells #[.int .i64 v, .slice (some ⟨gB, 0, none⟩) N N, .slice (some ⟨gI, 0, none⟩) N N] 37)).heap.size from HW1.out.lt)
  clear h hr hz hra hp hb1 hrn hzn hno
  go_enter Tryz.func61, Tryz.ntmps61
  go_upto_region 1 with fail
  generalize w.alloc (.cells #[.int .i64 v, .slice (some ⟨gB, 0, none⟩) N N, .slice (some ⟨gI, 0, none⟩) N N] 37) = w1 at *
  have n0 : (0 : Int) ≤ t := by omega
  have n1 : (t : Int) < N := by omega
  have n2 : (t : Int).toNat = t := by omega
  obtain ⟨x0, x1, x2⟩ := HW1.out.three
  have m0 := HOw1.out.cellM Hm.out
  go_wp2_with fail
  refine (place2_any w0.heap.size v N r n p w1 (HOw1.out.rt r (List.mem_of_getElem? Ht.out)) hN Hp.out).mono ?_
  rintro _ w3 ⟨rfl, hb3⟩
  have HOw3 := hid (HOw1.out.below hb3)
  have HW3 := hid (HW1.out.below hb3 HW1.out.lt)
  have HX3 := hid (HX1.out.trans (TyX.below hb3))
  have HS3 := hid (Nat.lt_of_lt_of_le HS1.out hb3.size)
  clear x0 x1 x2 m0 hb3 HOw1 HW1 HX1 HS1
  generalize hf : fdA r.l p n = fd at *
  cases fd with
  | false =>
    have HFin := hid (show RetRm w0 v N gB gI n t B J w (.returned (.int .i64 0)) w3 from ⟨B, J, rfl, HOw3.out, PW.To.refl _, Fsub.refl _, fun _ _ => rfl, fun r2 hr2 a ha => by
      rw [Ht.out] at hr2
      obtain rfl := Option.some.inj hr2
      exact fdA_no Hra.out.ris Hp.out hf a ha, HX3.out⟩)
    clear hf
    go_wp2_with fail
    exact bodyPost_ret (v := .int .i64 0) (by simp [results, Tryz.results61, go_sem]) rfl HFin.out
  | true =>
    obtain ⟨a, ha, ham⟩ := fdA_yes hf
    have Hnt := hid (show n ≠ t from fun e => HnoT.out e a (List.mem_of_getElem? ha) ham)
    obtain ⟨s, hs⟩ : ∃ s, a.f = s := ⟨_, rfl⟩
    have Hs := hid hs
    have Ha := hid ha
    have Ham := hid ham
    have Hpl := hid (show p < r.n from by rw [← Hra.out.len]; exact (List.getElem?_eq_some_iff.1 ha).1)
    have hFa := (HOw3.out.rt r (List.mem_of_getElem? Ht.out)).arcs a (List.mem_of_getElem? ha)
    rw [hs] at hFa
    obtain ⟨gr, hA, hg1, hg2, -, hcc, -⟩ := (HOw3.out.rt r (List.mem_of_getElem? Ht.out)).at ha
    obtain ⟨x0, x1, x2⟩ := HW3.out.three
    have m0 := HOw3.out.cellM Hm.out
    rw [hA] at m0
    have y1 := hcc 1 (by decide)
    have y2 : w3.cell? ⟨gr, p * 6 + 1 + 1, none⟩ = _ := hcc 2 (by decide)
    have y3 : w3.cell? ⟨gr, p * 6 + 1 + 2, none⟩ = _ := hcc 3 (by decide)
    have y4 : w3.cell? ⟨gr, p * 6 + 1 + 3, none⟩ = _ := hcc 4 (by decide)
    have y5 : w3.cell? ⟨gr, p * 6 + 1 + 4, none⟩ = _ := hcc 5 (by decide)
    simp only [AH.cells, List.getElem?_cons_zero, List.getElem?_cons_succ, hs] at y1 y2 y3 y4 y5
    have p0 : (0 : Int) ≤ p := by omega
    have p1 : (p : Int) < r.n := by have := Hpl.out; omega
    have p2 : (p : Int).toNat = p := by omega
    have hb5 := (Below.refl w3.heap.size w3).alloc (Nat.le_refl _) (.cells #[.int .i64 s.G.W, .slice s.G.A s.G.n s.G.c, .int .i64 s.K.W, .slice s.K.A s.K.n s.K.c, .slice s.C s.k s.q] 30)
    have HOw := hid (HOw3.out.below hb5)
    have HE := hid (show EB w v #[.int .i64 v, .slice (some ⟨gB, 0, none⟩) N N, .slice (some ⟨gI, 0, none⟩) N N] w3.heap.size s (w3.alloc (.cells #[.int .i64 s.G.W, .slice s.G.A s.G.n s.G.c, .int .i64 s.K.W, .slice s.K.A s.K.n s.K.c, .slice s.C s.k s.q] 30)) from ⟨HW3.out.below hb5 HS3.out, Fb.new _ _ _, hFa.below hb5, HX3.out.trans (TyX.below hb5)⟩)
    clear hf ha ham hA hcc hs hFa hb5
    go_upto_region 5 with fail
    rename_i Kx hKx
    generalize w3.alloc (.cells #[.int .i64 s.G.W, .slice s.G.A s.G.n s.G.c, .int .i64 s.K.W, .slice s.K.A s.K.n s.K.c, .slice s.C s.k s.q] 30) = w5 at *
    generalize w3.heap.size = bS at *
    clear x0 x1 x2 m0 y1 y2 y3 y4 y5 HOw3 HW3 HX3 HS3 p0 p1 p2 hg1 hg2
    refine wp_region_factsI (fun j u => (j = 7 ∨ j = 11) → Ow w0 v N gB gI B (J.map AL.v) J u) (d5F w0 w v N gB gI t p bS s r B J) (fun u => EB w v #[.int .i64 v, .slice (some ⟨gB, 0, none⟩) N N, .slice (some ⟨gI, 0, none⟩) N N] bS s u) d5U (d5R ) Kx (fun _ _ h => h) 14 14 (some 38 :: some 39 :: some 40 :: some 41 :: some 42 :: some 43 :: some 44 :: some 45 :: some 46 :: some 47 :: some 48 :: some 49 :: some 50 :: none :: []) (by kernel_rfl) (by kernel_rfl) (by kernel_rfl) (by kernel_rfl) (by kernel_rfl) (by kernel_rfl) (by decide)
      (d5F_st (fun j h e => by subst e; exact Bool.false_ne_true (h.symm.trans (by kernel_rfl)))) ?bs ?gb ?gs ?ar ?en
    case bs => exact HE.out.below (Below.refl _ _).drew
    case gb =>
      exact fun c _ => HOw.out.below (Below.refl _ _).drew
    case gs =>
      intro j u u' c hR hne hnr hG hc
      have h11 : j ≠ 11 := by
        rintro rfl
        rcases hc with rfl | rfl
        · exact Bool.false_ne_true (hnr.symm.trans (by kernel_rfl))
        · exact hne rfl
      have h13 : j ≠ 13 := by
        rintro rfl
        rcases hc with rfl | rfl
        · exact Bool.false_ne_true (hnr.symm.trans (by kernel_rfl))
        · exact Bool.false_ne_true (hnr.symm.trans (by kernel_rfl))
      exact (hG hc).below (d5R_bel hR h11 h13)
    case ar =>
      intro j o f u ho hi hB hG hpre K hK
      match j, ho, hG, hpre, hK with
      | 0, ho, hG, hpre, hK =>
        obtain rfl := Option.some.inj ho
        refine wpOp_step rfl fun K' hK' => ?_
        simp only [putL, updV]
        go_simp
        have hz := hK' _ _ (hK (.pointer (some ⟨w.heap.size, 2, none⟩)) (u) (hB) (d5R_of (Below.refl _ _) (by decide) (by decide)) (rfl))
        refine Eq.mp (congrArg (fun act => K' act (u)) ?_) hz
        kernel_rfl
      | 1, ho, hG, hpre, hK =>
        obtain rfl := Option.some.inj ho
        obtain ⟨x0, x1, x2⟩ := hB.ww.three
        have hl := hB.ww.lt
        have e0 : f 0 = .pointer (some ⟨w.heap.size, 2, none⟩) := hpre ⟨0, .data⟩ (by simp) rfl (.inl rfl)
        obtain ⟨f, rfl⟩ := fixG f 0 _ e0
        clear e0
        refine wpOp_step rfl fun K' hK' => ?_
        simp only [putL, updV]
        go_simp
        have hz := hK' _ _ (hK (.slice (some ⟨gI, 0, none⟩) N N) (u) (hB) (d5R_of (Below.refl _ _) (by decide) (by decide)) (rfl))
        refine Eq.mp (congrArg (fun act => K' act (u)) ?_) hz
        kernel_rfl
      | 2, ho, hG, hpre, hK =>
        obtain rfl := Option.some.inj ho
        refine wpOp_step rfl fun K' hK' => ?_
        simp only [putL, updV]
        go_simp
        have hz := hK' _ _ (hK (.int .i64 (t : Int)) (u) (hB) (d5R_of (Below.refl _ _) (by decide) (by decide)) (rfl))
        refine Eq.mp (congrArg (fun act => K' act (u)) ?_) hz
        kernel_rfl
      | 3, ho, hG, hpre, hK =>
        obtain rfl := Option.some.inj ho
        refine wpOp_step rfl fun K' hK' => ?_
        simp only [putL, updV]
        go_simp
        have hz := hK' _ _ (hK (.pointer (some ⟨w.heap.size, 2, none⟩)) (u) (hB) (d5R_of (Below.refl _ _) (by decide) (by decide)) (rfl))
        refine Eq.mp (congrArg (fun act => K' act (u)) ?_) hz
        kernel_rfl
      | 4, ho, hG, hpre, hK =>
        obtain rfl := Option.some.inj ho
        obtain ⟨x0, x1, x2⟩ := hB.ww.three
        have hl := hB.ww.lt
        have e3 : f 3 = .pointer (some ⟨w.heap.size, 2, none⟩) := hpre ⟨3, .data⟩ (by simp) rfl (.inl rfl)
        obtain ⟨f, rfl⟩ := fixG f 3 _ e3
        clear e3
        refine wpOp_step rfl fun K' hK' => ?_
        simp only [putL, updV]
        go_simp
        have hz := hK' _ _ (hK (.slice (some ⟨gI, 0, none⟩) N N) (u) (hB) (d5R_of (Below.refl _ _) (by decide) (by decide)) (rfl))
        refine Eq.mp (congrArg (fun act => K' act (u)) ?_) hz
        kernel_rfl
      | 5, ho, hG, hpre, hK =>
        obtain rfl := Option.some.inj ho
        refine wpOp_step rfl fun K' hK' => ?_
        simp only [putL, updV]
        go_simp
        have hz := hK' _ _ (hK (.int .i64 (t : Int)) (u) (hB) (d5R_of (Below.refl _ _) (by decide) (by decide)) (rfl))
        refine Eq.mp (congrArg (fun act => K' act (u)) ?_) hz
        kernel_rfl
      | 6, ho, hG, hpre, hK =>
        obtain rfl := Option.some.inj ho
        have k0 : (0 : Int) ≤ t := by omega
        have k1 : (t : Int) < N := by omega
        have k2 : (t : Int).toNat = t := by omega
        have e4 : f 4 = .slice (some ⟨gI, 0, none⟩) N N := hpre ⟨4, .data⟩ (by simp) rfl (.inl rfl)
        have e5 : f 5 = .int .i64 (t : Int) := hpre ⟨5, .data⟩ (by simp) rfl (.inl rfl)
        obtain ⟨f, rfl⟩ := fixG f 4 _ e4
        rw [updV_ne _ _ (by decide)] at e5
        obtain ⟨f, rfl⟩ := fixG f 5 _ e5
        clear e4 e5
        refine wpOp_step rfl fun K' hK' => ?_
        simp only [putL, updV]
        go_simp
        have hz := hK' _ _ (hK (.pointer (some ⟨gI, t, none⟩)) (u) (hB) (d5R_of (Below.refl _ _) (by decide) (by decide)) (rfl))
        refine Eq.mp (congrArg (fun act => K' act (u)) ?_) hz
        kernel_rfl
      | 7, ho, hG, hpre, hK =>
        obtain rfl := Option.some.inj ho
        have y0 := (hG (.inl rfl)).cellM Hm.out
        have hl := (hG (.inl rfl)).fi.lt
        have e6 : f 6 = .pointer (some ⟨gI, t, none⟩) := hpre ⟨6, .data⟩ (by simp) rfl (.inl rfl)
        obtain ⟨f, rfl⟩ := fixG f 6 _ e6
        clear e6
        refine wpOp_step rfl fun K' hK' => ?_
        simp only [putL, updV]
        go_simp
        have hz := hK' _ _ (hK (.slice r.A r.n r.c) (u) (hB) (d5R_of (Below.refl _ _) (by decide) (by decide)) (rfl))
        refine Eq.mp (congrArg (fun act => K' act (u)) ?_) hz
        kernel_rfl
      | 8, ho, hG, hpre, hK =>
        obtain rfl := Option.some.inj ho
        refine wpOp_step rfl fun K' hK' => ?_
        simp only [putL, updV]
        go_simp
        have hz := hK' _ _ (hK (.int .i64 (p : Int)) (u) (hB) (d5R_of (Below.refl _ _) (by decide) (by decide)) (rfl))
        refine Eq.mp (congrArg (fun act => K' act (u)) ?_) hz
        kernel_rfl
      | 9, ho, hG, hpre, hK =>
        obtain rfl := Option.some.inj ho
        refine wpOp_step rfl fun K' hK' => ?_
        simp only [putL, updV]
        go_simp
        have hz := hK' _ _ (hK (.int .i64 (p : Int)) (u) (hB) (d5R_of (Below.refl _ _) (by decide) (by decide)) (rfl))
        refine Eq.mp (congrArg (fun act => K' act (u)) ?_) hz
        kernel_rfl
      | 10, ho, hG, hpre, hK =>
        obtain rfl := Option.some.inj ho
        have hw : IntKind.i64.wrap ((p : Int) + 1) = (p : Int) + 1 := IntWalk.i64_in _ (by have := Hpl.out; have := Hrn.out; omega)
        have e9 : f 9 = .int .i64 (p : Int) := hpre ⟨9, .data⟩ (by simp) rfl (.inl rfl)
        obtain ⟨f, rfl⟩ := fixG f 9 _ e9
        clear e9
        refine wpOp_step rfl fun K' hK' => ?_
        simp only [putL, updV]
        go_simp
        have hz := hK' _ _ (hK (.int .i64 ((p : Int) + 1)) (u) (hB) (d5R_of (Below.refl _ _) (by decide) (by decide)) (rfl))
        refine Eq.mp (congrArg (fun act => K' act (u)) ?_) hz
        kernel_rfl
      | 11, ho, hG, hpre, hK =>
        obtain rfl := Option.some.inj ho
        have e7 : f 7 = .slice r.A r.n r.c := hpre ⟨7, .data⟩ (by simp) rfl (.inl rfl)
        have e8 : f 8 = .int .i64 (p : Int) := hpre ⟨8, .data⟩ (by simp) rfl (.inl rfl)
        have e10 : f 10 = .int .i64 ((p : Int) + 1) := hpre ⟨10, .data⟩ (by simp) rfl (.inl rfl)
        obtain ⟨f, rfl⟩ := fixG f 7 _ e7
        rw [updV_ne _ _ (by decide)] at e8
        rw [updV_ne _ _ (by decide)] at e10
        obtain ⟨f, rfl⟩ := fixG f 8 _ e8
        rw [updV_ne _ _ (by decide)] at e10
        obtain ⟨f, rfl⟩ := fixG f 10 _ e10
        clear e7 e8 e10
        refine wpOp_step rfl fun K' hK' => ?_
        simp only [putL, updV]
        go_simp
        go_at_call 92
        have how := hG (.inr rfl)
        have hra := how.rt r (List.mem_of_getElem? Ht.out)
        refine (delete_any w0.heap.size v N r p u hra hN Hpl.out).mono ?_
        rintro e u5 ⟨rfl, hrow, hgr⟩
        have how2 := how.row (r' := delA r p) Ht.out hgr hrow (fun g e => .inl ((delA_block r p).symm.trans e))
        have hs : Stp1 33 u u5 := ⟨_, hgr, fun k e => own_typ hra.own e⟩
        have hz := hK' _ _ (hK (.slice r.A (r.n - 1) r.c) (u5) (hB.stp hs (.inr (.inr rfl))) (d5R_row hs) (⟨rfl, how2⟩))
        refine Eq.mp (congrArg (fun act => K' act (u5)) ?_) hz
        kernel_rfl
      | 12, ho, hG, hpre, hK =>
        obtain rfl := Option.some.inj ho
        have k0 : (0 : Int) ≤ t := by omega
        have k1 : (t : Int) < N := by omega
        have k2 : (t : Int).toNat = t := by omega
        have e1 : f 1 = .slice (some ⟨gI, 0, none⟩) N N := hpre ⟨1, .data⟩ (by simp) rfl (.inl rfl)
        have e2 : f 2 = .int .i64 (t : Int) := hpre ⟨2, .data⟩ (by simp) rfl (.inl rfl)
        obtain ⟨f, rfl⟩ := fixG f 1 _ e1
        rw [updV_ne _ _ (by decide)] at e2
        obtain ⟨f, rfl⟩ := fixG f 2 _ e2
        clear e1 e2
        refine wpOp_step rfl fun K' hK' => ?_
        simp only [putL, updV]
        go_simp
        have hz := hK' _ _ (hK (.pointer (some ⟨gI, t, none⟩)) (u) (hB) (d5R_of (Below.refl _ _) (by decide) (by decide)) (rfl))
        refine Eq.mp (congrArg (fun act => K' act (u)) ?_) hz
        kernel_rfl
      | 13, ho, hG, hpre, hK =>
        obtain rfl := Option.some.inj ho
        have e12 : f 12 = .pointer (some ⟨gI, t, none⟩) := hpre ⟨12, .data⟩ (by simp) rfl (.inl rfl)
        obtain ⟨e11, how⟩ : f 11 = .slice r.A (r.n - 1) r.c ∧ Ow w0 v N gB gI B (J.map AL.v) (J.set t (delA r p)) u := hpre ⟨11, .data⟩ (by simp) rfl (.inr rfl)
        obtain ⟨f, rfl⟩ := fixG f 12 _ e12
        rw [updV_ne _ _ (by decide)] at e11
        obtain ⟨f, rfl⟩ := fixG f 11 _ e11
        clear e12 e11
        have y0 := how.cellM Hm.out
        have f0 := how.fi.frozen t
        have hl := how.fi.lt
        have hs := stp_cell how.fi t (.slice r.A (r.n - 1) r.c)
        have how2 := how.setM htN (.slice r.A (r.n - 1) r.c)
        rw [show (J.map AL.v).set t (.slice r.A (r.n - 1) r.c) = (J.set t (delA r p)).map AL.v from by rw [List.map_set]; rfl] at how2
        refine wpOp_step rfl fun K' hK' => ?_
        simp only [putL, updV]
        go_simp
        have hz := hK' _ _ (hK (undef) (u.setCell ⟨gI, t, none⟩ (.slice r.A (r.n - 1) r.c)) (hB.stp hs (.inr (.inl rfl))) (d5R_w hs) (how2))
        refine Eq.mp (congrArg (fun act => K' act (u.setCell ⟨gI, t, none⟩ (.slice r.A (r.n - 1) r.c))) ?_) hz
        kernel_rfl
      | j + 14, ho, hG, hpre, hK => exact absurd hi (by omega)
    case en =>
      intro Q2 hQ2 f u hB hF
      have how : Ow w0 v N gB gI B ((J.set t (delA r p)).map AL.v) (J.set t (delA r p)) u := hF 13 (by decide) rfl
      have HOw8 := hid how
      have HE8 := hid hB
      clear hF
      show wpAny _ _ _ _ 0 (tailArr 14 14) _ _
      refine ⟨by kernel_rfl, hQ2 _ _ (hKx _ _ ?_)⟩
      simp only [putL, updV]
      clear how hB HOw HE
      obtain ⟨J', hJ'⟩ : ∃ J', J.set t (delA r p) = J' := ⟨_, rfl⟩
      have HJ' := hid hJ'
      rw [hJ'] at HOw8
      clear hJ'
      go_upto_region 6 with fail
      rename_i Kx hKx
      refine wp_region_factsI (fun _ _ => True) (d6F w0 w v N gB gI n bS s zn B J') (fun u => EB w v #[.int .i64 v, .slice (some ⟨gB, 0, none⟩) N N, .slice (some ⟨gI, 0, none⟩) N N] bS s u ∧ Ow w0 v N gB gI B (J'.map AL.v) J' u) d6U (d6R ) Kx (fun _ _ h => h) 13 13 (some 52 :: some 53 :: some 54 :: some 55 :: some 56 :: some 57 :: some 58 :: some 51 :: some 59 :: some 60 :: some 10 :: none :: some 11 :: []) (by kernel_rfl) (by kernel_rfl) (by kernel_rfl) (by kernel_rfl) (by kernel_rfl) (by kernel_rfl) (by decide)
        (d6F_st (fun j h e => by subst e; exact Bool.false_ne_true (h.symm.trans (by kernel_rfl)))) ?bs ?gb ?gs ?ar ?en
      case bs => exact ⟨HE8.out.below (Below.refl _ _).drew, HOw8.out.below (Below.refl _ _).drew⟩
      case gb =>
        exact fun c => trivial
      case gs =>
        exact fun _ _ _ _ _ _ _ _ => trivial
      case ar =>
        intro j o f u ho hi hB hG hpre K hK
        match j, ho, hG, hpre, hK with
        | 0, ho, hG, hpre, hK =>
          obtain rfl := Option.some.inj ho
          obtain ⟨z0, z1, z2, z3, z4⟩ := hB.1.ss.five
          have hl := hB.1.ss.lt
          refine wpOp_step rfl fun K' hK' => ?_
          simp only [putL, updV]
          go_simp
          have hz := hK' _ _ (hK (.agg #[.int .i64 s.G.W, .slice s.G.A s.G.n s.G.c, .int .i64 s.K.W, .slice s.K.A s.K.n s.K.c, .slice s.C s.k s.q]) (u) (hB) (d6R_refl _ _ (by decide)) (rfl))
          refine Eq.mp (congrArg (fun act => K' act (u)) ?_) hz
          kernel_rfl
        | 1, ho, hG, hpre, hK =>
          obtain rfl := Option.some.inj ho
          refine wpOp_step rfl fun K' hK' => ?_
          simp only [putL, updV]
          go_simp
          have hz := hK' _ _ (hK (.pointer (some ⟨w.heap.size, 1, none⟩)) (u) (hB) (d6R_refl _ _ (by decide)) (rfl))
          refine Eq.mp (congrArg (fun act => K' act (u)) ?_) hz
          kernel_rfl
        | 2, ho, hG, hpre, hK =>
          obtain rfl := Option.some.inj ho
          obtain ⟨x0, x1, x2⟩ := hB.1.ww.three
          have hl := hB.1.ww.lt
          have e1 : f 1 = .pointer (some ⟨w.heap.size, 1, none⟩) := hpre ⟨1, .data⟩ (by simp) rfl (.inl rfl)
          obtain ⟨f, rfl⟩ := fixG f 1 _ e1
          clear e1
          refine wpOp_step rfl fun K' hK' => ?_
          simp only [putL, updV]
          go_simp
          have hz := hK' _ _ (hK (.slice (some ⟨gB, 0, none⟩) N N) (u) (hB) (d6R_refl _ _ (by decide)) (rfl))
          refine Eq.mp (congrArg (fun act => K' act (u)) ?_) hz
          kernel_rfl
        | 3, ho, hG, hpre, hK =>
          obtain rfl := Option.some.inj ho
          refine wpOp_step rfl fun K' hK' => ?_
          simp only [putL, updV]
          go_simp
          have hz := hK' _ _ (hK (.int .i64 (n : Int)) (u) (hB) (d6R_refl _ _ (by decide)) (rfl))
          refine Eq.mp (congrArg (fun act => K' act (u)) ?_) hz
          kernel_rfl
        | 4, ho, hG, hpre, hK =>
          obtain rfl := Option.some.inj ho
          have k0 : (0 : Int) ≤ n := by omega
          have k1 : (n : Int) < N := by omega
          have k2 : (n : Int).toNat = n := by omega
          have e2 : f 2 = .slice (some ⟨gB, 0, none⟩) N N := hpre ⟨2, .data⟩ (by simp) rfl (.inl rfl)
          have e3 : f 3 = .int .i64 (n : Int) := hpre ⟨3, .data⟩ (by simp) rfl (.inl rfl)
          obtain ⟨f, rfl⟩ := fixG f 2 _ e2
          rw [updV_ne _ _ (by decide)] at e3
          obtain ⟨f, rfl⟩ := fixG f 3 _ e3
          clear e2 e3
          refine wpOp_step rfl fun K' hK' => ?_
          simp only [putL, updV]
          go_simp
          have hz := hK' _ _ (hK (.pointer (some ⟨gB, n * 2, none⟩)) (u) (hB) (d6R_refl _ _ (by decide)) (rfl))
          refine Eq.mp (congrArg (fun act => K' act (u)) ?_) hz
          kernel_rfl
        | 5, ho, hG, hpre, hK =>
          obtain rfl := Option.some.inj ho
          obtain ⟨y0, y1⟩ := hB.2.cellB Hzn.out
          have hl := hB.2.fb.lt
          have e4 : f 4 = .pointer (some ⟨gB, n * 2, none⟩) := hpre ⟨4, .data⟩ (by simp) rfl (.inl rfl)
          obtain ⟨f, rfl⟩ := fixG f 4 _ e4
          clear e4
          refine wpOp_step rfl fun K' hK' => ?_
          simp only [putL, updV]
          go_simp
          have hz := hK' _ _ (hK (.agg #[.int .i64 zn.W, .slice zn.A zn.n zn.c]) (u) (hB) (d6R_refl _ _ (by decide)) (rfl))
          refine Eq.mp (congrArg (fun act => K' act (u)) ?_) hz
          kernel_rfl
        | 6, ho, hG, hpre, hK =>
          obtain rfl := Option.some.inj ho
          have e0 : f 0 = .agg #[.int .i64 s.G.W, .slice s.G.A s.G.n s.G.c, .int .i64 s.K.W, .slice s.K.A s.K.n s.K.c, .slice s.C s.k s.q] := hpre ⟨0, .data⟩ (by simp) rfl (.inl rfl)
          have e5 : f 5 = .agg #[.int .i64 zn.W, .slice zn.A zn.n zn.c] := hpre ⟨5, .data⟩ (by simp) rfl (.inl rfl)
          obtain ⟨f, rfl⟩ := fixG f 0 _ e0
          rw [updV_ne _ _ (by decide)] at e5
          obtain ⟨f, rfl⟩ := fixG f 5 _ e5
          clear e0 e5
          refine wpOp_step rfl fun K' hK' => ?_
          simp only [putL, updV]
          go_simp
          go_at_call 93
          refine (applyF s zn v u hB.1.fw (hB.2.bt zn (List.mem_of_getElem? Hzn.out)) (by omega)).mono ?_
          rintro e u5 ⟨g, rfl, hzw, hb⟩
          have hz := hK' _ _ (hK (.tuple #[.agg #[.int .i64 v, .slice (some ⟨g, 0, none⟩) (Bs.nw v) (Bs.nw v)], .int .i64 0]) (u5) (⟨hB.1.below hb, hB.2.below hb⟩) (d6R_of hb (by decide)) (⟨g, rfl, hzw⟩))
          refine Eq.mp (congrArg (fun act => K' act (u5)) ?_) hz
          kernel_rfl
        | 7, ho, hG, hpre, hK =>
          obtain rfl := Option.some.inj ho
          obtain ⟨g, e6, hzw⟩ : ∃ g : Nat, f 6 = .tuple #[.agg #[.int .i64 v, .slice (some ⟨g, 0, none⟩) (Bs.nw v) (Bs.nw v)], .int .i64 0] ∧ ZWt u v ⟨v, some ⟨g, 0, none⟩, Bs.nw v, Bs.nw v, s.pf.vl v zn.ws⟩ := hpre ⟨6, .data⟩ (by simp) rfl (.inl rfl)
          obtain ⟨f, rfl⟩ := fixG f 6 _ e6
          clear e6
          refine wpOp_step rfl fun K' hK' => ?_
          simp only [putL, updV]
          go_simp
          have hz := hK' _ _ (hK (.tuple #[.agg #[.int .i64 v, .slice (some ⟨g, 0, none⟩) (Bs.nw v) (Bs.nw v)], .int .i64 0]) (u) (hB) (d6R_refl _ _ (by decide)) (⟨g, rfl, hzw⟩))
          refine Eq.mp (congrArg (fun act => K' act (u)) ?_) hz
          kernel_rfl
        | 8, ho, hG, hpre, hK =>
          obtain rfl := Option.some.inj ho
          obtain ⟨g, e7, hzw⟩ : ∃ g : Nat, f 7 = .tuple #[.agg #[.int .i64 v, .slice (some ⟨g, 0, none⟩) (Bs.nw v) (Bs.nw v)], .int .i64 0] ∧ ZWt u v ⟨v, some ⟨g, 0, none⟩, Bs.nw v, Bs.nw v, s.pf.vl v zn.ws⟩ := hpre ⟨7, .data⟩ (by simp) rfl (.inl rfl)
          obtain ⟨f, rfl⟩ := fixG f 7 _ e7
          clear e7
          refine wpOp_step rfl fun K' hK' => ?_
          simp only [putL, updV]
          go_simp
          have hz := hK' _ _ (hK (.agg #[.int .i64 v, .slice (some ⟨g, 0, none⟩) (Bs.nw v) (Bs.nw v)]) (u) (hB) (d6R_refl _ _ (by decide)) (⟨g, rfl, hzw⟩))
          refine Eq.mp (congrArg (fun act => K' act (u)) ?_) hz
          kernel_rfl
        | 9, ho, hG, hpre, hK =>
          obtain rfl := Option.some.inj ho
          obtain ⟨g, e7, hzw⟩ : ∃ g : Nat, f 7 = .tuple #[.agg #[.int .i64 v, .slice (some ⟨g, 0, none⟩) (Bs.nw v) (Bs.nw v)], .int .i64 0] ∧ ZWt u v ⟨v, some ⟨g, 0, none⟩, Bs.nw v, Bs.nw v, s.pf.vl v zn.ws⟩ := hpre ⟨7, .data⟩ (by simp) rfl (.inl rfl)
          obtain ⟨f, rfl⟩ := fixG f 7 _ e7
          clear e7
          refine wpOp_step rfl fun K' hK' => ?_
          simp only [putL, updV]
          go_simp
          have hz := hK' _ _ (hK (.int .i64 0) (u) (hB) (d6R_refl _ _ (by decide)) (rfl))
          refine Eq.mp (congrArg (fun act => K' act (u)) ?_) hz
          kernel_rfl
        | 10, ho, hG, hpre, hK =>
          obtain rfl := Option.some.inj ho
          have hb := (Below.refl u.heap.size u).alloc (Nat.le_refl _) (.cells #[.int .i64 0, .slice none 0 0] 24)
          have hl := hB.1.ww.lt
          have hlB := hB.2.fb.lt
          refine wpOp_step rfl fun K' hK' => ?_
          simp only [putL, updV]
          go_simp
          have hz := hK' _ _ (hK (.pointer (some ⟨u.heap.size, 0, none⟩)) (u.alloc (.cells #[.int .i64 0, .slice none 0 0] 24)) (⟨hB.1.below hb, hB.2.below hb⟩) (d6R_of hb (by decide)) (⟨_, rfl, Fb.new u _ _, by omega, by omega⟩))
          refine Eq.mp (congrArg (fun act => K' act (u.alloc (.cells #[.int .i64 0, .slice none 0 0] 24))) ?_) hz
          kernel_rfl
        | 11, ho, hG, hpre, hK =>
          obtain rfl := Option.some.inj ho
          obtain ⟨bZ, e10, hz, hbz, hnz⟩ : ∃ bZ : Nat, f 10 = .pointer (some ⟨bZ, 0, none⟩) ∧ Fb u bZ #[.int .i64 0, .slice none 0 0] 24 ∧ w.heap.size ≤ bZ ∧ gB ≠ bZ := hpre ⟨10, .data⟩ (by simp) rfl (.inr rfl)
          obtain ⟨g, e8, hzw⟩ : ∃ g : Nat, f 8 = .agg #[.int .i64 v, .slice (some ⟨g, 0, none⟩) (Bs.nw v) (Bs.nw v)] ∧ ZWt u v ⟨v, some ⟨g, 0, none⟩, Bs.nw v, Bs.nw v, s.pf.vl v zn.ws⟩ := hpre ⟨8, .data⟩ (by simp) rfl (.inl rfl)
          obtain ⟨y0, y1⟩ := hz.two
          have f0 := hz.frozen 0
          have f1 := hz.frozen 1
          have hl := hz.lt
          have hs := two_cells hz 0 1 (.int .i64 v) (.slice (some ⟨g, 0, none⟩) (Bs.nw v) (Bs.nw v))
          have how := hB.2.box hz (Nat.le_trans Hw0.out hbz) hnz (.int .i64 v) (.slice (some ⟨g, 0, none⟩) (Bs.nw v) (Bs.nw v))
          obtain ⟨f, rfl⟩ := fixG f 10 _ e10
          rw [updV_ne _ _ (by decide)] at e8
          obtain ⟨f, rfl⟩ := fixG f 8 _ e8
          clear e10 e8
          refine wpOp_step rfl fun K' hK' => ?_
          simp only [putL, updV]
          go_simp
          have hz := hK' _ _ (hK (undef) ((u.setCell ⟨bZ, 0, none⟩ (.int .i64 v)).setCell ⟨bZ, 1, none⟩ (.slice (some ⟨g, 0, none⟩) (Bs.nw v) (Bs.nw v))) (⟨hB.1.stp hs (.inl rfl), how⟩) (d6R_w hs) (⟨bZ, g, rfl, (hz.set 0 _).set 1 _, hnz, hzw.stp hs (by decide)⟩))
          refine Eq.mp (congrArg (fun act => K' act ((u.setCell ⟨bZ, 0, none⟩ (.int .i64 v)).setCell ⟨bZ, 1, none⟩ (.slice (some ⟨g, 0, none⟩) (Bs.nw v) (Bs.nw v)))) ?_) hz
          kernel_rfl
        | 12, ho, hG, hpre, hK =>
          obtain rfl := Option.some.inj ho
          have e9 : f 9 = .int .i64 0 := hpre ⟨9, .data⟩ (by simp) rfl (.inl rfl)
          obtain ⟨f, rfl⟩ := fixG f 9 _ e9
          clear e9
          refine wpOp_step rfl fun K' hK' => ?_
          simp only [putL, updV]
          go_simp
          have hz := hK' _ _ (hK (.int .i64 0) (u) (hB) (d6R_refl _ _ (by decide)) (rfl))
          refine Eq.mp (congrArg (fun act => K' act (u)) ?_) hz
          kernel_rfl
        | j + 13, ho, hG, hpre, hK => exact absurd hi (by omega)
      case en =>
        intro Q2 hQ2 f u hB hF
        obtain ⟨bZ, g, e10, hz, hnz, hzw⟩ : ∃ bZ g : Nat, f 10 = .pointer (some ⟨bZ, 0, none⟩) ∧ Fb u bZ #[.int .i64 v, .slice (some ⟨g, 0, none⟩) (Bs.nw v) (Bs.nw v)] 24 ∧ gB ≠ bZ ∧ ZWt u v ⟨v, some ⟨g, 0, none⟩, Bs.nw v, Bs.nw v, s.pf.vl v zn.ws⟩ := hF 11 (by decide) rfl
        have e12 : f 12 = .int .i64 0 := hF 12 (by decide) rfl
        have HOw9 := hid hB.2
        have HE9 := hid hB.1
        have HZb := hid hz
        have HZw := hid hzw
        have Hnz := hid hnz
        obtain ⟨f, rfl⟩ := fixG f 10 _ e10
        rw [updV_ne _ _ (by decide)] at e12
        obtain ⟨f, rfl⟩ := fixG f 12 _ e12
        clear e10 e12
        clear hF
        show wpAny _ _ _ _ 0 (tailArr 13 13) _ _
        refine ⟨by kernel_rfl, hQ2 _ _ (hKx _ _ ?_)⟩
        simp only [putL, updV]
        clear hB hz hzw hnz HOw8 HE8
        obtain ⟨zp, hz', hzw', hze⟩ : ∃ zp : ZH, Fb u bZ #[.int .i64 zp.W, .slice zp.A zp.n zp.c] 24 ∧ ZWt u v zp ∧ zp.ws = s.pf.vl v zn.ws := ⟨⟨v, some ⟨g, 0, none⟩, Bs.nw v, Bs.nw v, s.pf.vl v zn.ws⟩, HZb.out, HZw.out, rfl⟩
        have HZp := hid hze
        clear HZb HZw hze
        have HZb := hid hz'
        have HZw := hid hzw'
        clear hz' hzw'
        go_upto_region 7 with fail
        rename_i Kx hKx
        refine wp_region_factsI (fun j u => (j = 7 ∨ j = 8 ∨ j = 9 ∨ j = 14) → Ow w0 v N gB gI B (J'.map AL.v) J' u ∧ Fb u bZ #[.int .i64 zp.W, .slice zp.A zp.n zp.c] 24 ∧ ZWt u v zp) (d7F w0 w v N gB gI t bS bZ s z zp B J') (fun u => EB w v #[.int .i64 v, .slice (some ⟨gB, 0, none⟩) N N, .slice (some ⟨gI, 0, none⟩) N N] bS s u) d7U (d7R ) Kx (fun _ _ h => h) 15 15 (some 62 :: some 63 :: some 64 :: some 65 :: some 66 :: some 67 :: some 68 :: some 69 :: some 70 :: some 71 :: some 61 :: some 72 :: some 73 :: some 74 :: none :: []) (by kernel_rfl) (by kernel_rfl) (by kernel_rfl) (by kernel_rfl) (by kernel_rfl) (by kernel_rfl) (by decide)
          (d7F_st) ?bs ?gb ?gs ?ar ?en
        case bs => exact HE9.out.below (Below.refl _ _).drew
        case gb =>
          exact fun c _ => ⟨HOw9.out.below (Below.refl _ _).drew, HZb.out.below (Below.refl _ _).drew HZb.out.lt, HZw.out.below (Below.refl _ _).drew⟩
        case gs =>
          intro j u u' c hR hne hnr hG hc
          have h14 : j ≠ 14 := by
            rintro rfl
            rcases hc with rfl | rfl | rfl | rfl
            · exact Bool.false_ne_true (hnr.symm.trans (by kernel_rfl))
            · exact Bool.false_ne_true (hnr.symm.trans (by kernel_rfl))
            · exact Bool.false_ne_true (hnr.symm.trans (by kernel_rfl))
            · exact hne rfl
          obtain ⟨h1, h2, h3⟩ := hG hc
          have hb := d7R_bel hR h14
          exact ⟨h1.below hb, h2.below hb h2.lt, h3.below hb⟩
        case ar =>
          intro j o f u ho hi hB hG hpre K hK
          match j, ho, hG, hpre, hK with
          | 0, ho, hG, hpre, hK =>
            obtain rfl := Option.some.inj ho
            refine wpOp_step rfl fun K' hK' => ?_
            simp only [putL, updV]
            go_simp
            have hz := hK' _ _ (hK (.pointer (some ⟨w.heap.size, 1, none⟩)) (u) (hB) (d7R_refl _ _ (by decide)) (rfl))
            refine Eq.mp (congrArg (fun act => K' act (u)) ?_) hz
            kernel_rfl
          | 1, ho, hG, hpre, hK =>
            obtain rfl := Option.some.inj ho
            obtain ⟨x0, x1, x2⟩ := hB.ww.three
            have hl := hB.ww.lt
            have e0 : f 0 = .pointer (some ⟨w.heap.size, 1, none⟩) := hpre ⟨0, .data⟩ (by simp) rfl (.inl rfl)
            obtain ⟨f, rfl⟩ := fixG f 0 _ e0
            clear e0
            refine wpOp_step rfl fun K' hK' => ?_
            simp only [putL, updV]
            go_simp
            have hz := hK' _ _ (hK (.slice (some ⟨gB, 0, none⟩) N N) (u) (hB) (d7R_refl _ _ (by decide)) (rfl))
            refine Eq.mp (congrArg (fun act => K' act (u)) ?_) hz
            kernel_rfl
          | 2, ho, hG, hpre, hK =>
            obtain rfl := Option.some.inj ho
            refine wpOp_step rfl fun K' hK' => ?_
            simp only [putL, updV]
            go_simp
            have hz := hK' _ _ (hK (.int .i64 (t : Int)) (u) (hB) (d7R_refl _ _ (by decide)) (rfl))
            refine Eq.mp (congrArg (fun act => K' act (u)) ?_) hz
            kernel_rfl
          | 3, ho, hG, hpre, hK =>
            obtain rfl := Option.some.inj ho
            refine wpOp_step rfl fun K' hK' => ?_
            simp only [putL, updV]
            go_simp
            have hz := hK' _ _ (hK (.pointer (some ⟨w.heap.size, 1, none⟩)) (u) (hB) (d7R_refl _ _ (by decide)) (rfl))
            refine Eq.mp (congrArg (fun act => K' act (u)) ?_) hz
            kernel_rfl
          | 4, ho, hG, hpre, hK =>
            obtain rfl := Option.some.inj ho
            obtain ⟨x0, x1, x2⟩ := hB.ww.three
            have hl := hB.ww.lt
            have e3 : f 3 = .pointer (some ⟨w.heap.size, 1, none⟩) := hpre ⟨3, .data⟩ (by simp) rfl (.inl rfl)
            obtain ⟨f, rfl⟩ := fixG f 3 _ e3
            clear e3
            refine wpOp_step rfl fun K' hK' => ?_
            simp only [putL, updV]
            go_simp
            have hz := hK' _ _ (hK (.slice (some ⟨gB, 0, none⟩) N N) (u) (hB) (d7R_refl _ _ (by decide)) (rfl))
            refine Eq.mp (congrArg (fun act => K' act (u)) ?_) hz
            kernel_rfl
          | 5, ho, hG, hpre, hK =>
            obtain rfl := Option.some.inj ho
            refine wpOp_step rfl fun K' hK' => ?_
            simp only [putL, updV]
            go_simp
            have hz := hK' _ _ (hK (.int .i64 (t : Int)) (u) (hB) (d7R_refl _ _ (by decide)) (rfl))
            refine Eq.mp (congrArg (fun act => K' act (u)) ?_) hz
            kernel_rfl
          | 6, ho, hG, hpre, hK =>
            obtain rfl := Option.some.inj ho
            have k0 : (0 : Int) ≤ t := by omega
            have k1 : (t : Int) < N := by omega
            have k2 : (t : Int).toNat = t := by omega
            have e4 : f 4 = .slice (some ⟨gB, 0, none⟩) N N := hpre ⟨4, .data⟩ (by simp) rfl (.inl rfl)
            have e5 : f 5 = .int .i64 (t : Int) := hpre ⟨5, .data⟩ (by simp) rfl (.inl rfl)
            obtain ⟨f, rfl⟩ := fixG f 4 _ e4
            rw [updV_ne _ _ (by decide)] at e5
            obtain ⟨f, rfl⟩ := fixG f 5 _ e5
            clear e4 e5
            refine wpOp_step rfl fun K' hK' => ?_
            simp only [putL, updV]
            go_simp
            have hz := hK' _ _ (hK (.pointer (some ⟨gB, t * 2, none⟩)) (u) (hB) (d7R_refl _ _ (by decide)) (rfl))
            refine Eq.mp (congrArg (fun act => K' act (u)) ?_) hz
            kernel_rfl
          | 7, ho, hG, hpre, hK =>
            obtain rfl := Option.some.inj ho
            obtain ⟨y0, y1⟩ := (hG (.inl rfl)).1.cellB Hz.out
            have hl := (hG (.inl rfl)).1.fb.lt
            have e6 : f 6 = .pointer (some ⟨gB, t * 2, none⟩) := hpre ⟨6, .data⟩ (by simp) rfl (.inl rfl)
            obtain ⟨f, rfl⟩ := fixG f 6 _ e6
            clear e6
            refine wpOp_step rfl fun K' hK' => ?_
            simp only [putL, updV]
            go_simp
            have hz := hK' _ _ (hK (.agg #[.int .i64 z.W, .slice z.A z.n z.c]) (u) (hB) (d7R_refl _ _ (by decide)) (rfl))
            refine Eq.mp (congrArg (fun act => K' act (u)) ?_) hz
            kernel_rfl
          | 8, ho, hG, hpre, hK =>
            obtain rfl := Option.some.inj ho
            obtain ⟨y0, y1⟩ := (hG (.inr (.inl rfl))).2.1.two
            have hl := (hG (.inr (.inl rfl))).2.1.lt
            refine wpOp_step rfl fun K' hK' => ?_
            simp only [putL, updV]
            go_simp
            have hz := hK' _ _ (hK (.agg #[.int .i64 zp.W, .slice zp.A zp.n zp.c]) (u) (hB) (d7R_refl _ _ (by decide)) (rfl))
            refine Eq.mp (congrArg (fun act => K' act (u)) ?_) hz
            kernel_rfl
          | 9, ho, hG, hpre, hK =>
            obtain rfl := Option.some.inj ho
            have e7 : f 7 = .agg #[.int .i64 z.W, .slice z.A z.n z.c] := hpre ⟨7, .data⟩ (by simp) rfl (.inl rfl)
            have e8 : f 8 = .agg #[.int .i64 zp.W, .slice zp.A zp.n zp.c] := hpre ⟨8, .data⟩ (by simp) rfl (.inl rfl)
            obtain ⟨f, rfl⟩ := fixG f 7 _ e7
            rw [updV_ne _ _ (by decide)] at e8
            obtain ⟨f, rfl⟩ := fixG f 8 _ e8
            clear e7 e8
            refine wpOp_step rfl fun K' hK' => ?_
            simp only [putL, updV]
            go_simp
            go_at_call 95
            obtain ⟨hw1, -, hw3⟩ := hG (.inr (.inr (.inl rfl)))
            refine (unionZ z zp v u (hw1.bt z (List.mem_of_getElem? Hz.out)) hw3 (by omega)).mono ?_
            rintro e u5 ⟨g, rfl, hzw, hb⟩
            have hz := hK' _ _ (hK (.tuple #[.agg #[.int .i64 v, .slice (some ⟨g, 0, none⟩) (Bs.nw v) (Bs.nw v)], .int .i64 0]) (u5) (hB.below hb) (d7R_of hb (by decide)) (⟨g, rfl, hzw⟩))
            refine Eq.mp (congrArg (fun act => K' act (u5)) ?_) hz
            kernel_rfl
          | 10, ho, hG, hpre, hK =>
            obtain rfl := Option.some.inj ho
            obtain ⟨g, e9, hzw⟩ : ∃ g : Nat, f 9 = .tuple #[.agg #[.int .i64 v, .slice (some ⟨g, 0, none⟩) (Bs.nw v) (Bs.nw v)], .int .i64 0] ∧ ZWt u v ⟨v, some ⟨g, 0, none⟩, Bs.nw v, Bs.nw v, orR v z.ws zp.ws⟩ := hpre ⟨9, .data⟩ (by simp) rfl (.inl rfl)
            obtain ⟨f, rfl⟩ := fixG f 9 _ e9
            clear e9
            refine wpOp_step rfl fun K' hK' => ?_
            simp only [putL, updV]
            go_simp
            have hz := hK' _ _ (hK (.tuple #[.agg #[.int .i64 v, .slice (some ⟨g, 0, none⟩) (Bs.nw v) (Bs.nw v)], .int .i64 0]) (u) (hB) (d7R_refl _ _ (by decide)) (⟨g, rfl, hzw⟩))
            refine Eq.mp (congrArg (fun act => K' act (u)) ?_) hz
            kernel_rfl
          | 11, ho, hG, hpre, hK =>
            obtain rfl := Option.some.inj ho
            obtain ⟨g, e10, hzw⟩ : ∃ g : Nat, f 10 = .tuple #[.agg #[.int .i64 v, .slice (some ⟨g, 0, none⟩) (Bs.nw v) (Bs.nw v)], .int .i64 0] ∧ ZWt u v ⟨v, some ⟨g, 0, none⟩, Bs.nw v, Bs.nw v, orR v z.ws zp.ws⟩ := hpre ⟨10, .data⟩ (by simp) rfl (.inl rfl)
            obtain ⟨f, rfl⟩ := fixG f 10 _ e10
            clear e10
            refine wpOp_step rfl fun K' hK' => ?_
            simp only [putL, updV]
            go_simp
            have hz := hK' _ _ (hK (.agg #[.int .i64 v, .slice (some ⟨g, 0, none⟩) (Bs.nw v) (Bs.nw v)]) (u) (hB) (d7R_refl _ _ (by decide)) (⟨g, rfl, hzw⟩))
            refine Eq.mp (congrArg (fun act => K' act (u)) ?_) hz
            kernel_rfl
          | 12, ho, hG, hpre, hK =>
            obtain rfl := Option.some.inj ho
            obtain ⟨g, e10, hzw⟩ : ∃ g : Nat, f 10 = .tuple #[.agg #[.int .i64 v, .slice (some ⟨g, 0, none⟩) (Bs.nw v) (Bs.nw v)], .int .i64 0] ∧ ZWt u v ⟨v, some ⟨g, 0, none⟩, Bs.nw v, Bs.nw v, orR v z.ws zp.ws⟩ := hpre ⟨10, .data⟩ (by simp) rfl (.inl rfl)
            obtain ⟨f, rfl⟩ := fixG f 10 _ e10
            clear e10
            refine wpOp_step rfl fun K' hK' => ?_
            simp only [putL, updV]
            go_simp
            have hz := hK' _ _ (hK (.int .i64 0) (u) (hB) (d7R_refl _ _ (by decide)) (rfl))
            refine Eq.mp (congrArg (fun act => K' act (u)) ?_) hz
            kernel_rfl
          | 13, ho, hG, hpre, hK =>
            obtain rfl := Option.some.inj ho
            have k0 : (0 : Int) ≤ t := by omega
            have k1 : (t : Int) < N := by omega
            have k2 : (t : Int).toNat = t := by omega
            have e1 : f 1 = .slice (some ⟨gB, 0, none⟩) N N := hpre ⟨1, .data⟩ (by simp) rfl (.inl rfl)
            have e2 : f 2 = .int .i64 (t : Int) := hpre ⟨2, .data⟩ (by simp) rfl (.inl rfl)
            obtain ⟨f, rfl⟩ := fixG f 1 _ e1
            rw [updV_ne _ _ (by decide)] at e2
            obtain ⟨f, rfl⟩ := fixG f 2 _ e2
            clear e1 e2
            refine wpOp_step rfl fun K' hK' => ?_
            simp only [putL, updV]
            go_simp
            have hz := hK' _ _ (hK (.pointer (some ⟨gB, t * 2, none⟩)) (u) (hB) (d7R_refl _ _ (by decide)) (rfl))
            refine Eq.mp (congrArg (fun act => K' act (u)) ?_) hz
            kernel_rfl
          | 14, ho, hG, hpre, hK =>
            obtain rfl := Option.some.inj ho
            have e13 : f 13 = .pointer (some ⟨gB, t * 2, none⟩) := hpre ⟨13, .data⟩ (by simp) rfl (.inl rfl)
            obtain ⟨g, e11, hzw⟩ : ∃ g : Nat, f 11 = .agg #[.int .i64 v, .slice (some ⟨g, 0, none⟩) (Bs.nw v) (Bs.nw v)] ∧ ZWt u v ⟨v, some ⟨g, 0, none⟩, Bs.nw v, Bs.nw v, orR v z.ws zp.ws⟩ := hpre ⟨11, .data⟩ (by simp) rfl (.inl rfl)
            have how := (hG (.inr (.inr (.inr rfl)))).1
            obtain ⟨y0, y1⟩ := how.cellB Hz.out
            have f0 := how.fb.frozen (t * 2)
            have f1 := how.fb.frozen (t * 2 + 1)
            have hl := how.fb.lt
            have hs := two_cells how.fb (t * 2) (t * 2 + 1) (.int .i64 v) (.slice (some ⟨g, 0, none⟩) (Bs.nw v) (Bs.nw v))
            have how2 := how.setB htN hzw
            obtain ⟨f, rfl⟩ := fixG f 13 _ e13
            rw [updV_ne _ _ (by decide)] at e11
            obtain ⟨f, rfl⟩ := fixG f 11 _ e11
            clear e13 e11
            refine wpOp_step rfl fun K' hK' => ?_
            simp only [putL, updV]
            go_simp
            have hz := hK' _ _ (hK (undef) ((u.setCell ⟨gB, t * 2, none⟩ (.int .i64 v)).setCell ⟨gB, t * 2 + 1, none⟩ (.slice (some ⟨g, 0, none⟩) (Bs.nw v) (Bs.nw v))) (hB.stp hs (.inl rfl)) (d7R_w hs) (⟨g, how2⟩))
            refine Eq.mp (congrArg (fun act => K' act ((u.setCell ⟨gB, t * 2, none⟩ (.int .i64 v)).setCell ⟨gB, t * 2 + 1, none⟩ (.slice (some ⟨g, 0, none⟩) (Bs.nw v) (Bs.nw v)))) ?_) hz
            kernel_rfl
          | j + 15, ho, hG, hpre, hK => exact absurd hi (by omega)
        case en =>
          intro Q2 hQ2 f u hB hF
          obtain ⟨g, how⟩ : ∃ g : Nat, Ow w0 v N gB gI (B.set t ⟨v, some ⟨g, 0, none⟩, Bs.nw v, Bs.nw v, orR v z.ws zp.ws⟩) (J'.map AL.v) J' u := hF 14 (by decide) rfl
          have HOwA := hid how
          have HEA := hid hB
          clear hF
          show wpAny _ _ _ _ 0 (tailArr 15 15) _ _
          refine ⟨by kernel_rfl, hQ2 _ _ (hKx _ _ ?_)⟩
          simp only [putL, updV]
          clear how hB HOw9 HE9 HZb HZw
          obtain ⟨B', hB'⟩ : ∃ B', B.set t ⟨v, some ⟨g, 0, none⟩, Bs.nw v, Bs.nw v, orR v z.ws zp.ws⟩ = B' := ⟨_, rfl⟩
          have HB' := hid hB'
          rw [hB'] at HOwA
          have htJ : t < J.length := (List.getElem?_eq_some_iff.1 Ht.out).1
          have HtJ := hid htJ
          have Hm9 := hid (show (J'.map AL.v)[n]? = some (.slice rn.A rn.n rn.c) from by rw [← HJ'.out, List.getElem?_map, List.getElem?_set_ne (fun e => Hnt.out e.symm), Hrnn.out]; rfl)
          have Hlen := hid (show rn.l.length = rn.n from (H0.out.rt rn (List.mem_of_getElem? Hrnn.out)).len)
          have hrn := Nat.le_trans (H0.out.rt rn (List.mem_of_getElem? Hrnn.out)).few hN
          have HI0 := hid (show Rml w0 w v N gB gI t bS #[.int .i64 v, .slice (some ⟨gB, 0, none⟩) N N, .slice (some ⟨gI, 0, none⟩) N N] s B' J (r.l.eraseIdx p) rn.l 0 u from ⟨⟨delA r p, Jnd.start _ _ _ _, by
            have := HOwA.out
            rw [← HJ'.out] at this
            exact this⟩, HEA.out⟩)
          obtain ⟨x0, x1, x2⟩ := HEA.out.ww.three
          have m0 := HOwA.out.cellM Hm9.out
          have n3 : (0 : Int) ≤ n := by omega
          have n4 : (n : Int) < N := by omega
          have n5 : (n : Int).toNat = n := by omega
          clear hB' htJ HOwA HEA HJ' Hm9
          go_wp2_with fail
          clear x0 x1 x2 m0
          go_loopw [81] (fun jv wr => ∃ k : Nat, k ≤ rn.n ∧ jv = .int .i64 k ∧ Hid (Rml w0 w v N gB gI t bS #[.int .i64 v, .slice (some ⟨gB, 0, none⟩) N N, .slice (some ⟨gI, 0, none⟩) N N] s B' J (r.l.eraseIdx p) rn.l k wr)) (fun jv _ => rn.n - (intOf jv).toNat)
          case atStart => exact ⟨0, by omega, rfl, HI0⟩
          case round =>
            clear HI0
            obtain ⟨k, hk, rfl, HI⟩ := hrel
            obtain ⟨⟨rk, hj, how⟩, he⟩ := HI.out
            have Hj := hid hj
            have HOw := hid how
            have HE := hid he
            clear HI hj how he
            by_cases hlt : k < rn.n
            · obtain ⟨b, hb0, hbm⟩ := get_at Hlen.out hlt
              have Hb0 := hid hb0
              have Hrk := hid (show (J.set t rk)[t]? = some rk from List.getElem?_set_self HtJ.out)
              have Hrn1 := hid (show (J.set t rk)[n]? = some rn from by rw [List.getElem?_set_ne (fun e => Hnt.out e.symm)]; exact Hrnn.out)
              have hrw := HOw.out.rt rn (List.mem_of_getElem? Hrn1.out)
              have Hbm := hid (show 0 ≤ b.m ∧ b.m < (N : Int) from hrw.ris.2 _ (List.mem_map.2 ⟨b, hbm, rfl⟩))
              have HFb := hid (hrw.arcs b hbm)
              obtain ⟨gn, hA, hgl, y0, y1, y2, y3, y4, y5⟩ := hrw.later hb0
              have k0 : (0 : Int) ≤ k := by omega
              have k1 : (k : Int) < rn.n := by omega
              have k2 : (k : Int).toNat = k := by omega
              have hba := (Below.refl wr.heap.size wr).alloc (Nat.le_refl _) (.cells #[.int .i64 b.m, .int .i64 b.f.G.W, .slice b.f.G.A b.f.G.n b.f.G.c, .int .i64 b.f.K.W, .slice b.f.K.A b.f.K.n b.f.K.c, .slice b.f.C b.f.k b.f.q] 33)
              have HOw1 := hid (HOw.out.below hba)
              have HE1 := hid (HE.out.below hba)
              have HFa := hid (HFb.out.below hba)
              have HAb := hid (Fb.new wr #[.int .i64 b.m, .int .i64 b.f.G.W, .slice b.f.G.A b.f.G.n b.f.G.c, .int .i64 b.f.K.W, .slice b.f.K.A b.f.K.n b.f.K.c, .slice b.f.C b.f.k b.f.q] 33)
              clear HOw HE HFb hba hb0 hbm hrw
              rw [hA]
              go_upto_region 11 with fail
              clear y0 y1 y2 y3 y4 y5
              generalize wr.alloc (.cells #[.int .i64 b.m, .int .i64 b.f.G.W, .slice b.f.G.A b.f.G.n b.f.G.c, .int .i64 b.f.K.W, .slice b.f.K.A b.f.K.n b.f.K.c, .slice b.f.C b.f.k b.f.q] 33) = w11 at *
              generalize wr.heap.size = bA at *
              obtain ⟨y0, y1, y2, y3, y4, y5⟩ := HAb.out.six
              obtain ⟨z0, z1, z2, z3, z4⟩ := HE1.out.ss.five
              go_wp2_with fail
              refine (composeF b.f s v w11 HFa.out HE1.out.fw hv).mono ?_
              rintro _ w12 ⟨f', rfl, hw1, hw2, hfw, hsem, hb12⟩
              have Hw12 := hid (And.intro hw1 hw2)
              have Hsem := hid hsem
              have hb13 := (Below.refl w12.heap.size w12).alloc (Nat.le_refl _) (.cells #[.int .i64 v, .slice f'.G.A f'.G.n f'.G.c, .int .i64 v, .slice f'.K.A f'.K.n f'.K.c, .slice f'.C f'.k f'.q] 30)
              have hb14 := below_step hb12 hb13
              have HOw2 := hid (HOw1.out.below hb14)
              have HE2 := hid (HE1.out.below hb14)
              have HFf := hid (hfw.below hb13)
              have HAb2 := hid (HAb.out.below hb14 HAb.out.lt)
              have HTb := hid (Fb.new w12 #[.int .i64 v, .slice f'.G.A f'.G.n f'.G.c, .int .i64 v, .slice f'.K.A f'.K.n f'.K.c, .slice f'.C f'.k f'.q] 30)
              clear y0 y1 y2 y3 y4 y5 z0 z1 z2 z3 z4 hw1 hw2 hfw hsem hb12 hb13 hb14 HOw1 HE1 HFa HAb
              go_upto_region 14 with fail
              generalize w12.alloc (.cells #[.int .i64 v, .slice f'.G.A f'.G.n f'.G.c, .int .i64 v, .slice f'.K.A f'.K.n f'.K.c, .slice f'.C f'.k f'.q] 30) = w13 at *
              generalize w12.heap.size = bT at *
              obtain ⟨x0, x1, x2⟩ := HE2.out.ww.three
              obtain ⟨y0, y1, y2, y3, y4, y5⟩ := HAb2.out.six
              obtain ⟨z0, z1, z2, z3, z4⟩ := HTb.out.five
              have HC := hid (join_arc w0 v N gB gI t B' (J.set t rk) rk ⟨b.m, f'⟩ w13 HOw2.out hv hN Hrk.out HFf.out Hbm.out)
              go_wp2_with fail
              have hcon := HC.out
              unfold AH.a at hcon
              simp only [Hw12.out.1, Hw12.out.2] at hcon
              refine hcon.mono ?_
              clear hcon HC
              rintro _ w14 ⟨r', rfl, how, hjp, hgx, -⟩
              rw [List.set_set] at how
              have htx : TyX w13 w14 := TyX.grx hgx HOw2.out.fb HOw2.out.fi (fun g e => own_typ (HOw2.out.rt rk (List.mem_of_getElem? Hrk.out)).own e)
              have HI1 := hid (show Rml w0 w v N gB gI t bS #[.int .i64 v, .slice (some ⟨gB, 0, none⟩) N N, .slice (some ⟨gI, 0, none⟩) N N] s B' J (r.l.eraseIdx p) rn.l (k + 1) w14 from ⟨⟨r', Hj.out.next Hb0.out Hsem.out hjp, how⟩, HE2.out.ty htx⟩)
              clear x0 x1 x2 y0 y1 y2 y3 y4 y5 z0 z1 z2 z3 z4 how hjp hgx htx HOw2 HE2 HFf HAb2 HTb
              go_wp2_with fail
              go_roundw
              case rel => exact ⟨k + 1, by omega, by go_num, HI1⟩
              case measure => simp [intOf]; omega
            · have e : k = rn.n := by omega
              have e2 : k = rn.l.length := by rw [Hlen.out]; exact e
              have hj := Hj.out
              rw [e2] at hj
              have hto := remove_to (r' := rk) (z' := ⟨v, some ⟨g, 0, none⟩, Bs.nw v, Bs.nw v, orR v z.ws zp.ws⟩) H0.out (by rw [HB'.out]; exact HOw.out) Hnt.out Ht.out Hz.out Hrnn.out Hzn.out Ha.out Ham.out (by show orR v z.ws zp.ws = _; rw [HZp.out, Hs.out]) (by rw [Hs.out]; exact hj)
              rw [HB'.out] at hto
              have HFin := hid (show RetRm w0 v N gB gI n t B J w (.returned (.int .i64 0)) wr from ⟨B', _, rfl, HOw.out, hto, Fsub.set fun y hy => by
                rcases Hj.out.from' y hy with ⟨b, hb, e⟩ | ⟨b, hb, e⟩
                · exact ⟨r, List.mem_of_getElem? Ht.out, b, (mem_del Ha.out b).2 (.inr hb), e⟩
                · exact ⟨rn, List.mem_of_getElem? Hrnn.out, b, hb, e⟩, fun i hi => List.getElem?_set_ne (fun e => hi e.symm), fun r2 hr2 y hy => by
                rw [List.getElem?_set_self HtJ.out] at hr2
                obtain rfl := Option.some.inj hr2
                rcases Hj.out.from' y hy with ⟨b, hb, e⟩ | ⟨b, hb, e⟩
                · have := del_ne Hra.out.ris Ha.out b hb
                  rw [Ham.out] at this
                  rw [e]; exact this
                · rw [e]; exact Hno.out b hb, HE.out.tx⟩)
              clear hto hj
              go_wp2_with fail
              exact bodyPost_ret (v := .int .i64 0) (by simp [results, Tryz.results61, go_sem]) rfl HFin.out
end Go.Proofs.YtbjaebbmajhjjaaGreat
namespace Go.Proofs.YtbjaebbmajhjjaaGreat
set_option maxRecDepth 20000
set_option linter.unusedVariables false
set_option linter.unusedSimpArgs false
open Go.ChangeShapes Go.WideShapes Go.ChangeAt Go.RowKit
def RetEl (w0 : World) (v N gB gI n : Nat) (B : List ZH) (J : List AL) (w : World) (e : Ending) (w' : World) : Prop :=
  ∃ (B' : List ZH) (J' : List AL), e = .returned (.int .i64 0) ∧ Ow w0 v N gB gI B' (J'.map AL.v) J' w' ∧ (pwO v B J).To (pwO v B' J') ∧ Fsub J J' ∧ (∀ r ∈ J', ∀ a ∈ r.l, a.m ≠ n) ∧ TyX w w'
structure Ell (w0 w : World) (v N gB gI n : Nat) (B : List ZH) (J : List AL) (t : Nat) (u : World) : Prop where
  ow : ∃ B' J', Ow w0 v N gB gI B' (J'.map AL.v) J' u ∧ (pwO v B J).To (pwO v B' J') ∧ Fsub J J' ∧ (∀ k r, k < t ∨ k = n → J'[k]? = some r → ∀ a ∈ r.l, a.m ≠ n)
  ww : Fb u w.heap.size #[.int .i64 v, .slice (some ⟨gB, 0, none⟩) N N, .slice (some ⟨gI, 0, none⟩) N N] 37
  tx : TyX w u
set_option maxHeartbeats 6400000 in
theorem eliminate_any (w0 : World) (v N gB gI n : Nat) (B : List ZH) (J : List AL) (w : World) (h : Ow w0 v N gB gI B (J.map AL.v) J w) (hv : v ≤ 8) (hN : N ≤ 20) (hnN : n < N) :
    Calls Tryz.prog 30 #[.agg #[.int .i64 v, .slice (some ⟨gB, 0, none⟩) N N, .slice (some ⟨gI, 0, none⟩) N N], .int .i64 n] w (RetEl w0 v N gB gI n B J w) := by
  have hN2 : N ≤ 256 := by omega
  have hb1 := (Below.refl w.heap.size w).alloc (Nat.le_refl _) (.cells #[.int .i64 v, .slice (some ⟨gB, 0, none⟩) N N, .slice (some ⟨gI, 0, none⟩) N N] 37)
  have HOw1 := hid (h.below hb1)
  have HW1 := hid (Fb.new w #[.int .i64 v, .slice (some ⟨gB, 0, none⟩) N N, .slice (some ⟨gI, 0, none⟩) N N] 37)
  have HX1 := hid (TyX.below hb1)
  clear h hb1
  go_enter Tryz.func30, Tryz.ntmps30
  go_upto_region 1 with fail
  generalize w.alloc (.cells #[.int .i64 v, .slice (some ⟨gB, 0, none⟩) N N, .slice (some ⟨gI, 0, none⟩) N N] 37) = w1 at *
  obtain ⟨x0, x1, x2⟩ := HW1.out.three
  go_wp2_with fail
  refine (resolve_any w0 v N gB gI n B J w1 HOw1.out hv hN2 hnN).mono ?_
  rintro _ w2 ⟨B2, J2, rfl, how, hto, hfs, hno, htx⟩
  have HOw2 := hid how
  have HW2 := hid (htx.fb HW1.out (by decide) (by decide) (by decide))
  have HX2 := hid (HX1.out.trans htx)
  have HTo := hid hto
  have HFs := hid hfs
  have HNo := hid hno
  clear x0 x1 x2 how hto hfs hno htx HOw1 HW1 HX1
  obtain ⟨x0, x1, x2⟩ := HW2.out.three
  go_wp2_with fail
  refine (arcsWithout_any w0 v N gB gI n B2 J2 w2 HOw2.out hN hnN).mono ?_
  rintro _ w3 ⟨c, rfl, hc, hb3⟩
  have HW3 := hid (HW2.out.below hb3 HW2.out.lt)
  have HI0 := hid (show Ell w0 w v N gB gI n B J 0 w3 from ⟨⟨B2, J2, HOw2.out.below hb3, HTo.out, HFs.out, fun k r hk hr => by
    rcases hk with hk | rfl
    · omega
    · exact HNo.out r hr⟩, HW3.out, HX2.out.trans (TyX.below hb3)⟩)
  clear x0 x1 x2 hb3 HW2 HX2 HTo HFs HNo HOw2
  obtain ⟨x0, x1, x2⟩ := HW3.out.three
  have hc2 : ¬ (1024 < c) := by omega
  go_wp2_with fail
  clear x0 x1 x2 HW3
  go_loopw [21] (fun tv wr => ∃ t : Nat, t ≤ N ∧ tv = .int .i64 t ∧ Hid (Ell w0 w v N gB gI n B J t wr)) (fun tv _ => N - (intOf tv).toNat)
  case atStart => exact ⟨0, by omega, rfl, HI0⟩
  case round =>
    clear HI0
    obtain ⟨t, ht, rfl, HI⟩ := hrel
    obtain ⟨⟨B4, J4, how, hto, hfs, hno⟩, hww, htx⟩ := HI.out
    have HOw := hid how
    have HTo := hid hto
    have HFs := hid hfs
    have HNo := hid hno
    have HW := hid hww
    have HX := hid htx
    clear HI how hto hfs hno hww htx
    by_cases hlt : t < N
    · have n0 : (0 : Int) ≤ t := by omega
      have n1 : (t : Int) < N := by omega
      obtain ⟨x0, x1, x2⟩ := HW.out.three
      go_wp2_with fail
      refine (remove_any w0 v N gB gI n t B4 J4 wr HOw.out hv hN2 hnN hlt (fun r hr => HNo.out n r (.inr rfl) hr)).mono ?_
      rintro _ w5 ⟨B5, J5, rfl, how, hto, hfs, hsame, hno, htx⟩
      have HI := hid (show Ell w0 w v N gB gI n B J (t + 1) w5 from ⟨⟨B5, J5, how, HTo.out.trans hto, HFs.out.trans hfs, fun k r hk hr => by
        by_cases e : k = t
        · subst e; exact hno r hr
        · rw [hsame k e] at hr
          exact HNo.out k r (by omega) hr⟩, htx.fb HW.out (by decide) (by decide) (by decide), HX.out.trans htx⟩)
      clear x0 x1 x2 how hto hfs hsame hno htx HOw HTo HFs HNo HW HX
      go_wp2_with fail
      go_roundw
      case rel => exact ⟨t + 1, by omega, by go_num, HI⟩
      case measure => simp [intOf]; omega
    · have e : t = N := by omega
      have HFin := hid (show RetEl w0 v N gB gI n B J w (.returned (.int .i64 0)) wr from ⟨B4, J4, rfl, HOw.out, HTo.out, HFs.out, fun r hr => by
        obtain ⟨k, hk⟩ := List.mem_iff_getElem?.1 hr
        have hkl := (List.getElem?_eq_some_iff.1 hk).1
        have hjl := HOw.out.jl
        exact HNo.out k r (.inl (by omega)) hk, HX.out⟩)
      go_wp2_with fail
      exact bodyPost_ret (v := .int .i64 0) (by simp [results, Tryz.results30, go_sem]) rfl HFin.out
end Go.Proofs.YtbjaebbmajhjjaaGreat
