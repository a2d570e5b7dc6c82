/- The walk of LexerSpaces: it returns true for every list of choices, and writes new memory only. -/
import Derived.Test.YtnbbpcfhofmmfaaItk
import Derived.Test.YtnbbpcfhofmmfaaScF
import Derived.Deep.RegionLaw
import Derived.Deep.DeepCutAuto
import Derived.Deep.DrawnRows
namespace Go.Proofs.Ytnbbpcfhofmmfaa
set_option maxRecDepth 20000
set_option linter.unusedVariables false
set_option linter.unusedSimpArgs false
open Go.ChangeShapes Go.WideShapes Go.ChangeAt Go.RowKit
attribute [local go_sem ↓] Go.wp_at_zero Go.wp_at_succ

theorem TArg.tape {w w' : World} {T : Nat} {A : Option Addr} {n : Nat} {l : List Tok} (h : TArg w A n l) (ht : Tape w T) (hg : w.grownBy w' (some T)) : TArg w' A n l := by
  refine ⟨?_, h.len⟩
  rcases h.lies with h0 | ⟨ad, e, hb, hc⟩
  · exact .inl h0
  · cases l with
    | nil => exact .inl rfl
    | cons t l =>
      have hne : ad.block ≠ T := by
        intro he
        have c1 := hc 1 (.string t.text) rfl
        obtain ⟨A', n', c', k', zs, h1, _⟩ := ht
        unfold World.cell? at c1
        rw [add_block, he, h1] at c1
        simp only at c1
        split at c1
        · cases c1
        · match hoff : (ad.add 1).off, c1 with
          | 0, c1 => simp at c1
          | 1, c1 => simp at c1
          | n + 2, c1 => simp at c1
      exact .inr ⟨ad, e, Nat.lt_of_lt_of_le hb hg.size, fun j u hu => hg.cell (hc j u hu) (by rw [add_block]; intro h; injection h with h; exact hne h)⟩
theorem kv_len (l : List Tok) : (kv l).length = l.length := by simp [kv]
theorem kv_at {l m : List Tok} (h : kv l = kv m) {k : Nat} (h1 : k < l.length) (h2 : k < m.length) : (l[k]).kind = (m[k]).kind ∧ (l[k]).text = (m[k]).text := by
  have e : (kv l)[k]? = (kv m)[k]? := by rw [h]
  unfold kv at e
  rw [List.getElem?_map, List.getElem?_map, List.getElem?_eq_getElem h1, List.getElem?_eq_getElem h2] at e
  simpa using e

set_option maxHeartbeats 1600000 in
/-- Of lists that are alike but for the positions it is true. -/
theorem same_loose (A B : Option Addr) (c d : Nat) (l m : List Tok) (w : World) (hA : TArg w A l.length l) (hB : TArg w B m.length m) (hk : kv l = kv m) (hl : l.length ≤ 100000) :
    Calls Try.prog 20 #[.slice A l.length c, .slice B m.length d, .bool true] w fun e w' => e = .returned (.bool true) ∧ Below w.heap.size w w' := by
  have HA := hid hA; have HB := hid hB; have HK := hid hk
  have hlm : m.length = l.length := by rw [← kv_len, ← kv_len, hk]
  rw [hlm]
  have Hlm := hid hlm
  clear hA hB hk hlm
  generalize hn : l.length = n at *
  have Hn := hid hn
  clear hn
  go_enter Try.func20, Try.ntmps20
  go_wp2_with fail
  go_loopw [7] (fun i wr => ∃ k : Nat, k ≤ n ∧ i = .int .i64 k ∧ Hid (Below w.heap.size w wr)) (fun i _ => n - (intOf i).toNat)
  case atStart => exact ⟨0, by omega, rfl, Below.refl _ _⟩
  case round =>
    obtain ⟨k, hk, rfl, hI⟩ := hrel
    by_cases hlt : k < n
    · have hkl : k < l.length := by rw [Hn.out]; exact hlt
      have hkm : k < m.length := by rw [Hlm.out]; exact hlt
      obtain ⟨e1, e2⟩ := kv_at HK.out hkl hkm
      obtain ⟨a, rfl, ha, ⟨a0, a1⟩, -, -⟩ := (HA.out.below hI.out).cell hkl
      obtain ⟨b, rfl, hb, ⟨b0, b1⟩, -, -⟩ := (HB.out.below hI.out).cell hkm
      rw [e1] at a0
      rw [e2] at a1
      clear e1 e2
      generalize (m[k]'hkm).kind = x0 at *
      generalize (m[k]'hkm).text = x1 at *
      have t0 : (x0 != x0) = false := by simp
      have t1 : (x1.toList != x1.toList) = false := by simp
      have hq : ∀ q, Below w.heap.size w (wr.drewN q) := fun q => below_drewN hI.out q
      have HQ := hid hq
      clear hq hkl hkm
      go_wp2_with fail
      go_quiet (fail)
      go_wp2
      go_roundw
      case rel => exact ⟨k + 1, by omega, by go_num, HQ.out _⟩
      case measure => simp [intOf]; omega
    · go_wp2
      go_ret
      exact ⟨rfl, hI.out⟩

def spL : List ByteArray := [⟨#[32]⟩, ⟨#[9, 32]⟩, ⟨#[32, 32]⟩]
def seL : List ByteArray := [⟨#[10]⟩, ⟨#[59]⟩, ⟨#[32, 35, 32, 99, 111, 109, 109, 101, 110, 116, 32, 59, 32, 120, 32, 61, 32, 121, 10]⟩, ⟨#[59, 59, 10, 10]⟩, ⟨#[10, 59, 35, 10]⟩]
theorem spL_at {r : Nat} {y : ByteArray} (h : spL[r]? = some y) : y.data.toList = txt (spI r) ∧ y.size ≤ 2 := by
  match r, h with
  | 0, h => simp [spL] at h; subst h; exact ⟨rfl, by decide⟩
  | 1, h => simp [spL] at h; subst h; exact ⟨rfl, by decide⟩
  | 2, h => simp [spL] at h; subst h; exact ⟨rfl, by decide⟩
  | r + 3, h => simp [spL] at h
theorem seL_at {r : Nat} {y : ByteArray} (h : seL[r]? = some y) : y.data.toList = txt (seI r) ∧ y.size ≤ 20 := by
  match r, h with
  | 0, h => simp [seL] at h; subst h; exact ⟨rfl, by decide⟩
  | 1, h => simp [seL] at h; subst h; exact ⟨rfl, by decide⟩
  | 2, h => simp [seL] at h; subst h; exact ⟨rfl, by decide⟩
  | 3, h => simp [seL] at h; subst h; exact ⟨rfl, by decide⟩
  | 4, h => simp [seL] at h; subst h; exact ⟨rfl, by decide⟩
  | r + 5, h => simp [seL] at h
theorem kv_take {L : List Tok} {i : Nat} (h : i < L.length) : (kv L).take (i + 1) = (kv L).take i ++ [((L[i]).kind, (L[i]).text)] := by
  rw [List.take_add_one]
  congr 1
  unfold kv
  rw [List.getElem?_map, List.getElem?_eq_getElem h]
  rfl
theorem good_at {L : List Tok} (hg : GoodK (kv L)) {i : Nat} (h : i < L.length) : GoodP ((kv L).take i) ((L[i]).kind, (L[i]).text) := by
  refine hg i _ ?_
  unfold kv
  rw [List.getElem?_map, List.getElem?_eq_getElem h]
  rfl
theorem good_16 {K : KV} {p : Int × ByteArray} (h : GoodP K p) : p.2.size ≤ 16 := by
  have hl := len_list p.2
  rcases h with ⟨_, h⟩ | ⟨_, h⟩ | ⟨_, h, _⟩
  · have := h.few; omega
  · rw [h]; decide
  · rw [h]; decide
theorem Going.drewN {w wr : World} {T : Nat} (h : Going w T wr) (q : Nat) : Going w T (wr.drewN q) := h.below (below_drewN (Below.refl _ _) q)

theorem ms_lt {n i : Nat} (h : i < n) (h2 : n ≤ 100000) :
    n - (intOf (Value.int .i64 (wrap64 ((i : Int) + 1)))).toNat < n - (intOf (Value.int .i64 (i : Int))).toNat := by
  have hwi : wrap64 ((i : Int) + 1) = (i : Int) + 1 := IntWalk.wrap64_in _ ⟨by omega, by omega⟩
  rw [hwi]
  show n - ((i : Int) + 1).toNat < n - ((i : Int)).toNat
  omega

theorem devScan_zero (s : ByteArray) (w : World) (hs : s.size ≤ maxLen) {L : List Tok} (h : scanR s = (L, 0, 0, 0)) : Calls Try.prog 17 #[.string s] w fun e w' =>
    ∃ (A : Option Addr) (c : Nat), e = .returned (.tuple #[.slice A L.length c, .int .i64 0, .int .i64 0, .int .i64 0]) ∧ TArg w' A L.length L ∧ Below w.heap.size w w' := by
  refine (devScan_any s w hs).mono ?_
  rw [h]
  rintro e w' ⟨A, c, rfl, a, b⟩
  exact ⟨A, c, rfl, a, b⟩

set_option maxHeartbeats 64000000 in
theorem lawSpaces (At : Option Addr) (nt ct : Nat) (zs : List Int) (w : World) (ht : IArg w At nt zs) (hnt : nt ≤ maxLen) :
    Calls Try.prog 6 #[.slice At nt ct] w fun e w' => e = .returned (.bool true) ∧ Below w.heap.size w w' := by
  have Hinv := hid (show Going w w.heap.size (w.alloc (.cells #[.slice At nt ct, .int .i64 0] 51)) from ⟨tape_new ht hnt, (Below.refl _ _).alloc (Nat.le_refl _) _, Nat.le_refl _⟩)
  clear ht
  go_enter Try.func6, Try.ntmps6
  go_wp2_with (go_at_call 7; refine (new_any At nt ct _).mono ?_; rintro e w1 ⟨rfl, rfl⟩)
  generalize w.alloc (.cells #[.slice At nt ct, .int .i64 0] 51) = w1 at *
  generalize hT : w.heap.size = T at *
  have HT := hid hT
  clear hT
  refine (program_any [] w T _ Hinv.out (by simp)).mono ?_
  rintro e w2 ⟨x, rfl, hgp, hx, ht2, -⟩
  have Hx := hid hx
  have H2 := hid ht2
  have hsz := (print_small hgp).2
  obtain ⟨L, hL, hgood, hop, hpos, hw⟩ := print_scan hgp
  have HL := hid hL; have Hgood := hid hgood; have Hop := hid hop
  have Hfew := hid (show L.length ≤ 100000 by have := scanR_few (printP (x.l.map FH.f)); rw [hL] at this; exact this)
  clear hgp hx ht2 hL hgood hop Hinv
  go_wp2_with fail
  refine (print_any x [] _ Hx.out).mono ?_
  rintro e w3 ⟨rfl, hb3⟩
  have H3 := hid (H2.out.below hb3)
  have HL' := hid (show scanR (printP x.p) = (L, 0, 0, 0) from HL.out)
  have hsz' : (printP x.p).size ≤ 100000 := hsz
  clear hb3 H2 Hx HL hsz
  generalize printP x.p = s0 at *
  go_wp2_with fail
  refine (devScan_zero s0 _ (by unfold maxLen; omega) HL'.out).mono ?_
  rintro e w4 ⟨A, c, rfl, ha4, hb4⟩
  have H4 := hid (H3.out.below hb4)
  have HA4 := hid (show TArg w4 A L.length L from ha4)
  clear ha4 hb4 H3 HL'
  go_wp2_with fail
  go_loopw [8, 9] (fun sv iv wr => ∃ (i : Nat) (z : ByteArray), i ≤ L.length ∧ iv = .int .i64 i ∧ sv = .string z ∧ Hid (Spc ((kv L).take i) z) ∧ Hid (Going w T wr) ∧ Hid (TArg wr A L.length L)) (fun _ iv _ => L.length - (intOf iv).toNat)
  case atStart => exact ⟨0, _, by omega, rfl, rfl, spc_nil, H4.out, HA4.out⟩
  case round =>
    clear H4 HA4
    obtain ⟨i, z, hi, rfl, rfl, hS, hG, hA⟩ := hrel
    by_cases hlt : i < L.length
    · obtain ⟨a, rfl, ha, ⟨a0, a1⟩, -, -⟩ := hA.out.cell hlt
      have Hle := hid (show i + 1 ≤ L.length by omega)
      have Hwi := hid (show wrap64 ((i : Int) + 1) = (i : Int) + 1 by have := Hfew.out; exact IntWalk.wrap64_in _ ⟨by omega, by omega⟩)
      have Hwj := hid (show Value.int .i64 (wrap64 ((i : Int) + 1)) = Value.int .i64 ((i + 1 : Nat) : Int) by rw [Hwi.out]; rfl)
      have hgp := good_at Hgood.out hlt
      have hkt := kv_take hlt
      have h16 : (L[i]).text.size ≤ 16 := good_16 hgp
      have hz : z.size ≤ 2200 := by
        obtain ⟨its, _, _, _, _, h6⟩ := hS.out
        have := WK_take (kv L) i
        omega
      generalize (kv L).take i = K at *
      have hcell := hid (show ∀ w', TArg w' (some a) L.length L → a.block < w'.heap.size ∧ w'.cell? (a.add (i * 4)) = some (.int .i64 (L[i]).kind) ∧ w'.cell? ⟨(a.add (i * 4)).block, (a.add (i * 4)).off + 1, none⟩ = some (.string (L[i]).text) from fun w' h' => by
        obtain ⟨a', e', hb', ⟨g0, g1⟩, -, -⟩ := h'.cell hlt
        injection e' with e'
        subst e'
        exact ⟨hb', g0, g1⟩)
      generalize (L[i]).kind = kd at *
      generalize (L[i]).text = tx at *
      have Hgp := hid hgp; have Hkt := hid hkt
      clear hgp hkt
      have H0 := hid (hG.out.drewN 1)
      change Hid (Going w T wr.drew) at H0
      have HA0 := hid (show TArg wr.drew (some a) L.length L from hA.out.below (below_drewN (Below.refl _ _) 1))
      have hab : (a.add (i * 4)).block < wr.heap.size := by rw [add_block]; exact ha
      go_upto_region 9 with fail
      go_cut [8] (fun sv wc => ∃ (r : Nat) (y : ByteArray), sv = .string (z ++ (y ++ tx)) ∧ y.size ≤ 2 ∧ Hid (y.data.toList = txt (spI r)) ∧ Hid (Going w T wc) ∧ Hid (TArg wc (some a) L.length L))
      case first =>
        go_region_law (
          (go_simp
           go_at_call 13
           go_must (
           first
           | (refine (next_any T 3 _ H0.out.1 (by omega)).mono ?_
              rintro e w5 ⟨r, rfl, hr0, hr1, ht5, hg5, -⟩
              have H5 := hid (H0.out.step ht5 hg5)
              have HA5 := hid (HA0.out.tape H0.out.1 hg5)
              obtain ⟨y, hy⟩ : ∃ y, spL[r.toNat]? = some y := ⟨_, List.getElem?_eq_getElem (by show r.toNat < 3; omega)⟩
              have hya : (w5.alloc (.cells #[.string ⟨#[32]⟩, .string ⟨#[9, 32]⟩, .string ⟨#[32, 32]⟩] 9)).cell? ⟨w5.heap.size, r.toNat, none⟩ = some (.string y) := pickC (show Fb _ _ (strC spL) 9 from Fb.new w5 #[.string ⟨#[32]⟩, .string ⟨#[9, 32]⟩, .string ⟨#[32, 32]⟩] 9) hy)
           | (refine (next_any T 3 _ (H0.out.alloc (.cells #[.string ⟨#[32]⟩, .string ⟨#[9, 32]⟩, .string ⟨#[32, 32]⟩] 9)).1 (by omega)).mono ?_
              rintro e w5 ⟨r, rfl, hr0, hr1, ht5, hg5, -⟩
              have H5 := hid ((H0.out.alloc (.cells #[.string ⟨#[32]⟩, .string ⟨#[9, 32]⟩, .string ⟨#[32, 32]⟩] 9)).step ht5 hg5)
              have HA5 := hid ((HA0.out.alloc (.cells #[.string ⟨#[32]⟩, .string ⟨#[9, 32]⟩, .string ⟨#[32, 32]⟩] 9)).tape (H0.out.alloc (.cells #[.string ⟨#[32]⟩, .string ⟨#[9, 32]⟩, .string ⟨#[32, 32]⟩] 9)).1 hg5)
              obtain ⟨y, hy⟩ : ∃ y, spL[r.toNat]? = some y := ⟨_, List.getElem?_eq_getElem (by show r.toNat < 3; omega)⟩
              have hyb : w5.cell? ⟨wr.heap.size, r.toNat, none⟩ = some (.string y) := pickC ((show Fb _ _ (strC spL) 9 from Fb.new wr.drew #[.string ⟨#[32]⟩, .string ⟨#[9, 32]⟩, .string ⟨#[32, 32]⟩] 9).grown hg5 (by have := hG.out.lt; show some wr.heap.size ≠ some T; simp; omega)) hy)
           have hr3 : r < 3 := by omega
           obtain ⟨hy1, hy2⟩ := spL_at hy
           have Hy1 := hid hy1
           have hs1 : y.size + tx.size ≤ 9223372036854775807 := by omega
           have hs2 : z.size + (y ++ tx).size ≤ 9223372036854775807 := by rw [ByteArray.size_append]; omega
           have hs1n : ¬ 9223372036854775807 < y.size + tx.size := by omega
           have hs2n : ¬ 9223372036854775807 < z.size + (y.size + tx.size) := by omega
           have Hsz := hid (show (z ++ (y ++ tx)).size ≤ 3000 by rw [ByteArray.size_append, ByteArray.size_append]; omega)
           obtain ⟨ha5, a0, a1⟩ := hcell.out w5 HA5.out
           have hab5 : (a.add (i * 4)).block < w5.heap.size := by rw [add_block]; exact ha5
           clear ht5 hg5 hy hy1 hr1)))
        all_goals
          clear a0 a1
          first
            | (have HZ := hid (H5.out.alloc (.cells #[.string ⟨#[32]⟩, .string ⟨#[9, 32]⟩, .string ⟨#[32, 32]⟩] 9))
               have HAZ := hid (HA5.out.alloc (.cells #[.string ⟨#[32]⟩, .string ⟨#[9, 32]⟩, .string ⟨#[32, 32]⟩] 9))
               go_wp2_with fail
               go_meet
               exact ⟨r.toNat, y, rfl, hy2, Hy1, HZ, HAZ⟩)
            | (go_wp2_with fail
               go_meet
               exact ⟨r.toNat, y, rfl, hy2, Hy1, H5, HA5⟩)
      case rest =>
        obtain ⟨r, y, rfl, hy2, Hy1, HZ, HAZ⟩ := hcut
        clear H0 HA0 hG hA hab a0 a1
        have Hsz := hid (show (z ++ (y ++ tx)).size ≤ 3000 by rw [ByteArray.size_append, ByteArray.size_append]; omega)
        obtain ⟨haz, a0, a1⟩ := hcell.out wc HAZ.out
        have habz : (a.add (i * 4)).block < wc.heap.size := by rw [add_block]; exact haz
        by_cases hk3 : kd = 3
        · as_aux_lemma =>
            have t3 : (kd == 3) = true := by simp [hk3]
            have Hk3 := hid hk3
            clear hk3
            go_upto_region 11 with fail
            clear a0 a1 haz habz hz h16 hy2
            have H6 := hid (HZ.out.alloc (.cells #[.string ⟨#[10]⟩, .string ⟨#[59]⟩, .string ⟨#[32, 35, 32, 99, 111, 109, 109, 101, 110, 116, 32, 59, 32, 120, 32, 61, 32, 121, 10]⟩, .string ⟨#[59, 59, 10, 10]⟩, .string ⟨#[10, 59, 35, 10]⟩] 9))
            have HA6 := hid (HAZ.out.alloc (.cells #[.string ⟨#[10]⟩, .string ⟨#[59]⟩, .string ⟨#[32, 35, 32, 99, 111, 109, 109, 101, 110, 116, 32, 59, 32, 120, 32, 61, 32, 121, 10]⟩, .string ⟨#[59, 59, 10, 10]⟩, .string ⟨#[10, 59, 35, 10]⟩] 9))
            have HF6 := hid (show Fb _ _ (strC seL) 9 from Fb.new wc #[.string ⟨#[10]⟩, .string ⟨#[59]⟩, .string ⟨#[32, 35, 32, 99, 111, 109, 109, 101, 110, 116, 32, 59, 32, 120, 32, 61, 32, 121, 10]⟩, .string ⟨#[59, 59, 10, 10]⟩, .string ⟨#[10, 59, 35, 10]⟩] 9)
            have hne6 := hid (show some wc.heap.size ≠ some T by have := HZ.out.lt; simp; omega)
            go_wp2_with fail
            refine (next_any T 5 _ H6.out.1 (by omega)).mono ?_
            rintro e w7 ⟨q, rfl, hq0, hq1, ht7, hg7, -⟩
            have H7 := hid (H6.out.step ht7 hg7)
            have HA7 := hid (HA6.out.tape H6.out.1 hg7)
            obtain ⟨v, hv⟩ : ∃ v, seL[q.toNat]? = some v := ⟨_, List.getElem?_eq_getElem (by show q.toNat < 5; omega)⟩
            have hvc := pickC (HF6.out.grown hg7 hne6.out) hv
            have hq5 : q < 5 := by omega
            obtain ⟨hv1, hv2⟩ := seL_at hv
            have Hv1 := hid hv1
            have hs3 : (z ++ (y ++ tx)).size + v.size ≤ 9223372036854775807 := by have := Hsz.out; omega
            clear ht7 hg7 hv hv1 hq1 H6 HA6 HF6 hne6 HZ HAZ
            go_wp2_with fail
            go_roundw
            case rel => exact ⟨i + 1, (z ++ (y ++ tx)) ++ v, Hle.out, Hwj.out, rfl, hid (by rw [Hkt.out]; exact spc_end hS.out Hgp.out Hk3.out Hy1.out Hv1.out), H7, HA7⟩
            case measure => exact ms_lt hlt Hfew.out
        · as_aux_lemma =>
            have t3 : (kd == 3) = false := by simp [hk3]
            have Hk3 := hid hk3
            clear hk3
            go_wp2_with fail
            go_roundw
            case rel => exact ⟨i + 1, z ++ (y ++ tx), Hle.out, Hwj.out, rfl, hid (by rw [Hkt.out]; exact spc_word hS.out Hgp.out Hk3.out Hy1.out), HZ, HAZ⟩
            case measure => exact ms_lt hlt Hfew.out
    · as_aux_lemma =>
        have hiL : i = L.length := by omega
        have hS' : Spc (kv L) z := by
          have := hS.out
          rw [hiL, ← kv_len, List.take_length] at this
          exact this
        have hzz : z.size ≤ 2200 := by
          obtain ⟨its, _, _, _, _, h6⟩ := hS'
          omega
        obtain ⟨M, hM, hMk⟩ := spc_scan hS' Hop.out hw
        have HM := hid hM
        have HMk := hid hMk
        clear hM hMk hS' hiL hS
        go_wp2_with fail
        refine (devScan_zero z _ (by unfold maxLen; omega) HM.out).mono ?_
        rintro e w5 ⟨B, d, rfl, hb5, hbl5⟩
        have H5 := hid (hG.out.below hbl5)
        have HA5 := hid (hA.out.below hbl5)
        have HB5 := hid (show TArg w5 B M.length M from hb5)
        clear hb5 hbl5 hG hA
        go_wp2_with fail
        refine (same_loose A B c d L M _ HA5.out HB5.out HMk.out.symm Hfew.out).mono ?_
        rintro e w6 ⟨rfl, hb6⟩
        have H6 := hid (H5.out.below hb6)
        clear hb6
        go_wp2_with fail
        refine (sane_any _).mono ?_
        rintro e w7 ⟨rfl, hb7⟩
        have H7 := hid (H6.out.below hb7)
        clear hb7
        go_wp2
        go_ret
        exact ⟨rfl, H7.out.2.1⟩
end Go.Proofs.Ytnbbpcfhofmmfaa
