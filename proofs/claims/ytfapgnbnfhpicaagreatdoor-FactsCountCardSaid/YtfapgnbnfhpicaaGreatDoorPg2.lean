/- The generator's Program. -/
import Derived.Test.YtfapgnbnfhpicaaGreatDoorPg1
import Derived.Test.YtfapgnbnfhpicaaGreatDoorAdd
import Derived.Deep.RegionLaw
import Derived.Deep.DeepCutAuto
import Derived.Deep.DrawnRows
import Derived.StillTailTactics
namespace Go.Proofs.YtfapgnbnfhpicaaGreatDoor
set_option maxRecDepth 20000
set_option linter.unusedVariables false
set_option linter.unusedSimpArgs false
open Go.ChangeShapes Go.WideShapes Go.ChangeAt Go.RowKit
attribute [local go_sem ↓] Go.wp_at_zero Go.wp_at_succ

/-- A statement of the generator's that ends a block. -/
def termS (n : Nat) (t : Stm) : Prop :=
  (t.op = 9 ∧ t.d = ⟨#[]⟩ ∧ t.us = [] ∧ t.ts = []) ∨
  (t.op = 7 ∧ t.d = ⟨#[]⟩ ∧ t.us = [] ∧ ∃ i, i < n ∧ t.ts = [f2 i]) ∨
  (t.op = 8 ∧ t.d = ⟨#[]⟩ ∧ (∃ x ∈ varsL, t.us = [x]) ∧ ∃ i j, i < n ∧ j < n ∧ t.ts = [f2 i, f2 j])
def genB (funcs n : Nat) (b : Blk) : Prop := ∃ body t, b.ss = body ++ [t] ∧ body.length ≤ 3 ∧ (∀ x ∈ body, genS funcs x) ∧ termS n t
def genBs (funcs n : Nat) (bs : List BH) : Prop := ∀ (j : Nat) (y : BH), bs[j]? = some y → blsL[j]? = some y.name ∧ genB funcs n y.b
def genF (funcs : Nat) (f : FH) : Prop := 1 ≤ f.l.length ∧ f.l.length ≤ 3 ∧ genBs funcs f.l.length f.l
def genFs (funcs : Nat) (ls : List FH) : Prop := ∀ (j : Nat) (y : FH), ls[j]? = some y → fnsL[j]? = some y.name ∧ genF funcs y
/-- A program of the generator's. -/
def genP (ls : List FH) : Prop := 1 ≤ ls.length ∧ ls.length ≤ 3 ∧ genFs ls.length ls
theorem snoc_all {α : Type} {P : Nat → α → Prop} {l : List α} {x : α} (h : ∀ (j : Nat) (y : α), l[j]? = some y → P j y) (hx : P l.length x) : ∀ (j : Nat) (y : α), (l ++ [x])[j]? = some y → P j y := by
  intro j y hy
  rcases Nat.lt_or_ge j l.length with hj | hj
  · rw [List.getElem?_append_left hj] at hy; exact h j y hy
  · rw [List.getElem?_append_right hj] at hy
    have e : j - l.length = 0 := by
      rcases Nat.eq_zero_or_pos (j - l.length) with h0 | h0
      · exact h0
      · rw [List.getElem?_eq_none (by simp; omega)] at hy; cases hy
    rw [e] at hy
    simp at hy
    subst hy
    obtain rfl : j = l.length := by omega
    exact hx
theorem genBs_snoc {N M : Nat} {bs : List BH} {x : BH} (h : genBs N M bs) (h1 : blsL[bs.length]? = some x.name) (h2 : genB N M x.b) : genBs N M (bs ++ [x]) :=
  snoc_all (P := fun (j : Nat) (y : BH) => blsL[j]? = some y.name ∧ genB N M y.b) h ⟨h1, h2⟩
theorem genFs_snoc {N : Nat} {ls : List FH} {x : FH} (h : genFs N ls) (h1 : fnsL[ls.length]? = some x.name) (h2 : genF N x) : genFs N (ls ++ [x]) :=
  snoc_all (P := fun (j : Nat) (y : FH) => fnsL[j]? = some y.name ∧ genF N y) h ⟨h1, h2⟩
def RetP (X : List (Option Nat)) (w0 : World) (T : Nat) (w : World) (e : Ending) (w' : World) : Prop :=
  ∃ x : PH, e = .returned (.agg #[.slice x.A x.n x.c]) ∧ genP x.l ∧ PHok w' X x ∧ Going w0 T w' ∧ w.grownBy w' (some T)

theorem info68 : (Tryz.prog.info? 68).map (fun i => (i.zero, i.size, i.bytes)) = some (some (.agg #[.int .i64 0, .string ⟨#[]⟩, .slice none 0 0, .slice none 0 0]), 4, 72) := by kernel_rfl
theorem info66 : (Tryz.prog.info? 65).map (fun i => (i.zero, i.size, i.bytes)) = some (some (.agg #[.string ⟨#[]⟩, .slice none 0 0]), 2, 40) := by kernel_rfl
theorem info63 : (Tryz.prog.info? 62).map (fun i => (i.zero, i.size, i.bytes)) = some (some (.agg #[.string ⟨#[]⟩, .slice none 0 0]), 2, 40) := by kernel_rfl
theorem one_shc (x : SH) : ∀ u ∈ shc x, u.oneCell' = true := by
  intro u hu
  simp [shc] at hu
  rcases hu with rfl | rfl | rfl | rfl <;> rfl
theorem one_two (a : ByteArray) (A : Option Addr) (n c : Nat) : ∀ u ∈ [Value.string a, .slice A n c], u.oneCell' = true := by
  intro u hu
  simp at hu
  rcases hu with rfl | rfl <;> rfl
theorem two_new (w : World) (a b : Value) (ty : TypeId) : ∀ j u, [a, b][j]? = some u → (w.alloc (.cells #[a, b] ty)).cell? ((⟨w.heap.size, 0, none⟩ : Addr).add j) = some u := by
  intro j u h
  have hb := Fb.new w #[a, b] ty
  rw [add_of, hb.cell]
  simpa using h
theorem pickC {w : World} {g t : Nat} {l : List ByteArray} (h : Fb w g (strC l) t) {i : Nat} {x : ByteArray} (hx : l[i]? = some x) : w.cell? ⟨g, i, none⟩ = some (.string x) := by
  rw [h.cell]; unfold strC; rw [List.getElem?_toArray, List.getElem?_map, hx]; rfl
theorem blsL_small : ∀ x ∈ blsL, x.size ≤ 1 := by decide +kernel
theorem f2_get {i : Nat} (h : i < 3) : blsL[i]? = some (f2 i) := by
  rcases (by omega : i = 0 ∨ i = 1 ∨ i = 2) with rfl | rfl | rfl <;> rfl
theorem f2_small (i : Nat) : (f2 i).size ≤ 1 := by
  unfold f2
  split
  · decide
  · split <;> decide

theorem br_gen {N M : Nat} {nb : ByteArray} {ss : List SH} {Y : SH} {x tgt : ByteArray} {q : Nat} (hss : ss.length ≤ 3) (hG : ∀ y ∈ ss, genS N y.t) (hx : x ∈ varsL) (ht : ∃ i, i < M ∧ tgt = f2 i) (hq : q < M) (hY : Y.t = ⟨8, ⟨#[]⟩, [x], [tgt, f2 q]⟩) :
    genB N M ⟨nb, (ss ++ [Y]).map SH.t⟩ ∧ (ss ++ [Y]).length ≤ 4 := by
  refine ⟨⟨ss.map SH.t, ⟨8, ⟨#[]⟩, [x], [tgt, f2 q]⟩, by simp [hY], by simpa using hss, fun z hz => by obtain ⟨y, hy, rfl⟩ := List.mem_map.1 hz; exact hG y hy, .inr (.inr ⟨rfl, rfl, ⟨x, hx, rfl⟩, ?_⟩)⟩, by simp; omega⟩
  obtain ⟨i, h1, h2⟩ := ht
  exact ⟨i, q, h1, hq, by rw [h2]⟩
theorem br_ok {wz : World} {ex : List (Option Nat)} {gx gy : Nat} {x tgt y : ByteArray} (Fx : Fb wz gx (strC [x]) 9) (Fy : Fb wz gy (strC [tgt, y]) 9) (nx : some gx ∉ ex) (ny : some gy ∉ ex) (hx : x.size ≤ 1) (ht : tgt.size ≤ 1) (hy : y.size ≤ 1) :
    SHok wz ex ⟨some ⟨gx, 0, none⟩, 1, 1, some ⟨gy, 0, none⟩, 2, 2, ⟨8, ⟨#[]⟩, [x], [tgt, y]⟩⟩ :=
  ⟨SSafe.new (m := 1) Fx nx (by simp) (by simp) (fun z hz => by simp at hz; subst hz; omega), SSafe.new (m := 2) Fy ny (by simp) (by simp) (fun z hz => by simp at hz; rcases hz with rfl | rfl <;> omega), Nat.zero_le _⟩
theorem four_new1 (w : World) (o : Obj) (a b c d : Value) (ty : TypeId) : ∀ (j : Nat) (u : Value), [a, b, c, d][j]? = some u → ((w.alloc o).alloc (.cells #[a, b, c, d] ty)).cell? ((⟨w.heap.size + 1, 0, none⟩ : Addr).add j) = some u := by
  have h := four_new (w.alloc o) a b c d ty
  rw [World.size_alloc] at h
  exact h
theorem four_new2 (w : World) (o p : Obj) (a b c d : Value) (ty : TypeId) : ∀ (j : Nat) (u : Value), [a, b, c, d][j]? = some u → (((w.alloc o).alloc p).alloc (.cells #[a, b, c, d] ty)).cell? ((⟨w.heap.size + 1 + 1, 0, none⟩ : Addr).add j) = some u := by
  have h := four_new1 (w.alloc o) p a b c d ty
  rw [World.size_alloc] at h
  exact h
theorem fb_new1 (w : World) (x : ByteArray) : Fb (w.alloc (.cells #[.string x] 9)) w.heap.size (strC [x]) 9 := Fb.new w #[.string x] 9
theorem fb_new2 (w : World) (x y : ByteArray) : Fb (w.alloc (.cells #[.string x, .string y] 9)) w.heap.size (strC [x, y]) 9 := Fb.new w #[.string x, .string y] 9

set_option maxHeartbeats 40000000 in
theorem program_any (X : List (Option Nat)) (w0 : World) (T : Nat) (w : World) (h : Going w0 T w) (hX : ∀ k, some k ∈ X → k < w.heap.size) :
    Calls Tryz.prog 18 #[.pointer (some ⟨T, 0, none⟩)] w (RetP X w0 T w) := by
  obtain ⟨i1, hi, hz0, hz1, hz2⟩ := info_parts info68
  have Hi68 := hid hi; have Hz680 := hid hz0; have Hz681 := hid hz1; have Hz682 := hid hz2
  clear hi hz0 hz1 hz2
  obtain ⟨i2, hi, hz0, hz1, hz2⟩ := info_parts info66
  have Hi66 := hid hi; have Hz660 := hid hz0; have Hz661 := hid hz1; have Hz662 := hid hz2
  clear hi hz0 hz1 hz2
  obtain ⟨i3, hi, hz0, hz1, hz2⟩ := info_parts info63
  have Hi63 := hid hi; have Hz630 := hid hz0; have Hz631 := hid hz1; have Hz632 := hid hz2
  clear hi hz0 hz1 hz2
  have H1 := hid (show Lv1 X w0 T w (.slice none 0 0) [] ((w.alloc (.cells #[.slice none 0 0] 44)).alloc (.cells #[.slice none 0 0] 44)) from by
    have hP := Fb.new (w.alloc (.cells #[.slice none 0 0] 44)) #[.slice none 0 0] 44
    rw [World.size_alloc] at hP
    exact ⟨(h.alloc _).alloc _, grown_of_below (((Below.refl _ _).alloc (Nat.le_refl _) _).alloc (by simp) _) _, h.lt, hX, (Fb.new _ _ _).alloc _, hP, World.ownsRow_nil _ _ _ _, by simp⟩)
  clear h hX
  go_enter Tryz.func18, Tryz.ntmps18
  go_wp2_with fail
  refine (next_any T 3 _ H1.out.go.1 (by omega)).mono ?_
  rintro e w3 ⟨r, rfl, hr0, hr1, ht, hg, -⟩
  have H3 := hid (H1.out.step (H1.out.go.step ht hg) hg)
  clear ht hg H1
  obtain ⟨N, hN⟩ : ∃ N : Nat, (1 : Int) + r = (N : Int) := ⟨(1 + r).toNat, by omega⟩
  have hN1 : 1 ≤ N := by omega
  have hN3 : N ≤ 3 := by omega
  go_wp2_with fail
  clear hN hr0 hr1
  go_loopw [5, 6, 7, 8, 9, 10, 11] (fun iv _ _ _ _ _ _ wr => ∃ (i : Nat) (v : Value) (ls : List FH), i ≤ N ∧ iv = .int .i64 i ∧ ls.length = i ∧ Hid (Lv1 X w0 T w v ls wr) ∧ Hid (genFs N ls)) (fun iv _ _ _ _ _ _ _ => N - (intOf iv).toNat)
  case atStart => exact ⟨0, _, [], by omega, rfl, rfl, H3.out, fun j y h => by simp at h⟩
  case round =>
    clear H3
    obtain ⟨i, v, ls, hi, rfl, hls, hL, hG⟩ := hrel
    subst hls
    by_cases hlt : ls.length < N
    · obtain ⟨nf, hnf⟩ : ∃ nf, fnsL[ls.length]? = some nf := ⟨_, List.getElem?_eq_getElem (by show ls.length < 3; omega)⟩
      have Hnf := hid hnf
      have Hnfs := hid (fnsL_small nf (List.mem_of_getElem? hnf))
      have hc := pickC (show Fb _ _ (strC fnsL) 9 from Fb.new wr #[.string ⟨#[109]⟩, .string ⟨#[102]⟩, .string ⟨#[103]⟩] 9) hnf
      have h3 : ls.length < 3 := by omega
      have hL2 := (hL.out.below ((Below.refl _ _).alloc (Nat.le_refl _) (.cells #[.string ⟨#[109]⟩, .string ⟨#[102]⟩, .string ⟨#[103]⟩] 9))).func nf
      rw [World.size_alloc] at hL2
      have H2 := hid hL2
      clear hnf hL2 hL
      go_wp2_with fail
      refine (next_any T 3 _ H2.out.go.1 (by omega)).mono ?_
      rintro e w4 ⟨r, rfl, hr0, hr1, ht, hg, -⟩
      have H4 := hid (H2.out.step (H2.out.go.step ht hg) hg)
      clear ht hg H2 hc
      obtain ⟨M, hM⟩ : ∃ M : Nat, (1 : Int) + r = (M : Int) := ⟨(1 + r).toNat, by omega⟩
      have hM1 : 1 ≤ M := by omega
      have hM3 : M ≤ 3 := by omega
      go_wp2_with fail
      clear hM hr0 hr1
      generalize wr.heap.size + 1 = F at *
      go_loopw [8, 9, 10, 11] (fun kv _ _ _ wr => ∃ (k : Nat) (u : Value) (bs : List BH), k ≤ M ∧ kv = .int .i64 k ∧ bs.length = k ∧ Hid (Lv2 X w0 T w v u F nf ls bs wr) ∧ Hid (genBs N M bs)) (fun kv _ _ _ _ => M - (intOf kv).toNat)
      case atStart => exact ⟨0, _, [], by omega, rfl, rfl, H4.out, fun j y h => by simp at h⟩
      case round =>
        clear H4
        obtain ⟨k, u, bs, hk, rfl, hbs, hL, hGb⟩ := hrel
        subst hbs
        by_cases hltk : bs.length < M
        · obtain ⟨nb, hnb⟩ : ∃ nb, blsL[bs.length]? = some nb := ⟨_, List.getElem?_eq_getElem (by show bs.length < 3; omega)⟩
          have Hnb := hid hnb
          have Hnbs := hid (blsL_small nb (List.mem_of_getElem? hnb))
          have hc := pickC (show Fb _ _ (strC blsL) 9 from Fb.new wr #[.string ⟨#[97]⟩, .string ⟨#[98]⟩, .string ⟨#[99]⟩] 9) hnb
          have h3b : bs.length < 3 := by omega
          have hL2 := (hL.out.below ((Below.refl _ _).alloc (Nat.le_refl _) (.cells #[.string ⟨#[97]⟩, .string ⟨#[98]⟩, .string ⟨#[99]⟩] 9))).block nb
          rw [World.size_alloc] at hL2
          have H2 := hid hL2
          clear hnb hL2 hL
          go_wp2_with fail
          refine (next_any T 4 _ H2.out.go.1 (by omega)).mono ?_
          rintro e w5 ⟨r, rfl, hr0, hr1, ht, hg, -⟩
          have H5 := hid (H2.out.step (H2.out.go.step ht hg) hg)
          clear ht hg H2 hc
          obtain ⟨n0, rfl⟩ := Int.eq_ofNat_of_zero_le hr0
          have hn3 : n0 ≤ 3 := by omega
          clear hr0 hr1
          go_wp2_with fail
          generalize wr.heap.size + 1 = B at *
          go_loopw [10] (fun nv wr => ∃ (n : Nat) (s : Value) (ss : List SH), nv = .int .i64 n ∧ ss.length + n ≤ 3 ∧ Hid (Lv3 X w0 T w v u s F B nf nb ls bs ss wr) ∧ Hid (∀ y ∈ ss, genS N y.t)) (fun nv _ => (intOf nv).toNat)
          case atStart => exact ⟨n0, _, [], rfl, by simpa using hn3, H5.out, hid (fun y h => by simp at h)⟩
          case round =>
            clear H5 hn3
            obtain ⟨n, s, ss, rfl, hn3, hL, hGs⟩ := hrel
            obtain ⟨b0, b1, a0, a1⟩ := hL.out.cells
            by_cases hpos : 0 < n
            · have H1 := hid (hL.out.drewN 1)
              change Hid (Lv3 X w0 T w v u s F B nf nb ls bs ss wr.drew) at H1
              have hss : ss.length ≤ 3 := by omega
              have hbB := hL.out.fB.lt
              go_wp2_with fail
              go_region_law (first
                | ((refine step_append_lies _ (by rfl) _ _ 63 (by rfl) (w.heap.size + 2) 68 i1 _ 4 72 Tryz.underlying63 Hi68.out Hz680.out Hz681.out Hz682.out (by rfl) (by decide) s ss.length (ss.flatMap shc) (by rfl) (by exact (H8.out.alloc _).os)
                      ⟨_, 0, none⟩ 1 1 (shc x) (by rfl) rfl (by exact four_new _ _ _ _ _ _) (one_shc x) (by decide) (by unfold maxLen; omega) (by omega) (by have := (H8.out.alloc (.cells #[] 0)).gr.size; have := H8.out.fP.lt; rw [World.size_alloc]; omega) _ rfl ?_)
                   intro g9 cap9 w9 hown9 hgr9 hat9 hlt9
                   obtain ⟨⟨y0, y1⟩, hT9⟩ := Lv3.push H8.out _ Hx.out hown9 hgr9 hat9 rfl
                   have H9 := hid hT9
                   clear hown9 hgr9 hat9 hlt9 hT9)
                | (go_simp
                   go_at_call 42
                   go_must (
                   refine (stmt_any w0 T N _ H1.out.go hN1 hN3).mono ?_
                   rintro e w8 ⟨x, he, hgx, hfx, ht8, hg8⟩
                   unfold agS at he
                   subst he
                   have H8 := hid (H1.out.step ht8 hg8)
                   have Hx := hid (H1.out.fresh hfx)
                   have Hgx := hid hgx
                   obtain ⟨b0, b1, a0, a1⟩ := H8.out.cells
                   have hbB8 := H8.out.fB.lt
                   clear hgx hfx ht8 hg8)))
              all_goals
                go_wp2_with fail
                go_roundw
                case rel => exact ⟨n - 1, _, ss ++ [x], by first | go_num | (congr 1; omega), by simp; omega, H9.out, hid (fun y hy => by
                  rcases List.mem_append.1 hy with hy | hy
                  · exact hGs.out y hy
                  · simp at hy; subst hy; exact Hgx.out)⟩
                case measure => simp [intOf]; omega
            · obtain rfl : n = 0 := by omega
              clear hpos b0 b1 a0 a1
              go_wp2_with fail
              refine (next_any T M _ hL.out.go.1 (by omega)).mono ?_
              rintro e w6 ⟨r6, rfl, hr60, hr61, ht6, hg6, -⟩
              have H6 := hid (hL.out.step (hL.out.go.step ht6 hg6) hg6)
              obtain ⟨q, rfl⟩ := Int.eq_ofNat_of_zero_le hr60
              have hq : q < M := by omega
              clear hr60 hr61 ht6 hg6 hL
              go_wp2_with fail
              refine (func2_any q _ (by omega)).mono ?_
              rintro e w7 ⟨rfl, hb7⟩
              have H7 := hid (H6.out.below hb7)
              clear hb7 H6
              have Hfq := hid (f2_small q)
              have Hqt := hid (show ∃ i, i < M ∧ f2 q = f2 i from ⟨q, hq, rfl⟩)
              generalize f2 q = tgt at *
              go_wp2_with fail
              refine (next_any T 4 _ H7.out.go.1 (by omega)).mono ?_
              rintro e wc ⟨r8, rfl, hr80, hr81, ht8, hg8, -⟩
              have H8 := hid (H7.out.step (H7.out.go.step ht8 hg8) hg8)
              clear ht8 hg8 H7
              obtain ⟨b0, b1, a0, a1⟩ := H8.out.cells
              have hbB := H8.out.fB.lt
              have hss : ss.length ≤ 3 := by omega
              by_cases e0 : r8 = 0
              · subst e0
                have Hx := hid (show SHok wc (ex3 X w T v u s F B) ⟨none, 0, 0, none, 0, 0, ⟨9, ⟨#[]⟩, [], []⟩⟩ from ⟨SSafe.nil _ _ _, SSafe.nil _ _ _, Nat.zero_le _⟩)
                go_upto_region 23 with ((
                  at_builtin
                  refine wpList_append_lies _ rfl _ _ 63 rfl (w.heap.size + 2) 68 i1 _ 4 72 Tryz.underlying63 Hi68.out Hz680.out Hz681.out Hz682.out rfl (by decide) s ss.length (ss.flatMap shc) rfl (World.ownsRow.alloc H8.out.os _) ⟨wc.heap.size, 0, none⟩ 1 1 (shc ⟨none, 0, 0, none, 0, 0, ⟨9, ⟨#[]⟩, [], []⟩⟩) rfl rfl (four_new _ _ _ _ _ _) (one_shc ⟨none, 0, 0, none, 0, 0, ⟨9, ⟨#[]⟩, [], []⟩⟩) (by omega) (by unfold maxLen; omega) (by omega) (by have := H8.out.gr.size; have := H8.out.fP.lt; rw [World.size_alloc]; omega) _ rfl ?_
                  intro g9 cap9 w9 hown9 hgr9 hat9 hlt9
                  obtain ⟨⟨y0, y1⟩, hT9⟩ := Lv3.push H8.out _ Hx.out hown9 hgr9 hat9 rfl; have H9 := hid hT9; clear hT9
                  clear hown9 hgr9 hat9 hlt9))
                have Hg9 := hid (show genB N M ⟨nb, (ss ++ [(⟨none, 0, 0, none, 0, 0, ⟨9, ⟨#[]⟩, [], []⟩⟩ : SH)]).map SH.t⟩ ∧ (ss ++ [(⟨none, 0, 0, none, 0, 0, ⟨9, ⟨#[]⟩, [], []⟩⟩ : SH)]).length ≤ 4 from
                  ⟨⟨ss.map SH.t, ⟨9, ⟨#[]⟩, [], []⟩, by simp, by simpa using hss, fun z hz => by obtain ⟨y, hy, rfl⟩ := List.mem_map.1 hz; exact hGs.out y hy, .inl ⟨rfl, rfl, rfl, rfl⟩⟩, by simp; omega⟩)
                have hln : (ss ++ [(⟨none, 0, 0, none, 0, 0, ⟨9, ⟨#[]⟩, [], []⟩⟩ : SH)]).length = ss.length + 1 := by simp
                clear b0 b1 a0 a1 y0 y1 hbB hln
                generalize (ss ++ [(⟨none, 0, 0, none, 0, 0, ⟨9, ⟨#[]⟩, [], []⟩⟩ : SH)]) = ssX at *
                generalize w9.setCell ⟨B, 1, none⟩ (.slice (some ⟨g9, 0, none⟩) (ss.length + 1) cap9) = wA at *
                generalize (Value.slice (some ⟨g9, 0, none⟩) (ss.length + 1) cap9) = sX at *
                clear H8 Hx
                obtain ⟨A9, c9, e9⟩ := own_any_slice H9.out.os
                subst e9
                have hl9 := Hg9.out.2
                obtain ⟨b0, b1, a0, a1⟩ := H9.out.cells
                have hbF := H9.out.fF.lt
                have hbB := H9.out.fB.lt
                go_wp2_with ((
                  at_builtin
                  refine wpList_append_lies _ rfl _ _ 60 rfl (w.heap.size + 2) 65 i2 _ 2 40 Tryz.underlying60 Hi66.out Hz660.out Hz661.out Hz662.out rfl (by decide) u bs.length (bs.flatMap bhc) rfl (World.ownsRow.alloc H9.out.ou _) ⟨wA.heap.size, 0, none⟩ 1 1 [.string nb, .slice A9 ssX.length c9] rfl rfl (two_new _ _ _ _) (one_two _ _ _ _) (by omega) (by unfold maxLen; omega) (by omega) (by have := H9.out.gr.size; have := H9.out.fP.lt; rw [World.size_alloc]; omega) _ rfl ?_
                  intro g9 cap9 w9 hown9 hgr9 hat9 hlt9
                  obtain ⟨⟨y0, y1⟩, hT9⟩ := Lv3.done H9.out _ (by have := Hnbs.out; omega) (by omega) hown9 hgr9 hat9 rfl; have HT9 := hid hT9; clear hT9
                  clear hown9 hgr9 hat9 hlt9))
                go_roundw
                case rel => exact ⟨bs.length + 1, _, bs ++ [(⟨nb, A9, ssX.length, c9, ssX⟩ : BH)], by omega, by go_num, by simp, HT9, hid (genBs_snoc hGb.out Hnb.out Hg9.out.1)⟩
                case measure => simp [intOf]; omega
              by_cases e1 : r8 = 1
              · subst e1
                have HF := hid (show Fb _ _ (strC [tgt]) 9 from Fb.new wc #[.string tgt] 9)
                have H8a := hid (H8.out.alloc (.cells #[.string tgt] 9))
                have Hx := hid (show SHok (wc.alloc (.cells #[.string tgt] 9)) (ex3 X w T v u s F B) ⟨none, 0, 0, some ⟨wc.heap.size, 0, none⟩, 1, 1, ⟨7, ⟨#[]⟩, [], [tgt]⟩⟩ from
                  ⟨SSafe.nil _ _ _, SSafe.new (m := 1) HF.out (fun hin => by have := H8.out.ex_lt _ hin; omega) (by simp) (by simp) (fun z hz => by simp at hz; subst hz; have := Hfq.out; omega), Nat.zero_le _⟩)
                have HOne := hid (four_new (wc.alloc (.cells #[.string tgt] 9)) (.int .i64 7) (.string ⟨#[]⟩) (.slice none 0 0) (.slice (some ⟨wc.heap.size, 0, none⟩) 1 1) 68)
                rw [World.size_alloc] at HOne
                go_upto_region 23 with ((
                  at_builtin
                  refine wpList_append_lies _ rfl _ _ 63 rfl (w.heap.size + 2) 68 i1 _ 4 72 Tryz.underlying63 Hi68.out Hz680.out Hz681.out Hz682.out rfl (by decide) s ss.length (ss.flatMap shc) rfl (World.ownsRow.alloc H8a.out.os _) ⟨wc.heap.size + 1, 0, none⟩ 1 1 (shc ⟨none, 0, 0, some ⟨wc.heap.size, 0, none⟩, 1, 1, ⟨7, ⟨#[]⟩, [], [tgt]⟩⟩) rfl rfl HOne.out (one_shc ⟨none, 0, 0, some ⟨wc.heap.size, 0, none⟩, 1, 1, ⟨7, ⟨#[]⟩, [], [tgt]⟩⟩) (by omega) (by unfold maxLen; omega) (by omega) (by have := H8a.out.gr.size; have := H8a.out.fP.lt; rw [World.size_alloc]; omega) _ rfl ?_
                  intro g9 cap9 w9 hown9 hgr9 hat9 hlt9
                  obtain ⟨⟨y0, y1⟩, hT9⟩ := Lv3.push H8a.out _ Hx.out hown9 hgr9 hat9 rfl; have H9 := hid hT9; clear hT9
                  clear hown9 hgr9 hat9 hlt9))
                have Hg9 := hid (show genB N M ⟨nb, (ss ++ [(⟨none, 0, 0, some ⟨wc.heap.size, 0, none⟩, 1, 1, ⟨7, ⟨#[]⟩, [], [tgt]⟩⟩ : SH)]).map SH.t⟩ ∧ (ss ++ [(⟨none, 0, 0, some ⟨wc.heap.size, 0, none⟩, 1, 1, ⟨7, ⟨#[]⟩, [], [tgt]⟩⟩ : SH)]).length ≤ 4 from
                  ⟨⟨ss.map SH.t, ⟨7, ⟨#[]⟩, [], [tgt]⟩, by simp, by simpa using hss, fun z hz => by obtain ⟨y, hy, rfl⟩ := List.mem_map.1 hz; exact hGs.out y hy, .inr (.inl ⟨rfl, rfl, rfl, by obtain ⟨i, h1, h2⟩ := Hqt.out; exact ⟨i, h1, by rw [h2]⟩⟩)⟩, by simp; omega⟩)
                clear b0 b1 a0 a1 y0 y1 hbB
                generalize (ss ++ [(⟨none, 0, 0, some ⟨wc.heap.size, 0, none⟩, 1, 1, ⟨7, ⟨#[]⟩, [], [tgt]⟩⟩ : SH)]) = ssX at *
                generalize w9.setCell ⟨B, 1, none⟩ (.slice (some ⟨g9, 0, none⟩) (ss.length + 1) cap9) = wA at *
                generalize (Value.slice (some ⟨g9, 0, none⟩) (ss.length + 1) cap9) = sX at *
                clear H8 Hx H8a HF HOne
                obtain ⟨A9, c9, e9⟩ := own_any_slice H9.out.os
                subst e9
                have hl9 := Hg9.out.2
                obtain ⟨b0, b1, a0, a1⟩ := H9.out.cells
                have hbF := H9.out.fF.lt
                have hbB := H9.out.fB.lt
                go_wp2_with ((
                  at_builtin
                  refine wpList_append_lies _ rfl _ _ 60 rfl (w.heap.size + 2) 65 i2 _ 2 40 Tryz.underlying60 Hi66.out Hz660.out Hz661.out Hz662.out rfl (by decide) u bs.length (bs.flatMap bhc) rfl (World.ownsRow.alloc H9.out.ou _) ⟨wA.heap.size, 0, none⟩ 1 1 [.string nb, .slice A9 ssX.length c9] rfl rfl (two_new _ _ _ _) (one_two _ _ _ _) (by omega) (by unfold maxLen; omega) (by omega) (by have := H9.out.gr.size; have := H9.out.fP.lt; rw [World.size_alloc]; omega) _ rfl ?_
                  intro g9 cap9 w9 hown9 hgr9 hat9 hlt9
                  obtain ⟨⟨y0, y1⟩, hT9⟩ := Lv3.done H9.out _ (by have := Hnbs.out; omega) (by omega) hown9 hgr9 hat9 rfl; have HT9 := hid hT9; clear hT9
                  clear hown9 hgr9 hat9 hlt9))
                go_roundw
                case rel => exact ⟨bs.length + 1, _, bs ++ [(⟨nb, A9, ssX.length, c9, ssX⟩ : BH)], by omega, by go_num, by simp, HT9, hid (genBs_snoc hGb.out Hnb.out Hg9.out.1)⟩
                case measure => simp [intOf]; omega
              have t0 : (r8 == 0) = false := by simp [e0]
              have t1 : (r8 == 1) = false := by simp [e1]
              clear e0 e1 hr80 hr81
              have H0 := hid (H8.out.drewN 1)
              change Hid (Lv3 X w0 T w v u s F B nf nb ls bs ss wc.drew) at H0
              go_upto_region 18 with fail
              go_region_law (first
                | ((refine step_append_lies _ (by rfl) _ _ 63 (by rfl) (w.heap.size + 2) 68 i1 _ 4 72 Tryz.underlying63 Hi68.out Hz680.out Hz681.out Hz682.out (by rfl) (by decide) s ss.length (ss.flatMap shc) (by rfl) (by exact ((H3.out.alloc (.cells #[.string tgt, .string (f2 q2)] 9)).alloc _).os)
                       ⟨_, 0, none⟩ 1 1 (shc ⟨some ⟨w1.heap.size, 0, none⟩, 1, 1, some ⟨w3.heap.size, 0, none⟩, 2, 2, ⟨8, ⟨#[]⟩, [x], [tgt, f2 q2]⟩⟩) (by rfl) rfl (by exact four_new1 _ _ _ _ _ _ _) (one_shc ⟨some ⟨w1.heap.size, 0, none⟩, 1, 1, some ⟨w3.heap.size, 0, none⟩, 2, 2, ⟨8, ⟨#[]⟩, [x], [tgt, f2 q2]⟩⟩) (by decide) (by unfold maxLen; omega) (by omega) (by have := (H3.out.alloc (.cells #[.string tgt, .string (f2 q2)] 9)).gr.size; have := (H3.out.alloc (.cells #[.string tgt, .string (f2 q2)] 9)).fP.lt; rw [World.size_alloc]; omega) _ rfl ?_)
                   intro g9 cap9 w9 hown9 hgr9 hat9 hlt9
                   obtain ⟨⟨y0, y1⟩, hT9⟩ := Lv3.push (H3.out.alloc (.cells #[.string tgt, .string (f2 q2)] 9)) _ (br_ok (HFx3.out.alloc _) (fb_new2 w3 tgt (f2 q2)) Hnx.out (fun hin => by have := H3.out.ex_lt _ hin; omega) Hxs.out Hfq.out (f2_small q2)) hown9 hgr9 hat9 rfl
                   have HD := hid (show ∃ (s' : Value) (ss' : List SH), Lv3 X w0 T w v u s' F B nf nb ls bs ss' (w9.setCell ⟨B, 1, none⟩ (.slice (some ⟨g9, 0, none⟩) (ss.length + 1) cap9)) ∧ (genB N M ⟨nb, ss'.map SH.t⟩ ∧ ss'.length ≤ 4) from ⟨_, _, hT9, br_gen hss hGs.out Hx.out Hqt.out hq2 rfl⟩)
                   clear hown9 hgr9 hat9 hlt9 hT9)
                | ((refine step_append_lies _ (by rfl) _ _ 63 (by rfl) (w.heap.size + 2) 68 i1 _ 4 72 Tryz.underlying63 Hi68.out Hz680.out Hz681.out Hz682.out (by rfl) (by decide) s ss.length (ss.flatMap shc) (by rfl) (by exact ((H3.out.alloc (.cells #[.string tgt, .string (f2 q2)] 9)).alloc _).os)
                       ⟨_, 0, none⟩ 1 1 (shc ⟨some ⟨w2.heap.size, 0, none⟩, 1, 1, some ⟨w3.heap.size, 0, none⟩, 2, 2, ⟨8, ⟨#[]⟩, [x], [tgt, f2 q2]⟩⟩) (by rfl) rfl (by exact four_new1 _ _ _ _ _ _ _) (one_shc ⟨some ⟨w2.heap.size, 0, none⟩, 1, 1, some ⟨w3.heap.size, 0, none⟩, 2, 2, ⟨8, ⟨#[]⟩, [x], [tgt, f2 q2]⟩⟩) (by decide) (by unfold maxLen; omega) (by omega) (by have := (H3.out.alloc (.cells #[.string tgt, .string (f2 q2)] 9)).gr.size; have := (H3.out.alloc (.cells #[.string tgt, .string (f2 q2)] 9)).fP.lt; rw [World.size_alloc]; omega) _ rfl ?_)
                   intro g9 cap9 w9 hown9 hgr9 hat9 hlt9
                   obtain ⟨⟨y0, y1⟩, hT9⟩ := Lv3.push (H3.out.alloc (.cells #[.string tgt, .string (f2 q2)] 9)) _ (br_ok (HFx3.out.alloc _) (fb_new2 w3 tgt (f2 q2)) Hnx.out (fun hin => by have := H3.out.ex_lt _ hin; omega) Hxs.out Hfq.out (f2_small q2)) hown9 hgr9 hat9 rfl
                   have HD := hid (show ∃ (s' : Value) (ss' : List SH), Lv3 X w0 T w v u s' F B nf nb ls bs ss' (w9.setCell ⟨B, 1, none⟩ (.slice (some ⟨g9, 0, none⟩) (ss.length + 1) cap9)) ∧ (genB N M ⟨nb, ss'.map SH.t⟩ ∧ ss'.length ≤ 4) from ⟨_, _, hT9, br_gen hss hGs.out Hx.out Hqt.out hq2 rfl⟩)
                   clear hown9 hgr9 hat9 hlt9 hT9)
                | ((refine step_append_lies _ (by rfl) _ _ 63 (by rfl) (w.heap.size + 2) 68 i1 _ 4 72 Tryz.underlying63 Hi68.out Hz680.out Hz681.out Hz682.out (by rfl) (by decide) s ss.length (ss.flatMap shc) (by rfl) (by exact (((H3.out.alloc (.cells #[.string x] 9)).alloc (.cells #[.string tgt, .string (f2 q2)] 9)).alloc _).os)
                       ⟨_, 0, none⟩ 1 1 (shc ⟨some ⟨w3.heap.size, 0, none⟩, 1, 1, some ⟨w3.heap.size + 1, 0, none⟩, 2, 2, ⟨8, ⟨#[]⟩, [x], [tgt, f2 q2]⟩⟩) (by rfl) rfl (by exact four_new2 _ _ _ _ _ _ _ _) (one_shc ⟨some ⟨w3.heap.size, 0, none⟩, 1, 1, some ⟨w3.heap.size + 1, 0, none⟩, 2, 2, ⟨8, ⟨#[]⟩, [x], [tgt, f2 q2]⟩⟩) (by decide) (by unfold maxLen; omega) (by omega) (by have := ((H3.out.alloc (.cells #[.string x] 9)).alloc (.cells #[.string tgt, .string (f2 q2)] 9)).gr.size; have := ((H3.out.alloc (.cells #[.string x] 9)).alloc (.cells #[.string tgt, .string (f2 q2)] 9)).fP.lt; rw [World.size_alloc]; omega) _ rfl ?_)
                   intro g9 cap9 w9 hown9 hgr9 hat9 hlt9
                   obtain ⟨⟨y0, y1⟩, hT9⟩ := Lv3.push ((H3.out.alloc (.cells #[.string x] 9)).alloc (.cells #[.string tgt, .string (f2 q2)] 9)) _ (br_ok ((fb_new1 w3 x).alloc _) (by have := fb_new2 (w3.alloc (.cells #[.string x] 9)) tgt (f2 q2); rw [World.size_alloc] at this; exact this) (fun hin => by have := H3.out.ex_lt _ hin; omega) (fun hin => by have := H3.out.ex_lt _ hin; omega) Hxs.out Hfq.out (f2_small q2)) hown9 hgr9 hat9 rfl
                   have HD := hid (show ∃ (s' : Value) (ss' : List SH), Lv3 X w0 T w v u s' F B nf nb ls bs ss' (w9.setCell ⟨B, 1, none⟩ (.slice (some ⟨g9, 0, none⟩) (ss.length + 1) cap9)) ∧ (genB N M ⟨nb, ss'.map SH.t⟩ ∧ ss'.length ≤ 4) from ⟨_, _, hT9, br_gen hss hGs.out Hx.out Hqt.out hq2 rfl⟩)
                   clear hown9 hgr9 hat9 hlt9 hT9)
                | ((refine step_append_lies _ (by rfl) _ _ 63 (by rfl) (w.heap.size + 2) 68 i1 _ 4 72 Tryz.underlying63 Hi68.out Hz680.out Hz681.out Hz682.out (by rfl) (by decide) s ss.length (ss.flatMap shc) (by rfl) (by exact (((H3.out.alloc (.cells #[.string tgt, .string (f2 q2)] 9)).alloc (.cells #[.string x] 9)).alloc _).os)
                       ⟨_, 0, none⟩ 1 1 (shc ⟨some ⟨w3.heap.size + 1, 0, none⟩, 1, 1, some ⟨w3.heap.size, 0, none⟩, 2, 2, ⟨8, ⟨#[]⟩, [x], [tgt, f2 q2]⟩⟩) (by rfl) rfl (by exact four_new2 _ _ _ _ _ _ _ _) (one_shc ⟨some ⟨w3.heap.size + 1, 0, none⟩, 1, 1, some ⟨w3.heap.size, 0, none⟩, 2, 2, ⟨8, ⟨#[]⟩, [x], [tgt, f2 q2]⟩⟩) (by decide) (by unfold maxLen; omega) (by omega) (by have := ((H3.out.alloc (.cells #[.string tgt, .string (f2 q2)] 9)).alloc (.cells #[.string x] 9)).gr.size; have := ((H3.out.alloc (.cells #[.string tgt, .string (f2 q2)] 9)).alloc (.cells #[.string x] 9)).fP.lt; rw [World.size_alloc]; omega) _ rfl ?_)
                   intro g9 cap9 w9 hown9 hgr9 hat9 hlt9
                   obtain ⟨⟨y0, y1⟩, hT9⟩ := Lv3.push ((H3.out.alloc (.cells #[.string tgt, .string (f2 q2)] 9)).alloc (.cells #[.string x] 9)) _ (br_ok (by have := fb_new1 (w3.alloc (.cells #[.string tgt, .string (f2 q2)] 9)) x; rw [World.size_alloc] at this; exact this) ((fb_new2 w3 tgt (f2 q2)).alloc _) (fun hin => by have := H3.out.ex_lt _ hin; omega) (fun hin => by have := H3.out.ex_lt _ hin; omega) Hxs.out Hfq.out (f2_small q2)) hown9 hgr9 hat9 rfl
                   have HD := hid (show ∃ (s' : Value) (ss' : List SH), Lv3 X w0 T w v u s' F B nf nb ls bs ss' (w9.setCell ⟨B, 1, none⟩ (.slice (some ⟨g9, 0, none⟩) (ss.length + 1) cap9)) ∧ (genB N M ⟨nb, ss'.map SH.t⟩ ∧ ss'.length ≤ 4) from ⟨_, _, hT9, br_gen hss hGs.out Hx.out Hqt.out hq2 rfl⟩)
                   clear hown9 hgr9 hat9 hlt9 hT9)
                | (go_simp
                   go_at_call 44
                   go_must (
                   refine (name2_any w0 T _ H0.out.go).mono ?_
                   rintro e w1 ⟨x, rfl, hx, ht1, hg1⟩
                   have H1 := hid (H0.out.step ht1 hg1)
                   have Hx := hid hx
                   have Hxs := hid (varsL_small x hx)
                   obtain ⟨b0, b1, a0, a1⟩ := H1.out.cells
                   have hb1 := H1.out.fB.lt
                   clear hx ht1 hg1))
                | (go_simp
                   go_at_call 10
                   go_must (
                   first
                   | (refine (next_any T M _ H1.out.go.1 (by omega)).mono ?_
                      rintro e w2 ⟨q2, rfl, hq20, hq21, ht2, hg2, -⟩
                      have H2 := hid (H1.out.step (H1.out.go.step ht2 hg2) hg2))
                   | (refine (next_any T M _ (H1.out.alloc (.cells #[.string x] 9)).go.1 (by omega)).mono ?_
                      rintro e w2 ⟨q2, rfl, hq20, hq21, ht2, hg2, -⟩
                      have H2 := hid ((H1.out.alloc (.cells #[.string x] 9)).step ((H1.out.alloc (.cells #[.string x] 9)).go.step ht2 hg2) hg2)
                      have HFx2 := hid ((fb_new1 w1 x).grown hg2 (by have := H1.out.go.lt; simp; omega))
                      have Hnx := hid (show some w1.heap.size ∉ ex3 X w T v u s F B from fun hin => by have := H1.out.ex_lt _ hin; omega))
                   obtain ⟨q2, rfl⟩ := Int.eq_ofNat_of_zero_le hq20
                   have hq2 : q2 < M := by omega
                   obtain ⟨b0, b1, a0, a1⟩ := H2.out.cells
                   have hb2 := H2.out.fB.lt
                   clear hq20 hq21 ht2 hg2))
                | (go_simp
                   go_at_call 43
                   go_must (
                   refine (func2_any q2 _ (by omega)).mono ?_
                   rintro e w3 ⟨rfl, hbw3⟩
                   first
                   | (have H3 := hid (H2.out.below hbw3)
                      have HFx3 := hid (HFx2.out.below hbw3 HFx2.out.lt))
                   | (have H3 := hid (H2.out.below hbw3))
                   | (have H3 := hid ((H2.out.alloc (.cells #[.string x] 9)).below hbw3)
                      have HFx3 := hid ((fb_new1 w2 x).below hbw3 (fb_new1 w2 x).lt)
                      have Hnx := hid (show some w2.heap.size ∉ ex3 X w T v u s F B from fun hin => by have := H2.out.ex_lt _ hin; omega))
                   obtain ⟨b0, b1, a0, a1⟩ := H3.out.cells
                   have hb3 := H3.out.fB.lt
                   have hb3a : B < w3.heap.size + 1 := by omega
                   have hb3b : B < w3.heap.size + 1 + 1 := by omega
                   clear hbw3)))
              all_goals
                obtain ⟨sX, ssX, hL9, hG9⟩ := HD.out
                have H9 := hid hL9
                have Hg9 := hid hG9
                clear hL9 hG9 HD b0 b1 a0 a1
                generalize w9.setCell ⟨B, 1, none⟩ (.slice (some ⟨g9, 0, none⟩) (ss.length + 1) cap9) = wA at *
                obtain ⟨A9, c9, e9⟩ := own_any_slice H9.out.os
                subst e9
                have hl9 := Hg9.out.2
                obtain ⟨b0, b1, a0, a1⟩ := H9.out.cells
                have hbF := H9.out.fF.lt
                have hbB := H9.out.fB.lt
                go_wp2_with ((
                  at_builtin
                  refine wpList_append_lies _ rfl _ _ 60 rfl (w.heap.size + 2) 65 i2 _ 2 40 Tryz.underlying60 Hi66.out Hz660.out Hz661.out Hz662.out rfl (by decide) u bs.length (bs.flatMap bhc) rfl (World.ownsRow.alloc H9.out.ou _) ⟨wA.heap.size, 0, none⟩ 1 1 [.string nb, .slice A9 ssX.length c9] rfl rfl (two_new _ _ _ _) (one_two _ _ _ _) (by omega) (by unfold maxLen; omega) (by omega) (by have := H9.out.gr.size; have := H9.out.fP.lt; rw [World.size_alloc]; omega) _ rfl ?_
                  intro g9 cap9 w9 hown9 hgr9 hat9 hlt9
                  obtain ⟨⟨y0, y1⟩, hT9⟩ := Lv3.done H9.out _ (by have := Hnbs.out; omega) (by omega) hown9 hgr9 hat9 rfl; have HT9 := hid hT9; clear hT9
                  clear hown9 hgr9 hat9 hlt9))
                go_roundw
                case rel => exact ⟨bs.length + 1, _, bs ++ [(⟨nb, A9, ssX.length, c9, ssX⟩ : BH)], by omega, by go_num, by simp, HT9, hid (genBs_snoc hGb.out Hnb.out Hg9.out.1)⟩
                case measure => simp [intOf]; omega
        · have e9 : M = bs.length := by omega
          subst e9
          obtain ⟨A9, c9, e8⟩ := own_any_slice hL.out.ou
          subst e8
          have Hgf := hid (show genF N ⟨nf, A9, bs.length, c9, bs⟩ from ⟨by show 1 ≤ bs.length; omega, by show bs.length ≤ 3; omega, hGb.out⟩)
          have q0 := hL.out.fP.cell 0
          have q1 := hL.out.fF.cell 0
          have q2 := hL.out.fF.cell 1
          have hbP := hL.out.fP.lt
          have hbF := hL.out.fF.lt
          have hbs3 : bs.length ≤ 3 := by omega
          simp only [List.getElem?_toArray, List.getElem?_cons_zero, List.getElem?_cons_succ] at q0 q1 q2
          clear hk hltk
          go_wp2_with ((
            at_builtin
            refine wpList_append_lies _ rfl _ _ 42 rfl (w.heap.size + 2) 62 i3 _ 2 40 Tryz.underlying42 Hi63.out Hz630.out Hz631.out Hz632.out rfl (by decide) v ls.length (ls.flatMap fhc) rfl (World.ownsRow.alloc hL.out.ov _) ⟨wr.heap.size, 0, none⟩ 1 1 [.string nf, .slice A9 bs.length c9] rfl rfl (two_new _ _ _ _) (one_two _ _ _ _) (by omega) (by unfold maxLen; omega) (by omega) (by have := hL.out.gr.size; have := hL.out.fP.lt; rw [World.size_alloc]; omega) _ rfl ?_
            intro g9 cap9 w9 hown9 hgr9 hat9 hlt9
            obtain ⟨⟨y0, y1⟩, hT9⟩ := Lv2.done hL.out _ (by have := Hnfs.out; omega) (by omega) hown9 hgr9 hat9 rfl; have HT9 := hid hT9; clear hT9
            clear hown9 hgr9 hat9 hlt9))
          go_roundw
          case rel => exact ⟨ls.length + 1, _, ls ++ [(⟨nf, A9, bs.length, c9, bs⟩ : FH)], by omega, by go_num, by simp, HT9, hid (genFs_snoc hG.out Hnf.out Hgf.out)⟩
          case measure => simp [intOf]; omega
    · have e9 : N = ls.length := by omega
      subst e9
      obtain ⟨A9, c9, e8⟩ := own_any_slice hL.out.ov
      subst e8
      have q0 := hL.out.fP.cell 0
      have q1 := hL.out.fR.cell 0
      have q2 := hL.out.fR.frozen 0
      simp only [List.getElem?_toArray, List.getElem?_cons_zero] at q0 q1
      have hbR := hL.out.fR.lt
      have HFin := hid (fun x => Lv1.fin hL.out (by omega) x)
      have Hgp := hid (show genP ls from ⟨by omega, by omega, hG.out⟩)
      clear hi hlt
      go_wp2_with fail
      refine bodyPost_ret (v := .agg #[.slice A9 ls.length c9]) (by simp [results, Tryz.results18, go_sem, q0, q1, hbR]) rfl ?_
      obtain ⟨f1, f2, f3⟩ := HFin.out (.slice A9 ls.length c9)
      exact ⟨⟨A9, ls.length, c9, ls⟩, rfl, Hgp.out, f1, f2, f3⟩
end Go.Proofs.YtfapgnbnfhpicaaGreatDoor
