/- Merged texts: what YtopkmeceakjocaaGreatEliminationReducesProof leans on. -/
import Derived.Deep.DeepCutAuto
import Derived.Deep.AppendLies
import Derived.Test.YtopkmeceakjocaaGreatErdM0a
import Derived.Test.YtopkmeceakjocaaGreatErdM0
import Derived.Test.YtopkmeceakjocaaGreatErdM0b
namespace Go.Proofs.YtopkmeceakjocaaGreat
set_option maxRecDepth 20000
set_option linter.unusedVariables false
set_option linter.unusedSimpArgs false
open Go.ChangeShapes Go.WideShapes Go.ChangeAt Go.RowKit
theorem EAt.offR {u : World} {ex : List (Option Nat)} {g t : Nat} {x y1 y2 : Value} {A : Option Addr} {xs : List Value} (h : EAt u ex A xs) (hf : Fb u g #[x, y1, y2] t) (hx : ∀ k : Int, x ≠ .int .u64 k) (h1 : ∀ (k : IntKind) (n : Int), y1 ≠ .int k n) (h2 : ∀ (k : IntKind) (n : Int), y2 ≠ .int k n)
 (hs : (∀ v ∈ xs, ∃ n : Int, v = .int .u64 n) ∨ ((∀ v ∈ xs, ∃ n : Int, v = .int .i64 n) ∧ xs.length ≠ 1)) : EAt u (some g :: ex) A xs := by
 rcases h with e | ⟨ad, e, hsf, hc⟩
 · exact .inl e
 · by_cases h0 : xs = []
   · exact .inl h0
   · refine .inr ⟨ad, e, ⟨hsf.1, fun hm => ?_⟩, hc⟩
     rcases List.mem_cons.1 hm with hm | hm
     · obtain rfl := Option.some.inj hm
       have hl : 0 < xs.length := by rcases Nat.eq_zero_or_pos xs.length with h | h; exact absurd (List.length_eq_zero_iff.1 h) h0; exact h
       obtain ⟨a, ha, ham⟩ := get_at (rfl : xs.length = xs.length) hl
       have hca := hc 0 a ha
       have key : ∀ (p : Addr) (v : Value), p.block = ad.block → u.cell? p = some v → (∃ k n, v = Value.int k n) → v = x ∧ p.off = 0 := fun p v hp hv hint => by
        unfold World.cell? at hv
        rw [hp, show u.heap[ad.block]? = _ from hf] at hv
        simp only at hv
        split at hv
        · cases hv
        · obtain ⟨k, n, rfl⟩ := hint
          have ho : p.off < 3 := by
           have := (Array.getElem?_eq_some_iff.1 hv).1
           simpa using this
          generalize p.off = o at *
          match o, ho with
          | 0, _ => exact ⟨(Option.some.inj (by simpa using hv)).symm, rfl⟩
          | 1, _ => exact absurd (Option.some.inj (by simpa using hv)) (h1 k n)
          | 2, _ => exact absurd (Option.some.inj (by simpa using hv)) (h2 k n)
       have had : ad.add 0 = ad := by unfold Addr.add; rfl
       rw [had] at hca
       rcases hs with hs | ⟨hs, hl1⟩
       · obtain ⟨n, rfl⟩ := hs a ham
         exact hx n (key ad _ rfl hca ⟨_, _, rfl⟩).1.symm
       · obtain ⟨n, rfl⟩ := hs a ham
         have k1 := key ad _ rfl hca ⟨_, _, rfl⟩
         obtain ⟨b, hb, hbm⟩ := get_at (rfl : xs.length = xs.length) (show 1 < xs.length by omega)
         obtain ⟨m, rfl⟩ := hs b hbm
         have k2 := key (ad.add 1) _ (add_block ad 1) (hc 1 _ hb) ⟨_, _, rfl⟩
         have : (ad.add 1).off = ad.off + 1 := by unfold Addr.add; rfl
         omega
     · exact hsf.2 hm
theorem words_u64 (ws : List Nat) : ∀ v ∈ words ws, ∃ n : Int, v = .int .u64 n := fun v hv => by
 unfold words at hv
 obtain ⟨y, -, rfl⟩ := List.mem_map.1 hv
 exact ⟨_, rfl⟩
theorem pairs_int (cs : List (Int × Int)) : (∀ v ∈ pairs cs, ∃ n : Int, v = .int .i64 n) ∧ (pairs cs).length ≠ 1 := by
 unfold pairs
 constructor
 · intro v hv
   obtain ⟨c, -, hv⟩ := List.mem_flatMap.1 hv
   simp only [List.mem_cons, List.not_mem_nil, or_false] at hv
   rcases hv with rfl | rfl
   · exact ⟨_, rfl⟩
   · exact ⟨_, rfl⟩
 · cases cs with
   | nil => simp
   | cons c cs => simp only [List.flatMap_cons, List.length_append, List.length_cons, List.length_nil]; omega
def ZR : Array Value := #[.int .i64 0, .slice none 0 0, .slice none 0 0]
theorem ZHok.offR {u : World} {ex : List (Option Nat)} {g t : Nat} {z : ZH} (h : ZHok u ex z) (hf : Fb u g ZR t) : ZHok u (some g :: ex) z :=
 ⟨h.lies.offR hf (by simp) (by simp) (by simp) (.inl (words_u64 _)), h.len, h.ok⟩
theorem FHok.offR {u : World} {ex : List (Option Nat)} {g t : Nat} {f : FH} (h : FHok u ex f) (hf : Fb u g ZR t) : FHok u (some g :: ex) f :=
 ⟨h.g.offR hf, h.k.offR hf, h.lies.offR hf (by simp) (by simp) (by simp) (.inr (pairs_int _)), h.len⟩
set_option maxHeartbeats 3200000 in
theorem own_putF {b : Nat} {u : World} {r : AL} (ho : u.ownsRow b 63 6 r.v r.n (r.l.flatMap AH.cells)) {i : Nat} {a : AH} {f : FH} (hi : r.l[i]? = some a) {g : Nat} (hg : r.A = some ⟨g, 0, none⟩) :
 (putF u g (i * 6 + 1) f).ownsRow b 63 6 r.v r.n ((r.l.set i (arcSet a f)).flatMap AH.cells) := by
 have hil := (List.getElem?_eq_some_iff.1 hi).1
 have hlen : r.l.length = r.n := by
  have h1 := ho.1
  rw [flat_len AH.cells_len] at h1
  omega
 rcases ho.2 with ⟨e, e2⟩ | ⟨g', cap, cur, e, hge, hc, h1, h2, h3, h4⟩
 · omega
 · unfold AL.v at e
   injection e with e1 e2 e3
   rw [hg] at e1
   injection e1 with e1
   injection e1 with e1
   subst e1
   have f0 : Fb u g cur 63 := hc
   have f5 := ((((f0.set (i * 6 + 1) (.int .i64 f.G.W)).set (i * 6 + 1 + 1) (.slice f.G.A f.G.n f.G.c)).set (i * 6 + 1 + 2) (.int .i64 f.K.W)).set (i * 6 + 1 + 3) (.slice f.K.A f.K.n f.K.c)).set (i * 6 + 1 + 4) (.slice f.C f.k f.q)
   refine ⟨by rw [← flat_putF hi]; simp only [List.length_set]; exact ho.1, .inr ⟨g, cap, _, by unfold AL.v; rw [hg, e3], hge, f5, h1, h2, by simp only [Array.size_setIfInBounds]; exact h3, ?_⟩⟩
   rw [← flat_putF hi]
   simp only [Array.toList_setIfInBounds]
   rw [take_sets (take_sets (take_sets (take_sets (take_sets h4 (by omega) _) (by omega) _) (by omega) _) (by omega) _) (by omega) _]
theorem map_m_set {l : List AH} {i : Nat} {a : AH} {f : FH} (hi : l[i]? = some a) : (l.set i (arcSet a f)).map AH.m = l.map AH.m := by
 have hil := (List.getElem?_eq_some_iff.1 hi).1
 rw [List.map_set]
 apply List.ext_getElem?
 intro j
 by_cases e : j = i
 · subst e
   rw [List.getElem?_set_self (by simpa using hil), List.getElem?_map, hi]; rfl
 · rw [List.getElem?_set_ne (fun e' => e e'.symm)]
def exL (T R bW : Nat) (J : List AL) : List (Option Nat) := some T :: some R :: some bW :: J.map fun r => r.v.ownBlock
structure Lw (w : World) (T bW b0 v N : Nat) (Bv Iv : Value) (bl : List ZH) (J : List AL) (u : World) : Prop where
 tp : Tape u T
 rx : Fb u w.heap.size ZR 67
 wx : Fb u bW #[.int .i64 v, Bv, Iv] 67
 hb : w.heap.size < bW
 hb0 : w.heap.size < b0
 hT : T < w.heap.size
 oB : u.ownsRow b0 49 2 Bv N (bl.flatMap ZH.cs)
 oI : u.ownsRow b0 64 1 Iv N (J.map AL.v)
 oD : ∀ r ∈ J, u.ownsRow b0 63 6 r.v r.n (r.l.flatMap AH.cells)
 ap : ∀ (j k : Nat) (x y : AL) (g : Nat), J[j]? = some x → J[k]? = some y → x.v.ownBlock = some g → y.v.ownBlock = some g → j = k
 jl : J.length = N
 gr : w.grownBy u (some T)
 fo : ∀ r ∈ J, ∀ a ∈ r.l, FHok u (exL T w.heap.size bW J) a.f ∧ FOk v a.f
 zo : ∀ z ∈ bl, ZHok u (exL T w.heap.size bW J) z ∧ z.W = v ∧ Bs.Fit v z.ws
 rk : ∀ r ∈ J, RisP N (r.l.map AH.m) ∧ r.n ≤ 3
section
variable {w u u' : World} {T bW b0 v N : Nat} {Bv Iv : Value} {bl : List ZH} {J : List AL}
theorem Lw.below (h : Lw w T bW b0 v N Bv Iv bl J u) (hb : Below u.heap.size u u') : Lw w T bW b0 v N Bv Iv bl J u' :=
 have hs : ∀ t, Stp1 t u u' := fun t => Stp1.below hb
 ⟨h.tp.below hb h.tp.lt, h.rx.below hb h.rx.lt, h.wx.below hb h.wx.lt, h.hb, h.hb0, h.hT, (hs 0).own h.oB (by decide), (hs 0).own h.oI (by decide), fun r hr => (hs 0).own (h.oD r hr) (by decide), h.ap, h.jl, grown_trans h.gr (grown_of_below hb _), fun r hr a ha => ⟨(h.fo r hr a ha).1.below hb, (h.fo r hr a ha).2⟩, fun z hz => ⟨(h.zo z hz).1.below hb, (h.zo z hz).2⟩, h.rk⟩
theorem Lw.tape (h : Lw w T bW b0 v N Bv Iv bl J u) (ht : Tape u' T) (hg : u.grownBy u' (some T)) : Lw w T bW b0 v N Bv Iv bl J u' :=
 have hs : Stp1 80 u u' := ⟨_, hg, fun k e => by obtain rfl := Option.some.inj e; exact h.tp.typ⟩
 have hG : Go2 u (exL T w.heap.size bW J) u' (exL T w.heap.size bW J) := Go2.same hg (.inr (by simp [exL]))
 ⟨ht, hs.fb h.rx (by decide), hs.fb h.wx (by decide), h.hb, h.hb0, h.hT, hs.own h.oB (by decide), hs.own h.oI (by decide), fun r hr => hs.own (h.oD r hr) (by decide), h.ap, h.jl, grown_trans h.gr hg, fun r hr a ha => ⟨(h.fo r hr a ha).1.go hG, (h.fo r hr a ha).2⟩, fun z hz => ⟨(h.zo z hz).1.go hG, (h.zo z hz).2⟩, h.rk⟩
theorem Lw.len (h : Lw w T bW b0 v N Bv Iv bl J u) {r : AL} (hr : r ∈ J) : r.l.length = r.n := by
 have h1 := (h.oD r hr).1
 rw [flat_len AH.cells_len] at h1
 omega
theorem Lw.ft (h : Lw w T bW b0 v N Bv Iv bl J u) {F : FH} (hF : Ft u v F) : FHok u (exL T w.heap.size bW J) F := hF.fh fun k hk => by
 unfold exL at hk
 simp only [List.mem_cons] at hk
 have ne : ∀ {t : Nat}, Typ u k t → t ≠ 106 → t ≠ 58 → ¬ Typ u k 106 ∧ ¬ Typ u k 58 := fun ht h1 h2 => ⟨fun h => ht.ne h h1 rfl, fun h => ht.ne h h2 rfl⟩
 rcases hk with e | e | e | hk
 · obtain rfl := Option.some.inj e; exact ne h.tp.typ (by decide) (by decide)
 · obtain rfl := Option.some.inj e; exact ne h.rx.typ (by decide) (by decide)
 · obtain rfl := Option.some.inj e; exact ne h.wx.typ (by decide) (by decide)
 · obtain ⟨r, hr, e⟩ := List.mem_map.1 hk
   exact ne (own_typ (h.oD r hr) e) (by decide) (by decide)
theorem Lw.put (h : Lw w T bW b0 v N Bv Iv bl J u) {i j g : Nat} {r : AL} {a : AH} {F : FH} (hr : J[i]? = some r) (ha : r.l[j]? = some a) (hg : r.A = some ⟨g, 0, none⟩) (hF : Ft u v F) :
 Lw w T bW b0 v N Bv Iv bl (J.set i ⟨r.A, r.n, r.c, r.l.set j (arcSet a F)⟩) (putF u g (j * 6 + 1) F) := by
 have hrm := List.mem_of_getElem? hr
 have hbk : r.v.ownBlock = some g := by unfold AL.v; rw [hg]; rfl
 have hG := putF_grown u g (j * 6 + 1) F
 have hs : Stp1 63 u (putF u g (j * 6 + 1) F) := ⟨_, hG, fun k e => by obtain rfl := Option.some.inj e; exact own_typ (h.oD r hrm) hbk⟩
 have hil := (List.getElem?_eq_some_iff.1 hr).1
 have hmv : ∀ f : AL → Value, (∀ x y : AL, x.A = y.A → x.n = y.n → x.c = y.c → f x = f y) → (J.set i ⟨r.A, r.n, r.c, r.l.set j (arcSet a F)⟩).map f = J.map f := fun f hf => by
  rw [List.map_set]
  apply List.ext_getElem?
  intro k
  by_cases e : k = i
  · subst e
    rw [List.getElem?_set_self (by simpa using hil), List.getElem?_map, hr]
    exact congrArg some (hf _ _ rfl rfl rfl)
  · rw [List.getElem?_set_ne (fun e' => e e'.symm)]
 have hmb : (J.set i ⟨r.A, r.n, r.c, r.l.set j (arcSet a F)⟩).map (fun r => r.v.ownBlock) = J.map fun r => r.v.ownBlock := by
  rw [List.map_set]
  apply List.ext_getElem?
  intro k
  by_cases e : k = i
  · subst e
    rw [List.getElem?_set_self (by simpa using hil), List.getElem?_map, hr]; rfl
  · rw [List.getElem?_set_ne (fun e' => e e'.symm)]
 have hex : exL T w.heap.size bW (J.set i ⟨r.A, r.n, r.c, r.l.set j (arcSet a F)⟩) = exL T w.heap.size bW J := by unfold exL; rw [hmb]
 have hgm : some g ∈ exL T w.heap.size bW J := by
  unfold exL
  simp only [List.mem_cons, List.mem_map]
  exact .inr (.inr (.inr ⟨r, hrm, hbk⟩))
 have hGo : Go2 u (exL T w.heap.size bW J) (putF u g (j * 6 + 1) F) (exL T w.heap.size bW J) := Go2.same hG (.inr hgm)
 have hgb := (h.oD r hrm).lt g hbk
 have hput : ∀ (k : Nat) (y : AL), (J.set i ⟨r.A, r.n, r.c, r.l.set j (arcSet a F)⟩)[k]? = some y → (k = i ∧ y = ⟨r.A, r.n, r.c, r.l.set j (arcSet a F)⟩) ∨ (k ≠ i ∧ J[k]? = some y) := fun k y hy => by
  by_cases e : k = i
  · subst e
    rw [List.getElem?_set_self hil] at hy
    exact .inl ⟨rfl, (Option.some.inj hy).symm⟩
  · rw [List.getElem?_set_ne (fun e' => e e'.symm)] at hy
    exact .inr ⟨e, hy⟩
 have hmem : ∀ y ∈ J.set i ⟨r.A, r.n, r.c, r.l.set j (arcSet a F)⟩, y = ⟨r.A, r.n, r.c, r.l.set j (arcSet a F)⟩ ∨ (∃ k, k ≠ i ∧ J[k]? = some y) := fun y hy => by
  obtain ⟨k, hk⟩ := List.mem_iff_getElem?.1 hy
  rcases hput k y hk with ⟨_, e⟩ | ⟨e, hk⟩
  · exact .inl e
  · exact .inr ⟨k, e, hk⟩
 refine ⟨h.tp.keep fun k hk => hG.block k (by have := h.tp.lt; omega) (fun e => by have e := Option.some.inj e; have := h.hb0; have := h.hT; omega), hs.fb h.rx (fun e => by revert e; decide), hs.fb h.wx (by decide), h.hb, h.hb0, h.hT, hs.own h.oB (by decide), ?_, fun y hy => ?_, fun a' b' x y g' hx hy h1 h2 => ?_, by rw [List.length_set]; exact h.jl, ?_, fun y hy x hx => ?_, fun z hz => ?_, fun y hy => ?_⟩
 · rw [hmv AL.v fun x y e1 e2 e3 => by unfold AL.v; rw [e1, e2, e3]]
   exact hs.own h.oI (by decide)
 · rcases hmem y hy with rfl | ⟨k, e, hk⟩
   · exact own_putF (h.oD r hrm) ha hg
   · refine (h.oD y (List.mem_of_getElem? hk)).kept hG ?_
     cases hv : y.v.ownBlock with
     | none => exact .inl rfl
     | some g' => exact .inr fun e2 => e (h.ap k i y r g hk hr (hv.trans e2) hbk)
 · have back : ∀ (k : Nat) (y : AL), (J.set i ⟨r.A, r.n, r.c, r.l.set j (arcSet a F)⟩)[k]? = some y → ∃ y', J[k]? = some y' ∧ y'.v = y.v := fun k y hy => by
    rcases hput k y hy with ⟨rfl, rfl⟩ | ⟨_, hk⟩
    · exact ⟨r, hr, rfl⟩
    · exact ⟨y, hk, rfl⟩
   obtain ⟨x', hx', ex⟩ := back a' x hx
   obtain ⟨y', hy', ey⟩ := back b' y hy
   exact h.ap a' b' x' y' g' hx' hy' (by rw [ex]; exact h1) (by rw [ey]; exact h2)
 · have hsz := h.gr.size
   exact ⟨hG.os.trans h.gr.os, hG.tape.trans h.gr.tape, hG.output.trans h.gr.output, Nat.le_trans h.gr.size hG.size, fun k hk hne => (hG.block k (by omega) fun e => by have e := Option.some.inj e; have := h.hb0; omega).trans (h.gr.block k hk hne)⟩
 · rw [hex]
   rcases hmem y hy with rfl | ⟨k, e, hk⟩
   · rcases List.mem_or_eq_of_mem_set hx with hx | rfl
     · exact ⟨(h.fo r hrm x hx).1.go hGo, (h.fo r hrm x hx).2⟩
     · exact ⟨(h.ft hF).go hGo, ⟨hF.g1.1, hF.k1.1, hF.ok⟩⟩
   · exact ⟨(h.fo y (List.mem_of_getElem? hk) x hx).1.go hGo, (h.fo y (List.mem_of_getElem? hk) x hx).2⟩
 · rw [hex]
   exact ⟨(h.zo z hz).1.go hGo, (h.zo z hz).2⟩
 · rcases hmem y hy with rfl | ⟨k, e, hk⟩
   · exact ⟨by show RisP N ((r.l.set j (arcSet a F)).map AH.m); rw [map_m_set ha]; exact (h.rk r hrm).1, (h.rk r hrm).2⟩
   · exact h.rk y (List.mem_of_getElem? hk)
end
def RetLwb (w : World) (T n : Nat) (e : Ending) (w' : World) : Prop :=
 ∃ (x : WB) (v N : Nat), e = .returned x.a ∧ WBok w' [some T] x ∧ WOk x v N ∧ WLk x N ∧ v ≤ 4 ∧ 1 ≤ N ∧ N ≤ n ∧ Tape w' T ∧ w.grownBy w' (some T)
theorem Lw.fin {w u : World} {T bW b0 v N n : Nat} {A1 A2 : Option Addr} {c1 c2 : Nat} {bl : List ZH} {J : List AL} (h : Lw w T bW b0 v N (.slice A1 N c1) (.slice A2 N c2) bl J u) (hv : v ≤ 4) (h1 : 1 ≤ N) (hN : N ≤ n) (hn : n ≤ 100) :
 RetLwb w T n (.returned (.agg #[.int .i64 v, .slice A1 N c1, .slice A2 N c2])) (((u.setCell ⟨w.heap.size, 0, none⟩ (.int .i64 v)).setCell ⟨w.heap.size, 1, none⟩ (.slice A1 N c1)).setCell ⟨w.heap.size, 2, none⟩ (.slice A2 N c2)) := by
 generalize hu' : ((u.setCell ⟨w.heap.size, 0, none⟩ (.int .i64 v)).setCell ⟨w.heap.size, 1, none⟩ (.slice A1 N c1)).setCell ⟨w.heap.size, 2, none⟩ (.slice A2 N c2) = u'
 have hgu : u.grownBy u' (some w.heap.size) := by
  rw [← hu']
  exact grown_trans (grown_trans (setCell_grown u ⟨w.heap.size, 0, none⟩ _) (setCell_grown _ ⟨w.heap.size, 1, none⟩ _)) (setCell_grown _ ⟨w.heap.size, 2, none⟩ _)
 have hs : Stp1 67 u u' := ⟨_, hgu, fun k e => by obtain rfl := Option.some.inj e; exact h.rx.typ⟩
 have hG : Go2 u (exL T w.heap.size bW J) u' (exL T w.heap.size bW J) := Go2.same hgu (.inr (by simp [exL]))
 have hG2 : Go2 u (exL T w.heap.size bW J) u' [some T] := hG.trans (Go2.less u' fun k hk => by simp at hk; subst hk; simp [exL])
 have hgw : w.grownBy u' (some T) := by
  have hsz := h.gr.size
  exact ⟨hgu.os.trans h.gr.os, hgu.tape.trans h.gr.tape, hgu.output.trans h.gr.output, Nat.le_trans h.gr.size hgu.size, fun k hk hne => (hgu.block k (by omega) fun e => by have e := Option.some.inj e; omega).trans (h.gr.block k hk hne)⟩
 have hb0 := h.hb0
 have hT := h.hT
 have nT : ∀ {x : Value} {ty k m : Nat} {xs : List Value}, u'.ownsRow b0 ty k x m xs → ∀ g, x.ownBlock = some g → some g ∉ [some T] := fun ho g hg hm => by
  have h1 := (ho.lt g hg).1
  simp only [List.mem_cons, List.not_mem_nil, or_false, Option.some.injEq] at hm
  omega
 have oB := hs.own h.oB (by decide)
 have oI := hs.own h.oI (by decide)
 have hbl : bl.length = N := by have h1 := h.oB.1; rw [flat_len ZH.cs_len] at h1; omega
 have hJl := h.jl
 have hlen : ∀ r ∈ J, r.l.length = r.n := fun r hr => h.len hr
 refine ⟨⟨v, ⟨A1, N, c1, bl⟩, ⟨A2, N, c2, J⟩⟩, v, N, rfl, ⟨⟨EAt.own oB (nT oB), hbl, by show N ≤ _; omega, fun z hz => (h.zo z hz).1.go hG2⟩, ⟨EAt.own oI (nT oI), hJl, by show N ≤ _; omega, fun r hr => ?_⟩⟩,
  ⟨rfl, by omega, by omega, rfl, rfl, fun z hz => (h.zo z hz).2, fun r hr => ⟨by have := (h.rk r hr).2; omega, fun a ha => ⟨(h.rk r hr).1.2 _ (List.mem_map.2 ⟨a, ha, rfl⟩), (h.fo r hr a ha).2⟩⟩⟩,
  ⟨h1, fun r hr => (h.rk r hr).1, ?_⟩, hv, h1, hN, h.tp.keep fun k hk => hgu.block k (by have := h.tp.lt; omega) (fun e => by have e := Option.some.inj e; omega), hgw⟩
 · have oD := hs.own (h.oD r hr) (by decide)
   exact ⟨EAt.own oD (nT oD), hlen r hr, by have := (h.rk r hr).2; omega, fun a ha => (h.fo r hr a ha).1.go hG2⟩
 · have key : ∀ l : List AL, (∀ r ∈ l, r.l.length ≤ 3) → tot (l.map fun r => r.l.map AH.m) ≤ l.length * 3 := by
    intro l
    induction l with
    | nil => intro _; simp [tot]
    | cons r l ih =>
      intro hl
      have := ih fun x hx => hl x (List.mem_cons_of_mem _ hx)
      have h2 := hl r List.mem_cons_self
      unfold tot at *
      simp only [List.map_cons, List.sum_cons, List.length_map, List.length_cons, Nat.succ_mul] at *
      omega
   have := key J fun r hr => by rw [hlen r hr]; exact (h.rk r hr).2
   show tot (J.map fun r => r.l.map AH.m) ≤ 1024
   omega
theorem below_drewN (w : World) (q : Nat) : Below w.heap.size w (w.drewN q) := ⟨rfl, rfl, rfl, Nat.le_refl _, fun _ _ => rfl⟩
set_option maxHeartbeats 3200000 in
theorem rising_yes (x : RH) (N : Nat) (ex : List (Option Nat)) (w : World) (h : RHok w ex x) (hr : RisP N x.l) (hN : N ≤ 9223372036854775807) :
 Calls Tryz.prog 74 #[.slice x.A x.n x.c, .int .i64 N] w fun e w' => e = .returned (.bool true) ∧ Below w.heap.size w w' := by
 have hn := h.few
 have HX := hid h
 have HL := hid h.len
 have HR := hid hr
 clear h hr
 obtain ⟨A, n, c, l⟩ := x
 simp only at *
 go_enter Tryz.func74, Tryz.ntmps74
 go_wp2_with fail
 go_loopw [5] (fun iv wr => ∃ (k q : Nat), k ≤ n ∧ iv = .int .i64 k ∧ wr = w.drewN q) (fun iv _ => n - (intOf iv).toNat)
 case atStart => exact ⟨0, 0, by omega, rfl, rfl⟩
 case round =>
  obtain ⟨k, q, hk, rfl, rfl⟩ := hrel
  by_cases hlt : k < n
  · obtain ⟨a, ha, ham⟩ := get_at HL.out hlt
    obtain ⟨ad, hA, had, hc⟩ := HX.out.cell ha
    simp only at hA
    subst hA
    obtain ⟨a0, a1⟩ := HR.out.2 a ham
    have Ha := hid ha
    clear ha ham
    have t1 : decide (a < 0) = false := by simp; omega
    have t2 : decide ((N : Int) ≤ a) = false := by simp; omega
    by_cases hk0 : k = 0
    · have t5 : decide (0 < (k : Int)) = false := by simp; omega
      have t5n : decide (0 < k) = false := by simp; omega
      clear hk0
      as_aux_lemma =>
       go_wp2_with fail
       go_quiet (fail)
       go_wp2_with fail
       go_roundw
       case rel => exact ⟨k + 1, _, by omega, by go_num, rfl⟩
       case measure => simp [intOf]; omega
    · obtain ⟨p, hp, -⟩ := get_at HL.out (show k - 1 < n by omega)
      obtain ⟨ad2, hA2, -, hc2⟩ := HX.out.cell hp
      obtain rfl := Option.some.inj hA2
      have hpa : p < a := by
       have h1 := List.pairwise_iff_getElem.1 HR.out.1 (k - 1) k (List.getElem?_eq_some_iff.1 hp).1 (List.getElem?_eq_some_iff.1 Ha.out).1 (by omega)
       rwa [(List.getElem?_eq_some_iff.1 hp).2, (List.getElem?_eq_some_iff.1 Ha.out).2] at h1
      clear hp
      have e1 : ((k : Int) - 1).toNat = k - 1 := by omega
      have e2 : 1 ≤ (k : Int) := by omega
      have e3 : (k : Int) - 1 < n := by omega
      have e4 : IntKind.i64.wrap ((k : Int) - 1) = (k : Int) - 1 := IntWalk.i64_in _ (by omega)
      have e5 : 0 < (k : Int) := by omega
      have t5 : decide (0 < (k : Int)) = true := by simp; omega
      have t5n : decide (0 < k) = true := by simp; omega
      have e2n : 1 ≤ k := by omega
      have t6 : decide (a ≤ p) = false := by simp; omega
      as_aux_lemma =>
       go_wp2_with fail
       go_quiet (fail)
       go_wp2_with fail
       go_roundw
       case rel => exact ⟨k + 1, _, by omega, by go_num, rfl⟩
       case measure => simp [intOf]; omega
  · obtain rfl : k = n := by omega
    go_wp2_with fail
    go_ret
    exact ⟨rfl, below_drewN _ _⟩
theorem tot_take_le (S : List (List Int)) (k : Nat) : tot (S.take k) ≤ tot S := by
 unfold tot
 have e : ((S.take k).map List.length).sum + ((S.drop k).map List.length).sum = (S.map List.length).sum := by
  rw [← List.sum_append, ← List.map_append, List.take_append_drop]
 omega
structure Rfv (w : World) (s : SY) (v N : Nat) (u : World) : Prop where
 bx : Fb u w.heap.size #[.int .i64 v, .slice s.D.A N s.D.c, .slice s.T.A N s.T.c, .slice s.B.A N s.B.c] 27
 bel : Below w.heap.size w u
theorem Rfv.below {w u u' : World} {s : SY} {v N : Nat} (h : Rfv w s v N u) (hb : Below u.heap.size u u') : Rfv w s v N u' := ⟨h.bx.below hb h.bx.lt, below_step h.bel hb⟩
set_option maxHeartbeats 6400000 in
theorem refValidS_yes (s : SY) (v N : Nat) (ex : List (Option Nat)) (w : World) (h : SYok w ex s) (ho : SOk s v N) :
 Calls Tryz.prog 40 #[s.a] w fun e w' => e = .returned (.bool true) ∧ Below w.heap.size w w' := by
 have HS := hid (fun (u : World) (hu : Rfv w s v N u) => h.below hu.bel)
 have HI0 := hid (show Rfv w s v N (w.alloc (.cells #[.int .i64 v, .slice s.D.A N s.D.c, .slice s.T.A N s.T.c, .slice s.B.A N s.B.c] 27)) from ⟨Fb.new w _ _, (Below.refl _ _).alloc (Nat.le_refl _) _⟩)
 have Ho := hid ho
 have hW := ho.w
 have hv := ho.v256
 have hN1 := ho.n1
 have hN := ho.n256
 have hdn := ho.dn
 have htn := ho.tn
 have hbn := ho.bn
 have Hl := hid (And.intro h.d.len (And.intro h.t.len h.b.len))
 have htt := ho.tt
 unfold SY.a
 rw [hW, hdn, htn, hbn]
 clear h ho hW hdn htn hbn
 go_enter Tryz.func40, Tryz.ntmps40
 go_upto_region 1 with fail
 generalize w.alloc (.cells #[.int .i64 v, .slice s.D.A N s.D.c, .slice s.T.A N s.T.c, .slice s.B.A N s.B.c] 27) = w1 at *
 obtain ⟨c0, c1, c2, c3⟩ := HI0.out.bx.four
 have t0 : decide ((v : Int) < 0) = false := by simp
 have t1 : decide (256 < (v : Int)) = false := by simp; omega
 have t2 : decide ((N : Int) < 1) = false := by simp; omega
 have t3 : decide (256 < (N : Int)) = false := by simp; omega
 go_wp2_with fail
 clear c0 c1 c2 c3 t0 t1 t2 t3
 have HJ := HI0
 clear HI0
 go_loopw [4, 5] (fun ev iv wr => ∃ i : Nat, i ≤ N ∧ ev = .int .i64 (tot (s.D.v.take i) : Nat) ∧ iv = .int .i64 i ∧ Hid (Rfv w s v N wr)) (fun _ iv _ => N - (intOf iv).toNat)
 case atStart => exact ⟨0, by omega, rfl, rfl, HJ⟩
 case round =>
  clear HJ
  obtain ⟨i, hi, rfl, rfl, HI⟩ := hrel
  have Hle := hid (tot_take_le s.D.v)
  by_cases hlt : i < N
  · have n0 : (0 : Int) ≤ i := by omega
    have n1 : (i : Int) < N := by omega
    have n2 : (i : Int).toNat = i := by omega
    obtain ⟨r, hr, hrm⟩ := get_at (show s.D.l.length = N by rw [Hl.out.1, Ho.out.dn]) hlt
    obtain ⟨f, hf, hfm⟩ := get_at (show s.T.l.length = N by rw [Hl.out.2.1, Ho.out.tn]) hlt
    obtain ⟨z, hz, hzm⟩ := get_at (show s.B.l.length = N by rw [Hl.out.2.2, Ho.out.bn]) hlt
    obtain ⟨ad, hA, hal, r0⟩ := (HS.out wr HI.out).d.cell hr
    obtain ⟨at', hT, htl, f0, f1, f2, f3, f4⟩ := (HS.out wr HI.out).t.cell hf
    obtain ⟨ab, hB, hbl, b0, b1⟩ := (HS.out wr HI.out).b.cell hz
    have ht1 := tot_take (LH.at hr)
    have hrl := ((HS.out wr HI.out).d.all r hrm).len
    have hto := Hle.out (i + 1)
    have HC1 := hid (fun (p : Later wr) => rising_yes r N ex p.wd ((HS.out _ (HI.out.below p.keeps)).d.all r hrm) (Ho.out.d r hrm) (by omega))
    have HC2 := hid (fun (p : Later wr) => by
     have ha := ((HS.out _ (HI.out.below p.keeps)).t.all f hfm).arg
     have := refValidT_any f.G.W f.K.W f.G.A f.K.A f.C f.G.n f.G.c f.K.n f.K.c f.k f.q f.G.ws f.K.ws f.cs p.wd ha.gen ha.kill ha.cops
     rw [(Ho.out.t f hfm).w1, (Ho.out.t f hfm).w2, (Ho.out.t f hfm).ok] at this
     exact this)
    have HC3 := hid (fun (p : Later wr) => by
     have ha := ((HS.out _ (HI.out.below p.keeps)).b.all z hzm).arg
     have := refValid_any z.W z.A z.n z.c z.ws p.wd ha.lies ha.ok ha.len
     rw [(Ho.out.b z hzm).1, Bs.valid_of_fit (Ho.out.b z hzm).2 hv] at this
     exact this)
    have hgw := (Ho.out.t f hfm).w1
    have hkw := (Ho.out.t f hfm).w2
    have hzw := (Ho.out.b z hzm).1
    rw [hgw] at f0
    rw [hkw] at f2
    rw [hzw] at b0
    obtain ⟨c0, c1, c2, c3⟩ := HI.out.bx.four
    have hbx := HI.out.bx.lt
    rw [hA] at c1
    rw [hT] at c2
    rw [hB] at c3
    have l0 := Later.cell (show (⟨w.heap.size, 0, none⟩ : Addr).block < wr.heap.size from hbx) c0
    have l1 := Later.cell (show (⟨w.heap.size, 1, none⟩ : Addr).block < wr.heap.size from hbx) c1
    have l2 := Later.cell (show (⟨w.heap.size, 2, none⟩ : Addr).block < wr.heap.size from hbx) c2
    have l3 := Later.cell (show (⟨w.heap.size, 3, none⟩ : Addr).block < wr.heap.size from hbx) c3
    have l4 := Later.cell (show (ad.add i).block < wr.heap.size by rw [add_block]; exact hal) r0
    have m0 := Later.cell (show (at'.add (i * 5)).block < wr.heap.size by rw [add_block]; exact htl) f0
    have m1 := Later.cell (show (⟨(at'.add (i * 5)).block, (at'.add (i * 5)).off + 1, none⟩ : Addr).block < wr.heap.size by show (at'.add (i * 5)).block < _; rw [add_block]; exact htl) f1
    have m2 := Later.cell (show (⟨(at'.add (i * 5)).block, (at'.add (i * 5)).off + 2, none⟩ : Addr).block < wr.heap.size by show (at'.add (i * 5)).block < _; rw [add_block]; exact htl) f2
    have m3 := Later.cell (show (⟨(at'.add (i * 5)).block, (at'.add (i * 5)).off + 3, none⟩ : Addr).block < wr.heap.size by show (at'.add (i * 5)).block < _; rw [add_block]; exact htl) f3
    have m4 := Later.cell (show (⟨(at'.add (i * 5)).block, (at'.add (i * 5)).off + 4, none⟩ : Addr).block < wr.heap.size by show (at'.add (i * 5)).block < _; rw [add_block]; exact htl) f4
    have q0 := Later.cell (show (ab.add (i * 2)).block < wr.heap.size by rw [add_block]; exact hbl) b0
    have q1 := Later.cell (show (⟨(ab.add (i * 2)).block, (ab.add (i * 2)).off + 1, none⟩ : Addr).block < wr.heap.size by show (ab.add (i * 2)).block < _; rw [add_block]; exact hbl) b1
    have Hrc := hid r0
    have Hhal := hid hal
    clear r0 f0 f1 f2 f3 f4 b0 b1 c0 c1 c2 c3 hr hf hz hrm hfm hzm hgw hkw hzw hbx
    go_wp2_with fail
    refine wp_region_below (by kernel_rfl) (by kernel_rfl) ?_
    repeat (go_big_quiet_step (first | (go_at_call 74; exact Later.call (HC1.out _)) | (go_at_call 75; exact Later.call (HC2.out _)) | (go_at_call 51; exact Later.call (HC3.out _))))
    refine wpQuiet_nil ?_
    rintro _ ⟨pq, rfl⟩
    have HIn := hid (HI.out.below pq.keeps)
    have c1 := l1 pq
    have r0 := l4 pq
    have hal2 := Nat.lt_of_lt_of_le hal pq.keeps.size
    have hbd : tot (s.D.v.take i) + r.n ≤ 1024 := by omega
    have Hsum := hid (show ((tot (s.D.v.take i) : Nat) : Int) + (r.n : Int) = ((tot (s.D.v.take (i + 1)) : Nat) : Int) by rw [ht1, hrl]; omega)
    clear ht1 hrl hto
    generalize pq.wd = wq at *
    clear pq l0 l1 l2 l3 l4 m0 m1 m2 m3 m4 q0 q1 HC1 HC2 HC3 HI
    go_wp2_with fail
    go_roundw
    case rel => exact ⟨i + 1, by omega, by rw [Hsum.out], by go_num, HIn⟩
    case measure => simp [intOf]; omega
  · have e : i = N := by omega
    have HFin := hid (And.intro HI.out.bel (show ((tot (s.D.v.take N) : Nat) : Int) ≤ 1024 by have := Hle.out N; omega))
    go_wp2_with fail
    go_ret
    refine ⟨?_, HFin.out.1⟩
    first | simpa using HFin.out.2 | (rw [e]; simpa using HFin.out.2)
end Go.Proofs.YtopkmeceakjocaaGreat
namespace Go.Proofs.YtopkmeceakjocaaGreat
set_option linter.unusedVariables false
set_option linter.unusedSimpArgs false
section
variable {P : Program} {ops : Array Oper} {Q : Exit → Act → World → Prop}
theorem wpAny_factsJ (f0 : Nat → Value) (G : Nat → World → Prop) (F : Nat → (Nat → Value) → World → Prop) (B : World → Prop) (use : Nat → Option Nat) (R : Nat → World → World → Prop) (m : Nat) (ds : List (Option Tmp)) (a0 : Act) (hds : ops.toList.map (·.dst) = ds) (hd : distB ds = true) (hb : backB ops = true) (ht : tailB2 ops m = true) (hm : m ≤ ops.size)
 (hst : ∀ j v w w' i f, R j w w' → i ≠ j → use i ≠ some j → (reachL ops 5 i).contains j = false → F i f w → F i (updV f j v) w')
 (hstG : ∀ j w w' c, R j w w' → c ≠ j → (reachL ops 5 j).contains c = false → G c w → G c w')
 (hstep : ∀ (i : Nat) (o : Oper) (f : Nat → Value) (w : World), ops[i]? = some o → i < m → B w → G i w → (∀ c, (reachL ops 5 c).contains i = true → f c = f0 c) → (∀ e ∈ o.after, Region.binds .any e = true → use e.on = none ∨ use e.on = some i → F e.on f w) → ∀ K : Act → World → Prop, (∀ v w', B w' → R i w w' → F i (updV f i v) w' → K ((putL ds f 0 a0).put o.dst v) w') → wpOp P ops Q i K (putL ds f 0 a0) w)
 (hend : ∀ (f : Nat → Value) (w : World), B w → (∀ i, i < m → use i = none → F i f w) → wpAny P .any ops Q (ops.size - m) (tailArr ops.size m) (putL ds f 0 a0) w) :
 ∀ (fuel : Nat) (listed : Array Bool) (f : Nat → Value) (w : World), listed.size = ops.size → (∀ i, m ≤ i → i < ops.size → listed.getD i true = false) → ClosedL ops listed → B w → (∀ c, listed.getD c false = false → G c w) → (∀ i, listed.getD i false = true → (∀ c, use i = some c → listed.getD c false = false) → F i f w) → (∀ c, listed.getD c false = false → f c = f0 c) → listed.toList.count false = fuel →
   wpAny P .any ops Q fuel listed (putL ds f 0 a0) w := by
 intro fuel
 induction fuel with
 | zero =>
   intro listed f w hs htl hcl hB hGc hF hini hc
   have hall : ∀ i, i < m → listed.getD i false = true := by
    intro i hi
    have h1 : i < listed.size := by omega
    rw [getD_lt _ h1]
    cases hv : listed[i] with
    | true => rfl
    | false => exact absurd (List.count_pos_iff.2 (Array.mem_toList_iff.2 (hv ▸ Array.getElem_mem h1))) (by omega)
   have e : listed = tailArr ops.size m := by
    apply Array.ext
    · simp [tailArr]; omega
    · intro i h1 h2
      by_cases him : i < m
      · have := hall i him
        rw [getD_lt _ h1] at this
        rw [this]
        simp [tailArr, List.getElem_append, him]
      · have := htl i (by omega) (by omega)
        rw [getD_lt _ h1] at this
        rw [this]
        simp [tailArr, List.getElem_append, him]
   have hn : ops.size - m = 0 := by
    rw [e, tail_count] at hc
    exact hc
   have := hend f w hB fun i hi hu => hF i (hall i hi) (fun c hc => by rw [hu] at hc; cases hc)
   rw [hn] at this
   rw [e]; exact this
 | succ fuel ih =>
   intro listed f w hs htl hcl hB hGc hF hini hc
   by_cases hall : ∀ i, i < m → listed.getD i false = true
   · have e : listed = tailArr ops.size m := by
      apply Array.ext
      · simp [tailArr]; omega
      · intro i h1 h2
        by_cases him : i < m
        · have := hall i him
          rw [getD_lt _ h1] at this
          rw [this]
          simp [tailArr, List.getElem_append, him]
        · have := htl i (by omega) (by omega)
          rw [getD_lt _ h1] at this
          rw [this]
          simp [tailArr, List.getElem_append, him]
     have hn : ops.size - m = fuel + 1 := by
      rw [e, tail_count] at hc
      exact hc
     have := hend f w hB fun i hi hu => hF i (hall i hi) (fun c hc => by rw [hu] at hc; cases hc)
     rw [hn] at this
     rw [e]; exact this
   · have hun : ∃ i, i < m ∧ listed.getD i false = false := by
      refine Classical.byContradiction fun hno => hall fun i hi => ?_
      cases hv : listed.getD i false with
      | true => rfl
      | false => exact absurd ⟨i, hi, hv⟩ hno
     -- the first that has not come up may come up
     have hmin : ∀ n i, i ≤ n → i < m → listed.getD i false = false → ∃ j, j < m ∧ listed.getD j false = false ∧ ∀ k, k < j → listed.getD k false = true := by
      intro n
      induction n with
      | zero => intro i hi him hv; exact ⟨i, him, hv, fun k hk => by omega⟩
      | succ n ihn =>
        intro i hi him hv
        by_cases hex : ∃ k, k < i ∧ listed.getD k false = false
        · obtain ⟨k, hk, hkv⟩ := hex
          exact ihn k (by omega) (by omega) hkv
        · refine ⟨i, him, hv, fun k hk => ?_⟩
          cases hkv : listed.getD k false with
          | true => rfl
          | false => exact absurd ⟨k, hk, hkv⟩ hex
     obtain ⟨i0, hi0, hv0⟩ := hun
     obtain ⟨j0, hj0, hj1, hj2⟩ := hmin i0 i0 (Nat.le_refl _) hi0 hv0
     have hgd : ∀ i, i < ops.size → listed.getD i true = listed.getD i false := by
      intro i hi
      rw [getD_lt true (show i < listed.size by omega), getD_lt false (show i < listed.size by omega)]
     obtain ⟨oj, hoj⟩ : ∃ o, ops[j0]? = some o := ⟨_, Array.getElem?_eq_getElem (by omega)⟩
     have hrj : j0 ∈ Region.ready .any ops listed := mem_ready.2 ⟨by rw [hgd j0 (by omega)]; exact hj1, oj, hoj, fun e he hbe => hj2 _ (backB_spec hb hoj e he hbe)⟩
     refine ⟨fun h => (by rw [h] at hrj; cases hrj), fun i hi => ?_⟩
     obtain ⟨hiu, o, ho, hafter⟩ := mem_ready.1 hi
     have hin : i < ops.size := (Array.getElem?_eq_some_iff.1 ho).1
     have him : i < m := by
      rcases Nat.lt_or_ge i m with h | h
      · exact h
      · exfalso
        have := tailB2_spec ht ho h hcl hafter j0 hj0
        rw [hj1] at this
        cases this
     have hil : listed.getD i false = false := by rw [← hgd i hin]; exact hiu
     refine hstep i o f w ho him hB (hGc i hil) (fun c hrc => hini c (by
      cases hcv : listed.getD c false with
      | false => rfl
      | true =>
        have h1 := reach_listed hcl 5 c (fun x hx => by
         unfold depsOf at hx
         split at hx
         · next ok hok =>
           obtain ⟨e, he, rfl⟩ := List.mem_map.1 hx
           obtain ⟨he1, he2⟩ := List.mem_filter.1 he
           exact hcl c ok hok hcv e (Array.mem_toList_iff.1 he1) he2
         · cases hx) i (List.contains_iff_mem.1 hrc)
        rw [hil] at h1
        cases h1)) (fun e he hbe hu => hF e.on (hafter e he hbe) (fun c hc => by
      rcases hu with hu | hu
      · rw [hu] at hc; cases hc
      · rw [hu] at hc; obtain rfl := Option.some.inj hc; rw [← hgd i hin]; exact hiu)) _ fun v w' hB' hR hFi => ?_
     have hdi : ds[i]? = some o.dst := by
      rw [← hds, List.getElem?_map, Array.getElem?_toList, ho]; rfl
     rw [putL_at hd hdi]
     have hlf : listed.toList[i]? = some false := by
      rw [Array.getElem?_toList, Array.getElem?_eq_getElem (by omega)]
      rw [getD_lt _ (by omega)] at hiu
      exact congrArg some hiu
     refine ih _ _ _ (by simp [hs]) (fun k hk hk2 => ?_) (fun k ok hok hk e he hbe => ?_) hB' (fun k hk => ?_) (fun k hk hku => ?_) (fun k hk => ?_) ?_
     · have hk3 : k < (listed.setIfInBounds i true).size := by rw [Array.size_setIfInBounds]; omega
       rw [getD_lt _ hk3, Array.getElem_setIfInBounds, if_neg (by omega)]
       have := htl k hk hk2
       rw [getD_lt _ (by omega)] at this
       exact this
     · have hdep : listed.getD e.on false = true := by
        by_cases hki : k = i
        · subst hki
          rw [ho] at hok
          obtain rfl := Option.some.inj hok
          exact hafter e he hbe
        · rw [getD_set_ne false (fun h => hki h.symm)] at hk
          exact hcl k ok hok hk e he hbe
       by_cases hei : e.on = i
       · rw [hei, getD_lt _ (by rw [Array.size_setIfInBounds]; omega), Array.getElem_setIfInBounds_self]
       · rw [getD_set_ne false (fun h => hei h.symm)]; exact hdep
     · by_cases e : k = i
       · subst e
         rw [getD_lt _ (by rw [Array.size_setIfInBounds]; omega), Array.getElem_setIfInBounds_self] at hk
         cases hk
       · rw [getD_set_ne false (by omega)] at hk
         refine hstG i w w' k hR e ?_ (hGc k hk)
         cases hc : (reachL ops 5 i).contains k with
         | false => rfl
         | true =>
           have h1 := reach_listed hcl 5 i (fun x hx => by
            unfold depsOf at hx
            rw [ho] at hx
            obtain ⟨e, he, rfl⟩ := List.mem_map.1 hx
            obtain ⟨he1, he2⟩ := List.mem_filter.1 he
            exact hafter e (Array.mem_toList_iff.1 he1) he2) k (List.contains_iff_mem.1 hc)
           rw [hk] at h1
           cases h1
     · by_cases e : k = i
       · subst e; exact hFi
       · have hki : use k ≠ some i := fun h => by
          have := hku i h
          rw [getD_lt _ (by rw [Array.size_setIfInBounds]; omega), Array.getElem_setIfInBounds_self] at this
          cases this
         rw [getD_set_ne false (by omega)] at hk
         refine hst i v w w' k f hR e hki ?_ (hF k hk fun c hc => ?_)
         · cases hc : (reachL ops 5 k).contains i with
           | false => rfl
           | true =>
             have h1 := reach_listed hcl 5 k (fun x hx => by
              unfold depsOf at hx
              split at hx
              · next ok hok =>
                obtain ⟨e, he, rfl⟩ := List.mem_map.1 hx
                obtain ⟨he1, he2⟩ := List.mem_filter.1 he
                exact hcl k ok hok hk e (Array.mem_toList_iff.1 he1) he2
              · cases hx) i (List.contains_iff_mem.1 hc)
             rw [hil] at h1
             cases h1
         · have := hku c hc
           rw [getD_set_ne false (by intro h; exact hki (h ▸ hc))] at this
           exact this
     · by_cases e : k = i
       · subst e
         rw [getD_lt _ (by rw [Array.size_setIfInBounds]; omega), Array.getElem_setIfInBounds_self] at hk
         cases hk
       · rw [getD_set_ne false (fun h => e h.symm)] at hk
         rw [updV_ne f v (fun h => e h)]
         exact hini k hk
     · have := count_set listed.toList i hlf
       rw [Array.toList_setIfInBounds]
       omega
theorem wp_region_factsJ {id : Nat} {a0 : Act} {w : World} (G : Nat → World → Prop) (F : Nat → (Nat → Value) → World → Prop) (B : World → Prop) (use : Nat → Option Nat) (R : Nat → World → World → Prop) (K0 : Act → World → Prop) (hK0 : ∀ a w, K0 a w → Q .normal a w) (n m : Nat) (ds : List (Option Tmp)) (hn : ops.size = n) (hmix : P.follows .mixedOrders = true) (hds : ops.toList.map (·.dst) = ds) (hd : distB ds = true) (hb : backB ops = true) (ht : tailB2 ops m = true) (hm : m ≤ n)
 (hst : ∀ j v w w' i f, R j w w' → i ≠ j → use i ≠ some j → (reachL ops 5 i).contains j = false → F i f w → F i (updV f j v) w') (hB : B w.drew) (hG : ∀ c, G c w.drew) (hstG : ∀ j w w' c, R j w w' → c ≠ j → (reachL ops 5 j).contains c = false → G c w → G c w')
 (hstep : ∀ (i : Nat) (o : Oper) (f : Nat → Value) (w : World), ops[i]? = some o → i < m → B w → G i w → (∀ c, (reachL ops 5 c).contains i = true → f c = slotV a0 ((ds[c - 0]?).getD none)) → (∀ e ∈ o.after, Region.binds .any e = true → use e.on = none ∨ use e.on = some i → F e.on f w) → ∀ K : Act → World → Prop, (∀ v w', B w' → R i w w' → F i (updV f i v) w' → K ((putL ds f 0 a0).put o.dst v) w') → wpOp P ops Q i K (putL ds f 0 a0) w)
 (hend : ∀ (Q2 : Exit → Act → World → Prop), (∀ a w, K0 a w → Q2 .normal a w) → ∀ (f : Nat → Value) (w : World), B w → (∀ i, i < m → use i = none → F i f w) → wpAny P .any ops Q2 (n - m) (tailArr n m) (putL ds f 0 a0) w) :
 (Code.region id ops true).wp P Q a0 w := by
 subst hn
 refine wp_region_any hmix ?_
 have := wpAny_factsJ (fun j => slotV a0 ((ds[j - 0]?).getD none)) G F B use R m ds a0 hds hd hb ht hm hst hstG hstep (hend Q hK0) ops.size (Array.replicate ops.size false) (fun j => slotV a0 ((ds[j - 0]?).getD none)) w.drew (by simp)
  (fun i _ hi => by simp [Array.getD, hi]) (fun k _ _ hk => by simp [Array.getD] at hk) hB (fun c _ => hG c) (fun i hi _ => by simp [Array.getD] at hi) (fun _ _ => rfl) (by simp)
 rw [putL_self] at this
 exact this
end
end Go.Proofs.YtopkmeceakjocaaGreat
namespace Go.Proofs.YtopkmeceakjocaaGreat
set_option maxRecDepth 20000
set_option linter.unusedVariables false
set_option linter.unusedSimpArgs false
open Go.ChangeShapes Go.WideShapes Go.ChangeAt Go.RowKit
theorem infoRowA : (Tryz.prog.info? 64).map (fun i => (i.zero, i.size, i.bytes)) = some (some (.slice none 0 0), 1, 24) := by kernel_rfl
structure A10 (w : World) (S : Array Value) (u : World) : Prop where
 sx : Fb u w.heap.size S 27
 rx : Fb u (w.heap.size + 1) #[.int .i64 0, .slice none 0 0, .slice none 0 0] 67
 bel : Below w.heap.size w u
section
variable {w u u' : World} {S : Array Value} {v N bW gS cS t : Nat} {Iv cv : Value} {bl : List ZH} {done : List AL} {cur : List AH}
theorem A10.below (h : A10 w S u) (hb : Below u.heap.size u u') : A10 w S u' := ⟨h.sx.below hb h.sx.lt, h.rx.below hb h.rx.lt, below_step h.bel hb⟩
theorem A10.stp (h : A10 w S u) (hs : Stp1 t u u') (h1 : 27 ≠ t) (h2 : 67 ≠ t) (hb : Below w.heap.size w u') : A10 w S u' := ⟨hs.fb h.sx h1, hs.fb h.rx h2, hb⟩
theorem A10.put (h : A10 w S u) (hg : u.grownBy u' (some bW)) (hw : w.heap.size + 1 < bW) : A10 w S u' :=
 ⟨h.sx.grown hg (fun e => by have := Option.some.inj e; omega), h.rx.grown hg (fun e => by have := Option.some.inj e; omega), h.bel.grown hg h.bel.size (fun k e => by have := Option.some.inj e; omega)⟩
structure C10 (w : World) (S : Array Value) (N gS cS : Nat) (bl : List ZH) (done : List AL) (cv : Value) (cur : List AH) (u : World) : Prop where
 a : A10 w S u
 oB : u.ownsRow (w.heap.size + 2) 49 2 (.slice (some ⟨gS, 0, none⟩) N cS) N (bl.flatMap ZH.cs)
 oD : ∀ r ∈ done, u.ownsRow (w.heap.size + 2) 63 6 r.v r.n (r.l.flatMap AH.cells)
 oC : u.ownsRow (w.heap.size + 2) 63 6 cv cur.length (cur.flatMap AH.cells)
theorem C10.below (h : C10 w S N gS cS bl done cv cur u) (hb : Below u.heap.size u u') : C10 w S N gS cS bl done cv cur u' :=
 ⟨h.a.below hb, (Stp1.below (t := 0) hb).own h.oB (by decide), fun r hr => (Stp1.below (t := 0) hb).own (h.oD r hr) (by decide), (Stp1.below (t := 0) hb).own h.oC (by decide)⟩
theorem C10.stp (h : C10 w S N gS cS bl done cv cur u) (hs : Stp1 t u u') (h1 : 27 ≠ t) (h2 : 67 ≠ t) (h3 : 49 ≠ t) (h4 : 63 ≠ t) (hb : Below w.heap.size w u') : C10 w S N gS cS bl done cv cur u' :=
 ⟨h.a.stp hs h1 h2 hb, hs.own h.oB h3, fun r hr => hs.own (h.oD r hr) h4, hs.own h.oC h4⟩
theorem C10.put (h : C10 w S N gS cS bl done cv cur u) (hg : u.grownBy u' (some bW)) (hw : w.heap.size + 1 < bW) {S' : Array Value} (hx : Fb u bW S' 67) : C10 w S N gS cS bl done cv cur u' := by
 have hs : Stp1 67 u u' := ⟨_, hg, fun k e => by obtain rfl := Option.some.inj e; exact hx.typ⟩
 exact ⟨h.a.put hg hw, hs.own h.oB (by decide), fun r hr => hs.own (h.oD r hr) (by decide), hs.own h.oC (by decide)⟩
structure B10 (w : World) (S : Array Value) (v N bW gS cS : Nat) (Iv : Value) (bl : List ZH) (done : List AL) (u : World) : Prop where
 a : A10 w S u
 wx : Fb u bW #[.int .i64 v, .slice (some ⟨gS, 0, none⟩) N cS, Iv] 67
 hw : w.heap.size + 1 < bW
 oB : u.ownsRow (w.heap.size + 2) 49 2 (.slice (some ⟨gS, 0, none⟩) N cS) N (bl.flatMap ZH.cs)
 oI : u.ownsRow (w.heap.size + 2) 64 1 Iv done.length (done.map AL.v)
 oD : ∀ r ∈ done, u.ownsRow (w.heap.size + 2) 63 6 r.v r.n (r.l.flatMap AH.cells)
 ap : ∀ (j k : Nat) (x y : AL) (g : Nat), done[j]? = some x → done[k]? = some y → x.v.ownBlock = some g → y.v.ownBlock = some g → j = k
theorem B10.below (h : B10 w S v N bW gS cS Iv bl done u) (hb : Below u.heap.size u u') : B10 w S v N bW gS cS Iv bl done u' :=
 ⟨h.a.below hb, h.wx.below hb h.wx.lt, h.hw, (Stp1.below (t := 0) hb).own h.oB (by decide), (Stp1.below (t := 0) hb).own h.oI (by decide), fun r hr => (Stp1.below (t := 0) hb).own (h.oD r hr) (by decide), h.ap⟩
theorem B10.app {xs : List Value} {n : Nat} (h : B10 w S v N bW gS cS Iv bl done u) (ho : u.ownsRow (w.heap.size + 2) 63 6 cv n xs) (hc : ∀ r ∈ done, ∀ g, cv.ownBlock = some g → r.v.ownBlock ≠ some g) (hg : u.grownBy u' cv.ownBlock) : B10 w S v N bW gS cS Iv bl done u' := by
 have hs : Stp1 63 u u' := ⟨_, hg, fun k e => own_typ ho e⟩
 refine ⟨h.a.stp hs (by decide) (by decide) (h.a.bel.grown hg h.a.bel.size (fun k e => by have := (ho.lt k e).1; omega)), hs.fb h.wx (by decide), h.hw, hs.own h.oB (by decide), hs.own h.oI (by decide), fun r hr => (h.oD r hr).kept hg ?_, h.ap⟩
 cases e : r.v.ownBlock with
 | none => exact .inl rfl
 | some g => exact .inr fun e2 => hc r hr g e2.symm e
end
def a3R (j : Nat) (u u' : World) : Prop := if j = 5 then Stp1 49 u u' else if j = 8 then Stp1 67 u u' else Below u.heap.size u u'
theorem a3R_of {j : Nat} {u u' : World} (h : Below u.heap.size u u') (h1 : j ≠ 5) (h2 : j ≠ 8) : a3R j u u' := by unfold a3R; rw [if_neg h1, if_neg h2]; exact h
theorem a3R_row {u u' : World} (h : Stp1 49 u u') : a3R 5 u u' := by unfold a3R; rw [if_pos rfl]; exact h
theorem a3R_w {u u' : World} (h : Stp1 67 u u') : a3R 8 u u' := by unfold a3R; rw [if_neg (by decide), if_pos rfl]; exact h
theorem a3R_keep {j t : Nat} {u u' : World} (h : a3R j u u') (h1 : j ≠ 5) {g : Nat} {cs : Array Value} (hf : Fb u g cs t) (ht : t ≠ 67) : Fb u' g cs t := by
 unfold a3R at h
 rw [if_neg h1] at h
 split at h
 · exact h.fb hf ht
 · exact hf.below h hf.lt
theorem a3R_web {j : Nat} {u u' : World} (h : a3R j u u') (h1 : j ≠ 8) {g : Nat} {cs : Array Value} (hf : Fb u g cs 67) : Fb u' g cs 67 := by
 unfold a3R at h
 split at h
 · exact h.fb hf (by decide)
 · exact hf.below h hf.lt
theorem a3R_own {j b k n : Nat} {x : Value} {xs : List Value} {u u' : World} (h : a3R j u u') (h1 : j ≠ 5) (ho : u.ownsRow b 49 k x n xs) : u'.ownsRow b 49 k x n xs := by
 unfold a3R at h
 rw [if_neg h1] at h
 split at h
 · exact h.own ho (by decide)
 · exact (Stp1.below (t := 0) h).own ho (by decide)
def a3F (w : World) (v N bc dc tc : Nat) (adr adt adb : Addr) (bl : List ZH) : Nat → (Nat → Value) → World → Prop
 | 0, f, u => f 0 = .pointer (some ⟨w.heap.size, 0, none⟩)
 | 1, f, u => f 1 = .int .i64 v
 | 2, f, u => ∃ g : Nat, f 2 = .slice (some ⟨g, 0, none⟩) 0 0 ∧ Fb u g #[] 49 ∧ w.heap.size + 2 ≤ g
 | 3, f, u => f 3 = .pointer (some ⟨w.heap.size, 3, none⟩)
 | 4, f, u => f 4 = .slice (some adb) N bc
 | 5, f, u => ∃ gS cS : Nat, f 5 = .slice (some ⟨gS, 0, none⟩) N cS ∧ u.ownsRow (w.heap.size + 2) 49 2 (.slice (some ⟨gS, 0, none⟩) N cS) N (bl.flatMap ZH.cs)
 | 6, f, u => ∃ gS cS : Nat, f 6 = .agg #[.int .i64 v, .slice (some ⟨gS, 0, none⟩) N cS, .slice none 0 0] ∧ u.ownsRow (w.heap.size + 2) 49 2 (.slice (some ⟨gS, 0, none⟩) N cS) N (bl.flatMap ZH.cs)
 | 7, f, u => ∃ bW : Nat, f 7 = .pointer (some ⟨bW, 0, none⟩) ∧ Fb u bW #[.int .i64 0, .slice none 0 0, .slice none 0 0] 67 ∧ w.heap.size + 1 < bW
 | 8, f, u => ∃ bW gS cS : Nat, f 7 = .pointer (some ⟨bW, 0, none⟩) ∧ Fb u bW #[.int .i64 v, .slice (some ⟨gS, 0, none⟩) N cS, .slice none 0 0] 67 ∧ w.heap.size + 1 < bW ∧ u.ownsRow (w.heap.size + 2) 49 2 (.slice (some ⟨gS, 0, none⟩) N cS) N (bl.flatMap ZH.cs)
 | _, _, _ => True
def a3U : Nat → Option Nat
 | 2 => some 5
 | 7 => some 8
 | _ => none
theorem a3F_st {w : World} {v N bc dc tc : Nat} {adr adt adb : Addr} {bl : List ZH} {ops : Array Oper} (hq6 : ∀ j, (reachL ops 5 6).contains j = false → j ≠ 5) (hq8 : ∀ j, (reachL ops 5 8).contains j = false → j ≠ 7) (hq85 : ∀ j, (reachL ops 5 8).contains j = false → j ≠ 5)  (jx : Nat) (vx : Value) (u u' : World) (ix : Nat) (f : Nat → Value) (hR : a3R  jx u u') (hne : ix ≠ jx) (hu : a3U ix ≠ some jx) (hc : (reachL ops 5 ix).contains jx = false) (h : a3F w v N bc dc tc adr adt adb bl ix f u) : a3F w v N bc dc tc adr adt adb bl ix (updV f jx vx) u' := by
 match ix, hne, hu, hc, h with
 | 0, hne, hu, hc, h => exact (updV_ne f vx hne).trans h
 | 1, hne, hu, hc, h => exact (updV_ne f vx hne).trans h
 | 2, hne, hu, hc, h => obtain ⟨g, hf, i0, i1⟩ := h; have h5 : jx ≠ 5 := fun e => hu (by rw [e]; rfl); exact ⟨g, (updV_ne f vx hne).trans hf, a3R_keep hR h5 i0 (by decide), i1⟩
 | 3, hne, hu, hc, h => exact (updV_ne f vx hne).trans h
 | 4, hne, hu, hc, h => exact (updV_ne f vx hne).trans h
 | 5, hne, hu, hc, h => obtain ⟨gS, cS, hf, i0⟩ := h; have h5 : jx ≠ 5 := fun e => hne e.symm; exact ⟨gS, cS, (updV_ne f vx hne).trans hf, a3R_own hR h5 i0⟩
 | 6, hne, hu, hc, h => obtain ⟨gS, cS, hf, i0⟩ := h; have h5 : jx ≠ 5 := hq6 jx hc; exact ⟨gS, cS, (updV_ne f vx hne).trans hf, a3R_own hR h5 i0⟩
 | 7, hne, hu, hc, h => obtain ⟨bW, hf, i0, i1⟩ := h; have h8 : jx ≠ 8 := fun e => hu (by rw [e]; rfl); exact ⟨bW, (updV_ne f vx hne).trans hf, a3R_web hR h8 i0, i1⟩
 | 8, hne, hu, hc, h => obtain ⟨bW, gS, cS, hf, i0, i1, i2⟩ := h; have h5 : jx ≠ 5 := hq85 jx hc; have h8 : jx ≠ 8 := fun e => hne e.symm; exact ⟨bW, gS, cS, (updV_ne f vx (fun e => hq8 jx hc e.symm)).trans hf, a3R_web hR h8 i0, i1, a3R_own hR h5 i2⟩
 | ix + 9, _, _, _, _ => trivial
def a11R (cv : Value) (j : Nat) (u u' : World) : Prop := if j = 23 then u.grownBy u' cv.ownBlock else Below u.heap.size u u'
theorem a11R_of {cv : Value} {j : Nat} {u u' : World} (h : Below u.heap.size u u') (h1 : j ≠ 23) : a11R cv j u u' := by unfold a11R; rw [if_neg h1]; exact h
theorem a11R_bel {cv : Value} {j : Nat} {u u' : World} (h : a11R cv j u u') (h1 : j ≠ 23) : Below u.heap.size u u' := by unfold a11R at h; rwa [if_neg h1] at h
theorem a11R_row {cv : Value} {u u' : World} (h : u.grownBy u' cv.ownBlock) : a11R cv 23 u u' := by unfold a11R; rw [if_pos rfl]; exact h
def a11F (w : World) (v N dc tc bc bW gS cS k m i : Nat) (adr adt adb adk : Addr) (rn rc : Nat) (y : FH) (Iv cv : Value) (bl : List ZH) (done : List AL) (cur : List AH) : Nat → (Nat → Value) → World → Prop
 | 0, f, u => f 0 = cv
 | 1, f, u => f 1 = .pointer (some ⟨w.heap.size, 1, none⟩)
 | 2, f, u => f 2 = .slice (some adr) N dc
 | 3, f, u => f 3 = .int .i64 (i : Int)
 | 4, f, u => f 4 = .pointer (some (adr.add i))
 | 5, f, u => f 5 = .slice (some adk) rn rc
 | 6, f, u => f 6 = .int .i64 (k : Int)
 | 7, f, u => f 7 = .pointer (some (adk.add k))
 | 8, f, u => f 8 = .int .i64 (m : Int)
 | 9, f, u => f 9 = .pointer (some ⟨w.heap.size, 2, none⟩)
 | 10, f, u => f 10 = .slice (some adt) N tc
 | 11, f, u => f 11 = .pointer (some ⟨w.heap.size, 1, none⟩)
 | 12, f, u => f 12 = .slice (some adr) N dc
 | 13, f, u => f 13 = .int .i64 (i : Int)
 | 14, f, u => f 14 = .pointer (some (adr.add i))
 | 15, f, u => f 15 = .slice (some adk) rn rc
 | 16, f, u => f 16 = .int .i64 (k : Int)
 | 17, f, u => f 17 = .pointer (some (adk.add k))
 | 18, f, u => f 18 = .int .i64 (m : Int)
 | 19, f, u => f 19 = .pointer (some (adt.add (m * 5)))
 | 20, f, u => f 20 = .agg #[.int .i64 y.G.W, .slice y.G.A y.G.n y.G.c, .int .i64 y.K.W, .slice y.K.A y.K.n y.K.c, .slice y.C y.k y.q]
 | 21, f, u => f 21 = .agg #[.int .i64 (m : Int), .int .i64 y.G.W, .slice y.G.A y.G.n y.G.c, .int .i64 y.K.W, .slice y.K.A y.K.n y.K.c, .slice y.C y.k y.q]
 | 22, f, u => ∃ g : Nat, f 22 = .slice (some ⟨g, 0, none⟩) 1 1 ∧ Fb u g #[.int .i64 (m : Int), .int .i64 y.G.W, .slice y.G.A y.G.n y.G.c, .int .i64 y.K.W, .slice y.K.A y.K.n y.K.c, .slice y.C y.k y.q] 63
 | 23, f, u => ∃ g q : Nat, f 23 = .slice (some ⟨g, 0, none⟩) (cur.length + 1) q ∧ u.ownsRow (w.heap.size + 2) 63 6 (.slice (some ⟨g, 0, none⟩) (cur.length + 1) q) (cur.length + 1) (cur.flatMap AH.cells ++ AH.cells ⟨m, y⟩) ∧ ∀ r ∈ done, r.v.ownBlock ≠ some g
 | 24, f, u => ∃ g q : Nat, f 24 = .slice (some ⟨g, 0, none⟩) (cur.length + 1) q ∧ u.ownsRow (w.heap.size + 2) 63 6 (.slice (some ⟨g, 0, none⟩) (cur.length + 1) q) (cur.length + 1) (cur.flatMap AH.cells ++ AH.cells ⟨m, y⟩) ∧ ∀ r ∈ done, r.v.ownBlock ≠ some g
 | _, _, _ => True
def a11U : Nat → Option Nat
 | 22 => some 23
 | _ => none
theorem a11F_st {w : World} {v N dc tc bc bW gS cS k m i : Nat} {adr adt adb adk : Addr} {rn rc : Nat} {y : FH} {Iv cv : Value} {bl : List ZH} {done : List AL} {cur : List AH} {ops : Array Oper} (hq24 : ∀ j, (reachL ops 5 24).contains j = false → j ≠ 23)  (jx : Nat) (vx : Value) (u u' : World) (ix : Nat) (f : Nat → Value) (hR : a11R cv jx u u') (hne : ix ≠ jx) (hu : a11U ix ≠ some jx) (hc : (reachL ops 5 ix).contains jx = false) (h : a11F w v N dc tc bc bW gS cS k m i adr adt adb adk rn rc y Iv cv bl done cur ix f u) : a11F w v N dc tc bc bW gS cS k m i adr adt adb adk rn rc y Iv cv bl done cur ix (updV f jx vx) u' := by
 match ix, hne, hu, hc, h with
 | 0, hne, hu, hc, h => exact (updV_ne f vx hne).trans h
 | 1, hne, hu, hc, h => exact (updV_ne f vx hne).trans h
 | 2, hne, hu, hc, h => exact (updV_ne f vx hne).trans h
 | 3, hne, hu, hc, h => exact (updV_ne f vx hne).trans h
 | 4, hne, hu, hc, h => exact (updV_ne f vx hne).trans h
 | 5, hne, hu, hc, h => exact (updV_ne f vx hne).trans h
 | 6, hne, hu, hc, h => exact (updV_ne f vx hne).trans h
 | 7, hne, hu, hc, h => exact (updV_ne f vx hne).trans h
 | 8, hne, hu, hc, h => exact (updV_ne f vx hne).trans h
 | 9, hne, hu, hc, h => exact (updV_ne f vx hne).trans h
 | 10, hne, hu, hc, h => exact (updV_ne f vx hne).trans h
 | 11, hne, hu, hc, h => exact (updV_ne f vx hne).trans h
 | 12, hne, hu, hc, h => exact (updV_ne f vx hne).trans h
 | 13, hne, hu, hc, h => exact (updV_ne f vx hne).trans h
 | 14, hne, hu, hc, h => exact (updV_ne f vx hne).trans h
 | 15, hne, hu, hc, h => exact (updV_ne f vx hne).trans h
 | 16, hne, hu, hc, h => exact (updV_ne f vx hne).trans h
 | 17, hne, hu, hc, h => exact (updV_ne f vx hne).trans h
 | 18, hne, hu, hc, h => exact (updV_ne f vx hne).trans h
 | 19, hne, hu, hc, h => exact (updV_ne f vx hne).trans h
 | 20, hne, hu, hc, h => exact (updV_ne f vx hne).trans h
 | 21, hne, hu, hc, h => exact (updV_ne f vx hne).trans h
 | 22, hne, hu, hc, h => obtain ⟨g, hf, i0⟩ := h; have hb := a11R_bel hR (fun e => hu (by rw [e]; rfl)); exact ⟨g, (updV_ne f vx hne).trans hf, i0.below hb i0.lt⟩
 | 23, hne, hu, hc, h => obtain ⟨g, q, hf, i0, i1⟩ := h; have hb := a11R_bel hR (fun e => hne e.symm); exact ⟨g, q, (updV_ne f vx hne).trans hf, i0.kept (grown_of_below hb none) (by simp [Value.ownBlock]), i1⟩
 | 24, hne, hu, hc, h => obtain ⟨g, q, hf, i0, i1⟩ := h; have hb := a11R_bel hR (hq24 jx hc); exact ⟨g, q, (updV_ne f vx hne).trans hf, i0.kept (grown_of_below hb none) (by simp [Value.ownBlock]), i1⟩
 | ix + 25, _, _, _, _ => trivial
structure Cu (tl : List FH) (l : List Int) (k : Nat) (cur : List AH) : Prop where
 len : cur.length = k
 at' : ∀ (j : Nat) (a : AH), cur[j]? = some a → ∃ m : Nat, l[j]? = some (m : Int) ∧ a.m = m ∧ tl[m]? = some a.f
theorem Cu.start (tl : List FH) (l : List Int) : Cu tl l 0 [] := ⟨rfl, fun j a h => by simp at h⟩
theorem Cu.push {tl : List FH} {l : List Int} {k m : Nat} {cur : List AH} {y : FH} (h : Cu tl l k cur) (hm : l[k]? = some (m : Int)) (hy : tl[m]? = some y) : Cu tl l (k + 1) (cur ++ [⟨m, y⟩]) := by
 refine ⟨by rw [List.length_append, h.len]; rfl, fun j a ha => ?_⟩
 rcases Nat.lt_or_ge j k with hj | hj
 · rw [List.getElem?_append_left (by rw [h.len]; exact hj)] at ha
   exact h.at' j a ha
 · have hj2 := (List.getElem?_eq_some_iff.1 ha).1
   rw [List.length_append, h.len, List.length_singleton] at hj2
   obtain rfl : j = k := by omega
   rw [List.getElem?_append_right (by rw [h.len]; exact Nat.le_refl _), h.len, Nat.sub_self] at ha
   obtain rfl := Option.some.inj ha
   exact ⟨m, hm, rfl, hy⟩
def Dn (tl : List FH) (dl : List RH) (done : List AL) : Prop := ∀ (j : Nat) (r : AL), done[j]? = some r → ∃ y, dl[j]? = some y ∧ Cu tl y.l y.l.length r.l ∧ r.n = r.l.length
def RetW10 (w : World) (s : SY) (v N : Nat) (e : Ending) (w' : World) : Prop :=
 ∃ (gS cS : Nat) (A : Option Addr) (c : Nat) (J : List AL), e = .returned (.tuple #[.agg #[.int .i64 v, .slice (some ⟨gS, 0, none⟩) N cS, .slice A N c], .int .i64 0]) ∧
   w'.ownsRow (w.heap.size + 2) 49 2 (.slice (some ⟨gS, 0, none⟩) N cS) N (s.B.l.flatMap ZH.cs) ∧ w'.ownsRow (w.heap.size + 2) 64 1 (.slice A N c) N (J.map AL.v) ∧
   (∀ r ∈ J, w'.ownsRow (w.heap.size + 2) 63 6 r.v r.n (r.l.flatMap AH.cells)) ∧ (∀ (j k : Nat) (x y : AL) (g : Nat), J[j]? = some x → J[k]? = some y → x.v.ownBlock = some g → y.v.ownBlock = some g → j = k) ∧
   J.length = N ∧ Dn s.T.l s.D.l J ∧ Below w.heap.size w w'
theorem B10.fin {w u : World} {S : Array Value} {v N bW gS cS c dc tc bc : Nat} {A : Option Addr} {DA TA BA : Option Addr} {bl : List ZH} {done : List AL} {dl : List RH} {tl : List FH} (h : B10 w S v N bW gS cS (.slice A N c) bl done u) (hl : done.length = N) (hd : Dn tl dl done) :
 RetW10 w ⟨v, ⟨DA, N, dc, dl⟩, ⟨TA, N, tc, tl⟩, ⟨BA, N, bc, bl⟩⟩ v N (.returned (.tuple #[.agg #[.int .i64 v, .slice (some ⟨gS, 0, none⟩) N cS, .slice A N c], .int .i64 0])) (((u.setCell ⟨w.heap.size + 1, 0, none⟩ (.int .i64 v)).setCell ⟨w.heap.size + 1, 1, none⟩ (.slice (some ⟨gS, 0, none⟩) N cS)).setCell ⟨w.heap.size + 1, 2, none⟩ (.slice A N c)) := by
 have hg : ∀ (x : World) (k : Nat) (y : Value) {cs : Array Value}, Fb x (w.heap.size + 1) cs 67 → Stp1 67 x (x.setCell ⟨w.heap.size + 1, k, none⟩ y) := fun x k y cs hx => stp_cell hx k y
 have s1 := hg u 0 (.int .i64 v) h.a.rx
 have r1 := h.a.rx.set 0 (.int .i64 v)
 have s2 := hg _ 1 (.slice (some ⟨gS, 0, none⟩) N cS) r1
 have r2 := r1.set 1 (.slice (some ⟨gS, 0, none⟩) N cS)
 have s3 := hg _ 2 (.slice A N c) r2
 have hb : Below w.heap.size w (((u.setCell ⟨w.heap.size + 1, 0, none⟩ (.int .i64 v)).setCell ⟨w.heap.size + 1, 1, none⟩ (.slice (some ⟨gS, 0, none⟩) N cS)).setCell ⟨w.heap.size + 1, 2, none⟩ (.slice A N c)) :=
  ((h.a.bel.setCell (p := ⟨w.heap.size + 1, 0, none⟩) (by show w.heap.size ≤ w.heap.size + 1; omega) _).setCell (p := ⟨w.heap.size + 1, 1, none⟩) (by show w.heap.size ≤ w.heap.size + 1; omega) _).setCell (p := ⟨w.heap.size + 1, 2, none⟩) (by show w.heap.size ≤ w.heap.size + 1; omega) _
 have oI := s3.own (s2.own (s1.own h.oI (by decide)) (by decide)) (by decide)
 rw [hl] at oI
 exact ⟨gS, cS, A, c, done, rfl, s3.own (s2.own (s1.own h.oB (by decide)) (by decide)) (by decide), oI, fun r hr => s3.own (s2.own (s1.own (h.oD r hr) (by decide)) (by decide)) (by decide), h.ap, hl, hd, hb⟩
set_option maxHeartbeats 12800000 in
theorem web10_any (s : SY) (v N : Nat) (ex : List (Option Nat)) (w : World) (h : SYok w ex s) (ho : SOk s v N) :
 Calls Tryz.prog 70 #[s.a] w (RetW10 w s v N) := by
 obtain ⟨iB, hi, hz0, hz1, hz2⟩ := info_parts info41
 have HB := hid hi; have HB0 := hid hz0; have HB1 := hid hz1; have HB2 := hid hz2
 clear hi hz0 hz1 hz2
 obtain ⟨iA, hi, hz0, hz1, hz2⟩ := info_parts info89
 have HA := hid hi; have HA0 := hid hz0; have HA1 := hid hz1; have HA2 := hid hz2
 clear hi hz0 hz1 hz2
 obtain ⟨iR, hi, hz0, hz1, hz2⟩ := info_parts infoRowA
 have HR := hid hi; have HR0 := hid hz0; have HR1 := hid hz1; have HR2 := hid hz2
 clear hi hz0 hz1 hz2
 have hv := ho.v256
 have hN := ho.n256
 have hN1 := ho.n1
 have Ho := hid ho
 have Hs := hid h
 have hW := ho.w
 have hdn := ho.dn
 have htn := ho.tn
 have hbn := ho.bn
 have HV := hid (fun (u : World) (hu : Below w.heap.size w u) => refValidS_yes s v N ex u (h.below hu) ho)
 clear h ho
 obtain ⟨W, ⟨DA, dn, dc, dl⟩, ⟨TA, tn, tc, tl⟩, ⟨BA, bn, bc, bl⟩⟩ := s
 simp only at hW hdn htn hbn
 subst hW
 have hdn := hdn.symm
 subst hdn
 have htn := htn.symm
 subst htn
 have hbn := hbn.symm
 subst hbn
 obtain ⟨x0, hx0, -⟩ := get_at (show dl.length = N from Hs.out.d.len) hN1
 obtain ⟨adr, hA, -, -⟩ := Hs.out.d.cell hx0
 clear hx0 x0
 obtain ⟨x0, hx0, -⟩ := get_at (show tl.length = N from Hs.out.t.len) hN1
 obtain ⟨adt, hA2, -⟩ := Hs.out.t.cell hx0
 clear hx0 x0
 obtain ⟨x0, hx0, -⟩ := get_at (show bl.length = N from Hs.out.b.len) hN1
 obtain ⟨adb, hA3, hadb, -⟩ := Hs.out.b.cell hx0
 clear hx0 x0
 simp only at hA hA2 hA3
 subst hA
 subst hA2
 subst hA3
 unfold SY.a at *
 simp only at *
 have HBl := hid (show (bl.flatMap ZH.cs).length = N * 2 from by rw [flat_len ZH.cs_len, show bl.length = N from Hs.out.b.len])
 have HB1c := hid (show ∀ u ∈ bl.flatMap ZH.cs, u.oneCell' = true from fun u hu => by
  obtain ⟨z, hz, hu⟩ := List.mem_flatMap.1 hu
  exact one_zcs z u hu)
 have HBn := hid (fun (u : World) (hu : Below w.heap.size w u) (j : Nat) (x : Value) (hx : (bl.flatMap ZH.cs)[j]? = some x) => by
  obtain ⟨ad, e, hs, hc⟩ := (Hs.out.below hu).b.lies.one hx
  obtain rfl := Option.some.inj e
  exact (show u.cell? (adb.add j) = some x from hc))
 have hb2 := ((Below.refl w.heap.size w).alloc (Nat.le_refl _) (.cells #[.int .i64 v, .slice (some adr) N dc, .slice (some adt) N tc, .slice (some adb) N bc] 27)).alloc (by simp) (.cells #[.int .i64 0, .slice none 0 0, .slice none 0 0] 67)
 have HA2 := hid (show A10 w #[.int .i64 v, .slice (some adr) N dc, .slice (some adt) N tc, .slice (some adb) N bc] ((w.alloc (.cells #[.int .i64 v, .slice (some adr) N dc, .slice (some adt) N tc, .slice (some adb) N bc] 27)).alloc (.cells #[.int .i64 0, .slice none 0 0, .slice none 0 0] 67)) from ⟨(Fb.new w #[.int .i64 v, .slice (some adr) N dc, .slice (some adt) N tc, .slice (some adb) N bc] 27).alloc _, by
  have := Fb.new (w.alloc (.cells #[.int .i64 v, .slice (some adr) N dc, .slice (some adt) N tc, .slice (some adb) N bc] 27)) #[.int .i64 0, .slice none 0 0, .slice none 0 0] 67
  rwa [World.size_alloc] at this, hb2⟩)
 clear hb2
 go_enter Tryz.func70, Tryz.ntmps70
 go_upto_region 1 with fail
 generalize (w.alloc (.cells #[.int .i64 v, .slice (some adr) N dc, .slice (some adt) N tc, .slice (some adb) N bc] 27)).alloc (.cells #[.int .i64 0, .slice none 0 0, .slice none 0 0] 67) = w2 at *
 obtain ⟨c0, c1, c2, c3⟩ := HA2.out.sx.four
 go_wp2_with fail
 refine (HV.out w2 HA2.out.bel).mono ?_
 rintro _ w3 ⟨rfl, hb3⟩
 have HA3 := hid (HA2.out.below hb3)
 clear hb3 HA2 HV c0 c1 c2 c3
 go_upto_region 3 with fail
 rename_i Kx hKx
 refine wp_region_factsI (fun _ _ => True) (a3F w v N bc dc tc adr adt adb bl) (fun u => A10 w #[.int .i64 v, .slice (some adr) N dc, .slice (some adt) N tc, .slice (some adb) N bc] u) a3U (a3R ) Kx (fun _ _ h => h) 9 9 (some 12 :: some 13 :: some 14 :: some 15 :: some 16 :: some 17 :: some 18 :: some 4 :: none :: []) (by kernel_rfl) (by kernel_rfl) (by kernel_rfl) (by kernel_rfl) (by kernel_rfl) (by kernel_rfl) (by decide)
  (a3F_st (fun j h e => by subst e; exact Bool.false_ne_true (h.symm.trans (by kernel_rfl))) (fun j h e => by subst e; exact Bool.false_ne_true (h.symm.trans (by kernel_rfl))) (fun j h e => by subst e; exact Bool.false_ne_true (h.symm.trans (by kernel_rfl)))) ?bs ?gb ?gs ?ar ?en
 case bs => exact HA3.out.below (Below.refl _ _).drew
 case gb =>
  exact fun c => trivial
 case gs =>
  exact fun _ _ _ _ _ _ _ _ => trivial
 case ar =>
  intro j o f u ho hi hB hG hpre K hK
  match j, ho, hG, hpre, hK with
  | 0, ho, hG, hpre, hK =>
    obtain rfl := Option.some.inj ho
    refine wpOp_step rfl fun K' hK' => ?_
    simp only [putL, updV]
    go_simp
    have hz := hK' _ _ (hK (.pointer (some ⟨w.heap.size, 0, none⟩)) (u) (hB) (a3R_of (Below.refl _ _) (by decide) (by decide)) (rfl))
    refine Eq.mp (congrArg (fun act => K' act (u)) ?_) hz
    kernel_rfl
  | 1, ho, hG, hpre, hK =>
    obtain rfl := Option.some.inj ho
    obtain ⟨c0, c1, c2, c3⟩ := hB.sx.four
    have hlt := hB.sx.lt
    have e0 : f 0 = .pointer (some ⟨w.heap.size, 0, none⟩) := hpre ⟨0, .data⟩ (by simp) rfl (.inl rfl)
    obtain ⟨f, rfl⟩ := fixG f 0 _ e0
    clear e0
    refine wpOp_step rfl fun K' hK' => ?_
    simp only [putL, updV]
    go_simp
    have hz := hK' _ _ (hK (.int .i64 v) (u) (hB) (a3R_of (Below.refl _ _) (by decide) (by decide)) (rfl))
    refine Eq.mp (congrArg (fun act => K' act (u)) ?_) hz
    kernel_rfl
  | 2, ho, hG, hpre, hK =>
    obtain rfl := Option.some.inj ho
    have hb := (Below.refl u.heap.size u).alloc (Nat.le_refl _) (.cells #[] 49)
    have hl2 := hB.rx.lt
    refine wpOp_step rfl fun K' hK' => ?_
    simp only [putL, updV]
    go_simp
    have hz := hK' _ _ (hK (.slice (some ⟨u.heap.size, 0, none⟩) 0 0) (u.alloc (.cells #[] 49)) (hB.below hb) (a3R_of hb (by decide) (by decide)) (⟨_, rfl, Fb.new u _ _, by omega⟩))
    refine Eq.mp (congrArg (fun act => K' act (u.alloc (.cells #[] 49))) ?_) hz
    kernel_rfl
  | 3, ho, hG, hpre, hK =>
    obtain rfl := Option.some.inj ho
    refine wpOp_step rfl fun K' hK' => ?_
    simp only [putL, updV]
    go_simp
    have hz := hK' _ _ (hK (.pointer (some ⟨w.heap.size, 3, none⟩)) (u) (hB) (a3R_of (Below.refl _ _) (by decide) (by decide)) (rfl))
    refine Eq.mp (congrArg (fun act => K' act (u)) ?_) hz
    kernel_rfl
  | 4, ho, hG, hpre, hK =>
    obtain rfl := Option.some.inj ho
    obtain ⟨c0, c1, c2, c3⟩ := hB.sx.four
    have hlt := hB.sx.lt
    have e3 : f 3 = .pointer (some ⟨w.heap.size, 3, none⟩) := hpre ⟨3, .data⟩ (by simp) rfl (.inl rfl)
    obtain ⟨f, rfl⟩ := fixG f 3 _ e3
    clear e3
    refine wpOp_step rfl fun K' hK' => ?_
    simp only [putL, updV]
    go_simp
    have hz := hK' _ _ (hK (.slice (some adb) N bc) (u) (hB) (a3R_of (Below.refl _ _) (by decide) (by decide)) (rfl))
    refine Eq.mp (congrArg (fun act => K' act (u)) ?_) hz
    kernel_rfl
  | 5, ho, hG, hpre, hK =>
    obtain rfl := Option.some.inj ho
    obtain ⟨g2, e2, q20, q21⟩ : ∃ g : Nat, f 2 = .slice (some ⟨g, 0, none⟩) 0 0 ∧ Fb u g #[] 49 ∧ w.heap.size + 2 ≤ g := hpre ⟨2, .data⟩ (by simp) rfl (.inr rfl)
    have e4 : f 4 = .slice (some adb) N bc := hpre ⟨4, .data⟩ (by simp) rfl (.inl rfl)
    have ho : u.ownsRow (w.heap.size + 2) 49 2 (.slice (some ⟨g2, 0, none⟩) 0 0) 0 [] := ⟨rfl, .inr ⟨g2, 0, #[], rfl, q21, q20, Nat.le_refl _, Nat.zero_le _, rfl, rfl⟩⟩
    have hbase : w.heap.size + 2 ≤ u.heap.size := by have := hB.rx.lt; omega
    obtain ⟨f, rfl⟩ := fixG f 2 _ e2
    rw [updV_ne _ _ (by decide)] at e4
    obtain ⟨f, rfl⟩ := fixG f 4 _ e4
    clear e2 e4
    refine wpOp_step rfl fun K' hK' => ?_
    refine step_append_lies _ rfl (.tmp 14) (.tmp 16) 25 rfl (w.heap.size + 2) 49 iB _ 2 32 Tryz.underlying25 HB.out HB0.out HB1.out HB2.out rfl (by decide) (.slice (some ⟨g2, 0, none⟩) 0 0) 0 [] (by kernel_rfl) ho adb N bc (bl.flatMap ZH.cs) (by kernel_rfl) HBl.out (HBn.out u hB.bel) HB1c.out (by omega) (by unfold maxLen; omega) (by omega) hbase _ rfl ?_
    intro g9 q9 w9 hown hgr hat _
    rw [Nat.zero_add] at hown
    rw [List.nil_append] at hown
    have hgr2 : u.grownBy w9 (some g2) := hgr
    have hs9 : Stp1 49 u w9 := ⟨_, hgr2, fun k e => by obtain rfl := Option.some.inj e; exact q20.typ⟩
    have hn9 : (.slice (some ⟨g9, 0, none⟩) (0 + N) q9 : Value) = .slice (some ⟨g9, 0, none⟩) N q9 := by rw [Nat.zero_add]
    rw [hn9]
    clear hn9
    have hz := hK' _ _ (hK (.slice (some ⟨g9, 0, none⟩) N q9) w9 (hB.stp hs9 (by decide) (by decide) (hB.bel.grown hgr2 hB.bel.size (fun k e => by obtain rfl := Option.some.inj e; omega))) (a3R_row hs9) (⟨g9, q9, rfl, hown⟩))
    refine Eq.mp (congrArg (fun act => K' act w9) ?_) hz
    kernel_rfl
  | 6, ho, hG, hpre, hK =>
    obtain rfl := Option.some.inj ho
    have e1 : f 1 = .int .i64 v := hpre ⟨1, .data⟩ (by simp) rfl (.inl rfl)
    obtain ⟨gS, cS, e5, oS⟩ : ∃ gS cS : Nat, f 5 = .slice (some ⟨gS, 0, none⟩) N cS ∧ u.ownsRow (w.heap.size + 2) 49 2 (.slice (some ⟨gS, 0, none⟩) N cS) N (bl.flatMap ZH.cs) := hpre ⟨5, .data⟩ (by simp) rfl (.inl rfl)
    obtain ⟨f, rfl⟩ := fixG f 1 _ e1
    rw [updV_ne _ _ (by decide)] at e5
    obtain ⟨f, rfl⟩ := fixG f 5 _ e5
    clear e1 e5
    refine wpOp_step rfl fun K' hK' => ?_
    simp only [putL, updV]
    go_simp
    have hz := hK' _ _ (hK (.agg #[.int .i64 v, .slice (some ⟨gS, 0, none⟩) N cS, .slice none 0 0]) (u) (hB) (a3R_of (Below.refl _ _) (by decide) (by decide)) (⟨gS, cS, rfl, oS⟩))
    refine Eq.mp (congrArg (fun act => K' act (u)) ?_) hz
    kernel_rfl
  | 7, ho, hG, hpre, hK =>
    obtain rfl := Option.some.inj ho
    have hb := (Below.refl u.heap.size u).alloc (Nat.le_refl _) (.cells #[.int .i64 0, .slice none 0 0, .slice none 0 0] 67)
    have hl2 := hB.rx.lt
    refine wpOp_step rfl fun K' hK' => ?_
    simp only [putL, updV]
    go_simp
    have hz := hK' _ _ (hK (.pointer (some ⟨u.heap.size, 0, none⟩)) (u.alloc (.cells #[.int .i64 0, .slice none 0 0, .slice none 0 0] 67)) (hB.below hb) (a3R_of hb (by decide) (by decide)) (⟨_, rfl, Fb.new u _ _, hl2⟩))
    refine Eq.mp (congrArg (fun act => K' act (u.alloc (.cells #[.int .i64 0, .slice none 0 0, .slice none 0 0] 67))) ?_) hz
    kernel_rfl
  | 8, ho, hG, hpre, hK =>
    obtain rfl := Option.some.inj ho
    obtain ⟨bW, e7, q70, q71⟩ : ∃ bW : Nat, f 7 = .pointer (some ⟨bW, 0, none⟩) ∧ Fb u bW #[.int .i64 0, .slice none 0 0, .slice none 0 0] 67 ∧ w.heap.size + 1 < bW := hpre ⟨7, .data⟩ (by simp) rfl (.inr rfl)
    obtain ⟨gS, cS, e6, oS⟩ : ∃ gS cS : Nat, f 6 = .agg #[.int .i64 v, .slice (some ⟨gS, 0, none⟩) N cS, .slice none 0 0] ∧ u.ownsRow (w.heap.size + 2) 49 2 (.slice (some ⟨gS, 0, none⟩) N cS) N (bl.flatMap ZH.cs) := hpre ⟨6, .data⟩ (by simp) rfl (.inl rfl)
    obtain ⟨y0, y1, y2⟩ := q70.three
    have f0 := q70.frozen 0
    have f1 := q70.frozen 1
    have f2 := q70.frozen 2
    have hl := q70.lt
    have hs := three_stp q70 (.int .i64 v) (.slice (some ⟨gS, 0, none⟩) N cS) (.slice none 0 0)
    have hgr : u.grownBy (((u.setCell ⟨bW, 0, none⟩ (.int .i64 v)).setCell ⟨bW, 1, none⟩ (.slice (some ⟨gS, 0, none⟩) N cS)).setCell ⟨bW, 2, none⟩ (.slice none 0 0)) (some bW) := grown_trans (grown_trans (grown_set u bW rfl _) (grown_set _ bW rfl _)) (grown_set _ bW rfl _)
    obtain ⟨f, rfl⟩ := fixG f 7 _ e7
    rw [updV_ne _ _ (by decide)] at e6
    obtain ⟨f, rfl⟩ := fixG f 6 _ e6
    clear e7 e6
    refine wpOp_step rfl fun K' hK' => ?_
    simp only [putL, updV]
    go_simp
    have hz := hK' _ _ (hK (undef) (((u.setCell ⟨bW, 0, none⟩ (.int .i64 v)).setCell ⟨bW, 1, none⟩ (.slice (some ⟨gS, 0, none⟩) N cS)).setCell ⟨bW, 2, none⟩ (.slice none 0 0)) (hB.put hgr q71) (a3R_w hs) (⟨bW, gS, cS, rfl, ((q70.set 0 _).set 1 _).set 2 _, q71, hs.own oS (by decide)⟩))
    refine Eq.mp (congrArg (fun act => K' act (((u.setCell ⟨bW, 0, none⟩ (.int .i64 v)).setCell ⟨bW, 1, none⟩ (.slice (some ⟨gS, 0, none⟩) N cS)).setCell ⟨bW, 2, none⟩ (.slice none 0 0))) ?_) hz
    kernel_rfl
  | j + 9, ho, hG, hpre, hK => exact absurd hi (by omega)
 case en =>
  intro Q2 hQ2 f u hB hF
  obtain ⟨bW, gS, cS, e7, q80, q81, oS⟩ : ∃ bW gS cS : Nat, f 7 = .pointer (some ⟨bW, 0, none⟩) ∧ Fb u bW #[.int .i64 v, .slice (some ⟨gS, 0, none⟩) N cS, .slice none 0 0] 67 ∧ w.heap.size + 1 < bW ∧ u.ownsRow (w.heap.size + 2) 49 2 (.slice (some ⟨gS, 0, none⟩) N cS) N (bl.flatMap ZH.cs) := hF 8 (by decide) rfl
  have HA4 := hid hB
  have HQ := hid (And.intro q80 (And.intro q81 oS))
  obtain ⟨f, rfl⟩ := fixG f 7 _ e7
  clear e7
  clear hF
  show wpAny _ _ _ _ 0 (tailArr 9 9) _ _
  refine ⟨by kernel_rfl, hQ2 _ _ (hKx _ _ ?_)⟩
  simp only [putL, updV]
  clear q80 q81 oS hB HA3
  have HI0 := hid (show ∃ (Iv : Value) (done : List AL), B10 w #[.int .i64 v, .slice (some adr) N dc, .slice (some adt) N tc, .slice (some adb) N bc] v N bW gS cS Iv bl done u ∧ done.length = 0 ∧ Dn tl dl done from ⟨.slice none 0 0, [], ⟨HA4.out, HQ.out.1, HQ.out.2.1, HQ.out.2.2, World.ownsRow_nil _ _ _ _, (fun r hr => by cases hr), (fun j k x y g hj => by simp at hj)⟩, rfl, (fun j r hj => by simp at hj)⟩)
  obtain ⟨c0, c1, c2, c3⟩ := HA4.out.sx.four
  clear HQ HA4
  go_wp2_with fail
  go_loopw [5] (fun iv wr => ∃ i : Nat, i ≤ N ∧ iv = .int .i64 i ∧ Hid (∃ (Iv : Value) (done : List AL), B10 w #[.int .i64 v, .slice (some adr) N dc, .slice (some adt) N tc, .slice (some adb) N bc] v N bW gS cS Iv bl done wr ∧ done.length = i ∧ Dn tl dl done)) (fun iv _ => N - (intOf iv).toNat)
  case atStart => exact ⟨0, by omega, rfl, HI0⟩
  case round =>
   clear HI0 c0 c1 c2 c3
   obtain ⟨i, hi, rfl, HI⟩ := hrel
   obtain ⟨Iv, done, hb, hdl, hdn⟩ := HI.out
   have HB1 := hid hb
   have HDl := hid hdl
   have HDn := hid hdn
   clear HI hb hdl hdn
   obtain ⟨c0, c1, c2, c3⟩ := HB1.out.a.sx.four
   by_cases hlt : i < N
   · have n0 : (0 : Int) ≤ i := by omega
     have n1 : (i : Int) < N := by omega
     have n2 : (i : Int).toNat = i := by omega
     obtain ⟨r, hr, hrm⟩ := get_at (show dl.length = N from Hs.out.d.len) hlt
     have Hr := hid hr
     have hrl : r.l.length = r.n := (Hs.out.d.all r hrm).len
     have hrn : r.n ≤ 256 := by have h1 := ris_len (Ho.out.d r hrm); rw [hrl] at h1; omega
     have Hris := hid (Ho.out.d r hrm)
     have HRr := hid (fun (u : World) (hu : Below w.heap.size w u) => by
      obtain ⟨ad, e, h1, h2⟩ := (Hs.out.below hu).d.cell hr
      obtain rfl := Option.some.inj e
      exact (show u.cell? (adr.add i) = some (.slice r.A r.n r.c) ∧ (adr.add i).block < u.heap.size from ⟨h2, by rw [add_block]; exact h1⟩))
     have HRk := hid (fun (u : World) (hu : Below w.heap.size w u) => (Hs.out.below hu).d.all r hrm)
     have Hrl := hid hrl
     clear hr hrm hrl
     obtain ⟨rA, rn, rc, rl⟩ := r
     simp only at *
     have HC0 := hid (show (∃ cur : List AH, wr.ownsRow (w.heap.size + 2) 63 6 (.slice none 0 0) cur.length (cur.flatMap AH.cells) ∧ (∀ r ∈ done, ∀ g, Value.ownBlock (.slice none 0 0) = some g → r.v.ownBlock ≠ some g) ∧ Cu tl rl 0 cur ∧ B10 w #[.int .i64 v, .slice (some adr) N dc, .slice (some adt) N tc, .slice (some adb) N bc] v N bW gS cS Iv bl done wr) from ⟨[], World.ownsRow_nil _ _ _ _, (fun r hr g e => by cases e), Cu.start _ _, HB1.out⟩)
     clear HB1
     go_wp2_with fail
     clear c0 c1 c2 c3
     go_loopw [6, 7] (fun cv kv wr => ∃ (k : Nat) (A : Option Addr) (L c : Nat), k ≤ rn ∧ cv = .slice A L c ∧ kv = .int .i64 k ∧ Hid (∃ cur : List AH, wr.ownsRow (w.heap.size + 2) 63 6 (.slice A L c) cur.length (cur.flatMap AH.cells) ∧ (∀ r ∈ done, ∀ g, Value.ownBlock (.slice A L c) = some g → r.v.ownBlock ≠ some g) ∧ Cu tl rl k cur ∧ B10 w #[.int .i64 v, .slice (some adr) N dc, .slice (some adt) N tc, .slice (some adb) N bc] v N bW gS cS Iv bl done wr)) (fun _ kv _ => rn - (intOf kv).toNat)
     case atStart => exact ⟨0, none, 0, 0, by omega, rfl, rfl, HC0⟩
     case round =>
      clear HC0
      obtain ⟨k, A, L, c, hk, rfl, rfl, HI⟩ := hrel
      generalize hcv : Value.slice A L c = cv at *
      clear hcv
      obtain ⟨cur, hco, hca, hcu, hb⟩ := HI.out
      have HB11 := hid hb
      have HC11 := hid (And.intro hco hca)
      have HCu := hid hcu
      clear HI hco hca hcu hb
      obtain ⟨c0, c1, c2, c3⟩ := HB11.out.a.sx.four
      obtain ⟨y0, y1⟩ := HRr.out _ HB11.out.a.bel
      by_cases hkn : k < rn
      · have k0 : (0 : Int) ≤ k := by omega
        have k1 : (k : Int) < rn := by omega
        have k2 : (k : Int).toNat = k := by omega
        obtain ⟨mi, hmi, hmm⟩ := get_at Hrl.out hkn
        obtain ⟨q0, q1⟩ := Hris.out.2 mi hmm
        obtain ⟨m, rfl⟩ : ∃ m : Nat, mi = m := ⟨mi.toNat, by omega⟩
        have hmN : m < N := by omega
        obtain ⟨y, hy, hym⟩ := get_at (show tl.length = N from Hs.out.t.len) hmN
        obtain ⟨adk, hA9, -, -⟩ := (HRk.out w (Below.refl _ _)).cell hmi
        simp only at hA9
        subst hA9
        have Hy := hid hy
        have Hmi := hid hmi
        have hcl := HCu.out.len
        have hcl2 : cur.length ≤ 256 := by omega
        have HRc := hid (fun (u : World) (hu : Below w.heap.size w u) => by
         obtain ⟨a1, a2⟩ := HRr.out u hu
         obtain ⟨ad, e, b1, b2⟩ := (HRk.out u hu).cell hmi
         obtain rfl := Option.some.inj e
         obtain ⟨ad, e, d1, d2, d3, d4, d5, d6⟩ := (Hs.out.below hu).t.cell hy
         obtain rfl := Option.some.inj e
         exact (show u.cell? (adr.add i) = some (.slice (some adk) rn rc) ∧ (adr.add i).block < u.heap.size ∧ u.cell? (adk.add k) = some (.int .i64 m) ∧ (adk.add k).block < u.heap.size ∧ (adt.add (m * 5)).block < u.heap.size ∧ u.cell? (adt.add (m * 5)) = some (.int .i64 y.G.W) ∧ u.cell? ⟨(adt.add (m * 5)).block, (adt.add (m * 5)).off + 1, none⟩ = some (.slice y.G.A y.G.n y.G.c) ∧
          u.cell? ⟨(adt.add (m * 5)).block, (adt.add (m * 5)).off + 2, none⟩ = some (.int .i64 y.K.W) ∧ u.cell? ⟨(adt.add (m * 5)).block, (adt.add (m * 5)).off + 3, none⟩ = some (.slice y.K.A y.K.n y.K.c) ∧ u.cell? ⟨(adt.add (m * 5)).block, (adt.add (m * 5)).off + 4, none⟩ = some (.slice y.C y.k y.q) from ⟨a1, a2, b2, by rw [add_block]; exact b1, by rw [add_block]; exact d1, d2, d3, d4, d5, d6⟩))
        clear hmi hmm hy hym hcl
        go_upto_region 11 with fail
        rename_i Kx hKx
        clear c0 c1 c2 c3 y0 y1
        refine wp_region_factsJ (fun j u => j = 23 → u.ownsRow (w.heap.size + 2) 63 6 cv cur.length (cur.flatMap AH.cells) ∧ ∀ r ∈ done, ∀ g, cv.ownBlock = some g → r.v.ownBlock ≠ some g) (a11F w v N dc tc bc bW gS cS k m i adr adt adb adk rn rc y Iv cv bl done cur) (fun u => B10 w #[.int .i64 v, .slice (some adr) N dc, .slice (some adt) N tc, .slice (some adb) N bc] v N bW gS cS Iv bl done u) a11U (a11R cv) Kx (fun _ _ h => h) 25 25 (some 36 :: some 37 :: some 38 :: some 39 :: some 40 :: some 41 :: some 42 :: some 43 :: some 44 :: some 45 :: some 46 :: some 47 :: some 48 :: some 49 :: some 50 :: some 51 :: some 52 :: some 53 :: some 54 :: some 55 :: some 56 :: some 57 :: some 58 :: some 59 :: some 6 :: []) (by kernel_rfl) (by kernel_rfl) (by kernel_rfl) (by kernel_rfl) (by kernel_rfl) (by kernel_rfl) (by decide)
         (a11F_st (fun j h e => by subst e; exact Bool.false_ne_true (h.symm.trans (by kernel_rfl)))) ?bs ?gb ?gs ?ar ?en
        case bs => exact HB11.out.below (Below.refl _ _).drew
        case gb =>
         exact fun c _ => ⟨HC11.out.1.kept (grown_of_below (Below.refl _ _).drew none) (by cases cv.ownBlock <;> simp), HC11.out.2⟩
        case gs =>
         intro j u u' c hR hne hnr hG hc
         obtain ⟨h1, h2⟩ := hG hc
         have h23 : j ≠ 23 := by rintro rfl; exact hne hc
         exact ⟨h1.kept (grown_of_below (a11R_bel hR h23) none) (by cases cv.ownBlock <;> simp), h2⟩
        case ar =>
         intro j o f u ho hi hB hG hini hpre K hK
         match j, ho, hG, hini, hpre, hK with
         | 0, ho, hG, hini, hpre, hK =>
           obtain rfl := Option.some.inj ho
           have e24 : f 24 = cv := (hini 24 (by kernel_rfl)).trans (by kernel_rfl)
           obtain ⟨f, rfl⟩ := fixG f 24 _ e24
           clear e24
           refine wpOp_step rfl fun K' hK' => ?_
           simp only [putL, updV]
           go_simp
           have hz := hK' _ _ (hK (cv) (u) (hB) (a11R_of (Below.refl _ _) (by decide)) (rfl))
           refine Eq.mp (congrArg (fun act => K' act (u)) ?_) hz
           kernel_rfl
         | 1, ho, hG, hini, hpre, hK =>
           obtain rfl := Option.some.inj ho
           refine wpOp_step rfl fun K' hK' => ?_
           simp only [putL, updV]
           go_simp
           have hz := hK' _ _ (hK (.pointer (some ⟨w.heap.size, 1, none⟩)) (u) (hB) (a11R_of (Below.refl _ _) (by decide)) (rfl))
           refine Eq.mp (congrArg (fun act => K' act (u)) ?_) hz
           kernel_rfl
         | 2, ho, hG, hini, hpre, hK =>
           obtain rfl := Option.some.inj ho
           obtain ⟨c0, c1, c2, c3⟩ := hB.a.sx.four
           have hlt := hB.a.sx.lt
           have e1 : f 1 = .pointer (some ⟨w.heap.size, 1, none⟩) := hpre ⟨1, .data⟩ (by simp) rfl (.inl rfl)
           obtain ⟨f, rfl⟩ := fixG f 1 _ e1
           clear e1
           refine wpOp_step rfl fun K' hK' => ?_
           simp only [putL, updV]
           go_simp
           have hz := hK' _ _ (hK (.slice (some adr) N dc) (u) (hB) (a11R_of (Below.refl _ _) (by decide)) (rfl))
           refine Eq.mp (congrArg (fun act => K' act (u)) ?_) hz
           kernel_rfl
         | 3, ho, hG, hini, hpre, hK =>
           obtain rfl := Option.some.inj ho
           refine wpOp_step rfl fun K' hK' => ?_
           simp only [putL, updV]
           go_simp
           have hz := hK' _ _ (hK (.int .i64 (i : Int)) (u) (hB) (a11R_of (Below.refl _ _) (by decide)) (rfl))
           refine Eq.mp (congrArg (fun act => K' act (u)) ?_) hz
           kernel_rfl
         | 4, ho, hG, hini, hpre, hK =>
           obtain rfl := Option.some.inj ho
           have k0 : (0 : Int) ≤ i := by omega
           have k1 : (i : Int) < N := by omega
           have k2 : (i : Int).toNat = i := by omega
           have e2 : f 2 = .slice (some adr) N dc := hpre ⟨2, .data⟩ (by simp) rfl (.inl rfl)
           have e3 : f 3 = .int .i64 (i : Int) := hpre ⟨3, .data⟩ (by simp) rfl (.inl rfl)
           obtain ⟨f, rfl⟩ := fixG f 2 _ e2
           rw [updV_ne _ _ (by decide)] at e3
           obtain ⟨f, rfl⟩ := fixG f 3 _ e3
           clear e2 e3
           refine wpOp_step rfl fun K' hK' => ?_
           simp only [putL, updV]
           go_simp
           have hz := hK' _ _ (hK (.pointer (some (adr.add i))) (u) (hB) (a11R_of (Below.refl _ _) (by decide)) (rfl))
           refine Eq.mp (congrArg (fun act => K' act (u)) ?_) hz
           kernel_rfl
         | 5, ho, hG, hini, hpre, hK =>
           obtain rfl := Option.some.inj ho
           have y0 := (HRc.out u hB.a.bel).1
           have hl := (HRc.out u hB.a.bel).2.1
           have e4 : f 4 = .pointer (some (adr.add i)) := hpre ⟨4, .data⟩ (by simp) rfl (.inl rfl)
           obtain ⟨f, rfl⟩ := fixG f 4 _ e4
           clear e4
           refine wpOp_step rfl fun K' hK' => ?_
           simp only [putL, updV]
           go_simp
           have hz := hK' _ _ (hK (.slice (some adk) rn rc) (u) (hB) (a11R_of (Below.refl _ _) (by decide)) (rfl))
           refine Eq.mp (congrArg (fun act => K' act (u)) ?_) hz
           kernel_rfl
         | 6, ho, hG, hini, hpre, hK =>
           obtain rfl := Option.some.inj ho
           refine wpOp_step rfl fun K' hK' => ?_
           simp only [putL, updV]
           go_simp
           have hz := hK' _ _ (hK (.int .i64 (k : Int)) (u) (hB) (a11R_of (Below.refl _ _) (by decide)) (rfl))
           refine Eq.mp (congrArg (fun act => K' act (u)) ?_) hz
           kernel_rfl
         | 7, ho, hG, hini, hpre, hK =>
           obtain rfl := Option.some.inj ho
           have k0 : (0 : Int) ≤ k := by omega
           have k1 : (k : Int) < rn := by omega
           have k2 : (k : Int).toNat = k := by omega
           have e5 : f 5 = .slice (some adk) rn rc := hpre ⟨5, .data⟩ (by simp) rfl (.inl rfl)
           have e6 : f 6 = .int .i64 (k : Int) := hpre ⟨6, .data⟩ (by simp) rfl (.inl rfl)
           obtain ⟨f, rfl⟩ := fixG f 5 _ e5
           rw [updV_ne _ _ (by decide)] at e6
           obtain ⟨f, rfl⟩ := fixG f 6 _ e6
           clear e5 e6
           refine wpOp_step rfl fun K' hK' => ?_
           simp only [putL, updV]
           go_simp
           have hz := hK' _ _ (hK (.pointer (some (adk.add k))) (u) (hB) (a11R_of (Below.refl _ _) (by decide)) (rfl))
           refine Eq.mp (congrArg (fun act => K' act (u)) ?_) hz
           kernel_rfl
         | 8, ho, hG, hini, hpre, hK =>
           obtain rfl := Option.some.inj ho
           have y0 := (HRc.out u hB.a.bel).2.2.1
           have hl := (HRc.out u hB.a.bel).2.2.2.1
           have e7 : f 7 = .pointer (some (adk.add k)) := hpre ⟨7, .data⟩ (by simp) rfl (.inl rfl)
           obtain ⟨f, rfl⟩ := fixG f 7 _ e7
           clear e7
           refine wpOp_step rfl fun K' hK' => ?_
           simp only [putL, updV]
           go_simp
           have hz := hK' _ _ (hK (.int .i64 (m : Int)) (u) (hB) (a11R_of (Below.refl _ _) (by decide)) (rfl))
           refine Eq.mp (congrArg (fun act => K' act (u)) ?_) hz
           kernel_rfl
         | 9, ho, hG, hini, hpre, hK =>
           obtain rfl := Option.some.inj ho
           refine wpOp_step rfl fun K' hK' => ?_
           simp only [putL, updV]
           go_simp
           have hz := hK' _ _ (hK (.pointer (some ⟨w.heap.size, 2, none⟩)) (u) (hB) (a11R_of (Below.refl _ _) (by decide)) (rfl))
           refine Eq.mp (congrArg (fun act => K' act (u)) ?_) hz
           kernel_rfl
         | 10, ho, hG, hini, hpre, hK =>
           obtain rfl := Option.some.inj ho
           obtain ⟨c0, c1, c2, c3⟩ := hB.a.sx.four
           have hlt := hB.a.sx.lt
           have e9 : f 9 = .pointer (some ⟨w.heap.size, 2, none⟩) := hpre ⟨9, .data⟩ (by simp) rfl (.inl rfl)
           obtain ⟨f, rfl⟩ := fixG f 9 _ e9
           clear e9
           refine wpOp_step rfl fun K' hK' => ?_
           simp only [putL, updV]
           go_simp
           have hz := hK' _ _ (hK (.slice (some adt) N tc) (u) (hB) (a11R_of (Below.refl _ _) (by decide)) (rfl))
           refine Eq.mp (congrArg (fun act => K' act (u)) ?_) hz
           kernel_rfl
         | 11, ho, hG, hini, hpre, hK =>
           obtain rfl := Option.some.inj ho
           refine wpOp_step rfl fun K' hK' => ?_
           simp only [putL, updV]
           go_simp
           have hz := hK' _ _ (hK (.pointer (some ⟨w.heap.size, 1, none⟩)) (u) (hB) (a11R_of (Below.refl _ _) (by decide)) (rfl))
           refine Eq.mp (congrArg (fun act => K' act (u)) ?_) hz
           kernel_rfl
         | 12, ho, hG, hini, hpre, hK =>
           obtain rfl := Option.some.inj ho
           obtain ⟨c0, c1, c2, c3⟩ := hB.a.sx.four
           have hlt := hB.a.sx.lt
           have e11 : f 11 = .pointer (some ⟨w.heap.size, 1, none⟩) := hpre ⟨11, .data⟩ (by simp) rfl (.inl rfl)
           obtain ⟨f, rfl⟩ := fixG f 11 _ e11
           clear e11
           refine wpOp_step rfl fun K' hK' => ?_
           simp only [putL, updV]
           go_simp
           have hz := hK' _ _ (hK (.slice (some adr) N dc) (u) (hB) (a11R_of (Below.refl _ _) (by decide)) (rfl))
           refine Eq.mp (congrArg (fun act => K' act (u)) ?_) hz
           kernel_rfl
         | 13, ho, hG, hini, hpre, hK =>
           obtain rfl := Option.some.inj ho
           refine wpOp_step rfl fun K' hK' => ?_
           simp only [putL, updV]
           go_simp
           have hz := hK' _ _ (hK (.int .i64 (i : Int)) (u) (hB) (a11R_of (Below.refl _ _) (by decide)) (rfl))
           refine Eq.mp (congrArg (fun act => K' act (u)) ?_) hz
           kernel_rfl
         | 14, ho, hG, hini, hpre, hK =>
           obtain rfl := Option.some.inj ho
           have k0 : (0 : Int) ≤ i := by omega
           have k1 : (i : Int) < N := by omega
           have k2 : (i : Int).toNat = i := by omega
           have e12 : f 12 = .slice (some adr) N dc := hpre ⟨12, .data⟩ (by simp) rfl (.inl rfl)
           have e13 : f 13 = .int .i64 (i : Int) := hpre ⟨13, .data⟩ (by simp) rfl (.inl rfl)
           obtain ⟨f, rfl⟩ := fixG f 12 _ e12
           rw [updV_ne _ _ (by decide)] at e13
           obtain ⟨f, rfl⟩ := fixG f 13 _ e13
           clear e12 e13
           refine wpOp_step rfl fun K' hK' => ?_
           simp only [putL, updV]
           go_simp
           have hz := hK' _ _ (hK (.pointer (some (adr.add i))) (u) (hB) (a11R_of (Below.refl _ _) (by decide)) (rfl))
           refine Eq.mp (congrArg (fun act => K' act (u)) ?_) hz
           kernel_rfl
         | 15, ho, hG, hini, hpre, hK =>
           obtain rfl := Option.some.inj ho
           have y0 := (HRc.out u hB.a.bel).1
           have hl := (HRc.out u hB.a.bel).2.1
           have e14 : f 14 = .pointer (some (adr.add i)) := hpre ⟨14, .data⟩ (by simp) rfl (.inl rfl)
           obtain ⟨f, rfl⟩ := fixG f 14 _ e14
           clear e14
           refine wpOp_step rfl fun K' hK' => ?_
           simp only [putL, updV]
           go_simp
           have hz := hK' _ _ (hK (.slice (some adk) rn rc) (u) (hB) (a11R_of (Below.refl _ _) (by decide)) (rfl))
           refine Eq.mp (congrArg (fun act => K' act (u)) ?_) hz
           kernel_rfl
         | 16, ho, hG, hini, hpre, hK =>
           obtain rfl := Option.some.inj ho
           refine wpOp_step rfl fun K' hK' => ?_
           simp only [putL, updV]
           go_simp
           have hz := hK' _ _ (hK (.int .i64 (k : Int)) (u) (hB) (a11R_of (Below.refl _ _) (by decide)) (rfl))
           refine Eq.mp (congrArg (fun act => K' act (u)) ?_) hz
           kernel_rfl
         | 17, ho, hG, hini, hpre, hK =>
           obtain rfl := Option.some.inj ho
           have k0 : (0 : Int) ≤ k := by omega
           have k1 : (k : Int) < rn := by omega
           have k2 : (k : Int).toNat = k := by omega
           have e15 : f 15 = .slice (some adk) rn rc := hpre ⟨15, .data⟩ (by simp) rfl (.inl rfl)
           have e16 : f 16 = .int .i64 (k : Int) := hpre ⟨16, .data⟩ (by simp) rfl (.inl rfl)
           obtain ⟨f, rfl⟩ := fixG f 15 _ e15
           rw [updV_ne _ _ (by decide)] at e16
           obtain ⟨f, rfl⟩ := fixG f 16 _ e16
           clear e15 e16
           refine wpOp_step rfl fun K' hK' => ?_
           simp only [putL, updV]
           go_simp
           have hz := hK' _ _ (hK (.pointer (some (adk.add k))) (u) (hB) (a11R_of (Below.refl _ _) (by decide)) (rfl))
           refine Eq.mp (congrArg (fun act => K' act (u)) ?_) hz
           kernel_rfl
         | 18, ho, hG, hini, hpre, hK =>
           obtain rfl := Option.some.inj ho
           have y0 := (HRc.out u hB.a.bel).2.2.1
           have hl := (HRc.out u hB.a.bel).2.2.2.1
           have e17 : f 17 = .pointer (some (adk.add k)) := hpre ⟨17, .data⟩ (by simp) rfl (.inl rfl)
           obtain ⟨f, rfl⟩ := fixG f 17 _ e17
           clear e17
           refine wpOp_step rfl fun K' hK' => ?_
           simp only [putL, updV]
           go_simp
           have hz := hK' _ _ (hK (.int .i64 (m : Int)) (u) (hB) (a11R_of (Below.refl _ _) (by decide)) (rfl))
           refine Eq.mp (congrArg (fun act => K' act (u)) ?_) hz
           kernel_rfl
         | 19, ho, hG, hini, hpre, hK =>
           obtain rfl := Option.some.inj ho
           have k0 : (0 : Int) ≤ m := by omega
           have k1 : (m : Int) < N := by omega
           have k2 : (m : Int).toNat = m := by omega
           have e10 : f 10 = .slice (some adt) N tc := hpre ⟨10, .data⟩ (by simp) rfl (.inl rfl)
           have e18 : f 18 = .int .i64 (m : Int) := hpre ⟨18, .data⟩ (by simp) rfl (.inl rfl)
           obtain ⟨f, rfl⟩ := fixG f 10 _ e10
           rw [updV_ne _ _ (by decide)] at e18
           obtain ⟨f, rfl⟩ := fixG f 18 _ e18
           clear e10 e18
           refine wpOp_step rfl fun K' hK' => ?_
           simp only [putL, updV]
           go_simp
           have hz := hK' _ _ (hK (.pointer (some (adt.add (m * 5)))) (u) (hB) (a11R_of (Below.refl _ _) (by decide)) (rfl))
           refine Eq.mp (congrArg (fun act => K' act (u)) ?_) hz
           kernel_rfl
         | 20, ho, hG, hini, hpre, hK =>
           obtain rfl := Option.some.inj ho
           obtain ⟨-, -, -, -, hl, y0, y1, y2, y3, y4⟩ := HRc.out u hB.a.bel
           have e19 : f 19 = .pointer (some (adt.add (m * 5))) := hpre ⟨19, .data⟩ (by simp) rfl (.inl rfl)
           obtain ⟨f, rfl⟩ := fixG f 19 _ e19
           clear e19
           refine wpOp_step rfl fun K' hK' => ?_
           simp only [putL, updV]
           go_simp
           have hz := hK' _ _ (hK (.agg #[.int .i64 y.G.W, .slice y.G.A y.G.n y.G.c, .int .i64 y.K.W, .slice y.K.A y.K.n y.K.c, .slice y.C y.k y.q]) (u) (hB) (a11R_of (Below.refl _ _) (by decide)) (rfl))
           refine Eq.mp (congrArg (fun act => K' act (u)) ?_) hz
           kernel_rfl
         | 21, ho, hG, hini, hpre, hK =>
           obtain rfl := Option.some.inj ho
           have e8 : f 8 = .int .i64 (m : Int) := hpre ⟨8, .data⟩ (by simp) rfl (.inl rfl)
           have e20 : f 20 = .agg #[.int .i64 y.G.W, .slice y.G.A y.G.n y.G.c, .int .i64 y.K.W, .slice y.K.A y.K.n y.K.c, .slice y.C y.k y.q] := hpre ⟨20, .data⟩ (by simp) rfl (.inl rfl)
           obtain ⟨f, rfl⟩ := fixG f 8 _ e8
           rw [updV_ne _ _ (by decide)] at e20
           obtain ⟨f, rfl⟩ := fixG f 20 _ e20
           clear e8 e20
           refine wpOp_step rfl fun K' hK' => ?_
           simp only [putL, updV]
           go_simp
           have hz := hK' _ _ (hK (.agg #[.int .i64 (m : Int), .int .i64 y.G.W, .slice y.G.A y.G.n y.G.c, .int .i64 y.K.W, .slice y.K.A y.K.n y.K.c, .slice y.C y.k y.q]) (u) (hB) (a11R_of (Below.refl _ _) (by decide)) (rfl))
           refine Eq.mp (congrArg (fun act => K' act (u)) ?_) hz
           kernel_rfl
         | 22, ho, hG, hini, hpre, hK =>
           obtain rfl := Option.some.inj ho
           have hb := (Below.refl u.heap.size u).alloc (Nat.le_refl _) (.cells #[.int .i64 (m : Int), .int .i64 y.G.W, .slice y.G.A y.G.n y.G.c, .int .i64 y.K.W, .slice y.K.A y.K.n y.K.c, .slice y.C y.k y.q] 63)
           have e21 : f 21 = .agg #[.int .i64 (m : Int), .int .i64 y.G.W, .slice y.G.A y.G.n y.G.c, .int .i64 y.K.W, .slice y.K.A y.K.n y.K.c, .slice y.C y.k y.q] := hpre ⟨21, .data⟩ (by simp) rfl (.inl rfl)
           obtain ⟨f, rfl⟩ := fixG f 21 _ e21
           clear e21
           refine wpOp_step rfl fun K' hK' => ?_
           simp only [putL, updV]
           go_simp
           have hz := hK' _ _ (hK (.slice (some ⟨u.heap.size, 0, none⟩) 1 1) (u.alloc (.cells #[.int .i64 (m : Int), .int .i64 y.G.W, .slice y.G.A y.G.n y.G.c, .int .i64 y.K.W, .slice y.K.A y.K.n y.K.c, .slice y.C y.k y.q] 63)) (hB.below hb) (a11R_of hb (by decide)) (⟨_, rfl, Fb.new u _ _⟩))
           refine Eq.mp (congrArg (fun act => K' act (u.alloc (.cells #[.int .i64 (m : Int), .int .i64 y.G.W, .slice y.G.A y.G.n y.G.c, .int .i64 y.K.W, .slice y.K.A y.K.n y.K.c, .slice y.C y.k y.q] 63))) ?_) hz
           kernel_rfl
         | 23, ho, hG, hini, hpre, hK =>
           obtain rfl := Option.some.inj ho
           have e0 : f 0 = cv := hpre ⟨0, .data⟩ (by simp) rfl (.inl rfl)
           obtain ⟨g22, e22, q22⟩ : ∃ g : Nat, f 22 = .slice (some ⟨g, 0, none⟩) 1 1 ∧ Fb u g #[.int .i64 (m : Int), .int .i64 y.G.W, .slice y.G.A y.G.n y.G.c, .int .i64 y.K.W, .slice y.K.A y.K.n y.K.c, .slice y.C y.k y.q] 63 := hpre ⟨22, .data⟩ (by simp) rfl (.inr rfl)
           obtain ⟨ho, hca⟩ := hG rfl
           have hbase : w.heap.size + 2 ≤ u.heap.size := by have := hB.a.rx.lt; omega
           obtain ⟨f, rfl⟩ := fixG f 0 _ e0
           rw [updV_ne _ _ (by decide)] at e22
           obtain ⟨f, rfl⟩ := fixG f 22 _ e22
           clear e0 e22
           refine wpOp_step rfl fun K' hK' => ?_
           refine step_append_lies _ rfl (.tmp 36) (.tmp 58) 64 rfl (w.heap.size + 2) 63 iA _ 6 96 Tryz.underlying64 HA.out HA0.out HA1.out HA2.out rfl (by decide) cv cur.length (cur.flatMap AH.cells) (by kernel_rfl) ho ⟨g22, 0, none⟩ 1 1 [.int .i64 (m : Int), .int .i64 y.G.W, .slice y.G.A y.G.n y.G.c, .int .i64 y.K.W, .slice y.K.A y.K.n y.K.c, .slice y.C y.k y.q] (by kernel_rfl) rfl (fun j x hx => World.news_of_block q22 j x hx) (one_ah ⟨m, y⟩) (by omega) (by unfold maxLen; omega) (by omega) hbase _ rfl ?_
           intro g9 q9 w9 hown hgr hat _
           have hn9 : ∀ r ∈ done, r.v.ownBlock ≠ some g9 := fun r hr e => by
            rcases hat with h1 | h1
            · exact hca r hr g9 h1 e
            · have := ((hB.oD r hr).lt g9 e).2; omega
           have hz := hK' _ _ (hK (.slice (some ⟨g9, 0, none⟩) (cur.length + 1) q9) w9 (hB.app ho hca hgr) (a11R_row hgr) (⟨g9, q9, rfl, hown, hn9⟩))
           refine Eq.mp (congrArg (fun act => K' act w9) ?_) hz
           kernel_rfl
         | 24, ho, hG, hini, hpre, hK =>
           obtain rfl := Option.some.inj ho
           obtain ⟨g9, q9, e23, o9, n9⟩ : ∃ g q : Nat, f 23 = .slice (some ⟨g, 0, none⟩) (cur.length + 1) q ∧ u.ownsRow (w.heap.size + 2) 63 6 (.slice (some ⟨g, 0, none⟩) (cur.length + 1) q) (cur.length + 1) (cur.flatMap AH.cells ++ AH.cells ⟨m, y⟩) ∧ ∀ r ∈ done, r.v.ownBlock ≠ some g := hpre ⟨23, .data⟩ (by simp) rfl (.inl rfl)
           obtain ⟨f, rfl⟩ := fixG f 23 _ e23
           clear e23
           refine wpOp_step rfl fun K' hK' => ?_
           simp only [putL, updV]
           go_simp
           have hz := hK' _ _ (hK (.slice (some ⟨g9, 0, none⟩) (cur.length + 1) q9) (u) (hB) (a11R_of (Below.refl _ _) (by decide)) (⟨g9, q9, rfl, o9, n9⟩))
           refine Eq.mp (congrArg (fun act => K' act (u)) ?_) hz
           kernel_rfl
         | j + 25, ho, hG, hini, hpre, hK => exact absurd hi (by omega)
        case en =>
         intro Q2 hQ2 f u hB hF
         obtain ⟨g9, q9, e24, o9, n9⟩ : ∃ g q : Nat, f 24 = .slice (some ⟨g, 0, none⟩) (cur.length + 1) q ∧ u.ownsRow (w.heap.size + 2) 63 6 (.slice (some ⟨g, 0, none⟩) (cur.length + 1) q) (cur.length + 1) (cur.flatMap AH.cells ++ AH.cells ⟨m, y⟩) ∧ ∀ r ∈ done, r.v.ownBlock ≠ some g := hF 24 (by decide) rfl
         have HB12 := hid hB
         have HC12 := hid (And.intro o9 n9)
         obtain ⟨f, rfl⟩ := fixG f 24 _ e24
         clear e24
         clear hF
         show wpAny _ _ _ _ 0 (tailArr 25 25) _ _
         refine ⟨by kernel_rfl, hQ2 _ _ (hKx _ _ ?_)⟩
         simp only [putL, updV]
         clear o9 n9 hB HB11 HC11
         have HC13 := hid (show ∃ cur' : List AH, u.ownsRow (w.heap.size + 2) 63 6 (.slice (some ⟨g9, 0, none⟩) (cur.length + 1) q9) cur'.length (cur'.flatMap AH.cells) ∧ (∀ r ∈ done, ∀ g, Value.ownBlock (.slice (some ⟨g9, 0, none⟩) (cur.length + 1) q9) = some g → r.v.ownBlock ≠ some g) ∧ Cu tl rl (k + 1) cur' ∧ B10 w #[.int .i64 v, .slice (some adr) N dc, .slice (some adt) N tc, .slice (some adb) N bc] v N bW gS cS Iv bl done u from
          ⟨cur ++ [⟨m, y⟩], by rw [List.length_append, flat_one]; exact HC12.out.1, fun r hr g e => by obtain rfl := Option.some.inj e; exact HC12.out.2 r hr, HCu.out.push Hmi.out Hy.out, HB12.out⟩)
         clear HC12 HB12
         go_wp2_with fail
         go_roundw
         case rel => exact ⟨k + 1, some ⟨g9, 0, none⟩, _, q9, by omega, rfl, by go_num, HC13⟩
         case measure => simp [intOf]; omega
      · have e : k = rn := by omega
        subst e
        obtain ⟨A1, c1', hcv1⟩ := own_slice3 HC11.out.1
        subst hcv1
        have HX12 := hid (And.intro HB11.out.wx HB11.out.hw)
        have HI12 := hid HB11.out.oI
        have HB12c := hid (show C10 w #[.int .i64 v, .slice (some adr) N dc, .slice (some adt) N tc, .slice (some adb) N bc] N gS cS bl done (.slice A1 cur.length c1') cur wr from ⟨HB11.out.a, HB11.out.oB, HB11.out.oD, HC11.out.1⟩)
        have Hap := hid HB11.out.ap
        have Hca := hid HC11.out.2
        have Hcv := hid (own_slice3 HC11.out.1)
        have Hcv1 := hid (show ∀ x ∈ [Value.slice A1 cur.length c1'], x.oneCell' = true from fun x hx => by
         obtain ⟨A, c, e⟩ := Hcv.out
         rw [List.mem_singleton.1 hx, e]; rfl)
        have hdl2 : done.length ≤ 256 := by rw [HDl.out]; omega
        clear HB11 HC11
        go_upto_region 12 with fail
        clear c0 c1 c2 c3 y0 y1
        obtain ⟨y0, y1, y2⟩ := HX12.out.1.three
        have hlx := HX12.out.1.lt
        have hba := (Below.refl wr.heap.size wr).alloc (Nat.le_refl _) (.cells #[.slice A1 cur.length c1'] 64)
        have HB12a := hid (HB12c.out.below hba)
        have HX12a := hid (HX12.out.1.below hba HX12.out.1.lt)
        have HI12a := hid ((Stp1.below (t := 0) hba).own HI12.out (by decide))
        have HX12w := hid HX12.out.2
        have HN12 := hid (Fb.new wr #[.slice A1 cur.length c1'] 64)
        have hbase : w.heap.size + 2 ≤ (wr.alloc (.cells #[.slice A1 cur.length c1'] 64)).heap.size := by rw [World.size_alloc]; have := HB12c.out.a.rx.lt; omega
        clear hba HB12c HI12 HX12
        go_wp2_with (first
         | (at_builtin
            refine wpList_append_lies _ rfl _ _ 65 rfl (w.heap.size + 2) 64 iR _ 1 24 Tryz.underlying65 HR.out HR0.out HR1.out HR2.out rfl (by decide) _ done.length (done.map AL.v) rfl HI12a.out ⟨wr.heap.size, 0, none⟩ 1 1 [.slice A1 cur.length c1'] rfl rfl (fun j x hx => World.news_of_block HN12.out j x hx) Hcv1.out (by omega) (by unfold maxLen; omega) (by omega) hbase _ rfl ?_
            intro g9 q9 w9 hown hgr hat hlt9
            have hs9 := (show Stp1 64 _ w9 from ⟨_, hgr, fun k e => own_typ HI12a.out e⟩)
            have HX9 := hid (hs9.fb HX12a.out (by decide))
            have HB9 := hid (HB12a.out.stp hs9 (by decide) (by decide) (by decide) (by decide) (HB12a.out.a.bel.grown hgr HB12a.out.a.bel.size (fun k e => by have := (HI12a.out.lt k e).1; omega)))
            have HO9 := hid hown
            clear y0 y1 y2 hlx hown hgr hat hlt9 hs9
            obtain ⟨y0, y1, y2⟩ := HX9.out.three
            have f2 := HX9.out.frozen 2
            have hlx := HX9.out.lt))
        have HB13 := hid (HB9.out.put (grown_set w9 bW (p := ⟨bW, 2, none⟩) rfl (.slice (some ⟨g9, 0, none⟩) (done.length + 1) q9)) HX12w.out HX9.out)
        have HQ13 := hid (And.intro (HX9.out.set 2 (.slice (some ⟨g9, 0, none⟩) (done.length + 1) q9)) ((stp_cell HX9.out 2 (.slice (some ⟨g9, 0, none⟩) (done.length + 1) q9)).own HO9.out (by decide)))
        have HI2 := hid (show ∃ (Iv' : Value) (done' : List AL), Iv' = .slice (some ⟨g9, 0, none⟩) (done.length + 1) q9 ∧ B10 w #[.int .i64 v, .slice (some adr) N dc, .slice (some adt) N tc, .slice (some adb) N bc] v N bW gS cS Iv' bl done' (w9.setCell ⟨bW, 2, none⟩ (.slice (some ⟨g9, 0, none⟩) (done.length + 1) q9)) ∧ done'.length = i + 1 ∧ Dn tl dl done' from by
         obtain ⟨A, c, e⟩ := Hcv.out
         have hC := HB13.out.oC
         rw [e] at hC
         refine ⟨_, done ++ [⟨A, cur.length, c, cur⟩], rfl, ⟨HB13.out.a, HQ13.out.1, HX12w.out, HB13.out.oB, ?_, fun r hr => ?_, ?_⟩, by rw [List.length_append, HDl.out]; rfl, fun j r hj => ?_⟩
         · rw [List.length_append, List.map_append]
           have := HQ13.out.2
           rw [e] at this
           exact this
         · rcases List.mem_append.1 hr with hr | hr
           · exact HB13.out.oD r hr
           · rw [List.mem_singleton.1 hr]; exact hC
         · have hv : ∀ r ∈ done, ∀ g, r.v.ownBlock = some g → (Value.slice A cur.length c).ownBlock = some g → False := fun r hr g h1 h2 => Hca.out r hr g (by rw [e]; exact h2) h1
           intro j k x y g hj hk h1 h2
           rcases Nat.lt_or_ge j done.length with a | a
           · rw [List.getElem?_append_left a] at hj
             rcases Nat.lt_or_ge k done.length with b | b
             · rw [List.getElem?_append_left b] at hk
               exact Hap.out j k x y g hj hk h1 h2
             · rw [List.getElem?_append_right b] at hk
               obtain rfl := List.mem_singleton.1 (List.mem_of_getElem? hk)
               exact (hv x (List.mem_of_getElem? hj) g h1 h2).elim
           · have ja := (List.getElem?_eq_some_iff.1 hj).1
             rw [List.length_append, List.length_singleton] at ja
             rw [List.getElem?_append_right a] at hj
             obtain rfl := List.mem_singleton.1 (List.mem_of_getElem? hj)
             rcases Nat.lt_or_ge k done.length with b | b
             · rw [List.getElem?_append_left b] at hk
               exact (hv y (List.mem_of_getElem? hk) g h2 h1).elim
             · have ka := (List.getElem?_eq_some_iff.1 hk).1
               rw [List.length_append, List.length_singleton] at ka
               omega
         · rcases Nat.lt_or_ge j done.length with a | a
           · rw [List.getElem?_append_left a] at hj
             exact HDn.out j r hj
           · have ja := (List.getElem?_eq_some_iff.1 hj).1
             rw [List.length_append, List.length_singleton] at ja
             rw [List.getElem?_append_right a] at hj
             obtain rfl := List.mem_singleton.1 (List.mem_of_getElem? hj)
             refine ⟨_, by rw [show j = i by have := HDl.out; omega]; exact Hr.out, ?_, rfl⟩
             show Cu tl rl rl.length cur
             rw [Hrl.out]; exact HCu.out)
        clear HB13 HQ13
        go_wp2_with fail
        go_roundw
        case rel => exact ⟨i + 1, by omega, by go_num, hid (by obtain ⟨Iv', done', -, h1, h2, h3⟩ := HI2.out; exact ⟨Iv', done', h1, h2, h3⟩)⟩
        case measure => simp [intOf]; omega
   · have e : i = N := by omega
     subst e
     obtain ⟨b0, b1, b2⟩ := HB1.out.wx.three
     obtain ⟨r0, r1, r2⟩ := HB1.out.a.rx.three
     have f0 := HB1.out.a.rx.frozen 0
     have f1 := HB1.out.a.rx.frozen 1
     have f2 := HB1.out.a.rx.frozen 2
     have hlr := HB1.out.a.rx.lt
     have hlb := HB1.out.wx.lt
     obtain ⟨A, c, eI⟩ := own_slice3 HB1.out.oI
     rw [HDl.out] at eI
     subst eI
     have Hfin := hid (HB1.out.fin (DA := some adr) (TA := some adt) (BA := some adb) (dc := dc) (tc := tc) (bc := bc) (dl := dl) (tl := tl) HDl.out HDn.out)
     clear HB1 HDl HDn
     go_wp2_with fail
     refine bodyPost_ret (v := .tuple #[.agg #[.int .i64 v, .slice (some ⟨gS, 0, none⟩) i cS, .slice A i c], .int .i64 0]) (by simp [results, Tryz.results70, go_sem, b0, b1, b2, r0, r1, r2]) rfl ?_
     exact Hfin.out
structure GSy (s : SY) (v N : Nat) : Prop where
 w : s.W = v
 v4 : v ≤ 4
 n1 : 1 ≤ N
 dn : s.D.n = N
 tn : s.T.n = N
 bn : s.B.n = N
 d : ∀ y ∈ s.D.l, gD N y
 t : ∀ y ∈ s.T.l, gT v y
 b : ∀ y ∈ s.B.l, gB v y
def RetSys (w : World) (T n : Nat) (e : Ending) (w' : World) : Prop :=
 ∃ (s : SY) (v N : Nat), e = .returned s.a ∧ SYok w' [some T] s ∧ GSy s v N ∧ N ≤ n ∧ Tape w' T ∧ w.grownBy w' (some T)
theorem insI_len (l : List Int) (n : Int) : (insI l n).length ≤ l.length + 1 := by
 induction l with
 | nil => simp [insI]
 | cons a l ih =>
   unfold insI
   repeat' split
   all_goals simp only [List.length_cons]; omega
theorem flat_lhc (l : List RH) : l.flatMap lhc = l.map RH.v := by
 induction l with
 | nil => rfl
 | cons a l ih => rw [List.flatMap_cons, List.map_cons, ih]; rfl
theorem Sg.fin {w u : World} {T bS W N n : Nat} {A1 A2 A3 : Option Addr} {c1 c2 c3 : Nat} {lD : List RH} {lB : List ZH} {lT : List FH} (h : Sg w T bS W N (.slice A1 N c1) (.slice A2 N c2) (.slice A3 N c3) lD lB lT u) (h1 : lD.length = N) (h2 : lB.length = N) (h3 : lT.length = N) (hW : W ≤ 4) (hN : 1 ≤ N) (hn : N ≤ n) (hn2 : n ≤ 100) :
 RetSys w T n (.returned (.agg #[.int .i64 W, .slice A1 N c1, .slice A3 N c3, .slice A2 N c2])) ((((u.setCell ⟨w.heap.size, 0, none⟩ (.int .i64 W)).setCell ⟨w.heap.size, 1, none⟩ (.slice A1 N c1)).setCell ⟨w.heap.size, 2, none⟩ (.slice A3 N c3)).setCell ⟨w.heap.size, 3, none⟩ (.slice A2 N c2)) := by
 have hT := h.hT; have hb := h.hb
 generalize hu' : (((u.setCell ⟨w.heap.size, 0, none⟩ (.int .i64 W)).setCell ⟨w.heap.size, 1, none⟩ (.slice A1 N c1)).setCell ⟨w.heap.size, 2, none⟩ (.slice A3 N c3)).setCell ⟨w.heap.size, 3, none⟩ (.slice A2 N c2) = u'
 have hgu : u.grownBy u' (some w.heap.size) := by
  rw [← hu']
  exact grown_trans (grown_trans (grown_trans (setCell_grown u ⟨w.heap.size, 0, none⟩ _) (setCell_grown _ ⟨w.heap.size, 1, none⟩ _)) (setCell_grown _ ⟨w.heap.size, 2, none⟩ _)) (setCell_grown _ ⟨w.heap.size, 3, none⟩ _)
 have hgw : w.grownBy u' (some T) := by
  rw [← hu']
  exact grown_set_new (grown_set_new (grown_set_new (grown_set_new h.gr (by simp) _) (by simp) _) (by simp) _) (by simp) _
 have htp : Tape u' T := h.tp.keep fun k hk => hgu.block k (by have := h.tp.lt; omega) (by simp; omega)
 have hG : Go2 u (exS T w.heap.size bS (.slice A1 N c1) (.slice A2 N c2) (.slice A3 N c3)) u' [some T] := Go2.grown hgu (.inr (by simp [exS])) fun k _ hm => by
  simp only [List.mem_cons, List.not_mem_nil, or_false] at hm
  simp only [exS, List.mem_cons]
  exact .inl hm
 have far : ∀ {v : Value} {ty k n : Nat} {xs : List Value}, u.ownsRow (bS + 1) ty k v n xs → u'.ownsRow (bS + 1) ty k v n xs := fun ho => ho.kept hgu (Sg.far ho (by omega))
 have nT : ∀ {v : Value} {ty k n : Nat} {xs : List Value}, u'.ownsRow (bS + 1) ty k v n xs → ∀ g, v.ownBlock = some g → some g ∉ [some T] := fun ho g hg hm => by
  have := (ho.lt g hg).1
  simp only [List.mem_cons, List.not_mem_nil, or_false, Option.some.injEq] at hm
  omega
 have oD := far h.oD
 have oB := far h.oB
 have oT := far h.oT
 rw [h1, flat_lhc] at oD
 rw [h2] at oB
 rw [h3] at oT
 exact ⟨⟨W, ⟨A1, N, c1, lD⟩, ⟨A3, N, c3, lT⟩, ⟨A2, N, c2, lB⟩⟩, W, N, rfl,
  ⟨⟨EAt.own oD (nT oD), h1, by show N ≤ _; omega, fun y hy => (h.eD y hy).go hG⟩, ⟨EAt.own oT (nT oT), h3, by show N ≤ _; omega, fun y hy => (h.eT y hy).go hG⟩, ⟨EAt.own oB (nT oB), h2, by show N ≤ _; omega, fun y hy => (h.eB y hy).go hG⟩⟩,
  ⟨rfl, hW, hN, rfl, rfl, rfl, h.okD, h.okT, h.okB⟩, hn, htp, hgw⟩
set_option maxHeartbeats 12800000 in
theorem system_any (T n : Nat) (w : World) (ht : Tape w T) (hn1 : 1 ≤ n) (hn : n ≤ 100) : Calls Tryz.prog 9 #[.pointer (some ⟨T, 0, none⟩), .int .i64 n] w (RetSys w T n) := by
 obtain ⟨iD, hi, hz0, hz1, hz2⟩ := info_parts info22
 have HD := hid hi; have HD0 := hid hz0; have HD1 := hid hz1; have HD2 := hid hz2
 clear hi hz0 hz1 hz2
 obtain ⟨iB, hi, hz0, hz1, hz2⟩ := info_parts info41
 have HB := hid hi; have HB0 := hid hz0; have HB1 := hid hz1; have HB2 := hid hz2
 clear hi hz0 hz1 hz2
 obtain ⟨iT, hi, hz0, hz1, hz2⟩ := info_parts info70
 have HT := hid hi; have HT0 := hid hz0; have HT1 := hid hz1; have HT2 := hid hz2
 clear hi hz0 hz1 hz2
 have Ht := hid ht
 have hTl := ht.lt
 clear ht
 have HR := hid (Fb.new w #[.int .i64 0, .slice none 0 0, .slice none 0 0, .slice none 0 0] 27)
 have Hb0 := hid ((Below.refl w.heap.size w).alloc (Nat.le_refl _) (.cells #[.int .i64 0, .slice none 0 0, .slice none 0 0, .slice none 0 0] 27))
 go_enter Tryz.func9, Tryz.ntmps9
 go_wp2_with fail
 refine (width_any T _ (Ht.out.alloc _)).mono ?_
 rintro e w3 ⟨v0, rfl, hv0, ht3, hg3⟩
 obtain ⟨W, hW⟩ : ∃ W : Nat, W = v0 % 5 := ⟨_, rfl⟩
 have hW4 : W ≤ 4 := by omega
 have hrem : (v0 : Int) % 5 = (W : Int) := by rw [hW]; omega
 clear hW
 have hbS : w.heap.size < w3.heap.size := by have := hg3.size; rw [World.size_alloc] at this; omega
 have H0 := hid (show ∀ N, Sg w T w3.heap.size W N (.slice none 0 0) (.slice none 0 0) (.slice none 0 0) [] [] [] (w3.alloc (.cells #[.int .i64 W, .slice none 0 0, .slice none 0 0, .slice none 0 0] 27)) from fun N =>
  ⟨ht3.alloc _, hTl, hbS, grown_trans (grown_trans (grown_of_below Hb0.out _) hg3) (grown_of_below ((Below.refl _ _).alloc (Nat.le_refl _) _) _), (HR.out.grown hg3 (by simp; omega)).alloc _, Fb.new _ _ _, World.ownsRow_nil _ _ _ _, World.ownsRow_nil _ _ _ _, World.ownsRow_nil _ _ _ _,
    by simp, by simp, by simp, by simp, by simp, by simp⟩)
 clear ht3 hg3 HR Hb0
 go_wp2_with fail
 clear hrem hv0
 generalize hbq : w3.heap.size = bS at *
 clear hbq
 generalize w3.alloc (.cells #[.int .i64 W, .slice none 0 0, .slice none 0 0, .slice none 0 0] 27) = w4 at *
 refine (next_any T n _ (H0.out 0).tp (by omega)).mono ?_
 rintro e w5 ⟨r, rfl, hr0, hr1, ht5, hg5, -⟩
 obtain ⟨N, hN⟩ : ∃ N : Nat, (1 : Int) + r = (N : Int) := ⟨(1 + r).toNat, by omega⟩
 have hN1 : 1 ≤ N := by omega
 have hNn : N ≤ n := by omega
 have H5 := hid ((H0.out N).step ht5 hg5)
 clear ht5 hg5 H0
 go_wp2_with fail
 clear hN hr0 hr1
 go_loopw [6, 7, 8, 9] (fun iv _ _ _ wr => ∃ (i : Nat) (D B Tr : Value) (lD : List RH) (lB : List ZH) (lT : List FH), i ≤ N ∧ iv = .int .i64 i ∧ (lD.length = i ∧ lB.length = i ∧ lT.length = i) ∧ Hid (Sg w T bS W N D B Tr lD lB lT wr)) (fun iv _ _ _ _ => N - (intOf iv).toNat)
 case atStart => exact ⟨0, _, _, _, [], [], [], by omega, rfl, ⟨rfl, rfl, rfl⟩, H5⟩
 case round =>
  clear H5
  obtain ⟨i, D, B, Tr, lD, lB, lT, hi, rfl, ⟨hlD, hlB, hlT⟩, HS0⟩ := hrel
  by_cases hlt : i < N
  · go_wp2_with fail
    refine (next_any T 4 _ HS0.out.tp (by omega)).mono ?_
    rintro e w6 ⟨k0, rfl, hk0, hk1, ht6, hg6, -⟩
    have HS6 := hid (HS0.out.step ht6 hg6)
    obtain ⟨k0, rfl⟩ := Int.eq_ofNat_of_zero_le hk0
    have hk3 : k0 ≤ 3 := by omega
    clear ht6 hg6 HS0 hk0 hk1
    go_wp2_with fail
    rename_i Kx hKx K6 Q6
    go_loopw [7, 8] (fun dv kv wr => ∃ (k : Nat) (d : RH), kv = .int .i64 k ∧ dv = .slice d.A d.n d.c ∧ d.n + k ≤ 3 ∧ d.n ≤ d.c ∧ Hid (RisP N d.l) ∧ Hid (RHok wr (exS T w.heap.size bS D B Tr) d) ∧ Hid (Sg w T bS W N D B Tr lD lB lT wr)) (fun _ kv _ => (intOf kv).toNat)
    case atStart => exact ⟨k0, ⟨none, 0, 0, []⟩, rfl, rfl, by show 0 + k0 ≤ 3; omega, Nat.le_refl _, hid (RisP.nil _), hid ⟨EAt.nil _ _ _, rfl, by show 0 ≤ _; omega⟩, HS6⟩
    case round =>
     clear HS6 hk3
     obtain ⟨k, d, rfl, rfl, hdk, hdc, Hris, Hd, HS⟩ := hrel
     by_cases hpos : 0 < k
     · go_wp2_with fail
       refine (next_any T N _ HS.out.tp (by omega)).mono ?_
       rintro e w7 ⟨q, rfl, hq0, hq1, ht7, hg7, -⟩
       have Hd7 := hid (HS.out.drow Hd.out ht7 hg7)
       have HS7 := hid (HS.out.step ht7 hg7)
       have Hq := hid (And.intro hq0 (show q < N by omega))
       clear ht7 hg7 HS Hd hq0 hq1
       go_wp2_with fail
       refine (insert_any d q (exS T w.heap.size bS D B Tr) _ Hd7.out hdc (by omega) HS7.out.exlt).mono ?_
       rintro e w8 ⟨y, rfl, hyl, hyo, hyc, hb8⟩
       have HS8 := hid (HS7.out.below hb8)
       have Hy := hid hyo
       have Hyr := hid (show RisP N y.l by rw [hyl]; exact insI_ris Hris.out Hq.out.1 Hq.out.2)
       have hyn : y.n + (k - 1) ≤ 3 := by
        have h1 := insI_len d.l q
        have h2 := Hd7.out.len
        have h3 := hyo.len
        rw [hyl] at h3
        omega
       clear hyl hyo hb8 HS7 Hd7
       go_wp2_with fail
       go_roundw
       case rel => exact ⟨k - 1, y, by first | go_num | (congr 1; omega), rfl, hyn, hyc, Hyr, Hy, HS8⟩
       case measure => simp [intOf]; omega
     · obtain rfl : k = 0 := by omega
       clear hpos
       have Hgd := hid (show gD N d from ⟨Hris.out, by omega⟩)
       clear Hris hdk hdc
       obtain ⟨b0, b1, b2, b3⟩ := HS.out.bx.four
       go_wp2_with fail
       refine (refEmpty_any W _ (by omega)).mono ?_
       rintro e w9 ⟨g9, rfl, hg9, hr9, hb9⟩
       rw [len_emp]
       have hb9a := (Below.refl w9.heap.size w9).alloc (Nat.le_refl _) (.cells #[.int .i64 W, .slice (some ⟨g9, 0, none⟩) (Bs.nw W) (Bs.nw W)] 49)
       have HSw := hid (HS.out.below hb9)
       have Hdw := hid (Hd.out.below hb9)
       have HS9 := hid (HSw.out.below hb9a)
       have Hz9 := hid (HS9.out.set (hr9.below hb9a hr9.lt) (Bs.fit_emp W))
       have Hbb9 := hid (Fb.new w9 #[.int .i64 W, .slice (some ⟨g9, 0, none⟩) (Bs.nw W) (Bs.nw W)] 49)
       have Hg9 := hid (grown_of_below hb9a (some T))
       have HbbB := hid (show B.ownBlock ≠ some w9.heap.size from fun e => by
        have := (HSw.out.oB.lt _ e).2
        omega)
       have hbbw : w9.heap.size ≤ w9.heap.size := Nat.le_refl _
       have hTbb : T < w9.heap.size := HSw.out.tp.lt
       clear hr9 hb9 hb9a b0 b1 b2 b3 HS Hd hg9
       go_upto_region 12 with fail
       generalize hbq : w9.heap.size = bb at HbbB Hbb9 hTbb ⊢
       clear hbbw
       have Hbq := hid (show w9.heap.size ≤ bb by omega)
       clear hbq
       generalize w9.alloc (.cells #[.int .i64 W, .slice (some ⟨g9, 0, none⟩) (Bs.nw W) (Bs.nw W)] 49) = w10 at *
       go_wp2_with fail
       refine (next_any T 3 _ HS9.out.tp (by omega)).mono ?_
       rintro e w11 ⟨r, rfl, hr0, hr1, ht11, hg11, -⟩
       have HS11 := hid (HS9.out.step ht11 hg11)
       have Hz11 := hid (HS9.out.zset Hz9.out ht11 hg11)
       have Hg11 := hid (grown_trans Hg9.out hg11)
       have Hbb11 := hid (Hbb9.out.grown hg11 fun e => (Hbb9.out.typ.ne HS9.out.tp.typ (by decide)) (Option.some.inj e))
       clear ht11 hg11 HS9 Hz9 hr1 Hg9 Hbb9
       go_upto_if 39 with fail
       go_cut [] (fun wd => ∃ b : ZH, Hid (Fb wd bb b.cs.toArray 49) ∧ Hid (ZHok wd (exS T w.heap.size bS D B Tr) b) ∧ Hid (gB W b) ∧ Hid (RHok wd (exS T w.heap.size bS D B Tr) d) ∧ Hid (Sg w T bS W N D B Tr lD lB lT wd))
       case first =>
        by_cases h1 : r = 1
        · have t : (r == 1) = true := by simp [h1]
          clear h1
          obtain ⟨b0, b1, b2, b3⟩ := HS11.out.bx.four
          go_wp2_with fail
          refine (set3_any T W _ HS11.out.tp (by omega)).mono ?_
          rintro e w12 ⟨g12, ws, rfl, hf12, hr12, -, ht12, hg12⟩
          have Hg12 := hid (grown_trans Hg11.out hg12)
          have Ht12 := hid ht12
          have Hr12 := hid hr12
          have Hbb12 := hid (Hbb11.out.grown hg12 fun e => (Hbb11.out.typ.ne HS11.out.tp.typ (by decide)) (Option.some.inj e))
          have Hf12 := hid hf12
          clear hr12 ht12 hg12 hf12 HS11 b0 b1 b2 b3
          obtain ⟨x0, x1⟩ := (show Fb w12 bb #[.int .i64 W, .slice (some ⟨g9, 0, none⟩) (Bs.nw W) (Bs.nw W)] 49 from Hbb12.out).two
          have f0 := Hbb12.out.frozen 0
          have f1 := Hbb12.out.frozen 1
          have fl := Hbb12.out.lt
          go_wp2_with fail
          go_meet
          have hne : g12 ≠ bb := Hr12.out.typ.ne Hbb12.out.typ (by decide)
          have hgf := grown_set_new (grown_set_new Hg12.out (p := ⟨bb, 0, none⟩) Hbq.out (.int .i64 W)) (p := ⟨bb, 1, none⟩) Hbq.out (.slice (some ⟨g12, 0, none⟩) (Bs.nw W) (Bs.nw W))
          have htf := (Ht12.out.far (p := ⟨bb, 0, none⟩) hTbb (.int .i64 W)).far (p := ⟨bb, 1, none⟩) hTbb (.slice (some ⟨g12, 0, none⟩) (Bs.nw W) (Bs.nw W))
          have hSf := HSw.out.step htf hgf
          have hrf := (Hr12.out.far (p := ⟨bb, 0, none⟩) hne (.int .i64 W)).far (p := ⟨bb, 1, none⟩) hne (.slice (some ⟨g12, 0, none⟩) (Bs.nw W) (Bs.nw W))
          exact ⟨⟨W, some ⟨g12, 0, none⟩, Bs.nw W, Bs.nw W, ws⟩, hid ((Hbb12.out.set 0 _).set 1 _), hid (hSf.set hrf Hf12.out), hid ⟨rfl, Hf12.out⟩, hid (HSw.out.drow Hdw.out htf hgf), hid hSf⟩
        · have t : (r == 1) = false := by simp [h1]
          clear h1
          go_wp2_with fail
          go_meet
          exact ⟨⟨W, some ⟨g9, 0, none⟩, Bs.nw W, Bs.nw W, Bs.emp W⟩, Hbb11, Hz11, hid ⟨rfl, Bs.fit_emp W⟩, hid (HSw.out.drow Hdw.out HS11.out.tp Hg11.out), HS11⟩
       case rest =>
        obtain ⟨b, Hbb, Hz, Hgb, Hd, HS⟩ := hcut
        clear HS11 Hz11 Hbb11 HSw Hdw Hg11 Hbq hTbb
        go_upto_region 14 with fail
        generalize wc = w1 at *
        have HL := hid (And.intro hlD (And.intro hlB hlT))
        have hl1 : lD.length < N := by omega
        have hl2 : lB.length < N := by omega
        have hl3 : lT.length < N := by omega
        clear hlD hlB hlT
        refine wp_region_factsG (sgG bS D B Tr lD lB lT) (sgF w1 T bS W D B Tr lD lB lT d b) (SgB w w1 T bS W D B Tr bb b) sgU (fun j u u' => Stp1 (tyO j) u u') Kx (fun _ _ h => h) 24 19 [some 44, some 45, some 46, some 47, some 48, some 49, some 50, some 51, some 52, some 53, some 54, some 55, some 56, some 57, some 58, some 59, some 60, some 61, some 62, none, some 63, none, some 64, none] (by kernel_rfl) (by kernel_rfl) (by kernel_rfl) (by kernel_rfl) (by kernel_rfl) (by kernel_rfl) (by decide)
         sgF_st ?bs ?gs sgG_st ?ar ?en
        case bs => exact (HS.out.sgB Hbb.out).below (Below.refl _ _).drew
        case gs => exact (HS.out.below (Below.refl _ _).drew).sgG
        case ar =>
         intro j o f u ho hi hB hGi hpre K hK
         match j, ho, hpre, hK with
         | 0, ho, hpre, hK =>
           obtain rfl := Option.some.inj ho
           refine wpOp_step rfl fun K' hK' => ?_
           simp only [putL, updV]
           go_simp
           have hz := hK' _ _ (hK (.pointer (some ⟨bS, 1, none⟩)) (u) (hB) (Stp1.refl _ _) (rfl))
           refine Eq.mp (congrArg (fun a => K' a (u)) ?_) hz
           kernel_rfl
         | 1, ho, hpre, hK =>
           obtain rfl := Option.some.inj ho
           obtain ⟨c0, c1, c2, c3⟩ := hB.bx.four
           have hlt := hB.bx.lt
           have e0 : f 0 = .pointer (some ⟨bS, 1, none⟩) := hpre ⟨0, .data⟩ (by simp) rfl (.inl rfl)
           obtain ⟨f, rfl⟩ := fixG f 0 _ e0
           clear e0
           refine wpOp_step rfl fun K' hK' => ?_
           simp only [putL, updV]
           go_simp
           have hz := hK' _ _ (hK (D) (u) (hB) (Stp1.refl _ _) (rfl))
           refine Eq.mp (congrArg (fun a => K' a (u)) ?_) hz
           kernel_rfl
         | 2, ho, hpre, hK =>
           obtain rfl := Option.some.inj ho
           refine wpOp_step rfl fun K' hK' => ?_
           simp only [putL, updV]
           go_simp
           have hz := hK' _ _ (hK (.slice d.A d.n d.c) (u) (hB) (Stp1.refl _ _) (rfl))
           refine Eq.mp (congrArg (fun a => K' a (u)) ?_) hz
           kernel_rfl
         | 3, ho, hpre, hK =>
           obtain rfl := Option.some.inj ho
           have e2 : f 2 = .slice d.A d.n d.c := hpre ⟨2, .data⟩ (by simp) rfl (.inl rfl)
           obtain ⟨f, rfl⟩ := fixG f 2 _ e2
           clear e2
           have hbw := (Below.refl u.heap.size u).alloc (Nat.le_refl _) (.cells #[.slice d.A d.n d.c] 22)
           refine wpOp_step rfl fun K' hK' => ?_
           simp only [putL, updV]
           go_simp
           have hz := hK' _ _ (hK (.slice (some ⟨u.heap.size, 0, none⟩) 1 1) (u.alloc (.cells #[.slice d.A d.n d.c] 22)) (hB.below hbw) (Stp1.below hbw) (⟨_, rfl, Fb.new _ _ _⟩))
           refine Eq.mp (congrArg (fun a => K' a (u.alloc (.cells #[.slice d.A d.n d.c] 22))) ?_) hz
           kernel_rfl
         | 4, ho, hpre, hK =>
           obtain rfl := Option.some.inj ho
           have e1 : f 1 = D := hpre ⟨1, .data⟩ (by simp) rfl (.inl rfl)
           obtain ⟨g, e3, hf⟩ : ∃ g, f 3 = .slice (some ⟨g, 0, none⟩) 1 1 ∧ Fb u g (lhc d).toArray 22 := hpre ⟨3, .data⟩ (by simp) rfl (.inr rfl)
           have ho : u.ownsRow (bS + 1) 22 1 D lD.length (lD.flatMap lhc) := hGi
           have hbb : D.ownBlock ≠ some bb := (by rcases own_noteq ho hB.bb.typ (by decide) with h | h; (rw [h]; simp); exact h)
           have hsz := hB.bx.lt
           obtain ⟨f, rfl⟩ := fixG f 1 _ e1
           rw [updV_ne _ _ (by decide)] at e3
           obtain ⟨f, rfl⟩ := fixG f 3 _ e3
           clear e1 e3
           refine wpOp_step rfl fun K' hK' => ?_
           refine step_append_lies _ rfl (.tmp 45) (.tmp 47) 23 rfl (bS + 1) 22 iD _ 1 24 Tryz.underlying23 HD.out HD0.out HD1.out HD2.out rfl (by decide) D lD.length (lD.flatMap lhc) (by kernel_rfl) ho ⟨g, 0, none⟩ 1 1 (lhc d) (by kernel_rfl) rfl (fun j x hx => World.news_of_block hf j x hx) (one_lhc d) (by omega) (by unfold maxLen; omega) (by omega) (by omega) _ rfl ?_
           intro g9 q9 w9 hown hgr hat _
           have hB9 := hB.app HS.out (.inl rfl) ho hbb hgr
           have hR9 : Stp1 (tyO 4) u w9 := ⟨_, hgr, fun g e => own_typ ho e⟩
           have hn9 := hat.imp (fun e => e) (fun e => show w1.heap.size ≤ g9 by rw [e]; exact hB.gx.size)
           have hz := hK' _ _ (hK (.slice (some ⟨g9, 0, none⟩) (lD.length + 1) q9) (w9) (hB9) (hR9) (⟨g9, q9, rfl, hown, hn9⟩))
           refine Eq.mp (congrArg (fun a => K' a (w9)) ?_) hz
           kernel_rfl
         | 5, ho, hpre, hK =>
           obtain rfl := Option.some.inj ho
           refine wpOp_step rfl fun K' hK' => ?_
           simp only [putL, updV]
           go_simp
           have hz := hK' _ _ (hK (.pointer (some ⟨bS, 3, none⟩)) (u) (hB) (Stp1.refl _ _) (rfl))
           refine Eq.mp (congrArg (fun a => K' a (u)) ?_) hz
           kernel_rfl
         | 6, ho, hpre, hK =>
           obtain rfl := Option.some.inj ho
           obtain ⟨c0, c1, c2, c3⟩ := hB.bx.four
           have hlt := hB.bx.lt
           have e5 : f 5 = .pointer (some ⟨bS, 3, none⟩) := hpre ⟨5, .data⟩ (by simp) rfl (.inl rfl)
           obtain ⟨f, rfl⟩ := fixG f 5 _ e5
           clear e5
           refine wpOp_step rfl fun K' hK' => ?_
           simp only [putL, updV]
           go_simp
           have hz := hK' _ _ (hK (B) (u) (hB) (Stp1.refl _ _) (rfl))
           refine Eq.mp (congrArg (fun a => K' a (u)) ?_) hz
           kernel_rfl
         | 7, ho, hpre, hK =>
           obtain rfl := Option.some.inj ho
           obtain ⟨c0, c1⟩ := (show Fb u bb #[.int .i64 b.W, .slice b.A b.n b.c] _ from hB.bb).two
           refine wpOp_step rfl fun K' hK' => ?_
           simp only [putL, updV]
           go_simp
           have hz := hK' _ _ (hK (.agg #[.int .i64 b.W, .slice b.A b.n b.c]) (u) (hB) (Stp1.refl _ _) (rfl))
           refine Eq.mp (congrArg (fun a => K' a (u)) ?_) hz
           kernel_rfl
         | 8, ho, hpre, hK =>
           obtain rfl := Option.some.inj ho
           have e7 : f 7 = .agg #[.int .i64 b.W, .slice b.A b.n b.c] := hpre ⟨7, .data⟩ (by simp) rfl (.inl rfl)
           obtain ⟨f, rfl⟩ := fixG f 7 _ e7
           clear e7
           have hbw := (Below.refl u.heap.size u).alloc (Nat.le_refl _) (.cells #[.int .i64 b.W, .slice b.A b.n b.c] 49)
           refine wpOp_step rfl fun K' hK' => ?_
           simp only [putL, updV]
           go_simp
           have hz := hK' _ _ (hK (.slice (some ⟨u.heap.size, 0, none⟩) 1 1) (u.alloc (.cells #[.int .i64 b.W, .slice b.A b.n b.c] 49)) (hB.below hbw) (Stp1.below hbw) (⟨_, rfl, Fb.new _ _ _⟩))
           refine Eq.mp (congrArg (fun a => K' a (u.alloc (.cells #[.int .i64 b.W, .slice b.A b.n b.c] 49))) ?_) hz
           kernel_rfl
         | 9, ho, hpre, hK =>
           obtain rfl := Option.some.inj ho
           have e6 : f 6 = B := hpre ⟨6, .data⟩ (by simp) rfl (.inl rfl)
           obtain ⟨g, e8, hf⟩ : ∃ g, f 8 = .slice (some ⟨g, 0, none⟩) 1 1 ∧ Fb u g b.cs.toArray 49 := hpre ⟨8, .data⟩ (by simp) rfl (.inr rfl)
           have ho : u.ownsRow (bS + 1) 49 2 B lB.length (lB.flatMap ZH.cs) := hGi
           have hbb : B.ownBlock ≠ some bb := HbbB.out
           have hsz := hB.bx.lt
           obtain ⟨f, rfl⟩ := fixG f 6 _ e6
           rw [updV_ne _ _ (by decide)] at e8
           obtain ⟨f, rfl⟩ := fixG f 8 _ e8
           clear e6 e8
           refine wpOp_step rfl fun K' hK' => ?_
           refine step_append_lies _ rfl (.tmp 50) (.tmp 52) 25 rfl (bS + 1) 49 iB _ 2 32 Tryz.underlying25 HB.out HB0.out HB1.out HB2.out rfl (by decide) B lB.length (lB.flatMap ZH.cs) (by kernel_rfl) ho ⟨g, 0, none⟩ 1 1 (b.cs) (by kernel_rfl) rfl (fun j x hx => World.news_of_block hf j x hx) (one_zcs b) (by omega) (by unfold maxLen; omega) (by omega) (by omega) _ rfl ?_
           intro g9 q9 w9 hown hgr hat _
           have hB9 := hB.app HS.out (.inr (.inl rfl)) ho hbb hgr
           have hR9 : Stp1 (tyO 9) u w9 := ⟨_, hgr, fun g e => own_typ ho e⟩
           have hn9 := hat.imp (fun e => e) (fun e => show w1.heap.size ≤ g9 by rw [e]; exact hB.gx.size)
           have hz := hK' _ _ (hK (.slice (some ⟨g9, 0, none⟩) (lB.length + 1) q9) (w9) (hB9) (hR9) (⟨g9, q9, rfl, hown, hn9⟩))
           refine Eq.mp (congrArg (fun a => K' a (w9)) ?_) hz
           kernel_rfl
         | 10, ho, hpre, hK =>
           obtain rfl := Option.some.inj ho
           refine wpOp_step rfl fun K' hK' => ?_
           simp only [putL, updV]
           go_simp
           have hz := hK' _ _ (hK (.pointer (some ⟨bS, 2, none⟩)) (u) (hB) (Stp1.refl _ _) (rfl))
           refine Eq.mp (congrArg (fun a => K' a (u)) ?_) hz
           kernel_rfl
         | 11, ho, hpre, hK =>
           obtain rfl := Option.some.inj ho
           obtain ⟨c0, c1, c2, c3⟩ := hB.bx.four
           have hlt := hB.bx.lt
           have e10 : f 10 = .pointer (some ⟨bS, 2, none⟩) := hpre ⟨10, .data⟩ (by simp) rfl (.inl rfl)
           obtain ⟨f, rfl⟩ := fixG f 10 _ e10
           clear e10
           refine wpOp_step rfl fun K' hK' => ?_
           simp only [putL, updV]
           go_simp
           have hz := hK' _ _ (hK (Tr) (u) (hB) (Stp1.refl _ _) (rfl))
           refine Eq.mp (congrArg (fun a => K' a (u)) ?_) hz
           kernel_rfl
         | 12, ho, hpre, hK =>
           obtain rfl := Option.some.inj ho
           refine wpOp_step rfl fun K' hK' => ?_
           simp only [putL, updV]
           go_simp
           have hz := hK' _ _ (hK (.pointer (some ⟨T, 0, none⟩)) (u) (hB) (Stp1.refl _ _) (rfl))
           refine Eq.mp (congrArg (fun a => K' a (u)) ?_) hz
           kernel_rfl
         | 13, ho, hpre, hK =>
           obtain rfl := Option.some.inj ho
           refine wpOp_step rfl fun K' hK' => ?_
           simp only [putL, updV]
           go_simp
           have hz := hK' _ _ (hK (.pointer (some ⟨bS, 0, none⟩)) (u) (hB) (Stp1.refl _ _) (rfl))
           refine Eq.mp (congrArg (fun a => K' a (u)) ?_) hz
           kernel_rfl
         | 14, ho, hpre, hK =>
           obtain rfl := Option.some.inj ho
           obtain ⟨c0, c1, c2, c3⟩ := hB.bx.four
           have hlt := hB.bx.lt
           have e13 : f 13 = .pointer (some ⟨bS, 0, none⟩) := hpre ⟨13, .data⟩ (by simp) rfl (.inl rfl)
           obtain ⟨f, rfl⟩ := fixG f 13 _ e13
           clear e13
           refine wpOp_step rfl fun K' hK' => ?_
           simp only [putL, updV]
           go_simp
           have hz := hK' _ _ (hK (.int .i64 (W : Int)) (u) (hB) (Stp1.refl _ _) (rfl))
           refine Eq.mp (congrArg (fun a => K' a (u)) ?_) hz
           kernel_rfl
         | 15, ho, hpre, hK =>
           obtain rfl := Option.some.inj ho
           have e12 : f 12 = .pointer (some ⟨T, 0, none⟩) := hpre ⟨12, .data⟩ (by simp) rfl (.inl rfl)
           have e14 : f 14 = .int .i64 (W : Int) := hpre ⟨14, .data⟩ (by simp) rfl (.inl rfl)
           obtain ⟨f, rfl⟩ := fixG f 12 _ e12
           rw [updV_ne _ _ (by decide)] at e14
           obtain ⟨f, rfl⟩ := fixG f 14 _ e14
           clear e12 e14
           refine wpOp_step rfl fun K' hK' => ?_
           simp only [putL, updV]
           go_simp
           go_at_call 39
           refine (transfer3_any T W _ hB.tp (by omega)).mono ?_
           rintro e u5 ⟨g1, g2, b0, C, k, q, gs, ks, cs, rfl, ⟨r1, f1, n1⟩, ⟨r2, f2, n2⟩, ⟨o3, -, l3⟩, hv, h12, ht, hg⟩
           have hFt : Ft u5 W ⟨⟨W, some ⟨g1, 0, none⟩, Bs.nw W, Bs.nw W, gs⟩, ⟨W, some ⟨g2, 0, none⟩, Bs.nw W, Bs.nw W, ks⟩, C, k, q, cs⟩ := ⟨⟨g1, rfl, r1⟩, ⟨g2, rfl, r2⟩, ⟨b0, o3⟩, ⟨rfl, f1, rfl⟩, ⟨rfl, f2, rfl⟩, ⟨l3, by show k ≤ 12; omega⟩, hv⟩
           have hB5 := hB.tape HS.out ht hg
           have hR5 : Stp1 (tyO 15) u u5 := ⟨_, hg, fun g e => by obtain rfl := Option.some.inj e; exact hB.tp.typ⟩
           clear r1 f1 n1 r2 f2 n2 o3 l3 hv h12 ht hg
           have hz := hK' _ _ (hK (.agg #[.int .i64 W, .slice (some ⟨g1, 0, none⟩) (Bs.nw W) (Bs.nw W), .int .i64 W, .slice (some ⟨g2, 0, none⟩) (Bs.nw W) (Bs.nw W), .slice C k q]) (u5) (hB5) (hR5) (⟨_, rfl, hFt⟩))
           refine Eq.mp (congrArg (fun a => K' a (u5)) ?_) hz
           kernel_rfl
         | 16, ho, hpre, hK =>
           obtain rfl := Option.some.inj ho
           obtain ⟨F, e15, hF⟩ : ∃ F : FH, f 15 = F.a ∧ Ft u W F := hpre ⟨15, .data⟩ (by simp) rfl (.inl rfl)
           have e15 : f 15 = .agg #[.int .i64 F.G.W, .slice F.G.A F.G.n F.G.c, .int .i64 F.K.W, .slice F.K.A F.K.n F.K.c, .slice F.C F.k F.q] := e15
           obtain ⟨f, rfl⟩ := fixG f 15 _ e15
           clear e15
           have hbw := (Below.refl u.heap.size u).alloc (Nat.le_refl _) (.cells #[.int .i64 F.G.W, .slice F.G.A F.G.n F.G.c, .int .i64 F.K.W, .slice F.K.A F.K.n F.K.c, .slice F.C F.k F.q] 61)
           refine wpOp_step rfl fun K' hK' => ?_
           simp only [putL, updV]
           go_simp
           have hz := hK' _ _ (hK (.slice (some ⟨u.heap.size, 0, none⟩) 1 1) (u.alloc (.cells #[.int .i64 F.G.W, .slice F.G.A F.G.n F.G.c, .int .i64 F.K.W, .slice F.K.A F.K.n F.K.c, .slice F.C F.k F.q] 61)) (hB.below hbw) (Stp1.below hbw) (⟨F, _, rfl, Fb.new _ _ _, (Stp1.below (t := tyO 16) hbw).ft hF (tyO_u 16) (tyO_c 16)⟩))
           refine Eq.mp (congrArg (fun a => K' a (u.alloc (.cells #[.int .i64 F.G.W, .slice F.G.A F.G.n F.G.c, .int .i64 F.K.W, .slice F.K.A F.K.n F.K.c, .slice F.C F.k F.q] 61))) ?_) hz
           kernel_rfl
         | 17, ho, hpre, hK =>
           obtain rfl := Option.some.inj ho
           have e11 : f 11 = Tr := hpre ⟨11, .data⟩ (by simp) rfl (.inl rfl)
           obtain ⟨F, g, e16, hf, hF⟩ : ∃ (F : FH) (g : Nat), f 16 = .slice (some ⟨g, 0, none⟩) 1 1 ∧ Fb u g F.cells.toArray 61 ∧ Ft u W F := hpre ⟨16, .data⟩ (by simp) rfl (.inr rfl)
           have ho : u.ownsRow (bS + 1) 61 5 Tr lT.length (lT.flatMap FH.cells) := hGi
           have hbb : Tr.ownBlock ≠ some bb := (by rcases own_noteq ho hB.bb.typ (by decide) with h | h; (rw [h]; simp); exact h)
           have hsz := hB.bx.lt
           obtain ⟨f, rfl⟩ := fixG f 11 _ e11
           rw [updV_ne _ _ (by decide)] at e16
           obtain ⟨f, rfl⟩ := fixG f 16 _ e16
           clear e11 e16
           refine wpOp_step rfl fun K' hK' => ?_
           refine step_append_lies _ rfl (.tmp 55) (.tmp 60) 24 rfl (bS + 1) 61 iT _ 5 88 Tryz.underlying24 HT.out HT0.out HT1.out HT2.out rfl (by decide) Tr lT.length (lT.flatMap FH.cells) (by kernel_rfl) ho ⟨g, 0, none⟩ 1 1 (F.cells) (by kernel_rfl) rfl (fun j x hx => World.news_of_block hf j x hx) (one_fcells F) (by omega) (by unfold maxLen; omega) (by omega) (by omega) _ rfl ?_
           intro g9 q9 w9 hown hgr hat _
           have hB9 := hB.app HS.out (.inr (.inr rfl)) ho hbb hgr
           have hR9 : Stp1 (tyO 17) u w9 := ⟨_, hgr, fun g e => own_typ ho e⟩
           have hn9 := hat.imp (fun e => e) (fun e => show w1.heap.size ≤ g9 by rw [e]; exact hB.gx.size)
           have hz := hK' _ _ (hK (.slice (some ⟨g9, 0, none⟩) (lT.length + 1) q9) (w9) (hB9) (hR9) (⟨F, g9, q9, rfl, hown, hn9, hR9.ft hF (tyO_u 17) (tyO_c 17)⟩))
           refine Eq.mp (congrArg (fun a => K' a (w9)) ?_) hz
           kernel_rfl
         | 18, ho, hpre, hK =>
           obtain rfl := Option.some.inj ho
           refine wpOp_step rfl fun K' hK' => ?_
           simp only [putL, updV]
           go_simp
           have hz := hK' _ _ (hK (.pointer (some ⟨bS, 1, none⟩)) (u) (hB) (Stp1.refl _ _) (rfl))
           refine Eq.mp (congrArg (fun a => K' a (u)) ?_) hz
           kernel_rfl
         | j + 19, ho, hpre, hK => exact absurd hi (by omega)
        case en =>
         intro Q2 hQ2 f u hB hF
         obtain ⟨g1, q1, e4, o1, n1⟩ : ∃ g q, f 4 = .slice (some ⟨g, 0, none⟩) (lD.length + 1) q ∧ u.ownsRow (bS + 1) 22 1 (.slice (some ⟨g, 0, none⟩) (lD.length + 1) q) (lD.length + 1) (lD.flatMap lhc ++ lhc d) ∧ (D.ownBlock = some g ∨ w1.heap.size ≤ g) := hF 4 (by decide) rfl
         obtain ⟨g2, q2, e9, o2, n2⟩ : ∃ g q, f 9 = .slice (some ⟨g, 0, none⟩) (lB.length + 1) q ∧ u.ownsRow (bS + 1) 49 2 (.slice (some ⟨g, 0, none⟩) (lB.length + 1) q) (lB.length + 1) (lB.flatMap ZH.cs ++ b.cs) ∧ (B.ownBlock = some g ∨ w1.heap.size ≤ g) := hF 9 (by decide) rfl
         obtain ⟨F, g3, q3, e17, o3, n3, hFt⟩ : ∃ (F : FH) (g q : Nat), f 17 = .slice (some ⟨g, 0, none⟩) (lT.length + 1) q ∧ u.ownsRow (bS + 1) 61 5 (.slice (some ⟨g, 0, none⟩) (lT.length + 1) q) (lT.length + 1) (lT.flatMap FH.cells ++ F.cells) ∧ (Tr.ownBlock = some g ∨ w1.heap.size ≤ g) ∧ Ft u W F := hF 17 (by decide) rfl
         have e18 : f 18 = .pointer (some ⟨bS, 1, none⟩) := hF 18 (by decide) rfl
         have HSn := hid (hB.done HS.out Hd.out Hz.out Hgd.out Hgb.out o1 n1 o2 n2 o3 n3 hFt)
         clear hF o1 n1 o2 n2 o3 n3 hFt
         show wpAny _ _ _ _ 5 (tailArr 24 19) _ _
         refine wpAny_inv (TlI (.slice (some ⟨g1, 0, none⟩) (lD.length + 1) q1) (.slice (some ⟨g2, 0, none⟩) (lB.length + 1) q2) (.slice (some ⟨g3, 0, none⟩) (lT.length + 1) q3) bS u) [some 44, some 45, some 46, some 47, some 48, some 49, some 50, some 51, some 52, some 53, some 54, some 55, some 56, some 57, some 58, some 59, some 60, some 61, some 62, none, some 63, none, some 64, none] _ (by kernel_rfl) (by kernel_rfl) (by kernel_rfl) ?hs ?he 5 (tailArr 24 19) f u (by kernel_rfl) ⟨by decide, e4, e9, e17, fun _ => e18, fun h => absurd h (by decide), fun h => absurd h (by decide), fun h => absurd h (by decide), fun h => absurd h (by decide), fun _ => rfl, fun h => absurd h (by decide), fun h => absurd h (by decide), fun h => absurd h (by decide)⟩ (by kernel_rfl)
         case hs =>
          clear HSn
          intro j o L f u' ho hL hdep hI K hK
          match j, ho, hL, hdep, hK with
          | 0, ho, hL, hdep, hK => exact absurd (hI.pre 0 (by decide)) (by rw [hL]; decide)
          | 1, ho, hL, hdep, hK => exact absurd (hI.pre 1 (by decide)) (by rw [hL]; decide)
          | 2, ho, hL, hdep, hK => exact absurd (hI.pre 2 (by decide)) (by rw [hL]; decide)
          | 3, ho, hL, hdep, hK => exact absurd (hI.pre 3 (by decide)) (by rw [hL]; decide)
          | 4, ho, hL, hdep, hK => exact absurd (hI.pre 4 (by decide)) (by rw [hL]; decide)
          | 5, ho, hL, hdep, hK => exact absurd (hI.pre 5 (by decide)) (by rw [hL]; decide)
          | 6, ho, hL, hdep, hK => exact absurd (hI.pre 6 (by decide)) (by rw [hL]; decide)
          | 7, ho, hL, hdep, hK => exact absurd (hI.pre 7 (by decide)) (by rw [hL]; decide)
          | 8, ho, hL, hdep, hK => exact absurd (hI.pre 8 (by decide)) (by rw [hL]; decide)
          | 9, ho, hL, hdep, hK => exact absurd (hI.pre 9 (by decide)) (by rw [hL]; decide)
          | 10, ho, hL, hdep, hK => exact absurd (hI.pre 10 (by decide)) (by rw [hL]; decide)
          | 11, ho, hL, hdep, hK => exact absurd (hI.pre 11 (by decide)) (by rw [hL]; decide)
          | 12, ho, hL, hdep, hK => exact absurd (hI.pre 12 (by decide)) (by rw [hL]; decide)
          | 13, ho, hL, hdep, hK => exact absurd (hI.pre 13 (by decide)) (by rw [hL]; decide)
          | 14, ho, hL, hdep, hK => exact absurd (hI.pre 14 (by decide)) (by rw [hL]; decide)
          | 15, ho, hL, hdep, hK => exact absurd (hI.pre 15 (by decide)) (by rw [hL]; decide)
          | 16, ho, hL, hdep, hK => exact absurd (hI.pre 16 (by decide)) (by rw [hL]; decide)
          | 17, ho, hL, hdep, hK => exact absurd (hI.pre 17 (by decide)) (by rw [hL]; decide)
          | 18, ho, hL, hdep, hK => exact absurd (hI.pre 18 (by decide)) (by rw [hL]; decide)
          | 19, ho, hL, hdep, hK =>
            obtain rfl := Option.some.inj ho
            have e18 : f 18 = .pointer (some ⟨bS, 1, none⟩) := hI.a18 (hdep ⟨18, .data⟩ (by simp) rfl)
            have e4 : f 4 = .slice (some ⟨g1, 0, none⟩) (lD.length + 1) q1 := hI.v4
            obtain ⟨hu, hI9⟩ := hI.op19 hL undef
            have hu := hu.symm
            subst hu
            obtain ⟨f, rfl⟩ := fixG f 18 _ e18
            rw [updV_ne _ _ (by decide)] at e4
            obtain ⟨f, rfl⟩ := fixG f 4 _ e4
            clear e18 e4
            have c9 := (hB.bx).cell 1
            have f9 := (hB.bx).frozen 1
            have l9 := (hB.bx).lt
            simp only [Array.getElem?_setIfInBounds_ne, ne_eq, Nat.reduceEqDiff, not_false_eq_true, List.getElem?_toArray, List.getElem?_cons_succ, List.getElem?_cons_zero] at c9
            refine wpOp_step rfl fun K' hK' => ?_
            simp only [putL, updV]
            go_simp
            have hz := hK' _ _ (hK (undef) (u.setCell ⟨bS, 1, none⟩ (.slice (some ⟨g1, 0, none⟩) (lD.length + 1) q1)) (hI9))
            refine Eq.mp (congrArg (fun a => K' a (u.setCell ⟨bS, 1, none⟩ (.slice (some ⟨g1, 0, none⟩) (lD.length + 1) q1))) ?_) hz
            kernel_rfl
          | 20, ho, hL, hdep, hK =>
            obtain rfl := Option.some.inj ho
            refine wpOp_step rfl fun K' hK' => ?_
            simp only [putL, updV]
            go_simp
            have hz := hK' _ _ (hK (.pointer (some ⟨bS, 3, none⟩)) (u') (hI.op20))
            refine Eq.mp (congrArg (fun a => K' a (u')) ?_) hz
            kernel_rfl
          | 21, ho, hL, hdep, hK =>
            obtain rfl := Option.some.inj ho
            have e20 : f 20 = .pointer (some ⟨bS, 3, none⟩) := hI.a20 (hdep ⟨20, .data⟩ (by simp) rfl)
            have e9 : f 9 = .slice (some ⟨g2, 0, none⟩) (lB.length + 1) q2 := hI.v9
            have l19 : L 19 = true := hdep ⟨19, .chain⟩ (by simp) rfl
            obtain ⟨hu, hI9⟩ := hI.op21 hL l19 undef
            have hu := hu.symm
            subst hu
            obtain ⟨f, rfl⟩ := fixG f 20 _ e20
            rw [updV_ne _ _ (by decide)] at e9
            obtain ⟨f, rfl⟩ := fixG f 9 _ e9
            clear e20 e9
            have c9 := (hB.bx.set 1 (.slice (some ⟨g1, 0, none⟩) (lD.length + 1) q1)).cell 3
            have f9 := (hB.bx.set 1 (.slice (some ⟨g1, 0, none⟩) (lD.length + 1) q1)).frozen 3
            have l9 := (hB.bx.set 1 (.slice (some ⟨g1, 0, none⟩) (lD.length + 1) q1)).lt
            simp only [Array.getElem?_setIfInBounds_ne, ne_eq, Nat.reduceEqDiff, not_false_eq_true, List.getElem?_toArray, List.getElem?_cons_succ, List.getElem?_cons_zero] at c9
            refine wpOp_step rfl fun K' hK' => ?_
            simp only [putL, updV]
            go_simp
            have hz := hK' _ _ (hK (undef) (((u.setCell ⟨bS, 1, none⟩ (.slice (some ⟨g1, 0, none⟩) (lD.length + 1) q1))).setCell ⟨bS, 3, none⟩ (.slice (some ⟨g2, 0, none⟩) (lB.length + 1) q2)) (hI9))
            refine Eq.mp (congrArg (fun a => K' a (((u.setCell ⟨bS, 1, none⟩ (.slice (some ⟨g1, 0, none⟩) (lD.length + 1) q1))).setCell ⟨bS, 3, none⟩ (.slice (some ⟨g2, 0, none⟩) (lB.length + 1) q2))) ?_) hz
            kernel_rfl
          | 22, ho, hL, hdep, hK =>
            obtain rfl := Option.some.inj ho
            refine wpOp_step rfl fun K' hK' => ?_
            simp only [putL, updV]
            go_simp
            have hz := hK' _ _ (hK (.pointer (some ⟨bS, 2, none⟩)) (u') (hI.op22))
            refine Eq.mp (congrArg (fun a => K' a (u')) ?_) hz
            kernel_rfl
          | 23, ho, hL, hdep, hK =>
            obtain rfl := Option.some.inj ho
            have e22 : f 22 = .pointer (some ⟨bS, 2, none⟩) := hI.a22 (hdep ⟨22, .data⟩ (by simp) rfl)
            have e17 : f 17 = .slice (some ⟨g3, 0, none⟩) (lT.length + 1) q3 := hI.v17
            have l21 : L 21 = true := hdep ⟨21, .chain⟩ (by simp) rfl
            obtain ⟨hu, hI9⟩ := hI.op23 hL l21 undef
            have hu := hu.symm
            subst hu
            obtain ⟨f, rfl⟩ := fixG f 22 _ e22
            rw [updV_ne _ _ (by decide)] at e17
            obtain ⟨f, rfl⟩ := fixG f 17 _ e17
            clear e22 e17
            have c9 := ((hB.bx.set 1 (.slice (some ⟨g1, 0, none⟩) (lD.length + 1) q1)).set 3 (.slice (some ⟨g2, 0, none⟩) (lB.length + 1) q2)).cell 2
            have f9 := ((hB.bx.set 1 (.slice (some ⟨g1, 0, none⟩) (lD.length + 1) q1)).set 3 (.slice (some ⟨g2, 0, none⟩) (lB.length + 1) q2)).frozen 2
            have l9 := ((hB.bx.set 1 (.slice (some ⟨g1, 0, none⟩) (lD.length + 1) q1)).set 3 (.slice (some ⟨g2, 0, none⟩) (lB.length + 1) q2)).lt
            simp only [Array.getElem?_setIfInBounds_ne, ne_eq, Nat.reduceEqDiff, not_false_eq_true, List.getElem?_toArray, List.getElem?_cons_succ, List.getElem?_cons_zero] at c9
            refine wpOp_step rfl fun K' hK' => ?_
            simp only [putL, updV]
            go_simp
            have hz := hK' _ _ (hK (undef) ((((u.setCell ⟨bS, 1, none⟩ (.slice (some ⟨g1, 0, none⟩) (lD.length + 1) q1)).setCell ⟨bS, 3, none⟩ (.slice (some ⟨g2, 0, none⟩) (lB.length + 1) q2))).setCell ⟨bS, 2, none⟩ (.slice (some ⟨g3, 0, none⟩) (lT.length + 1) q3)) (hI9))
            refine Eq.mp (congrArg (fun a => K' a ((((u.setCell ⟨bS, 1, none⟩ (.slice (some ⟨g1, 0, none⟩) (lD.length + 1) q1)).setCell ⟨bS, 3, none⟩ (.slice (some ⟨g2, 0, none⟩) (lB.length + 1) q2))).setCell ⟨bS, 2, none⟩ (.slice (some ⟨g3, 0, none⟩) (lT.length + 1) q3))) ?_) hz
            kernel_rfl
          | j + 24, ho, hL, hdep, hK => exact absurd (Array.getElem?_eq_some_iff.1 ho).1 (by simp)
         case he =>
          intro L f u' hall hI
          have hu := hI.w3 (hall 23 (by decide))
          subst hu
          clear hI hall hB e4 e9 e17 e18
          refine hQ2 _ _ ?_
          simp only [putL]
          go_simp
          refine hKx _ _ ?_
          obtain ⟨hlD, hlB, hlT⟩ := HL.out
          subst hlD
          have HN := hid (show (lD ++ [d]).length = lD.length + 1 ∧ (lB ++ [b]).length = lD.length + 1 ∧ (lT ++ [F]).length = lD.length + 1 from ⟨by simp, by simp [hlB], by simp [hlT]⟩)
          clear hlB hlT
          go_wp2_with fail
          go_roundw
          case rel => exact ⟨lD.length + 1, _, _, _, lD ++ [d], lB ++ [b], lT ++ [F], by omega, by go_num, HN.out, HSn⟩
          case measure => simp [intOf]; omega
  · obtain rfl : i = N := by omega
    obtain ⟨b0, b1, b2, b3⟩ := HS0.out.bx.four
    obtain ⟨r0, r1, r2, r3⟩ := HS0.out.rx.four
    have f0 := HS0.out.rx.frozen 0
    have f1 := HS0.out.rx.frozen 1
    have f2 := HS0.out.rx.frozen 2
    have f3 := HS0.out.rx.frozen 3
    have hlr := HS0.out.rx.lt
    obtain ⟨A1, c1, e1⟩ := own_slice3 HS0.out.oD
    obtain ⟨A2, c2, e2⟩ := own_slice3 HS0.out.oB
    obtain ⟨A3, c3, e3⟩ := own_slice3 HS0.out.oT
    rw [hlD] at e1
    rw [hlB] at e2
    rw [hlT] at e3
    subst e1
    subst e2
    subst e3
    have Hfin := hid (HS0.out.fin hlD hlB hlT hW4 hN1 hNn hn)
    clear hlD hlB hlT
    go_wp2_with fail
    refine bodyPost_ret (v := .agg #[.int .i64 W, .slice A1 i c1, .slice A3 i c3, .slice A2 i c2]) (by simp [results, Tryz.results9, go_sem, b0, b1, b2, b3, r0, r1, r2, r3]) rfl ?_
    exact Hfin.out
end Go.Proofs.YtopkmeceakjocaaGreat
namespace Go.Proofs.YtopkmeceakjocaaGreat
set_option maxRecDepth 20000
set_option linter.unusedVariables false
open Go.ChangeShapes Go.WideShapes Go.ChangeAt Go.RowKit
theorem tot_le {m : Nat} : ∀ {S : List (List Int)}, (∀ l ∈ S, l.length ≤ m) → tot S ≤ S.length * m := by
 intro S
 induction S with
 | nil => intro _; simp [tot]
 | cons l S ih =>
   intro h
   have h1 := h l List.mem_cons_self
   have h2 := ih fun x hx => h x (List.mem_cons_of_mem _ hx)
   have e : tot (l :: S) = l.length + tot S := by simp [tot]
   rw [e, List.length_cons, Nat.succ_mul]
   omega
theorem GSy.ok {s : SY} {v N : Nat} {w : World} {ex : List (Option Nat)} (h : GSy s v N) (hs : SYok w ex s) (hN : N ≤ 100) : SOk s v N := by
 have := h.v4
 refine ⟨h.w, by omega, h.n1, by omega, h.dn, h.tn, h.bn, fun y hy => (h.d y hy).1, ?_, fun y hy => (h.t y hy).1, h.b⟩
 have h1 : ∀ l ∈ s.D.v, l.length ≤ 3 := fun l hl => by
  obtain ⟨y, hy, rfl⟩ := List.mem_map.1 hl
  rw [(hs.d.all y hy).len]
  exact (h.d y hy).2
 have h2 := tot_le h1
 rw [LH.vlen, hs.d.len, h.dn] at h2
 omega
end Go.Proofs.YtopkmeceakjocaaGreat
namespace Go.Proofs.YtopkmeceakjocaaGreat
set_option maxRecDepth 20000
set_option linter.unusedVariables false
set_option linter.unusedSimpArgs false
open Go.ChangeShapes Go.WideShapes Go.ChangeAt Go.RowKit
theorem Lw.cellI {w u : World} {T bW b0 v N gI cI i : Nat} {Bv : Value} {bl : List ZH} {J : List AL} {r : AL} (h : Lw w T bW b0 v N Bv (.slice (some ⟨gI, 0, none⟩) N cI) bl J u) (hr : J[i]? = some r) : u.cell? ⟨gI, i, none⟩ = some (.slice r.A r.n r.c) ∧ gI < u.heap.size := by
 have h1 := h.oI.cells (g := gI) rfl i r.v (by rw [List.getElem?_map, hr]; rfl)
 rw [add_of] at h1
 exact ⟨h1, (h.oI.lt gI rfl).2⟩
theorem Lw.at {w u : World} {T bW b0 v N i j : Nat} {Bv Iv : Value} {bl : List ZH} {J : List AL} {r : AL} {a : AH} (h : Lw w T bW b0 v N Bv Iv bl J u) (hr : J[i]? = some r) (ha : r.l[j]? = some a) : ∃ g, r.A = some ⟨g, 0, none⟩ ∧ g < u.heap.size ∧ (∀ k, k < 6 → u.cell? ⟨g, j * 6 + k, none⟩ = (a.cells)[k]?) ∧ (∀ k, u.frozen? ⟨g, k, none⟩ = false) := by
 have ho := h.oD r (List.mem_of_getElem? hr)
 have hlen := h.len (List.mem_of_getElem? hr)
 have hl := (List.getElem?_eq_some_iff.1 ha).1
 rcases ho.2 with ⟨e, e2⟩ | ⟨g, cap, cur, e, hg, hc, h1, h2, h3, h4⟩
 · omega
 · unfold AL.v at e
   injection e with e1 e2 e3
   have hbk : r.v.ownBlock = some g := by unfold AL.v; rw [e1]; rfl
   refine ⟨g, e1, (ho.lt g hbk).2, fun k hk => ?_, fun k => by simp [World.frozen?, hc]⟩
   have hx := flat_cell AH.cells_len ha hk
   have hs : (a.cells)[k]? = some ((a.cells)[k]'(by rw [AH.cells_len]; exact hk)) := List.getElem?_eq_getElem _
   rw [hs] at hx
   have := ho.cells hbk _ _ hx
   rw [add_of] at this
   rw [this, hs]
def lwR (T : Nat) (j : Nat) (u u' : World) : Prop := if j = 12 then True else if j = 9 then (Tape u' T ∧ u.grownBy u' (some T)) else Below u.heap.size u u'
theorem lwR_of {T j : Nat} {u u' : World} (h : Below u.heap.size u u') (h1 : j ≠ 9) : lwR T j u u' := by
 unfold lwR
 repeat' split
 all_goals first | trivial | exact h | (exfalso; omega)
theorem lwR_bel {T j : Nat} {u u' : World} (h : lwR T j u u') (h1 : j ≠ 9 ) (h2 : j ≠ 12) : Below u.heap.size u u' := by
 unfold lwR at h
 rwa [if_neg h2, if_neg h1] at h
theorem lwR_t {T : Nat} {u u' : World} (h : Tape u' T) (hg : u.grownBy u' (some T)) : lwR T 9 u u' := by
 unfold lwR; rw [if_neg (by decide), if_pos rfl]; exact ⟨h, hg⟩
theorem lwR_w {T : Nat} (u u' : World) : lwR T 12 u u' := by unfold lwR; rw [if_pos rfl]; trivial
theorem Lw.R {w u u' : World} {T bW b0 v N j : Nat} {Bv Iv : Value} {bl : List ZH} {J : List AL} (h : Lw w T bW b0 v N Bv Iv bl J u) (hR : lwR T j u u') (h1 : j ≠ 12) : Lw w T bW b0 v N Bv Iv bl J u' := by
 by_cases e : j = 9
 · subst e
   unfold lwR at hR
   rw [if_neg (by decide), if_pos rfl] at hR
   exact h.tape hR.1 hR.2
 · exact h.below (lwR_bel hR e h1)
def lwF (w : World) (T bW b0 v N gI cI i j g : Nat) (Bv : Value) (bl : List ZH) (J : List AL) (rr : AL) (a : AH) : Nat → (Nat → Value) → World → Prop
 | 0, f, u => f 0 = .pointer (some ⟨bW, 2, none⟩)
 | 1, f, u => f 1 = .slice (some ⟨gI, 0, none⟩) N cI
 | 2, f, u => f 2 = .int .i64 (i : Int)
 | 3, f, u => f 3 = .pointer (some ⟨gI, i, none⟩)
 | 4, f, u => f 4 = .slice (some ⟨g, 0, none⟩) rr.n rr.c
 | 5, f, u => f 5 = .int .i64 (j : Int)
 | 6, f, u => f 6 = .pointer (some ⟨T, 0, none⟩)
 | 7, f, u => f 7 = .pointer (some ⟨bW, 0, none⟩)
 | 8, f, u => f 8 = .int .i64 (v : Int)
 | 9, f, u => ∃ F : FH, f 9 = .agg #[.int .i64 F.G.W, .slice F.G.A F.G.n F.G.c, .int .i64 F.K.W, .slice F.K.A F.K.n F.K.c, .slice F.C F.k F.q] ∧ Ft u v F
 | 10, f, u => f 10 = .pointer (some ⟨g, j * 6, none⟩)
 | 11, f, u => f 11 = .pointer (some ⟨g, j * 6 + 1, none⟩)
 | 12, f, u => ∃ F : FH, Lw w T bW b0 v N Bv (.slice (some ⟨gI, 0, none⟩) N cI) bl (J.set i ⟨rr.A, rr.n, rr.c, rr.l.set j (arcSet a F)⟩) u
 | _, _, _ => True
def lwU : Nat → Option Nat
 | 9 => some 12
 | _ => none
theorem lwF_st {w : World} {T bW b0 v N gI cI i j g : Nat} {Bv : Value} {bl : List ZH} {J : List AL} {rr : AL} {a : AH} {ops : Array Oper} (hq12_9 : ∀ j, (reachL ops 5 12).contains j = false → j ≠ 9)  (jx : Nat) (vx : Value) (u u' : World) (ix : Nat) (f : Nat → Value) (hR : lwR T jx u u') (hne : ix ≠ jx) (hu : lwU ix ≠ some jx) (hc : (reachL ops 5 ix).contains jx = false) (h : lwF w T bW b0 v N gI cI i j g Bv bl J rr a ix f u) : lwF w T bW b0 v N gI cI i j g Bv bl J rr a ix (updV f jx vx) u' := by
 match ix, hne, hu, hc, h with
 | 0, hne, hu, hc, h => exact (updV_ne f vx hne).trans h
 | 1, hne, hu, hc, h => exact (updV_ne f vx hne).trans h
 | 2, hne, hu, hc, h => exact (updV_ne f vx hne).trans h
 | 3, hne, hu, hc, h => exact (updV_ne f vx hne).trans h
 | 4, hne, hu, hc, h => exact (updV_ne f vx hne).trans h
 | 5, hne, hu, hc, h => exact (updV_ne f vx hne).trans h
 | 6, hne, hu, hc, h => exact (updV_ne f vx hne).trans h
 | 7, hne, hu, hc, h => exact (updV_ne f vx hne).trans h
 | 8, hne, hu, hc, h => exact (updV_ne f vx hne).trans h
 | 9, hne, hu, hc, h => obtain ⟨F, hf, i0⟩ := h; have hb := lwR_bel hR (fun e => hne e.symm) (fun e => hu (by rw [e]; rfl)); exact ⟨F, (updV_ne f vx hne).trans hf, (Stp1.below (t := 0) hb).ft i0 (by decide) (by decide)⟩
 | 10, hne, hu, hc, h => exact (updV_ne f vx hne).trans h
 | 11, hne, hu, hc, h => exact (updV_ne f vx hne).trans h
 | 12, hne, hu, hc, h => obtain ⟨F, i0⟩ := h; have hb := lwR_bel hR (hq12_9 jx hc) (fun e => hne e.symm); exact ⟨F, i0.below hb⟩
 | ix + 13, _, _, _, _ => trivial
theorem Cu.ms {tl : List FH} {l : List Int} {cur : List AH} (h : Cu tl l l.length cur) : cur.map AH.m = l := by
 apply List.ext_getElem?
 intro k
 by_cases hk : k < l.length
 · obtain ⟨a, ha, -⟩ := get_at h.len hk
   obtain ⟨m, h1, h2, -⟩ := h.at' k a ha
   rw [List.getElem?_map, ha, h1]
   exact congrArg some h2
 · rw [List.getElem?_eq_none (by rw [List.length_map, h.len]; omega), List.getElem?_eq_none (by omega)]
theorem Lw.start {w wA w1 w2 w3 w4 : World} {T v N gS cS c : Nat} {A : Option Addr} {s : SY} {J : List AL} (hTw : T < w.heap.size) (hR : Fb w2 w.heap.size ZR 67) (htp : Tape w2 T) (hgr : w.grownBy w2 (some T)) (hs : SYok w2 [some T] s) (hg : GSy s v N) (ho : SOk s v N)
 (oB : w3.ownsRow (w2.heap.size + 2) 49 2 (.slice (some ⟨gS, 0, none⟩) N cS) N (s.B.l.flatMap ZH.cs)) (oI : w3.ownsRow (w2.heap.size + 2) 64 1 (.slice A N c) N (J.map AL.v)) (oD : ∀ r ∈ J, w3.ownsRow (w2.heap.size + 2) 63 6 r.v r.n (r.l.flatMap AH.cells))
 (ap : ∀ (j k : Nat) (x y : AL) (g : Nat), J[j]? = some x → J[k]? = some y → x.v.ownBlock = some g → y.v.ownBlock = some g → j = k) (jl : J.length = N) (dn : Dn s.T.l s.D.l J) (hb3 : Below w2.heap.size w2 w3) :
 Lw w T w3.heap.size (w2.heap.size + 2) v N (.slice (some ⟨gS, 0, none⟩) N cS) (.slice A N c) s.B.l J (w3.alloc (.cells #[.int .i64 v, .slice (some ⟨gS, 0, none⟩) N cS, .slice A N c] 67)) := by
 have hba := (Below.refl w3.heap.size w3).alloc (Nat.le_refl _) (.cells #[.int .i64 v, .slice (some ⟨gS, 0, none⟩) N cS, .slice A N c] 67)
 have hb4 := below_step hb3 hba
 have hst : ∀ t, Stp1 t w3 (w3.alloc (.cells #[.int .i64 v, .slice (some ⟨gS, 0, none⟩) N cS, .slice A N c] 67)) := fun t => Stp1.below hba
 have hsz := hb3.size
 have hRl := hR.lt
 have hG : Go2 w2 [some w.heap.size, some T] (w3.alloc (.cells #[.int .i64 v, .slice (some ⟨gS, 0, none⟩) N cS, .slice A N c] 67)) (exL T w.heap.size w3.heap.size J) := Go2.grown (grown_of_below hb4 none) (.inl rfl) fun k hk hm => by
  unfold exL at hm
  simp only [List.mem_cons] at hm
  rcases hm with e | e | e | hm
  · rw [e]; simp
  · rw [e]; simp
  · have e := Option.some.inj e; omega
  · obtain ⟨r, hr, e⟩ := List.mem_map.1 hm
    have := ((oD r hr).lt k e).1
    omega
 have row : ∀ r ∈ J, ∃ y, y ∈ s.D.l ∧ Cu s.T.l y.l y.l.length r.l ∧ r.n = r.l.length := fun r hr => by
  obtain ⟨j, hj⟩ := List.mem_iff_getElem?.1 hr
  obtain ⟨y, h1, h2, h3⟩ := dn j r hj
  exact ⟨y, List.mem_of_getElem? h1, h2, h3⟩
 refine ⟨htp.below hb4 htp.lt, hR.below hb4 hR.lt, Fb.new w3 _ _, by omega, by omega, hTw, (hst 0).own oB (by decide), (hst 0).own oI (by decide), fun r hr => (hst 0).own (oD r hr) (by decide), ap, jl, grown_trans hgr (grown_of_below hb4 _), fun r hr a ha => ?_, fun z hz => ⟨((hs.b.all z hz).offR hR).go hG, ho.b z hz⟩, fun r hr => ?_⟩
 · obtain ⟨y, hy, hc, -⟩ := row r hr
   obtain ⟨k, hk⟩ := List.mem_iff_getElem?.1 ha
   obtain ⟨m, -, -, hm⟩ := hc.at' k a hk
   have hm := List.mem_of_getElem? hm
   exact ⟨((hs.t.all _ hm).offR hR).go hG, ho.t _ hm⟩
 · obtain ⟨y, hy, hc, hn⟩ := row r hr
   refine ⟨by rw [hc.ms]; exact (hg.d y hy).1, ?_⟩
   have h1 := (hg.d y hy).2
   have h2 := (hs.d.all y hy).len
   have h3 := hc.len
   omega
set_option maxHeartbeats 12800000 in
theorem lweb_any (T n : Nat) (w : World) (ht : Tape w T) (hn1 : 1 ≤ n) (hn : n ≤ 100) : Calls Tryz.prog 31 #[.pointer (some ⟨T, 0, none⟩), .int .i64 n] w (RetLwb w T n) := by
 have hTw := ht.lt
 have hba := (Below.refl w.heap.size w).alloc (Nat.le_refl _) (.cells ZR 67)
 have HT := hid (ht.below hba ht.lt)
 have HR := hid (Fb.new w ZR 67)
 have HG := hid (grown_of_below hba (some T))
 clear ht hba
 unfold ZR at *
 go_enter Tryz.func31, Tryz.ntmps31
 go_upto_region 1 with fail
 generalize w.alloc (.cells #[.int .i64 0, .slice none 0 0, .slice none 0 0] 67) = wA at *
 go_wp2_with fail
 refine (system_any T n wA HT.out hn1 hn).mono ?_
 rintro e w1 ⟨s, v, N, rfl, hs, hg, hN, htp, hgr⟩
 have ho := hg.ok hs (by omega)
 have hv4 := hg.v4
 have hN1 := hg.n1
 have hba := (Below.refl w1.heap.size w1).alloc (Nat.le_refl _) (.cells s.box 27)
 have hs2 := hs.below hba
 have HC := hid (web10_any s v N [some T] _ hs2 ho)
 have HRA := hid (show Fb (w1.alloc (.cells s.box 27)) w.heap.size ZR 67 from (HR.out.grown hgr (fun e => by have e := Option.some.inj e; omega)).below hba (Nat.lt_of_lt_of_le HR.out.lt hgr.size))
 have HS := hid (fun (w3 : World) (gS cS c : Nat) (A : Option Addr) (J : List AL) => Lw.start (wA := w) (w1 := w) (w4 := w) (w3 := w3) (gS := gS) (cS := cS) (c := c) (A := A) (J := J) hTw HRA.out (htp.below hba htp.lt) (grown_trans (grown_trans HG.out hgr) (grown_of_below hba _)) hs2 hg ho)
 have HBx := hid (Fb.new w1 s.box 27)
 clear hs hg htp hgr ho hba hs2 HT HR HG HRA
 unfold SY.a at HC ⊢
 unfold SY.box at *
 go_upto_region 2 with fail
 generalize w1.alloc (.cells #[.int .i64 s.W, .slice s.D.A s.D.n s.D.c, .slice s.T.A s.T.n s.T.c, .slice s.B.A s.B.n s.B.c] 27) = w2 at *
 generalize w1.heap.size = bx at *
 obtain ⟨c0, c1, c2, c3⟩ := HBx.out.four
 go_wp2_with fail
 refine HC.out.mono ?_
 rintro e w3 ⟨gS, cS, A, cI, J, rfl, oB, oI, oD, ap, jl, dn, hb3⟩
 obtain ⟨gI, rfl⟩ : ∃ gI, A = some ⟨gI, 0, none⟩ := by
  obtain ⟨gI, c, e, _⟩ := oI.form (by omega)
  injection e with e1
  exact ⟨gI, e1⟩
 have HL := hid (HS.out w3 gS cS cI _ J oB oI oD ap jl dn hb3)
 clear oB oI oD ap jl dn hb3 HS HC HBx c0 c1 c2 c3
 go_upto_region 3 with fail
 generalize (w3.alloc (.cells #[.int .i64 v, .slice (some ⟨gS, 0, none⟩) N cS, .slice (some ⟨gI, 0, none⟩) N cI] 67)) = w4 at *
 generalize w3.heap.size = bW at *
 generalize w2.heap.size + 2 = b0 at *
 generalize s.B.l = bl at *
 generalize hbv : (Value.slice (some ⟨gS, 0, none⟩) N cS) = Bv at *
 have Hbv := hid hbv
 clear hbv
 go_wp2_with fail
 go_loopw [8] (fun iv wr => ∃ (i : Nat) (J : List AL), i ≤ N ∧ iv = .int .i64 i ∧ Hid (Lw w T bW b0 v N Bv (.slice (some ⟨gI, 0, none⟩) N cI) bl J wr)) (fun iv _ => N - (intOf iv).toNat)
 case atStart => exact ⟨0, J, by omega, rfl, HL⟩
 case round =>
  clear HL J
  obtain ⟨i, J, hi, rfl, HL⟩ := hrel
  obtain ⟨x0, x1, x2⟩ := HL.out.wx.three
  by_cases hlt : i < N
  · obtain ⟨r, hr, -⟩ := get_at HL.out.jl hlt
    have HI0 := hid (show ∃ r' : AL, J[i]? = some r' ∧ r'.n = r.n from ⟨r, hr, rfl⟩)
    have hrn : r.n ≤ 3 := (HL.out.rk r (List.mem_of_getElem? hr)).2
    generalize r.n = rn at *
    clear hr
    have n0 : (0 : Int) ≤ i := by omega
    have n1 : (i : Int) < N := by omega
    have n2 : (i : Int).toNat = i := by omega
    go_wp2_with fail
    clear x0 x1 x2
    go_loopw [9] (fun jv wr => ∃ (j : Nat) (J : List AL), j ≤ rn ∧ jv = .int .i64 j ∧ Hid (∃ r' : AL, J[i]? = some r' ∧ r'.n = rn) ∧ Hid (Lw w T bW b0 v N Bv (.slice (some ⟨gI, 0, none⟩) N cI) bl J wr)) (fun jv _ => rn - (intOf jv).toNat)
    case atStart => exact ⟨0, J, by omega, rfl, HI0, HL⟩
    case round =>
     clear HL HI0 J
     obtain ⟨j, J, hj, rfl, HI, HL⟩ := hrel
     obtain ⟨rr, hrr, hrn2⟩ := HI.out
     subst hrn2
     have Hr := hid hrr
     clear hrr HI
     obtain ⟨x0, x1, x2⟩ := HL.out.wx.three
     obtain ⟨y0, hgl⟩ := HL.out.cellI Hr.out
     by_cases hjl : j < rr.n
     · obtain ⟨a, ha, -⟩ := get_at (HL.out.len (List.mem_of_getElem? Hr.out)) hjl
       have Ha := hid ha
       clear ha
       obtain ⟨g, hA, -, -, -⟩ := HL.out.at Hr.out Ha.out
       have HA := hid hA
       rw [hA] at y0
       clear hA
       go_wp2_with fail
       refine (next_any T 2 wr HL.out.tp (by omega)).mono ?_
       rintro e wa ⟨q, rfl, h0, h1, hta, hga, -⟩
       have HLa := hid (HL.out.tape hta hga)
       clear hta hga HL x0 x1 x2 y0 hgl
       by_cases hq : q = 1
       · subst hq
         go_upto_region 10 with fail
         rename_i Kx hKx
         have HL := HLa
         clear HLa
         refine wp_region_factsI (fun c u => (c = 1 ∨ c = 4 ∨ c = 8 ∨ c = 9 ∨ c = 12) → Lw w T bW b0 v N Bv (.slice (some ⟨gI, 0, none⟩) N cI) bl J u) (lwF w T bW b0 v N gI cI i j g Bv bl J rr a) (fun _ => True) lwU (lwR T) Kx (fun _ _ h => h) 13 13 (some 38 :: some 39 :: some 40 :: some 41 :: some 42 :: some 43 :: some 44 :: some 45 :: some 46 :: some 47 :: some 48 :: some 49 :: none :: []) (by kernel_rfl) (by kernel_rfl) (by kernel_rfl) (by kernel_rfl) (by kernel_rfl) (by kernel_rfl) (by decide)
          ?st trivial ?gb ?gs ?ar ?en
         case st => exact fun jx vx u u' ix f hR hne hu hc h => lwF_st (fun j h e => by subst e; exact Bool.false_ne_true (h.symm.trans (by kernel_rfl))) jx vx u u' ix f hR hne hu hc h
         case gb => exact fun c _ => HL.out.below (Below.refl _ _).drew
         case gs =>
          intro j u u' c hR hne hnr hG hc
          have h12 : j ≠ 12 := by
           rintro rfl
           rcases hc with rfl | rfl | rfl | rfl | rfl
           all_goals first | exact hne rfl | exact Bool.false_ne_true (hnr.symm.trans (by kernel_rfl))
          exact (hG hc).R hR h12
         case ar =>
          intro jq o f u ho hi hB hG hpre K hK
          match jq, ho, hG, hpre, hK with
          | 0, ho, hG, hpre, hK =>
            obtain rfl := Option.some.inj ho
            refine wpOp_step rfl fun K' hK' => ?_
            simp only [putL, updV]
            go_simp
            have hz := hK' _ _ (hK (.pointer (some ⟨bW, 2, none⟩)) (u) (hB) (lwR_of (Below.refl _ _) (by decide)) (rfl))
            refine Eq.mp (congrArg (fun act => K' act (u)) ?_) hz
            kernel_rfl
          | 1, ho, hG, hpre, hK =>
            obtain rfl := Option.some.inj ho
            obtain ⟨x0, x1, x2⟩ := (hG (by omega)).wx.three
            have hl := (hG (by omega)).wx.lt
            have e0 : f 0 = .pointer (some ⟨bW, 2, none⟩) := hpre ⟨0, .data⟩ (by simp) rfl (.inl rfl)
            obtain ⟨f, rfl⟩ := fixG f 0 _ e0
            clear e0
            refine wpOp_step rfl fun K' hK' => ?_
            simp only [putL, updV]
            go_simp
            have hz := hK' _ _ (hK (.slice (some ⟨gI, 0, none⟩) N cI) (u) (hB) (lwR_of (Below.refl _ _) (by decide)) (rfl))
            refine Eq.mp (congrArg (fun act => K' act (u)) ?_) hz
            kernel_rfl
          | 2, ho, hG, hpre, hK =>
            obtain rfl := Option.some.inj ho
            refine wpOp_step rfl fun K' hK' => ?_
            simp only [putL, updV]
            go_simp
            have hz := hK' _ _ (hK (.int .i64 (i : Int)) (u) (hB) (lwR_of (Below.refl _ _) (by decide)) (rfl))
            refine Eq.mp (congrArg (fun act => K' act (u)) ?_) hz
            kernel_rfl
          | 3, ho, hG, hpre, hK =>
            obtain rfl := Option.some.inj ho
            have k0 : (0 : Int) ≤ i := by omega
            have k1 : (i : Int) < N := by omega
            have k2 : (i : Int).toNat = i := by omega
            have e1 : f 1 = .slice (some ⟨gI, 0, none⟩) N cI := hpre ⟨1, .data⟩ (by simp) rfl (.inl rfl)
            have e2 : f 2 = .int .i64 (i : Int) := hpre ⟨2, .data⟩ (by simp) rfl (.inl rfl)
            obtain ⟨f, rfl⟩ := fixG f 1 _ e1
            rw [updV_ne _ _ (by decide)] at e2
            obtain ⟨f, rfl⟩ := fixG f 2 _ e2
            clear e1 e2
            refine wpOp_step rfl fun K' hK' => ?_
            simp only [putL, updV]
            go_simp
            have hz := hK' _ _ (hK (.pointer (some ⟨gI, i, none⟩)) (u) (hB) (lwR_of (Below.refl _ _) (by decide)) (rfl))
            refine Eq.mp (congrArg (fun act => K' act (u)) ?_) hz
            kernel_rfl
          | 4, ho, hG, hpre, hK =>
            obtain rfl := Option.some.inj ho
            obtain ⟨y0, hl⟩ := (hG (by omega)).cellI Hr.out
            rw [HA.out] at y0
            have e3 : f 3 = .pointer (some ⟨gI, i, none⟩) := hpre ⟨3, .data⟩ (by simp) rfl (.inl rfl)
            obtain ⟨f, rfl⟩ := fixG f 3 _ e3
            clear e3
            refine wpOp_step rfl fun K' hK' => ?_
            simp only [putL, updV]
            go_simp
            have hz := hK' _ _ (hK (.slice (some ⟨g, 0, none⟩) rr.n rr.c) (u) (hB) (lwR_of (Below.refl _ _) (by decide)) (rfl))
            refine Eq.mp (congrArg (fun act => K' act (u)) ?_) hz
            kernel_rfl
          | 5, ho, hG, hpre, hK =>
            obtain rfl := Option.some.inj ho
            refine wpOp_step rfl fun K' hK' => ?_
            simp only [putL, updV]
            go_simp
            have hz := hK' _ _ (hK (.int .i64 (j : Int)) (u) (hB) (lwR_of (Below.refl _ _) (by decide)) (rfl))
            refine Eq.mp (congrArg (fun act => K' act (u)) ?_) hz
            kernel_rfl
          | 6, ho, hG, hpre, hK =>
            obtain rfl := Option.some.inj ho
            refine wpOp_step rfl fun K' hK' => ?_
            simp only [putL, updV]
            go_simp
            have hz := hK' _ _ (hK (.pointer (some ⟨T, 0, none⟩)) (u) (hB) (lwR_of (Below.refl _ _) (by decide)) (rfl))
            refine Eq.mp (congrArg (fun act => K' act (u)) ?_) hz
            kernel_rfl
          | 7, ho, hG, hpre, hK =>
            obtain rfl := Option.some.inj ho
            refine wpOp_step rfl fun K' hK' => ?_
            simp only [putL, updV]
            go_simp
            have hz := hK' _ _ (hK (.pointer (some ⟨bW, 0, none⟩)) (u) (hB) (lwR_of (Below.refl _ _) (by decide)) (rfl))
            refine Eq.mp (congrArg (fun act => K' act (u)) ?_) hz
            kernel_rfl
          | 8, ho, hG, hpre, hK =>
            obtain rfl := Option.some.inj ho
            obtain ⟨x0, x1, x2⟩ := (hG (by omega)).wx.three
            have hl := (hG (by omega)).wx.lt
            have e7 : f 7 = .pointer (some ⟨bW, 0, none⟩) := hpre ⟨7, .data⟩ (by simp) rfl (.inl rfl)
            obtain ⟨f, rfl⟩ := fixG f 7 _ e7
            clear e7
            refine wpOp_step rfl fun K' hK' => ?_
            simp only [putL, updV]
            go_simp
            have hz := hK' _ _ (hK (.int .i64 (v : Int)) (u) (hB) (lwR_of (Below.refl _ _) (by decide)) (rfl))
            refine Eq.mp (congrArg (fun act => K' act (u)) ?_) hz
            kernel_rfl
          | 9, ho, hG, hpre, hK =>
            obtain rfl := Option.some.inj ho
            have e6 : f 6 = .pointer (some ⟨T, 0, none⟩) := hpre ⟨6, .data⟩ (by simp) rfl (.inl rfl)
            have e8 : f 8 = .int .i64 (v : Int) := hpre ⟨8, .data⟩ (by simp) rfl (.inl rfl)
            obtain ⟨f, rfl⟩ := fixG f 6 _ e6
            rw [updV_ne _ _ (by decide)] at e8
            obtain ⟨f, rfl⟩ := fixG f 8 _ e8
            clear e6 e8
            refine wpOp_step rfl fun K' hK' => ?_
            simp only [putL, updV]
            go_simp
            go_at_call 39
            refine (transfer3_any T v u (hG (by omega)).tp (by omega)).mono ?_
            rintro e u5 ⟨g1, g2, b1, C, k, q, gs, ks, cs, rfl, ⟨r1, f1, n1⟩, ⟨r2, f2, n2⟩, ⟨o3, -, l3⟩, hv, h12, ht, hg⟩
            have hFt : Ft u5 v ⟨⟨v, some ⟨g1, 0, none⟩, Bs.nw v, Bs.nw v, gs⟩, ⟨v, some ⟨g2, 0, none⟩, Bs.nw v, Bs.nw v, ks⟩, C, k, q, cs⟩ := ⟨⟨g1, rfl, r1⟩, ⟨g2, rfl, r2⟩, ⟨b1, o3⟩, ⟨rfl, f1, rfl⟩, ⟨rfl, f2, rfl⟩, ⟨l3, by show k ≤ 12; omega⟩, hv⟩
            clear r1 f1 n1 r2 f2 n2 o3 l3 hv h12
            have hz := hK' _ _ (hK (.agg #[.int .i64 v, .slice (some ⟨g1, 0, none⟩) (Bs.nw v) (Bs.nw v), .int .i64 v, .slice (some ⟨g2, 0, none⟩) (Bs.nw v) (Bs.nw v), .slice C k q]) (u5) (trivial) (lwR_t ht hg) (⟨_, rfl, hFt⟩))
            refine Eq.mp (congrArg (fun act => K' act (u5)) ?_) hz
            kernel_rfl
          | 10, ho, hG, hpre, hK =>
            obtain rfl := Option.some.inj ho
            have k0 : (0 : Int) ≤ j := by omega
            have k1 : (j : Int) < rr.n := by omega
            have k2 : (j : Int).toNat = j := by omega
            have e4 : f 4 = .slice (some ⟨g, 0, none⟩) rr.n rr.c := hpre ⟨4, .data⟩ (by simp) rfl (.inl rfl)
            have e5 : f 5 = .int .i64 (j : Int) := hpre ⟨5, .data⟩ (by simp) rfl (.inl rfl)
            obtain ⟨f, rfl⟩ := fixG f 4 _ e4
            rw [updV_ne _ _ (by decide)] at e5
            obtain ⟨f, rfl⟩ := fixG f 5 _ e5
            clear e4 e5
            refine wpOp_step rfl fun K' hK' => ?_
            simp only [putL, updV]
            go_simp
            have hz := hK' _ _ (hK (.pointer (some ⟨g, j * 6, none⟩)) (u) (hB) (lwR_of (Below.refl _ _) (by decide)) (rfl))
            refine Eq.mp (congrArg (fun act => K' act (u)) ?_) hz
            kernel_rfl
          | 11, ho, hG, hpre, hK =>
            obtain rfl := Option.some.inj ho
            have e10 : f 10 = .pointer (some ⟨g, j * 6, none⟩) := hpre ⟨10, .data⟩ (by simp) rfl (.inl rfl)
            obtain ⟨f, rfl⟩ := fixG f 10 _ e10
            clear e10
            refine wpOp_step rfl fun K' hK' => ?_
            simp only [putL, updV]
            go_simp
            have hz := hK' _ _ (hK (.pointer (some ⟨g, j * 6 + 1, none⟩)) (u) (hB) (lwR_of (Below.refl _ _) (by decide)) (rfl))
            refine Eq.mp (congrArg (fun act => K' act (u)) ?_) hz
            kernel_rfl
          | 12, ho, hG, hpre, hK =>
            obtain rfl := Option.some.inj ho
            have e11 : f 11 = .pointer (some ⟨g, j * 6 + 1, none⟩) := hpre ⟨11, .data⟩ (by simp) rfl (.inl rfl)
            obtain ⟨F, e9, hF⟩ : ∃ F : FH, f 9 = .agg #[.int .i64 F.G.W, .slice F.G.A F.G.n F.G.c, .int .i64 F.K.W, .slice F.K.A F.K.n F.K.c, .slice F.C F.k F.q] ∧ Ft u v F := hpre ⟨9, .data⟩ (by simp) rfl (.inr rfl)
            obtain ⟨f, rfl⟩ := fixG f 11 _ e11
            rw [updV_ne _ _ (by decide)] at e9
            obtain ⟨f, rfl⟩ := fixG f 9 _ e9
            clear e11 e9
            have hlw := hG (by omega)
            obtain ⟨g', hA', hgl, hcc, hff⟩ := hlw.at Hr.out Ha.out
            rw [HA.out] at hA'
            obtain rfl : g = g' := by injection hA' with h1; injection h1
            clear hA'
            have x1 := hcc 1 (by decide)
            have x2 : u.cell? ⟨g, j * 6 + 1 + 1, none⟩ = _ := hcc 2 (by decide)
            have x3 : u.cell? ⟨g, j * 6 + 1 + 2, none⟩ = _ := hcc 3 (by decide)
            have x4 : u.cell? ⟨g, j * 6 + 1 + 3, none⟩ = _ := hcc 4 (by decide)
            have x5 : u.cell? ⟨g, j * 6 + 1 + 4, none⟩ = _ := hcc 5 (by decide)
            have f1 := hff (j * 6 + 1)
            have f2 := hff (j * 6 + 1 + 1)
            have f3 := hff (j * 6 + 1 + 2)
            have f4 := hff (j * 6 + 1 + 3)
            have f5 := hff (j * 6 + 1 + 4)
            simp only [AH.cells, List.getElem?_cons_succ, List.getElem?_cons_zero] at x1 x2 x3 x4 x5
            have hnew := hlw.put Hr.out Ha.out HA.out hF
            clear hcc hff
            refine wpOp_step rfl fun K' hK' => ?_
            simp only [putL, updV]
            go_simp
            have hz := hK' _ _ (hK (undef) (((((u.setCell ⟨g, j * 6 + 1, none⟩ (.int .i64 F.G.W)).setCell ⟨g, j * 6 + 1 + 1, none⟩ (.slice F.G.A F.G.n F.G.c)).setCell ⟨g, j * 6 + 1 + 2, none⟩ (.int .i64 F.K.W)).setCell ⟨g, j * 6 + 1 + 3, none⟩ (.slice F.K.A F.K.n F.K.c)).setCell ⟨g, j * 6 + 1 + 4, none⟩ (.slice F.C F.k F.q)) (trivial) (lwR_w _ _) (⟨F, hnew⟩))
            refine Eq.mp (congrArg (fun act => K' act (((((u.setCell ⟨g, j * 6 + 1, none⟩ (.int .i64 F.G.W)).setCell ⟨g, j * 6 + 1 + 1, none⟩ (.slice F.G.A F.G.n F.G.c)).setCell ⟨g, j * 6 + 1 + 2, none⟩ (.int .i64 F.K.W)).setCell ⟨g, j * 6 + 1 + 3, none⟩ (.slice F.K.A F.K.n F.K.c)).setCell ⟨g, j * 6 + 1 + 4, none⟩ (.slice F.C F.k F.q))) ?_) hz
            kernel_rfl
          | jq + 13, ho, hG, hpre, hK => exact absurd hi (by omega)
         case en =>
          intro Q2 hQ2 f u hB hF
          obtain ⟨F, hnew⟩ : ∃ F : FH, Lw w T bW b0 v N Bv (.slice (some ⟨gI, 0, none⟩) N cI) bl (J.set i ⟨rr.A, rr.n, rr.c, rr.l.set j (arcSet a F)⟩) u := hF 12 (by decide) rfl
          have HL2 := hid hnew
          clear hF hnew hB HL
          show wpAny _ _ _ _ 0 (tailArr 13 13) _ _
          refine ⟨by kernel_rfl, hQ2 _ _ (hKx _ _ ?_)⟩
          simp only [putL, updV]
          have HI2 := hid (show ∃ r' : AL, (J.set i ⟨rr.A, rr.n, rr.c, rr.l.set j (arcSet a F)⟩)[i]? = some r' ∧ r'.n = rr.n from ⟨_, List.getElem?_set_self (List.getElem?_eq_some_iff.1 Hr.out).1, rfl⟩)
          go_wp2_with fail
          go_roundw
          case rel => exact ⟨j + 1, _, by omega, by go_num, HI2, HL2⟩
          case measure => simp [intOf]; omega
       · have t : (q == 1) = false := by simp [hq]
         have HI2 := hid (show ∃ r' : AL, J[i]? = some r' ∧ r'.n = rr.n from ⟨_, Hr.out, rfl⟩)
         clear hq
         go_wp2_with fail
         go_roundw
         case rel => exact ⟨j + 1, J, by omega, by go_num, HI2, HLa⟩
         case measure => simp [intOf]; omega
     · have e : j = rr.n := by omega
       clear hjl
       go_wp2_with fail
       go_roundw
       case rel => exact ⟨i + 1, J, by omega, by go_num, HL⟩
       case measure => simp [intOf]; omega
  · have e : i = N := by omega
    subst e
    have hbv := Hbv.out
    subst hbv
    obtain ⟨r0, r1, r2⟩ := (show Fb wr w.heap.size #[.int .i64 0, .slice none 0 0, .slice none 0 0] 67 from HL.out.rx).three
    have f0 := HL.out.rx.frozen 0
    have f1 := HL.out.rx.frozen 1
    have f2 := HL.out.rx.frozen 2
    have hlr := HL.out.rx.lt
    have hlb := HL.out.wx.lt
    have Hfin := hid (show RetLwb w T n (.returned (.agg #[.int .i64 v, (.slice (some ⟨gS, 0, none⟩) i cS), .slice (some ⟨gI, 0, none⟩) i cI])) (((wr.setCell ⟨w.heap.size, 0, none⟩ (.int .i64 v)).setCell ⟨w.heap.size, 1, none⟩ (.slice (some ⟨gS, 0, none⟩) i cS)).setCell ⟨w.heap.size, 2, none⟩ (.slice (some ⟨gI, 0, none⟩) i cI)) from by
     exact HL.out.fin hv4 hN1 hN hn)
    clear HL
    go_wp2_with fail
    refine bodyPost_ret (v := .agg #[.int .i64 v, (.slice (some ⟨gS, 0, none⟩) i cS), .slice (some ⟨gI, 0, none⟩) i cI]) (by simp [results, Tryz.results31, go_sem, x0, x1, x2, r0, r1, r2]) rfl ?_
    exact Hfin.out
end Go.Proofs.YtopkmeceakjocaaGreat
