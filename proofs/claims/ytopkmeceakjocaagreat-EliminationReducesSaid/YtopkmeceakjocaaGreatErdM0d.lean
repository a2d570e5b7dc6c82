/- Merged texts: what YtopkmeceakjocaaGreatEliminationReducesProof leans on. -/
import Derived.Deep.DeepCutAuto
import Derived.Deep.AppendLies
import Derived.Deep.DeepMust
import Derived.Deep.RegionHeld3
import Derived.Test.YtopkmeceakjocaaGreatErdM0c
import Derived.Test.YtopkmeceakjocaaGreatErdM0a
import Derived.Test.YtopkmeceakjocaaGreatErdM0
namespace Go.Proofs.YtopkmeceakjocaaGreat
set_option maxRecDepth 20000
set_option linter.unusedVariables false
set_option linter.unusedSimpArgs false
open Go.ChangeShapes Go.WideShapes Go.ChangeAt Go.RowKit
theorem TyX.grx {u u' : World} {gB gI : Nat} {b : Option Nat} {cB cI : Array Value} (h : GrX u [some gB, some gI, b] u') (fB : Fb u gB cB 49) (fI : Fb u gI cI 64) (hb : ∀ g, b = some g → Typ u g 63) : TyX u u' :=
 ⟨h.size, fun k t hk h1 h2 h3 => h.block k hk.lt (by
   intro hm
   rcases List.mem_cons.1 hm with e | hm
   · exact hk.ne fB.typ h1 (Option.some.inj e)
   · rcases List.mem_cons.1 hm with e | hm
     · exact hk.ne fI.typ h2 (Option.some.inj e)
     · exact hk.ne (hb k (List.mem_singleton.1 hm).symm) h3 rfl)⟩
theorem Ow.box {w0 u : World} {v N gB gI bZ : Nat} {B : List ZH} {M : List Value} {J : List AL} {cs : Array Value} (h : Ow w0 v N gB gI B M J u) (hz : Fb u bZ cs 49) (hge : w0.heap.size ≤ bZ) (hne : gB ≠ bZ) (p q : Value) :
 Ow w0 v N gB gI B M J ((u.setCell ⟨bZ, 0, none⟩ p).setCell ⟨bZ, 1, none⟩ q) := by
 have hs := two_cells hz 0 1 p q
 have hg : u.grownBy ((u.setCell ⟨bZ, 0, none⟩ p).setCell ⟨bZ, 1, none⟩ q) (some bZ) := grown_trans (grown_set u bZ rfl p) (grown_set _ bZ rfl q)
 exact ⟨below_set (below_set h.bel hge p) hge q, h.gb, h.gi, h.fb.grown hg (fun e => hne (Option.some.inj e)), hs.fb h.fi (by decide), h.bl, h.ml, h.jl, fun z hz => (h.bt z hz).stp hs (by decide), fun r hr => (h.rt r hr).stp hs (by decide) (by decide) (by decide), h.ap⟩
def d5R (j : Nat) (u u' : World) : Prop := if j = 11 then Stp1 63 u u' else if j = 13 then Stp1 64 u u' else Below u.heap.size u u'
theorem d5R_of {j : Nat} {u u' : World} (h : Below u.heap.size u u') (h1 : j ≠ 11) (h2 : j ≠ 13) : d5R j u u' := by unfold d5R; rw [if_neg h1, if_neg h2]; exact h
theorem d5R_bel {j : Nat} {u u' : World} (h : d5R j u u') (h1 : j ≠ 11) (h2 : j ≠ 13) : Below u.heap.size u u' := by unfold d5R at h; rwa [if_neg h1, if_neg h2] at h
theorem d5R_row {u u' : World} (h : Stp1 63 u u') : d5R 11 u u' := by unfold d5R; rw [if_pos rfl]; exact h
theorem d5R_w {u u' : World} (h : Stp1 64 u u') : d5R 13 u u' := by unfold d5R; rw [if_neg (by decide), if_pos rfl]; exact h
def d5F (w0 w : World) (v N gB gI t p bS : Nat) (s : FH) (r : AL) (B : List ZH) (J : List AL) : Nat → (Nat → Value) → World → Prop
 | 0, f, u => f 0 = .pointer (some ⟨w.heap.size, 2, none⟩)
 | 1, f, u => f 1 = .slice (some ⟨gI, 0, none⟩) N N
 | 2, f, u => f 2 = .int .i64 (t : Int)
 | 3, f, u => f 3 = .pointer (some ⟨w.heap.size, 2, none⟩)
 | 4, f, u => f 4 = .slice (some ⟨gI, 0, none⟩) N N
 | 5, f, u => f 5 = .int .i64 (t : Int)
 | 6, f, u => f 6 = .pointer (some ⟨gI, t, none⟩)
 | 7, f, u => f 7 = .slice r.A r.n r.c
 | 8, f, u => f 8 = .int .i64 (p : Int)
 | 9, f, u => f 9 = .int .i64 (p : Int)
 | 10, f, u => f 10 = .int .i64 ((p : Int) + 1)
 | 11, f, u => f 11 = .slice r.A (r.n - 1) r.c ∧ Ow w0 v N gB gI B (J.map AL.v) (J.set t (delA r p)) u
 | 12, f, u => f 12 = .pointer (some ⟨gI, t, none⟩)
 | 13, f, u => Ow w0 v N gB gI B ((J.set t (delA r p)).map AL.v) (J.set t (delA r p)) u
 | _, _, _ => True
def d5U : Nat → Option Nat
 | 11 => some 13
 | _ => none
theorem d5F_st {w0 w : World} {v N gB gI t p bS : Nat} {s : FH} {r : AL} {B : List ZH} {J : List AL} {ops : Array Oper} (hq13 : ∀ j, (reachL ops 5 13).contains j = false → j ≠ 11)  (jx : Nat) (vx : Value) (u u' : World) (ix : Nat) (f : Nat → Value) (hR : d5R  jx u u') (hne : ix ≠ jx) (hu : d5U ix ≠ some jx) (hc : (reachL ops 5 ix).contains jx = false) (h : d5F w0 w v N gB gI t p bS s r B J ix f u) : d5F w0 w v N gB gI t p bS s r B J ix (updV f jx vx) u' := by
 match ix, hne, hu, hc, h with
 | 0, hne, hu, hc, h => exact (updV_ne f vx hne).trans h
 | 1, hne, hu, hc, h => exact (updV_ne f vx hne).trans h
 | 2, hne, hu, hc, h => exact (updV_ne f vx hne).trans h
 | 3, hne, hu, hc, h => exact (updV_ne f vx hne).trans h
 | 4, hne, hu, hc, h => exact (updV_ne f vx hne).trans h
 | 5, hne, hu, hc, h => exact (updV_ne f vx hne).trans h
 | 6, hne, hu, hc, h => exact (updV_ne f vx hne).trans h
 | 7, hne, hu, hc, h => exact (updV_ne f vx hne).trans h
 | 8, hne, hu, hc, h => exact (updV_ne f vx hne).trans h
 | 9, hne, hu, hc, h => exact (updV_ne f vx hne).trans h
 | 10, hne, hu, hc, h => exact (updV_ne f vx hne).trans h
 | 11, hne, hu, hc, h => obtain ⟨h1, h2⟩ := h; have h13 : jx ≠ 13 := fun e => hu (by rw [e]; rfl); exact ⟨(updV_ne f vx hne).trans h1, h2.below (d5R_bel hR (fun e => hne e.symm) h13)⟩
 | 12, hne, hu, hc, h => exact (updV_ne f vx hne).trans h
 | 13, hne, hu, hc, h => have h11 : jx ≠ 11 := hq13 jx hc; exact (show Ow w0 v N gB gI B ((J.set t (delA r p)).map AL.v) (J.set t (delA r p)) u from h).below (d5R_bel hR h11 (fun e => hne e.symm))
 | ix + 14, _, _, _, _ => trivial
def d6R (j : Nat) (u u' : World) : Prop := if j = 11 then Stp1 49 u u' else Below u.heap.size u u'
theorem d6R_stp {j : Nat} {u u' : World} (h : d6R j u u') : Stp1 49 u u' := by
 unfold d6R at h
 split at h
 · exact h
 · exact Stp1.below h
theorem d6R_bel {j : Nat} {u u' : World} (h : d6R j u u') (hj : j ≠ 11) : Below u.heap.size u u' := by
 unfold d6R at h
 rwa [if_neg hj] at h
theorem d6R_of {j : Nat} {u u' : World} (h : Below u.heap.size u u') (hj : j ≠ 11) : d6R j u u' := by
 unfold d6R; rwa [if_neg hj]
theorem d6R_refl (j : Nat) (u : World) (hj : j ≠ 11) : d6R j u u := d6R_of (Below.refl _ _) hj
theorem d6R_w {u u' : World} (h : Stp1 49 u u') : d6R 11 u u' := by unfold d6R; rw [if_pos rfl]; exact h
def d6F (w0 w : World) (v N gB gI n bS : Nat) (s : FH) (zn : ZH) (B : List ZH) (J' : List AL) : Nat → (Nat → Value) → World → Prop
 | 0, f, u => f 0 = .agg #[.int .i64 s.G.W, .slice s.G.A s.G.n s.G.c, .int .i64 s.K.W, .slice s.K.A s.K.n s.K.c, .slice s.C s.k s.q]
 | 1, f, u => f 1 = .pointer (some ⟨w.heap.size, 1, none⟩)
 | 2, f, u => f 2 = .slice (some ⟨gB, 0, none⟩) N N
 | 3, f, u => f 3 = .int .i64 (n : Int)
 | 4, f, u => f 4 = .pointer (some ⟨gB, n * 2, none⟩)
 | 5, f, u => f 5 = .agg #[.int .i64 zn.W, .slice zn.A zn.n zn.c]
 | 6, f, u => ∃ g : Nat, f 6 = .tuple #[.agg #[.int .i64 v, .slice (some ⟨g, 0, none⟩) (Bs.nw v) (Bs.nw v)], .int .i64 0] ∧ ZWt u v ⟨v, some ⟨g, 0, none⟩, Bs.nw v, Bs.nw v, s.pf.vl v zn.ws⟩
 | 7, f, u => ∃ g : Nat, f 7 = .tuple #[.agg #[.int .i64 v, .slice (some ⟨g, 0, none⟩) (Bs.nw v) (Bs.nw v)], .int .i64 0] ∧ ZWt u v ⟨v, some ⟨g, 0, none⟩, Bs.nw v, Bs.nw v, s.pf.vl v zn.ws⟩
 | 8, f, u => ∃ g : Nat, f 8 = .agg #[.int .i64 v, .slice (some ⟨g, 0, none⟩) (Bs.nw v) (Bs.nw v)] ∧ ZWt u v ⟨v, some ⟨g, 0, none⟩, Bs.nw v, Bs.nw v, s.pf.vl v zn.ws⟩
 | 9, f, u => f 9 = .int .i64 0
 | 10, f, u => ∃ bZ : Nat, f 10 = .pointer (some ⟨bZ, 0, none⟩) ∧ Fb u bZ #[.int .i64 0, .slice none 0 0] 49 ∧ w.heap.size ≤ bZ ∧ gB ≠ bZ
 | 11, f, u => ∃ bZ g : Nat, f 10 = .pointer (some ⟨bZ, 0, none⟩) ∧ Fb u bZ #[.int .i64 v, .slice (some ⟨g, 0, none⟩) (Bs.nw v) (Bs.nw v)] 49 ∧ gB ≠ bZ ∧ ZWt u v ⟨v, some ⟨g, 0, none⟩, Bs.nw v, Bs.nw v, s.pf.vl v zn.ws⟩
 | 12, f, u => f 12 = .int .i64 0
 | _, _, _ => True
def d6U : Nat → Option Nat
 | 10 => some 11
 | _ => none
theorem d6F_st {w0 w : World} {v N gB gI n bS : Nat} {s : FH} {zn : ZH} {B : List ZH} {J' : List AL} {ops : Array Oper} (hq11 : ∀ j, (reachL ops 5 11).contains j = false → j ≠ 10)  (jx : Nat) (vx : Value) (u u' : World) (ix : Nat) (f : Nat → Value) (hR : d6R  jx u u') (hne : ix ≠ jx) (hu : d6U ix ≠ some jx) (hc : (reachL ops 5 ix).contains jx = false) (h : d6F w0 w v N gB gI n bS s zn B J' ix f u) : d6F w0 w v N gB gI n bS s zn B J' ix (updV f jx vx) u' := by
 match ix, hne, hu, hc, h with
 | 0, hne, hu, hc, h => exact (updV_ne f vx hne).trans h
 | 1, hne, hu, hc, h => exact (updV_ne f vx hne).trans h
 | 2, hne, hu, hc, h => exact (updV_ne f vx hne).trans h
 | 3, hne, hu, hc, h => exact (updV_ne f vx hne).trans h
 | 4, hne, hu, hc, h => exact (updV_ne f vx hne).trans h
 | 5, hne, hu, hc, h => exact (updV_ne f vx hne).trans h
 | 6, hne, hu, hc, h => obtain ⟨g, h1, h2⟩ := h; exact ⟨g, (updV_ne f vx hne).trans h1, h2.stp (d6R_stp hR) (by decide)⟩
 | 7, hne, hu, hc, h => obtain ⟨g, h1, h2⟩ := h; exact ⟨g, (updV_ne f vx hne).trans h1, h2.stp (d6R_stp hR) (by decide)⟩
 | 8, hne, hu, hc, h => obtain ⟨g, h1, h2⟩ := h; exact ⟨g, (updV_ne f vx hne).trans h1, h2.stp (d6R_stp hR) (by decide)⟩
 | 9, hne, hu, hc, h => exact (updV_ne f vx hne).trans h
 | 10, hne, hu, hc, h => obtain ⟨g, h1, h2, h3⟩ := h; have hb := d6R_bel hR (fun e => hu (by rw [e]; rfl)); exact ⟨g, (updV_ne f vx hne).trans h1, h2.below hb h2.lt, h3⟩
 | 11, hne, hu, hc, h => obtain ⟨bZ, g, h1, h2, h3, h4⟩ := h; have hb := d6R_bel hR (fun e => hne e.symm); exact ⟨bZ, g, (updV_ne f vx (fun e => hq11 jx hc e.symm)).trans h1, h2.below hb h2.lt, h3, h4.below hb⟩
 | 12, hne, hu, hc, h => exact (updV_ne f vx hne).trans h
 | ix + 13, _, _, _, _ => trivial
def d7R (j : Nat) (u u' : World) : Prop := if j = 14 then Stp1 49 u u' else Below u.heap.size u u'
theorem d7R_stp {j : Nat} {u u' : World} (h : d7R j u u') : Stp1 49 u u' := by
 unfold d7R at h
 split at h
 · exact h
 · exact Stp1.below h
theorem d7R_bel {j : Nat} {u u' : World} (h : d7R j u u') (hj : j ≠ 14) : Below u.heap.size u u' := by
 unfold d7R at h
 rwa [if_neg hj] at h
theorem d7R_of {j : Nat} {u u' : World} (h : Below u.heap.size u u') (hj : j ≠ 14) : d7R j u u' := by
 unfold d7R; rwa [if_neg hj]
theorem d7R_refl (j : Nat) (u : World) (hj : j ≠ 14) : d7R j u u := d7R_of (Below.refl _ _) hj
theorem d7R_w {u u' : World} (h : Stp1 49 u u') : d7R 14 u u' := by unfold d7R; rw [if_pos rfl]; exact h
def d7F (w0 w : World) (v N gB gI t bS bZ : Nat) (s : FH) (z zp : ZH) (B : List ZH) (J' : List AL) : Nat → (Nat → Value) → World → Prop
 | 0, f, u => f 0 = .pointer (some ⟨w.heap.size, 1, none⟩)
 | 1, f, u => f 1 = .slice (some ⟨gB, 0, none⟩) N N
 | 2, f, u => f 2 = .int .i64 (t : Int)
 | 3, f, u => f 3 = .pointer (some ⟨w.heap.size, 1, none⟩)
 | 4, f, u => f 4 = .slice (some ⟨gB, 0, none⟩) N N
 | 5, f, u => f 5 = .int .i64 (t : Int)
 | 6, f, u => f 6 = .pointer (some ⟨gB, t * 2, none⟩)
 | 7, f, u => f 7 = .agg #[.int .i64 z.W, .slice z.A z.n z.c]
 | 8, f, u => f 8 = .agg #[.int .i64 zp.W, .slice zp.A zp.n zp.c]
 | 9, f, u => ∃ g : Nat, f 9 = .tuple #[.agg #[.int .i64 v, .slice (some ⟨g, 0, none⟩) (Bs.nw v) (Bs.nw v)], .int .i64 0] ∧ ZWt u v ⟨v, some ⟨g, 0, none⟩, Bs.nw v, Bs.nw v, orR v z.ws zp.ws⟩
 | 10, f, u => ∃ g : Nat, f 10 = .tuple #[.agg #[.int .i64 v, .slice (some ⟨g, 0, none⟩) (Bs.nw v) (Bs.nw v)], .int .i64 0] ∧ ZWt u v ⟨v, some ⟨g, 0, none⟩, Bs.nw v, Bs.nw v, orR v z.ws zp.ws⟩
 | 11, f, u => ∃ g : Nat, f 11 = .agg #[.int .i64 v, .slice (some ⟨g, 0, none⟩) (Bs.nw v) (Bs.nw v)] ∧ ZWt u v ⟨v, some ⟨g, 0, none⟩, Bs.nw v, Bs.nw v, orR v z.ws zp.ws⟩
 | 12, f, u => f 12 = .int .i64 0
 | 13, f, u => f 13 = .pointer (some ⟨gB, t * 2, none⟩)
 | 14, f, u => ∃ g : Nat, Ow w0 v N gB gI (B.set t ⟨v, some ⟨g, 0, none⟩, Bs.nw v, Bs.nw v, orR v z.ws zp.ws⟩) (J'.map AL.v) J' u
 | _, _, _ => True
def d7U : Nat → Option Nat
 | _ => none
theorem d7F_st {w0 w : World} {v N gB gI t bS bZ : Nat} {s : FH} {z zp : ZH} {B : List ZH} {J' : List AL} {ops : Array Oper}  (jx : Nat) (vx : Value) (u u' : World) (ix : Nat) (f : Nat → Value) (hR : d7R  jx u u') (hne : ix ≠ jx) (hu : d7U ix ≠ some jx) (hc : (reachL ops 5 ix).contains jx = false) (h : d7F w0 w v N gB gI t bS bZ s z zp B J' ix f u) : d7F w0 w v N gB gI t bS bZ s z zp B J' ix (updV f jx vx) u' := by
 match ix, hne, hu, hc, h with
 | 0, hne, hu, hc, h => exact (updV_ne f vx hne).trans h
 | 1, hne, hu, hc, h => exact (updV_ne f vx hne).trans h
 | 2, hne, hu, hc, h => exact (updV_ne f vx hne).trans h
 | 3, hne, hu, hc, h => exact (updV_ne f vx hne).trans h
 | 4, hne, hu, hc, h => exact (updV_ne f vx hne).trans h
 | 5, hne, hu, hc, h => exact (updV_ne f vx hne).trans h
 | 6, hne, hu, hc, h => exact (updV_ne f vx hne).trans h
 | 7, hne, hu, hc, h => exact (updV_ne f vx hne).trans h
 | 8, hne, hu, hc, h => exact (updV_ne f vx hne).trans h
 | 9, hne, hu, hc, h => obtain ⟨g, h1, h2⟩ := h; exact ⟨g, (updV_ne f vx hne).trans h1, h2.stp (d7R_stp hR) (by decide)⟩
 | 10, hne, hu, hc, h => obtain ⟨g, h1, h2⟩ := h; exact ⟨g, (updV_ne f vx hne).trans h1, h2.stp (d7R_stp hR) (by decide)⟩
 | 11, hne, hu, hc, h => obtain ⟨g, h1, h2⟩ := h; exact ⟨g, (updV_ne f vx hne).trans h1, h2.stp (d7R_stp hR) (by decide)⟩
 | 12, hne, hu, hc, h => exact (updV_ne f vx hne).trans h
 | 13, hne, hu, hc, h => exact (updV_ne f vx hne).trans h
 | 14, hne, hu, hc, h => obtain ⟨g, h1⟩ := h; exact ⟨g, h1.below (d7R_bel hR (fun e => hne e.symm))⟩
 | ix + 15, _, _, _, _ => trivial
def RetRm (w0 : World) (v N gB gI n t : Nat) (B : List ZH) (J : List AL) (w : World) (e : Ending) (w' : World) : Prop :=
 ∃ (B' : List ZH) (J' : List AL), e = .returned (.int .i64 0) ∧ Ow w0 v N gB gI B' (J'.map AL.v) J' w' ∧ (pwO v B J).To (pwO v B' J') ∧ Fsub J J' ∧ (∀ k, k ≠ t → J'[k]? = J[k]?) ∧ (∀ r, J'[t]? = some r → ∀ a ∈ r.l, a.m ≠ n) ∧ TyX w w'
structure Rml (w0 w : World) (v N gB gI t bS : Nat) (WEB : Array Value) (s : FH) (B : List ZH) (J : List AL) (l0 L : List AH) (k : Nat) (u : World) : Prop where
 ow : ∃ r, Jnd v s.pf l0 L k r.l ∧ Ow w0 v N gB gI B ((J.set t r).map AL.v) (J.set t r) u
 e : EB w v WEB bS s u
set_option maxHeartbeats 12800000 in
theorem remove_any (w0 : World) (v N gB gI n t : Nat) (B : List ZH) (J : List AL) (w : World) (h : Ow w0 v N gB gI B (J.map AL.v) J w) (hv : v ≤ 8) (hN : N ≤ 256) (hnN : n < N) (htN : t < N) (hno : ∀ r, J[n]? = some r → ∀ a ∈ r.l, a.m ≠ n) :
 Calls Tryz.prog 102 #[.agg #[.int .i64 v, .slice (some ⟨gB, 0, none⟩) N N, .slice (some ⟨gI, 0, none⟩) N N], .int .i64 n, .int .i64 t] w (RetRm w0 v N gB gI n t B J w) := by
 obtain ⟨r, hr⟩ : ∃ r, J[t]? = some r := ⟨_, List.getElem?_eq_getElem (by rw [h.jl]; exact htN)⟩
 obtain ⟨z, hz⟩ : ∃ z, B[t]? = some z := ⟨_, List.getElem?_eq_getElem (by rw [h.bl]; exact htN)⟩
 obtain ⟨rn, hrn⟩ : ∃ rn, J[n]? = some rn := ⟨_, List.getElem?_eq_getElem (by rw [h.jl]; exact hnN)⟩
 obtain ⟨zn, hzn⟩ : ∃ zn, B[n]? = some zn := ⟨_, List.getElem?_eq_getElem (by rw [h.bl]; exact hnN)⟩
 have Hno := hid (hno rn hrn)
 have HnoT := hid (fun (e : n = t) => show ∀ a ∈ r.l, a.m ≠ n from hno r (by rw [e]; exact hr))
 have Ht := hid hr
 have Hz := hid hz
 have Hrnn := hid hrn
 have Hzn := hid hzn
 have hra := h.rt r (List.mem_of_getElem? hr)
 have Hra := hid hra
 have Hrn := hid (show r.n ≤ 256 from Nat.le_trans hra.few hN)
 have H0 := hid h
 have Hw0 := hid h.bel.size
 obtain ⟨p, hp⟩ := plc_ex hra.ris n
 have Hp := hid hp
 have Hm := hid (show (J.map AL.v)[t]? = some (.slice r.A r.n r.c) from by rw [List.getElem?_map, hr]; rfl)
 have hb1 := (Below.refl w.heap.size w).alloc (Nat.le_refl _) (.cells #[.int .i64 v, .slice (some ⟨gB, 0, none⟩) N N, .slice (some ⟨gI, 0, none⟩) N N] 67)
 have HOw1 := hid (h.below hb1)
 have HW1 := hid (Fb.new w #[.int .i64 v, .slice (some ⟨gB, 0, none⟩) N N, .slice (some ⟨gI, 0, none⟩) N N] 67)
 have HX1 := hid (TyX.below hb1)
 have HS1 := hid (show w.heap.size < (w.alloc (.cells #[.int .i64 v, .slice (some ⟨gB, 0, none⟩) N N, .slice (some ⟨gI, 0, none⟩) N N] 67)).heap.size from HW1.out.lt)
 clear h hr hz hra hp hb1 hrn hzn hno
 go_enter Tryz.func102, Tryz.ntmps102
 go_upto_region 1 with fail
 generalize w.alloc (.cells #[.int .i64 v, .slice (some ⟨gB, 0, none⟩) N N, .slice (some ⟨gI, 0, none⟩) N N] 67) = w1 at *
 have n0 : (0 : Int) ≤ t := by omega
 have n1 : (t : Int) < N := by omega
 have n2 : (t : Int).toNat = t := by omega
 obtain ⟨x0, x1, x2⟩ := HW1.out.three
 have m0 := HOw1.out.cellM Hm.out
 go_wp2_with fail
 refine (place2_any w0.heap.size v N r n p w1 (HOw1.out.rt r (List.mem_of_getElem? Ht.out)) hN Hp.out).mono ?_
 rintro _ w3 ⟨rfl, hb3⟩
 have HOw3 := hid (HOw1.out.below hb3)
 have HW3 := hid (HW1.out.below hb3 HW1.out.lt)
 have HX3 := hid (HX1.out.trans (TyX.below hb3))
 have HS3 := hid (Nat.lt_of_lt_of_le HS1.out hb3.size)
 clear x0 x1 x2 m0 hb3 HOw1 HW1 HX1 HS1
 generalize hf : fdA r.l p n = fd at *
 cases fd with
 | false =>
   have HFin := hid (show RetRm w0 v N gB gI n t B J w (.returned (.int .i64 0)) w3 from ⟨B, J, rfl, HOw3.out, PW.To.refl _, Fsub.refl _, fun _ _ => rfl, fun r2 hr2 a ha => by
    rw [Ht.out] at hr2
    obtain rfl := Option.some.inj hr2
    exact fdA_no Hra.out.ris Hp.out hf a ha, HX3.out⟩)
   clear hf
   go_wp2_with fail
   exact bodyPost_ret (v := .int .i64 0) (by simp [results, Tryz.results102, go_sem]) rfl HFin.out
 | true =>
   obtain ⟨a, ha, ham⟩ := fdA_yes hf
   have Hnt := hid (show n ≠ t from fun e => HnoT.out e a (List.mem_of_getElem? ha) ham)
   obtain ⟨s, hs⟩ : ∃ s, a.f = s := ⟨_, rfl⟩
   have Hs := hid hs
   have Ha := hid ha
   have Ham := hid ham
   have Hpl := hid (show p < r.n from by rw [← Hra.out.len]; exact (List.getElem?_eq_some_iff.1 ha).1)
   have hFa := (HOw3.out.rt r (List.mem_of_getElem? Ht.out)).arcs a (List.mem_of_getElem? ha)
   rw [hs] at hFa
   obtain ⟨gr, hA, hg1, hg2, -, hcc, -⟩ := (HOw3.out.rt r (List.mem_of_getElem? Ht.out)).at ha
   obtain ⟨x0, x1, x2⟩ := HW3.out.three
   have m0 := HOw3.out.cellM Hm.out
   rw [hA] at m0
   have y1 := hcc 1 (by decide)
   have y2 : w3.cell? ⟨gr, p * 6 + 1 + 1, none⟩ = _ := hcc 2 (by decide)
   have y3 : w3.cell? ⟨gr, p * 6 + 1 + 2, none⟩ = _ := hcc 3 (by decide)
   have y4 : w3.cell? ⟨gr, p * 6 + 1 + 3, none⟩ = _ := hcc 4 (by decide)
   have y5 : w3.cell? ⟨gr, p * 6 + 1 + 4, none⟩ = _ := hcc 5 (by decide)
   simp only [AH.cells, List.getElem?_cons_zero, List.getElem?_cons_succ, hs] at y1 y2 y3 y4 y5
   have p0 : (0 : Int) ≤ p := by omega
   have p1 : (p : Int) < r.n := by have := Hpl.out; omega
   have p2 : (p : Int).toNat = p := by omega
   have hb5 := (Below.refl w3.heap.size w3).alloc (Nat.le_refl _) (.cells #[.int .i64 s.G.W, .slice s.G.A s.G.n s.G.c, .int .i64 s.K.W, .slice s.K.A s.K.n s.K.c, .slice s.C s.k s.q] 61)
   have HOw := hid (HOw3.out.below hb5)
   have HE := hid (show EB w v #[.int .i64 v, .slice (some ⟨gB, 0, none⟩) N N, .slice (some ⟨gI, 0, none⟩) N N] w3.heap.size s (w3.alloc (.cells #[.int .i64 s.G.W, .slice s.G.A s.G.n s.G.c, .int .i64 s.K.W, .slice s.K.A s.K.n s.K.c, .slice s.C s.k s.q] 61)) from ⟨HW3.out.below hb5 HS3.out, Fb.new _ _ _, hFa.below hb5, HX3.out.trans (TyX.below hb5)⟩)
   clear hf ha ham hA hcc hs hFa hb5
   go_upto_region 5 with fail
   rename_i Kx hKx
   generalize w3.alloc (.cells #[.int .i64 s.G.W, .slice s.G.A s.G.n s.G.c, .int .i64 s.K.W, .slice s.K.A s.K.n s.K.c, .slice s.C s.k s.q] 61) = w5 at *
   generalize w3.heap.size = bS at *
   clear x0 x1 x2 m0 y1 y2 y3 y4 y5 HOw3 HW3 HX3 HS3 p0 p1 p2 hg1 hg2
   refine wp_region_factsI (fun j u => (j = 7 ∨ j = 11) → Ow w0 v N gB gI B (J.map AL.v) J u) (d5F w0 w v N gB gI t p bS s r B J) (fun u => EB w v #[.int .i64 v, .slice (some ⟨gB, 0, none⟩) N N, .slice (some ⟨gI, 0, none⟩) N N] bS s u) d5U (d5R ) Kx (fun _ _ h => h) 14 14 (some 38 :: some 39 :: some 40 :: some 41 :: some 42 :: some 43 :: some 44 :: some 45 :: some 46 :: some 47 :: some 48 :: some 49 :: some 50 :: none :: []) (by kernel_rfl) (by kernel_rfl) (by kernel_rfl) (by kernel_rfl) (by kernel_rfl) (by kernel_rfl) (by decide)
    (d5F_st (fun j h e => by subst e; exact Bool.false_ne_true (h.symm.trans (by kernel_rfl)))) ?bs ?gb ?gs ?ar ?en
   case bs => exact HE.out.below (Below.refl _ _).drew
   case gb =>
    exact fun c _ => HOw.out.below (Below.refl _ _).drew
   case gs =>
    intro j u u' c hR hne hnr hG hc
    have h11 : j ≠ 11 := by
     rintro rfl
     rcases hc with rfl | rfl
     · exact Bool.false_ne_true (hnr.symm.trans (by kernel_rfl))
     · exact hne rfl
    have h13 : j ≠ 13 := by
     rintro rfl
     rcases hc with rfl | rfl
     · exact Bool.false_ne_true (hnr.symm.trans (by kernel_rfl))
     · exact Bool.false_ne_true (hnr.symm.trans (by kernel_rfl))
    exact (hG hc).below (d5R_bel hR h11 h13)
   case ar =>
    intro j o f u ho hi hB hG hpre K hK
    match j, ho, hG, hpre, hK with
    | 0, ho, hG, hpre, hK =>
      obtain rfl := Option.some.inj ho
      refine wpOp_step rfl fun K' hK' => ?_
      simp only [putL, updV]
      go_simp
      have hz := hK' _ _ (hK (.pointer (some ⟨w.heap.size, 2, none⟩)) (u) (hB) (d5R_of (Below.refl _ _) (by decide) (by decide)) (rfl))
      refine Eq.mp (congrArg (fun act => K' act (u)) ?_) hz
      kernel_rfl
    | 1, ho, hG, hpre, hK =>
      obtain rfl := Option.some.inj ho
      obtain ⟨x0, x1, x2⟩ := hB.ww.three
      have hl := hB.ww.lt
      have e0 : f 0 = .pointer (some ⟨w.heap.size, 2, none⟩) := hpre ⟨0, .data⟩ (by simp) rfl (.inl rfl)
      obtain ⟨f, rfl⟩ := fixG f 0 _ e0
      clear e0
      refine wpOp_step rfl fun K' hK' => ?_
      simp only [putL, updV]
      go_simp
      have hz := hK' _ _ (hK (.slice (some ⟨gI, 0, none⟩) N N) (u) (hB) (d5R_of (Below.refl _ _) (by decide) (by decide)) (rfl))
      refine Eq.mp (congrArg (fun act => K' act (u)) ?_) hz
      kernel_rfl
    | 2, ho, hG, hpre, hK =>
      obtain rfl := Option.some.inj ho
      refine wpOp_step rfl fun K' hK' => ?_
      simp only [putL, updV]
      go_simp
      have hz := hK' _ _ (hK (.int .i64 (t : Int)) (u) (hB) (d5R_of (Below.refl _ _) (by decide) (by decide)) (rfl))
      refine Eq.mp (congrArg (fun act => K' act (u)) ?_) hz
      kernel_rfl
    | 3, ho, hG, hpre, hK =>
      obtain rfl := Option.some.inj ho
      refine wpOp_step rfl fun K' hK' => ?_
      simp only [putL, updV]
      go_simp
      have hz := hK' _ _ (hK (.pointer (some ⟨w.heap.size, 2, none⟩)) (u) (hB) (d5R_of (Below.refl _ _) (by decide) (by decide)) (rfl))
      refine Eq.mp (congrArg (fun act => K' act (u)) ?_) hz
      kernel_rfl
    | 4, ho, hG, hpre, hK =>
      obtain rfl := Option.some.inj ho
      obtain ⟨x0, x1, x2⟩ := hB.ww.three
      have hl := hB.ww.lt
      have e3 : f 3 = .pointer (some ⟨w.heap.size, 2, none⟩) := hpre ⟨3, .data⟩ (by simp) rfl (.inl rfl)
      obtain ⟨f, rfl⟩ := fixG f 3 _ e3
      clear e3
      refine wpOp_step rfl fun K' hK' => ?_
      simp only [putL, updV]
      go_simp
      have hz := hK' _ _ (hK (.slice (some ⟨gI, 0, none⟩) N N) (u) (hB) (d5R_of (Below.refl _ _) (by decide) (by decide)) (rfl))
      refine Eq.mp (congrArg (fun act => K' act (u)) ?_) hz
      kernel_rfl
    | 5, ho, hG, hpre, hK =>
      obtain rfl := Option.some.inj ho
      refine wpOp_step rfl fun K' hK' => ?_
      simp only [putL, updV]
      go_simp
      have hz := hK' _ _ (hK (.int .i64 (t : Int)) (u) (hB) (d5R_of (Below.refl _ _) (by decide) (by decide)) (rfl))
      refine Eq.mp (congrArg (fun act => K' act (u)) ?_) hz
      kernel_rfl
    | 6, ho, hG, hpre, hK =>
      obtain rfl := Option.some.inj ho
      have k0 : (0 : Int) ≤ t := by omega
      have k1 : (t : Int) < N := by omega
      have k2 : (t : Int).toNat = t := by omega
      have e4 : f 4 = .slice (some ⟨gI, 0, none⟩) N N := hpre ⟨4, .data⟩ (by simp) rfl (.inl rfl)
      have e5 : f 5 = .int .i64 (t : Int) := hpre ⟨5, .data⟩ (by simp) rfl (.inl rfl)
      obtain ⟨f, rfl⟩ := fixG f 4 _ e4
      rw [updV_ne _ _ (by decide)] at e5
      obtain ⟨f, rfl⟩ := fixG f 5 _ e5
      clear e4 e5
      refine wpOp_step rfl fun K' hK' => ?_
      simp only [putL, updV]
      go_simp
      have hz := hK' _ _ (hK (.pointer (some ⟨gI, t, none⟩)) (u) (hB) (d5R_of (Below.refl _ _) (by decide) (by decide)) (rfl))
      refine Eq.mp (congrArg (fun act => K' act (u)) ?_) hz
      kernel_rfl
    | 7, ho, hG, hpre, hK =>
      obtain rfl := Option.some.inj ho
      have y0 := (hG (.inl rfl)).cellM Hm.out
      have hl := (hG (.inl rfl)).fi.lt
      have e6 : f 6 = .pointer (some ⟨gI, t, none⟩) := hpre ⟨6, .data⟩ (by simp) rfl (.inl rfl)
      obtain ⟨f, rfl⟩ := fixG f 6 _ e6
      clear e6
      refine wpOp_step rfl fun K' hK' => ?_
      simp only [putL, updV]
      go_simp
      have hz := hK' _ _ (hK (.slice r.A r.n r.c) (u) (hB) (d5R_of (Below.refl _ _) (by decide) (by decide)) (rfl))
      refine Eq.mp (congrArg (fun act => K' act (u)) ?_) hz
      kernel_rfl
    | 8, ho, hG, hpre, hK =>
      obtain rfl := Option.some.inj ho
      refine wpOp_step rfl fun K' hK' => ?_
      simp only [putL, updV]
      go_simp
      have hz := hK' _ _ (hK (.int .i64 (p : Int)) (u) (hB) (d5R_of (Below.refl _ _) (by decide) (by decide)) (rfl))
      refine Eq.mp (congrArg (fun act => K' act (u)) ?_) hz
      kernel_rfl
    | 9, ho, hG, hpre, hK =>
      obtain rfl := Option.some.inj ho
      refine wpOp_step rfl fun K' hK' => ?_
      simp only [putL, updV]
      go_simp
      have hz := hK' _ _ (hK (.int .i64 (p : Int)) (u) (hB) (d5R_of (Below.refl _ _) (by decide) (by decide)) (rfl))
      refine Eq.mp (congrArg (fun act => K' act (u)) ?_) hz
      kernel_rfl
    | 10, ho, hG, hpre, hK =>
      obtain rfl := Option.some.inj ho
      have hw : IntKind.i64.wrap ((p : Int) + 1) = (p : Int) + 1 := IntWalk.i64_in _ (by have := Hpl.out; have := Hrn.out; omega)
      have e9 : f 9 = .int .i64 (p : Int) := hpre ⟨9, .data⟩ (by simp) rfl (.inl rfl)
      obtain ⟨f, rfl⟩ := fixG f 9 _ e9
      clear e9
      refine wpOp_step rfl fun K' hK' => ?_
      simp only [putL, updV]
      go_simp
      have hz := hK' _ _ (hK (.int .i64 ((p : Int) + 1)) (u) (hB) (d5R_of (Below.refl _ _) (by decide) (by decide)) (rfl))
      refine Eq.mp (congrArg (fun act => K' act (u)) ?_) hz
      kernel_rfl
    | 11, ho, hG, hpre, hK =>
      obtain rfl := Option.some.inj ho
      have e7 : f 7 = .slice r.A r.n r.c := hpre ⟨7, .data⟩ (by simp) rfl (.inl rfl)
      have e8 : f 8 = .int .i64 (p : Int) := hpre ⟨8, .data⟩ (by simp) rfl (.inl rfl)
      have e10 : f 10 = .int .i64 ((p : Int) + 1) := hpre ⟨10, .data⟩ (by simp) rfl (.inl rfl)
      obtain ⟨f, rfl⟩ := fixG f 7 _ e7
      rw [updV_ne _ _ (by decide)] at e8
      rw [updV_ne _ _ (by decide)] at e10
      obtain ⟨f, rfl⟩ := fixG f 8 _ e8
      rw [updV_ne _ _ (by decide)] at e10
      obtain ⟨f, rfl⟩ := fixG f 10 _ e10
      clear e7 e8 e10
      refine wpOp_step rfl fun K' hK' => ?_
      simp only [putL, updV]
      go_simp
      go_at_call 129
      have how := hG (.inr rfl)
      have hra := how.rt r (List.mem_of_getElem? Ht.out)
      refine (delete_any w0.heap.size v N r p u hra hN Hpl.out).mono ?_
      rintro e u5 ⟨rfl, hrow, hgr⟩
      have how2 := how.row (r' := delA r p) Ht.out hgr hrow (fun g e => .inl ((delA_block r p).symm.trans e))
      have hs : Stp1 63 u u5 := ⟨_, hgr, fun k e => own_typ hra.own e⟩
      have hz := hK' _ _ (hK (.slice r.A (r.n - 1) r.c) (u5) (hB.stp hs (.inr (.inr rfl))) (d5R_row hs) (⟨rfl, how2⟩))
      refine Eq.mp (congrArg (fun act => K' act (u5)) ?_) hz
      kernel_rfl
    | 12, ho, hG, hpre, hK =>
      obtain rfl := Option.some.inj ho
      have k0 : (0 : Int) ≤ t := by omega
      have k1 : (t : Int) < N := by omega
      have k2 : (t : Int).toNat = t := by omega
      have e1 : f 1 = .slice (some ⟨gI, 0, none⟩) N N := hpre ⟨1, .data⟩ (by simp) rfl (.inl rfl)
      have e2 : f 2 = .int .i64 (t : Int) := hpre ⟨2, .data⟩ (by simp) rfl (.inl rfl)
      obtain ⟨f, rfl⟩ := fixG f 1 _ e1
      rw [updV_ne _ _ (by decide)] at e2
      obtain ⟨f, rfl⟩ := fixG f 2 _ e2
      clear e1 e2
      refine wpOp_step rfl fun K' hK' => ?_
      simp only [putL, updV]
      go_simp
      have hz := hK' _ _ (hK (.pointer (some ⟨gI, t, none⟩)) (u) (hB) (d5R_of (Below.refl _ _) (by decide) (by decide)) (rfl))
      refine Eq.mp (congrArg (fun act => K' act (u)) ?_) hz
      kernel_rfl
    | 13, ho, hG, hpre, hK =>
      obtain rfl := Option.some.inj ho
      have e12 : f 12 = .pointer (some ⟨gI, t, none⟩) := hpre ⟨12, .data⟩ (by simp) rfl (.inl rfl)
      obtain ⟨e11, how⟩ : f 11 = .slice r.A (r.n - 1) r.c ∧ Ow w0 v N gB gI B (J.map AL.v) (J.set t (delA r p)) u := hpre ⟨11, .data⟩ (by simp) rfl (.inr rfl)
      obtain ⟨f, rfl⟩ := fixG f 12 _ e12
      rw [updV_ne _ _ (by decide)] at e11
      obtain ⟨f, rfl⟩ := fixG f 11 _ e11
      clear e12 e11
      have y0 := how.cellM Hm.out
      have f0 := how.fi.frozen t
      have hl := how.fi.lt
      have hs := stp_cell how.fi t (.slice r.A (r.n - 1) r.c)
      have how2 := how.setM htN (.slice r.A (r.n - 1) r.c)
      rw [show (J.map AL.v).set t (.slice r.A (r.n - 1) r.c) = (J.set t (delA r p)).map AL.v from by rw [List.map_set]; rfl] at how2
      refine wpOp_step rfl fun K' hK' => ?_
      simp only [putL, updV]
      go_simp
      have hz := hK' _ _ (hK (undef) (u.setCell ⟨gI, t, none⟩ (.slice r.A (r.n - 1) r.c)) (hB.stp hs (.inr (.inl rfl))) (d5R_w hs) (how2))
      refine Eq.mp (congrArg (fun act => K' act (u.setCell ⟨gI, t, none⟩ (.slice r.A (r.n - 1) r.c))) ?_) hz
      kernel_rfl
    | j + 14, ho, hG, hpre, hK => exact absurd hi (by omega)
   case en =>
    intro Q2 hQ2 f u hB hF
    have how : Ow w0 v N gB gI B ((J.set t (delA r p)).map AL.v) (J.set t (delA r p)) u := hF 13 (by decide) rfl
    have HOw8 := hid how
    have HE8 := hid hB
    clear hF
    show wpAny _ _ _ _ 0 (tailArr 14 14) _ _
    refine ⟨by kernel_rfl, hQ2 _ _ (hKx _ _ ?_)⟩
    simp only [putL, updV]
    clear how hB HOw HE
    obtain ⟨J', hJ'⟩ : ∃ J', J.set t (delA r p) = J' := ⟨_, rfl⟩
    have HJ' := hid hJ'
    rw [hJ'] at HOw8
    clear hJ'
    go_upto_region 6 with fail
    rename_i Kx hKx
    refine wp_region_factsI (fun _ _ => True) (d6F w0 w v N gB gI n bS s zn B J') (fun u => EB w v #[.int .i64 v, .slice (some ⟨gB, 0, none⟩) N N, .slice (some ⟨gI, 0, none⟩) N N] bS s u ∧ Ow w0 v N gB gI B (J'.map AL.v) J' u) d6U (d6R ) Kx (fun _ _ h => h) 13 13 (some 52 :: some 53 :: some 54 :: some 55 :: some 56 :: some 57 :: some 58 :: some 51 :: some 59 :: some 60 :: some 10 :: none :: some 11 :: []) (by kernel_rfl) (by kernel_rfl) (by kernel_rfl) (by kernel_rfl) (by kernel_rfl) (by kernel_rfl) (by decide)
     (d6F_st (fun j h e => by subst e; exact Bool.false_ne_true (h.symm.trans (by kernel_rfl)))) ?bs ?gb ?gs ?ar ?en
    case bs => exact ⟨HE8.out.below (Below.refl _ _).drew, HOw8.out.below (Below.refl _ _).drew⟩
    case gb =>
     exact fun c => trivial
    case gs =>
     exact fun _ _ _ _ _ _ _ _ => trivial
    case ar =>
     intro j o f u ho hi hB hG hpre K hK
     match j, ho, hG, hpre, hK with
     | 0, ho, hG, hpre, hK =>
       obtain rfl := Option.some.inj ho
       obtain ⟨z0, z1, z2, z3, z4⟩ := hB.1.ss.five
       have hl := hB.1.ss.lt
       refine wpOp_step rfl fun K' hK' => ?_
       simp only [putL, updV]
       go_simp
       have hz := hK' _ _ (hK (.agg #[.int .i64 s.G.W, .slice s.G.A s.G.n s.G.c, .int .i64 s.K.W, .slice s.K.A s.K.n s.K.c, .slice s.C s.k s.q]) (u) (hB) (d6R_refl _ _ (by decide)) (rfl))
       refine Eq.mp (congrArg (fun act => K' act (u)) ?_) hz
       kernel_rfl
     | 1, ho, hG, hpre, hK =>
       obtain rfl := Option.some.inj ho
       refine wpOp_step rfl fun K' hK' => ?_
       simp only [putL, updV]
       go_simp
       have hz := hK' _ _ (hK (.pointer (some ⟨w.heap.size, 1, none⟩)) (u) (hB) (d6R_refl _ _ (by decide)) (rfl))
       refine Eq.mp (congrArg (fun act => K' act (u)) ?_) hz
       kernel_rfl
     | 2, ho, hG, hpre, hK =>
       obtain rfl := Option.some.inj ho
       obtain ⟨x0, x1, x2⟩ := hB.1.ww.three
       have hl := hB.1.ww.lt
       have e1 : f 1 = .pointer (some ⟨w.heap.size, 1, none⟩) := hpre ⟨1, .data⟩ (by simp) rfl (.inl rfl)
       obtain ⟨f, rfl⟩ := fixG f 1 _ e1
       clear e1
       refine wpOp_step rfl fun K' hK' => ?_
       simp only [putL, updV]
       go_simp
       have hz := hK' _ _ (hK (.slice (some ⟨gB, 0, none⟩) N N) (u) (hB) (d6R_refl _ _ (by decide)) (rfl))
       refine Eq.mp (congrArg (fun act => K' act (u)) ?_) hz
       kernel_rfl
     | 3, ho, hG, hpre, hK =>
       obtain rfl := Option.some.inj ho
       refine wpOp_step rfl fun K' hK' => ?_
       simp only [putL, updV]
       go_simp
       have hz := hK' _ _ (hK (.int .i64 (n : Int)) (u) (hB) (d6R_refl _ _ (by decide)) (rfl))
       refine Eq.mp (congrArg (fun act => K' act (u)) ?_) hz
       kernel_rfl
     | 4, ho, hG, hpre, hK =>
       obtain rfl := Option.some.inj ho
       have k0 : (0 : Int) ≤ n := by omega
       have k1 : (n : Int) < N := by omega
       have k2 : (n : Int).toNat = n := by omega
       have e2 : f 2 = .slice (some ⟨gB, 0, none⟩) N N := hpre ⟨2, .data⟩ (by simp) rfl (.inl rfl)
       have e3 : f 3 = .int .i64 (n : Int) := hpre ⟨3, .data⟩ (by simp) rfl (.inl rfl)
       obtain ⟨f, rfl⟩ := fixG f 2 _ e2
       rw [updV_ne _ _ (by decide)] at e3
       obtain ⟨f, rfl⟩ := fixG f 3 _ e3
       clear e2 e3
       refine wpOp_step rfl fun K' hK' => ?_
       simp only [putL, updV]
       go_simp
       have hz := hK' _ _ (hK (.pointer (some ⟨gB, n * 2, none⟩)) (u) (hB) (d6R_refl _ _ (by decide)) (rfl))
       refine Eq.mp (congrArg (fun act => K' act (u)) ?_) hz
       kernel_rfl
     | 5, ho, hG, hpre, hK =>
       obtain rfl := Option.some.inj ho
       obtain ⟨y0, y1⟩ := hB.2.cellB Hzn.out
       have hl := hB.2.fb.lt
       have e4 : f 4 = .pointer (some ⟨gB, n * 2, none⟩) := hpre ⟨4, .data⟩ (by simp) rfl (.inl rfl)
       obtain ⟨f, rfl⟩ := fixG f 4 _ e4
       clear e4
       refine wpOp_step rfl fun K' hK' => ?_
       simp only [putL, updV]
       go_simp
       have hz := hK' _ _ (hK (.agg #[.int .i64 zn.W, .slice zn.A zn.n zn.c]) (u) (hB) (d6R_refl _ _ (by decide)) (rfl))
       refine Eq.mp (congrArg (fun act => K' act (u)) ?_) hz
       kernel_rfl
     | 6, ho, hG, hpre, hK =>
       obtain rfl := Option.some.inj ho
       have e0 : f 0 = .agg #[.int .i64 s.G.W, .slice s.G.A s.G.n s.G.c, .int .i64 s.K.W, .slice s.K.A s.K.n s.K.c, .slice s.C s.k s.q] := hpre ⟨0, .data⟩ (by simp) rfl (.inl rfl)
       have e5 : f 5 = .agg #[.int .i64 zn.W, .slice zn.A zn.n zn.c] := hpre ⟨5, .data⟩ (by simp) rfl (.inl rfl)
       obtain ⟨f, rfl⟩ := fixG f 0 _ e0
       rw [updV_ne _ _ (by decide)] at e5
       obtain ⟨f, rfl⟩ := fixG f 5 _ e5
       clear e0 e5
       refine wpOp_step rfl fun K' hK' => ?_
       simp only [putL, updV]
       go_simp
       go_at_call 130
       refine (applyF s zn v u hB.1.fw (hB.2.bt zn (List.mem_of_getElem? Hzn.out)) (by omega)).mono ?_
       rintro e u5 ⟨g, rfl, hzw, hb⟩
       have hz := hK' _ _ (hK (.tuple #[.agg #[.int .i64 v, .slice (some ⟨g, 0, none⟩) (Bs.nw v) (Bs.nw v)], .int .i64 0]) (u5) (⟨hB.1.below hb, hB.2.below hb⟩) (d6R_of hb (by decide)) (⟨g, rfl, hzw⟩))
       refine Eq.mp (congrArg (fun act => K' act (u5)) ?_) hz
       kernel_rfl
     | 7, ho, hG, hpre, hK =>
       obtain rfl := Option.some.inj ho
       obtain ⟨g, e6, hzw⟩ : ∃ g : Nat, f 6 = .tuple #[.agg #[.int .i64 v, .slice (some ⟨g, 0, none⟩) (Bs.nw v) (Bs.nw v)], .int .i64 0] ∧ ZWt u v ⟨v, some ⟨g, 0, none⟩, Bs.nw v, Bs.nw v, s.pf.vl v zn.ws⟩ := hpre ⟨6, .data⟩ (by simp) rfl (.inl rfl)
       obtain ⟨f, rfl⟩ := fixG f 6 _ e6
       clear e6
       refine wpOp_step rfl fun K' hK' => ?_
       simp only [putL, updV]
       go_simp
       have hz := hK' _ _ (hK (.tuple #[.agg #[.int .i64 v, .slice (some ⟨g, 0, none⟩) (Bs.nw v) (Bs.nw v)], .int .i64 0]) (u) (hB) (d6R_refl _ _ (by decide)) (⟨g, rfl, hzw⟩))
       refine Eq.mp (congrArg (fun act => K' act (u)) ?_) hz
       kernel_rfl
     | 8, ho, hG, hpre, hK =>
       obtain rfl := Option.some.inj ho
       obtain ⟨g, e7, hzw⟩ : ∃ g : Nat, f 7 = .tuple #[.agg #[.int .i64 v, .slice (some ⟨g, 0, none⟩) (Bs.nw v) (Bs.nw v)], .int .i64 0] ∧ ZWt u v ⟨v, some ⟨g, 0, none⟩, Bs.nw v, Bs.nw v, s.pf.vl v zn.ws⟩ := hpre ⟨7, .data⟩ (by simp) rfl (.inl rfl)
       obtain ⟨f, rfl⟩ := fixG f 7 _ e7
       clear e7
       refine wpOp_step rfl fun K' hK' => ?_
       simp only [putL, updV]
       go_simp
       have hz := hK' _ _ (hK (.agg #[.int .i64 v, .slice (some ⟨g, 0, none⟩) (Bs.nw v) (Bs.nw v)]) (u) (hB) (d6R_refl _ _ (by decide)) (⟨g, rfl, hzw⟩))
       refine Eq.mp (congrArg (fun act => K' act (u)) ?_) hz
       kernel_rfl
     | 9, ho, hG, hpre, hK =>
       obtain rfl := Option.some.inj ho
       obtain ⟨g, e7, hzw⟩ : ∃ g : Nat, f 7 = .tuple #[.agg #[.int .i64 v, .slice (some ⟨g, 0, none⟩) (Bs.nw v) (Bs.nw v)], .int .i64 0] ∧ ZWt u v ⟨v, some ⟨g, 0, none⟩, Bs.nw v, Bs.nw v, s.pf.vl v zn.ws⟩ := hpre ⟨7, .data⟩ (by simp) rfl (.inl rfl)
       obtain ⟨f, rfl⟩ := fixG f 7 _ e7
       clear e7
       refine wpOp_step rfl fun K' hK' => ?_
       simp only [putL, updV]
       go_simp
       have hz := hK' _ _ (hK (.int .i64 0) (u) (hB) (d6R_refl _ _ (by decide)) (rfl))
       refine Eq.mp (congrArg (fun act => K' act (u)) ?_) hz
       kernel_rfl
     | 10, ho, hG, hpre, hK =>
       obtain rfl := Option.some.inj ho
       have hb := (Below.refl u.heap.size u).alloc (Nat.le_refl _) (.cells #[.int .i64 0, .slice none 0 0] 49)
       have hl := hB.1.ww.lt
       have hlB := hB.2.fb.lt
       refine wpOp_step rfl fun K' hK' => ?_
       simp only [putL, updV]
       go_simp
       have hz := hK' _ _ (hK (.pointer (some ⟨u.heap.size, 0, none⟩)) (u.alloc (.cells #[.int .i64 0, .slice none 0 0] 49)) (⟨hB.1.below hb, hB.2.below hb⟩) (d6R_of hb (by decide)) (⟨_, rfl, Fb.new u _ _, by omega, by omega⟩))
       refine Eq.mp (congrArg (fun act => K' act (u.alloc (.cells #[.int .i64 0, .slice none 0 0] 49))) ?_) hz
       kernel_rfl
     | 11, ho, hG, hpre, hK =>
       obtain rfl := Option.some.inj ho
       obtain ⟨bZ, e10, hz, hbz, hnz⟩ : ∃ bZ : Nat, f 10 = .pointer (some ⟨bZ, 0, none⟩) ∧ Fb u bZ #[.int .i64 0, .slice none 0 0] 49 ∧ w.heap.size ≤ bZ ∧ gB ≠ bZ := hpre ⟨10, .data⟩ (by simp) rfl (.inr rfl)
       obtain ⟨g, e8, hzw⟩ : ∃ g : Nat, f 8 = .agg #[.int .i64 v, .slice (some ⟨g, 0, none⟩) (Bs.nw v) (Bs.nw v)] ∧ ZWt u v ⟨v, some ⟨g, 0, none⟩, Bs.nw v, Bs.nw v, s.pf.vl v zn.ws⟩ := hpre ⟨8, .data⟩ (by simp) rfl (.inl rfl)
       obtain ⟨y0, y1⟩ := hz.two
       have f0 := hz.frozen 0
       have f1 := hz.frozen 1
       have hl := hz.lt
       have hs := two_cells hz 0 1 (.int .i64 v) (.slice (some ⟨g, 0, none⟩) (Bs.nw v) (Bs.nw v))
       have how := hB.2.box hz (Nat.le_trans Hw0.out hbz) hnz (.int .i64 v) (.slice (some ⟨g, 0, none⟩) (Bs.nw v) (Bs.nw v))
       obtain ⟨f, rfl⟩ := fixG f 10 _ e10
       rw [updV_ne _ _ (by decide)] at e8
       obtain ⟨f, rfl⟩ := fixG f 8 _ e8
       clear e10 e8
       refine wpOp_step rfl fun K' hK' => ?_
       simp only [putL, updV]
       go_simp
       have hz := hK' _ _ (hK (undef) ((u.setCell ⟨bZ, 0, none⟩ (.int .i64 v)).setCell ⟨bZ, 1, none⟩ (.slice (some ⟨g, 0, none⟩) (Bs.nw v) (Bs.nw v))) (⟨hB.1.stp hs (.inl rfl), how⟩) (d6R_w hs) (⟨bZ, g, rfl, (hz.set 0 _).set 1 _, hnz, hzw.stp hs (by decide)⟩))
       refine Eq.mp (congrArg (fun act => K' act ((u.setCell ⟨bZ, 0, none⟩ (.int .i64 v)).setCell ⟨bZ, 1, none⟩ (.slice (some ⟨g, 0, none⟩) (Bs.nw v) (Bs.nw v)))) ?_) hz
       kernel_rfl
     | 12, ho, hG, hpre, hK =>
       obtain rfl := Option.some.inj ho
       have e9 : f 9 = .int .i64 0 := hpre ⟨9, .data⟩ (by simp) rfl (.inl rfl)
       obtain ⟨f, rfl⟩ := fixG f 9 _ e9
       clear e9
       refine wpOp_step rfl fun K' hK' => ?_
       simp only [putL, updV]
       go_simp
       have hz := hK' _ _ (hK (.int .i64 0) (u) (hB) (d6R_refl _ _ (by decide)) (rfl))
       refine Eq.mp (congrArg (fun act => K' act (u)) ?_) hz
       kernel_rfl
     | j + 13, ho, hG, hpre, hK => exact absurd hi (by omega)
    case en =>
     intro Q2 hQ2 f u hB hF
     obtain ⟨bZ, g, e10, hz, hnz, hzw⟩ : ∃ bZ g : Nat, f 10 = .pointer (some ⟨bZ, 0, none⟩) ∧ Fb u bZ #[.int .i64 v, .slice (some ⟨g, 0, none⟩) (Bs.nw v) (Bs.nw v)] 49 ∧ gB ≠ bZ ∧ ZWt u v ⟨v, some ⟨g, 0, none⟩, Bs.nw v, Bs.nw v, s.pf.vl v zn.ws⟩ := hF 11 (by decide) rfl
     have e12 : f 12 = .int .i64 0 := hF 12 (by decide) rfl
     have HOw9 := hid hB.2
     have HE9 := hid hB.1
     have HZb := hid hz
     have HZw := hid hzw
     have Hnz := hid hnz
     obtain ⟨f, rfl⟩ := fixG f 10 _ e10
     rw [updV_ne _ _ (by decide)] at e12
     obtain ⟨f, rfl⟩ := fixG f 12 _ e12
     clear e10 e12
     clear hF
     show wpAny _ _ _ _ 0 (tailArr 13 13) _ _
     refine ⟨by kernel_rfl, hQ2 _ _ (hKx _ _ ?_)⟩
     simp only [putL, updV]
     clear hB hz hzw hnz HOw8 HE8
     obtain ⟨zp, hz', hzw', hze⟩ : ∃ zp : ZH, Fb u bZ #[.int .i64 zp.W, .slice zp.A zp.n zp.c] 49 ∧ ZWt u v zp ∧ zp.ws = s.pf.vl v zn.ws := ⟨⟨v, some ⟨g, 0, none⟩, Bs.nw v, Bs.nw v, s.pf.vl v zn.ws⟩, HZb.out, HZw.out, rfl⟩
     have HZp := hid hze
     clear HZb HZw hze
     have HZb := hid hz'
     have HZw := hid hzw'
     clear hz' hzw'
     go_upto_region 7 with fail
     rename_i Kx hKx
     refine wp_region_factsI (fun j u => (j = 7 ∨ j = 8 ∨ j = 9 ∨ j = 14) → Ow w0 v N gB gI B (J'.map AL.v) J' u ∧ Fb u bZ #[.int .i64 zp.W, .slice zp.A zp.n zp.c] 49 ∧ ZWt u v zp) (d7F w0 w v N gB gI t bS bZ s z zp B J') (fun u => EB w v #[.int .i64 v, .slice (some ⟨gB, 0, none⟩) N N, .slice (some ⟨gI, 0, none⟩) N N] bS s u) d7U (d7R ) Kx (fun _ _ h => h) 15 15 (some 62 :: some 63 :: some 64 :: some 65 :: some 66 :: some 67 :: some 68 :: some 69 :: some 70 :: some 71 :: some 61 :: some 72 :: some 73 :: some 74 :: none :: []) (by kernel_rfl) (by kernel_rfl) (by kernel_rfl) (by kernel_rfl) (by kernel_rfl) (by kernel_rfl) (by decide)
      (d7F_st) ?bs ?gb ?gs ?ar ?en
     case bs => exact HE9.out.below (Below.refl _ _).drew
     case gb =>
      exact fun c _ => ⟨HOw9.out.below (Below.refl _ _).drew, HZb.out.below (Below.refl _ _).drew HZb.out.lt, HZw.out.below (Below.refl _ _).drew⟩
     case gs =>
      intro j u u' c hR hne hnr hG hc
      have h14 : j ≠ 14 := by
       rintro rfl
       rcases hc with rfl | rfl | rfl | rfl
       · exact Bool.false_ne_true (hnr.symm.trans (by kernel_rfl))
       · exact Bool.false_ne_true (hnr.symm.trans (by kernel_rfl))
       · exact Bool.false_ne_true (hnr.symm.trans (by kernel_rfl))
       · exact hne rfl
      obtain ⟨h1, h2, h3⟩ := hG hc
      have hb := d7R_bel hR h14
      exact ⟨h1.below hb, h2.below hb h2.lt, h3.below hb⟩
     case ar =>
      intro j o f u ho hi hB hG hpre K hK
      match j, ho, hG, hpre, hK with
      | 0, ho, hG, hpre, hK =>
        obtain rfl := Option.some.inj ho
        refine wpOp_step rfl fun K' hK' => ?_
        simp only [putL, updV]
        go_simp
        have hz := hK' _ _ (hK (.pointer (some ⟨w.heap.size, 1, none⟩)) (u) (hB) (d7R_refl _ _ (by decide)) (rfl))
        refine Eq.mp (congrArg (fun act => K' act (u)) ?_) hz
        kernel_rfl
      | 1, ho, hG, hpre, hK =>
        obtain rfl := Option.some.inj ho
        obtain ⟨x0, x1, x2⟩ := hB.ww.three
        have hl := hB.ww.lt
        have e0 : f 0 = .pointer (some ⟨w.heap.size, 1, none⟩) := hpre ⟨0, .data⟩ (by simp) rfl (.inl rfl)
        obtain ⟨f, rfl⟩ := fixG f 0 _ e0
        clear e0
        refine wpOp_step rfl fun K' hK' => ?_
        simp only [putL, updV]
        go_simp
        have hz := hK' _ _ (hK (.slice (some ⟨gB, 0, none⟩) N N) (u) (hB) (d7R_refl _ _ (by decide)) (rfl))
        refine Eq.mp (congrArg (fun act => K' act (u)) ?_) hz
        kernel_rfl
      | 2, ho, hG, hpre, hK =>
        obtain rfl := Option.some.inj ho
        refine wpOp_step rfl fun K' hK' => ?_
        simp only [putL, updV]
        go_simp
        have hz := hK' _ _ (hK (.int .i64 (t : Int)) (u) (hB) (d7R_refl _ _ (by decide)) (rfl))
        refine Eq.mp (congrArg (fun act => K' act (u)) ?_) hz
        kernel_rfl
      | 3, ho, hG, hpre, hK =>
        obtain rfl := Option.some.inj ho
        refine wpOp_step rfl fun K' hK' => ?_
        simp only [putL, updV]
        go_simp
        have hz := hK' _ _ (hK (.pointer (some ⟨w.heap.size, 1, none⟩)) (u) (hB) (d7R_refl _ _ (by decide)) (rfl))
        refine Eq.mp (congrArg (fun act => K' act (u)) ?_) hz
        kernel_rfl
      | 4, ho, hG, hpre, hK =>
        obtain rfl := Option.some.inj ho
        obtain ⟨x0, x1, x2⟩ := hB.ww.three
        have hl := hB.ww.lt
        have e3 : f 3 = .pointer (some ⟨w.heap.size, 1, none⟩) := hpre ⟨3, .data⟩ (by simp) rfl (.inl rfl)
        obtain ⟨f, rfl⟩ := fixG f 3 _ e3
        clear e3
        refine wpOp_step rfl fun K' hK' => ?_
        simp only [putL, updV]
        go_simp
        have hz := hK' _ _ (hK (.slice (some ⟨gB, 0, none⟩) N N) (u) (hB) (d7R_refl _ _ (by decide)) (rfl))
        refine Eq.mp (congrArg (fun act => K' act (u)) ?_) hz
        kernel_rfl
      | 5, ho, hG, hpre, hK =>
        obtain rfl := Option.some.inj ho
        refine wpOp_step rfl fun K' hK' => ?_
        simp only [putL, updV]
        go_simp
        have hz := hK' _ _ (hK (.int .i64 (t : Int)) (u) (hB) (d7R_refl _ _ (by decide)) (rfl))
        refine Eq.mp (congrArg (fun act => K' act (u)) ?_) hz
        kernel_rfl
      | 6, ho, hG, hpre, hK =>
        obtain rfl := Option.some.inj ho
        have k0 : (0 : Int) ≤ t := by omega
        have k1 : (t : Int) < N := by omega
        have k2 : (t : Int).toNat = t := by omega
        have e4 : f 4 = .slice (some ⟨gB, 0, none⟩) N N := hpre ⟨4, .data⟩ (by simp) rfl (.inl rfl)
        have e5 : f 5 = .int .i64 (t : Int) := hpre ⟨5, .data⟩ (by simp) rfl (.inl rfl)
        obtain ⟨f, rfl⟩ := fixG f 4 _ e4
        rw [updV_ne _ _ (by decide)] at e5
        obtain ⟨f, rfl⟩ := fixG f 5 _ e5
        clear e4 e5
        refine wpOp_step rfl fun K' hK' => ?_
        simp only [putL, updV]
        go_simp
        have hz := hK' _ _ (hK (.pointer (some ⟨gB, t * 2, none⟩)) (u) (hB) (d7R_refl _ _ (by decide)) (rfl))
        refine Eq.mp (congrArg (fun act => K' act (u)) ?_) hz
        kernel_rfl
      | 7, ho, hG, hpre, hK =>
        obtain rfl := Option.some.inj ho
        obtain ⟨y0, y1⟩ := (hG (.inl rfl)).1.cellB Hz.out
        have hl := (hG (.inl rfl)).1.fb.lt
        have e6 : f 6 = .pointer (some ⟨gB, t * 2, none⟩) := hpre ⟨6, .data⟩ (by simp) rfl (.inl rfl)
        obtain ⟨f, rfl⟩ := fixG f 6 _ e6
        clear e6
        refine wpOp_step rfl fun K' hK' => ?_
        simp only [putL, updV]
        go_simp
        have hz := hK' _ _ (hK (.agg #[.int .i64 z.W, .slice z.A z.n z.c]) (u) (hB) (d7R_refl _ _ (by decide)) (rfl))
        refine Eq.mp (congrArg (fun act => K' act (u)) ?_) hz
        kernel_rfl
      | 8, ho, hG, hpre, hK =>
        obtain rfl := Option.some.inj ho
        obtain ⟨y0, y1⟩ := (hG (.inr (.inl rfl))).2.1.two
        have hl := (hG (.inr (.inl rfl))).2.1.lt
        refine wpOp_step rfl fun K' hK' => ?_
        simp only [putL, updV]
        go_simp
        have hz := hK' _ _ (hK (.agg #[.int .i64 zp.W, .slice zp.A zp.n zp.c]) (u) (hB) (d7R_refl _ _ (by decide)) (rfl))
        refine Eq.mp (congrArg (fun act => K' act (u)) ?_) hz
        kernel_rfl
      | 9, ho, hG, hpre, hK =>
        obtain rfl := Option.some.inj ho
        have e7 : f 7 = .agg #[.int .i64 z.W, .slice z.A z.n z.c] := hpre ⟨7, .data⟩ (by simp) rfl (.inl rfl)
        have e8 : f 8 = .agg #[.int .i64 zp.W, .slice zp.A zp.n zp.c] := hpre ⟨8, .data⟩ (by simp) rfl (.inl rfl)
        obtain ⟨f, rfl⟩ := fixG f 7 _ e7
        rw [updV_ne _ _ (by decide)] at e8
        obtain ⟨f, rfl⟩ := fixG f 8 _ e8
        clear e7 e8
        refine wpOp_step rfl fun K' hK' => ?_
        simp only [putL, updV]
        go_simp
        go_at_call 132
        obtain ⟨hw1, -, hw3⟩ := hG (.inr (.inr (.inl rfl)))
        refine (unionZ z zp v u (hw1.bt z (List.mem_of_getElem? Hz.out)) hw3 (by omega)).mono ?_
        rintro e u5 ⟨g, rfl, hzw, hb⟩
        have hz := hK' _ _ (hK (.tuple #[.agg #[.int .i64 v, .slice (some ⟨g, 0, none⟩) (Bs.nw v) (Bs.nw v)], .int .i64 0]) (u5) (hB.below hb) (d7R_of hb (by decide)) (⟨g, rfl, hzw⟩))
        refine Eq.mp (congrArg (fun act => K' act (u5)) ?_) hz
        kernel_rfl
      | 10, ho, hG, hpre, hK =>
        obtain rfl := Option.some.inj ho
        obtain ⟨g, e9, hzw⟩ : ∃ g : Nat, f 9 = .tuple #[.agg #[.int .i64 v, .slice (some ⟨g, 0, none⟩) (Bs.nw v) (Bs.nw v)], .int .i64 0] ∧ ZWt u v ⟨v, some ⟨g, 0, none⟩, Bs.nw v, Bs.nw v, orR v z.ws zp.ws⟩ := hpre ⟨9, .data⟩ (by simp) rfl (.inl rfl)
        obtain ⟨f, rfl⟩ := fixG f 9 _ e9
        clear e9
        refine wpOp_step rfl fun K' hK' => ?_
        simp only [putL, updV]
        go_simp
        have hz := hK' _ _ (hK (.tuple #[.agg #[.int .i64 v, .slice (some ⟨g, 0, none⟩) (Bs.nw v) (Bs.nw v)], .int .i64 0]) (u) (hB) (d7R_refl _ _ (by decide)) (⟨g, rfl, hzw⟩))
        refine Eq.mp (congrArg (fun act => K' act (u)) ?_) hz
        kernel_rfl
      | 11, ho, hG, hpre, hK =>
        obtain rfl := Option.some.inj ho
        obtain ⟨g, e10, hzw⟩ : ∃ g : Nat, f 10 = .tuple #[.agg #[.int .i64 v, .slice (some ⟨g, 0, none⟩) (Bs.nw v) (Bs.nw v)], .int .i64 0] ∧ ZWt u v ⟨v, some ⟨g, 0, none⟩, Bs.nw v, Bs.nw v, orR v z.ws zp.ws⟩ := hpre ⟨10, .data⟩ (by simp) rfl (.inl rfl)
        obtain ⟨f, rfl⟩ := fixG f 10 _ e10
        clear e10
        refine wpOp_step rfl fun K' hK' => ?_
        simp only [putL, updV]
        go_simp
        have hz := hK' _ _ (hK (.agg #[.int .i64 v, .slice (some ⟨g, 0, none⟩) (Bs.nw v) (Bs.nw v)]) (u) (hB) (d7R_refl _ _ (by decide)) (⟨g, rfl, hzw⟩))
        refine Eq.mp (congrArg (fun act => K' act (u)) ?_) hz
        kernel_rfl
      | 12, ho, hG, hpre, hK =>
        obtain rfl := Option.some.inj ho
        obtain ⟨g, e10, hzw⟩ : ∃ g : Nat, f 10 = .tuple #[.agg #[.int .i64 v, .slice (some ⟨g, 0, none⟩) (Bs.nw v) (Bs.nw v)], .int .i64 0] ∧ ZWt u v ⟨v, some ⟨g, 0, none⟩, Bs.nw v, Bs.nw v, orR v z.ws zp.ws⟩ := hpre ⟨10, .data⟩ (by simp) rfl (.inl rfl)
        obtain ⟨f, rfl⟩ := fixG f 10 _ e10
        clear e10
        refine wpOp_step rfl fun K' hK' => ?_
        simp only [putL, updV]
        go_simp
        have hz := hK' _ _ (hK (.int .i64 0) (u) (hB) (d7R_refl _ _ (by decide)) (rfl))
        refine Eq.mp (congrArg (fun act => K' act (u)) ?_) hz
        kernel_rfl
      | 13, ho, hG, hpre, hK =>
        obtain rfl := Option.some.inj ho
        have k0 : (0 : Int) ≤ t := by omega
        have k1 : (t : Int) < N := by omega
        have k2 : (t : Int).toNat = t := by omega
        have e1 : f 1 = .slice (some ⟨gB, 0, none⟩) N N := hpre ⟨1, .data⟩ (by simp) rfl (.inl rfl)
        have e2 : f 2 = .int .i64 (t : Int) := hpre ⟨2, .data⟩ (by simp) rfl (.inl rfl)
        obtain ⟨f, rfl⟩ := fixG f 1 _ e1
        rw [updV_ne _ _ (by decide)] at e2
        obtain ⟨f, rfl⟩ := fixG f 2 _ e2
        clear e1 e2
        refine wpOp_step rfl fun K' hK' => ?_
        simp only [putL, updV]
        go_simp
        have hz := hK' _ _ (hK (.pointer (some ⟨gB, t * 2, none⟩)) (u) (hB) (d7R_refl _ _ (by decide)) (rfl))
        refine Eq.mp (congrArg (fun act => K' act (u)) ?_) hz
        kernel_rfl
      | 14, ho, hG, hpre, hK =>
        obtain rfl := Option.some.inj ho
        have e13 : f 13 = .pointer (some ⟨gB, t * 2, none⟩) := hpre ⟨13, .data⟩ (by simp) rfl (.inl rfl)
        obtain ⟨g, e11, hzw⟩ : ∃ g : Nat, f 11 = .agg #[.int .i64 v, .slice (some ⟨g, 0, none⟩) (Bs.nw v) (Bs.nw v)] ∧ ZWt u v ⟨v, some ⟨g, 0, none⟩, Bs.nw v, Bs.nw v, orR v z.ws zp.ws⟩ := hpre ⟨11, .data⟩ (by simp) rfl (.inl rfl)
        have how := (hG (.inr (.inr (.inr rfl)))).1
        obtain ⟨y0, y1⟩ := how.cellB Hz.out
        have f0 := how.fb.frozen (t * 2)
        have f1 := how.fb.frozen (t * 2 + 1)
        have hl := how.fb.lt
        have hs := two_cells how.fb (t * 2) (t * 2 + 1) (.int .i64 v) (.slice (some ⟨g, 0, none⟩) (Bs.nw v) (Bs.nw v))
        have how2 := how.setB htN hzw
        obtain ⟨f, rfl⟩ := fixG f 13 _ e13
        rw [updV_ne _ _ (by decide)] at e11
        obtain ⟨f, rfl⟩ := fixG f 11 _ e11
        clear e13 e11
        refine wpOp_step rfl fun K' hK' => ?_
        simp only [putL, updV]
        go_simp
        have hz := hK' _ _ (hK (undef) ((u.setCell ⟨gB, t * 2, none⟩ (.int .i64 v)).setCell ⟨gB, t * 2 + 1, none⟩ (.slice (some ⟨g, 0, none⟩) (Bs.nw v) (Bs.nw v))) (hB.stp hs (.inl rfl)) (d7R_w hs) (⟨g, how2⟩))
        refine Eq.mp (congrArg (fun act => K' act ((u.setCell ⟨gB, t * 2, none⟩ (.int .i64 v)).setCell ⟨gB, t * 2 + 1, none⟩ (.slice (some ⟨g, 0, none⟩) (Bs.nw v) (Bs.nw v)))) ?_) hz
        kernel_rfl
      | j + 15, ho, hG, hpre, hK => exact absurd hi (by omega)
     case en =>
      intro Q2 hQ2 f u hB hF
      obtain ⟨g, how⟩ : ∃ g : Nat, Ow w0 v N gB gI (B.set t ⟨v, some ⟨g, 0, none⟩, Bs.nw v, Bs.nw v, orR v z.ws zp.ws⟩) (J'.map AL.v) J' u := hF 14 (by decide) rfl
      have HOwA := hid how
      have HEA := hid hB
      clear hF
      show wpAny _ _ _ _ 0 (tailArr 15 15) _ _
      refine ⟨by kernel_rfl, hQ2 _ _ (hKx _ _ ?_)⟩
      simp only [putL, updV]
      clear how hB HOw9 HE9 HZb HZw
      obtain ⟨B', hB'⟩ : ∃ B', B.set t ⟨v, some ⟨g, 0, none⟩, Bs.nw v, Bs.nw v, orR v z.ws zp.ws⟩ = B' := ⟨_, rfl⟩
      have HB' := hid hB'
      rw [hB'] at HOwA
      have htJ : t < J.length := (List.getElem?_eq_some_iff.1 Ht.out).1
      have HtJ := hid htJ
      have Hm9 := hid (show (J'.map AL.v)[n]? = some (.slice rn.A rn.n rn.c) from by rw [← HJ'.out, List.getElem?_map, List.getElem?_set_ne (fun e => Hnt.out e.symm), Hrnn.out]; rfl)
      have Hlen := hid (show rn.l.length = rn.n from (H0.out.rt rn (List.mem_of_getElem? Hrnn.out)).len)
      have hrn := Nat.le_trans (H0.out.rt rn (List.mem_of_getElem? Hrnn.out)).few hN
      have HI0 := hid (show Rml w0 w v N gB gI t bS #[.int .i64 v, .slice (some ⟨gB, 0, none⟩) N N, .slice (some ⟨gI, 0, none⟩) N N] s B' J (r.l.eraseIdx p) rn.l 0 u from ⟨⟨delA r p, Jnd.start _ _ _ _, by
       have := HOwA.out
       rw [← HJ'.out] at this
       exact this⟩, HEA.out⟩)
      obtain ⟨x0, x1, x2⟩ := HEA.out.ww.three
      have m0 := HOwA.out.cellM Hm9.out
      have n3 : (0 : Int) ≤ n := by omega
      have n4 : (n : Int) < N := by omega
      have n5 : (n : Int).toNat = n := by omega
      clear hB' htJ HOwA HEA HJ' Hm9
      go_wp2_with fail
      clear x0 x1 x2 m0
      go_loopw [81] (fun jv wr => ∃ k : Nat, k ≤ rn.n ∧ jv = .int .i64 k ∧ Hid (Rml w0 w v N gB gI t bS #[.int .i64 v, .slice (some ⟨gB, 0, none⟩) N N, .slice (some ⟨gI, 0, none⟩) N N] s B' J (r.l.eraseIdx p) rn.l k wr)) (fun jv _ => rn.n - (intOf jv).toNat)
      case atStart => exact ⟨0, by omega, rfl, HI0⟩
      case round =>
       clear HI0
       obtain ⟨k, hk, rfl, HI⟩ := hrel
       obtain ⟨⟨rk, hj, how⟩, he⟩ := HI.out
       have Hj := hid hj
       have HOw := hid how
       have HE := hid he
       clear HI hj how he
       by_cases hlt : k < rn.n
       · obtain ⟨b, hb0, hbm⟩ := get_at Hlen.out hlt
         have Hb0 := hid hb0
         have Hrk := hid (show (J.set t rk)[t]? = some rk from List.getElem?_set_self HtJ.out)
         have Hrn1 := hid (show (J.set t rk)[n]? = some rn from by rw [List.getElem?_set_ne (fun e => Hnt.out e.symm)]; exact Hrnn.out)
         have hrw := HOw.out.rt rn (List.mem_of_getElem? Hrn1.out)
         have Hbm := hid (show 0 ≤ b.m ∧ b.m < (N : Int) from hrw.ris.2 _ (List.mem_map.2 ⟨b, hbm, rfl⟩))
         have HFb := hid (hrw.arcs b hbm)
         obtain ⟨gn, hA, hgl, y0, y1, y2, y3, y4, y5⟩ := hrw.later hb0
         have k0 : (0 : Int) ≤ k := by omega
         have k1 : (k : Int) < rn.n := by omega
         have k2 : (k : Int).toNat = k := by omega
         have hba := (Below.refl wr.heap.size wr).alloc (Nat.le_refl _) (.cells #[.int .i64 b.m, .int .i64 b.f.G.W, .slice b.f.G.A b.f.G.n b.f.G.c, .int .i64 b.f.K.W, .slice b.f.K.A b.f.K.n b.f.K.c, .slice b.f.C b.f.k b.f.q] 63)
         have HOw1 := hid (HOw.out.below hba)
         have HE1 := hid (HE.out.below hba)
         have HFa := hid (HFb.out.below hba)
         have HAb := hid (Fb.new wr #[.int .i64 b.m, .int .i64 b.f.G.W, .slice b.f.G.A b.f.G.n b.f.G.c, .int .i64 b.f.K.W, .slice b.f.K.A b.f.K.n b.f.K.c, .slice b.f.C b.f.k b.f.q] 63)
         clear HOw HE HFb hba hb0 hbm hrw
         rw [hA]
         go_upto_region 11 with fail
         clear y0 y1 y2 y3 y4 y5
         generalize wr.alloc (.cells #[.int .i64 b.m, .int .i64 b.f.G.W, .slice b.f.G.A b.f.G.n b.f.G.c, .int .i64 b.f.K.W, .slice b.f.K.A b.f.K.n b.f.K.c, .slice b.f.C b.f.k b.f.q] 63) = w11 at *
         generalize wr.heap.size = bA at *
         obtain ⟨y0, y1, y2, y3, y4, y5⟩ := HAb.out.six
         obtain ⟨z0, z1, z2, z3, z4⟩ := HE1.out.ss.five
         go_wp2_with fail
         refine (composeF b.f s v w11 HFa.out HE1.out.fw hv).mono ?_
         rintro _ w12 ⟨f', rfl, hw1, hw2, hfw, hsem, hb12⟩
         have Hw12 := hid (And.intro hw1 hw2)
         have Hsem := hid hsem
         have hb13 := (Below.refl w12.heap.size w12).alloc (Nat.le_refl _) (.cells #[.int .i64 v, .slice f'.G.A f'.G.n f'.G.c, .int .i64 v, .slice f'.K.A f'.K.n f'.K.c, .slice f'.C f'.k f'.q] 61)
         have hb14 := below_step hb12 hb13
         have HOw2 := hid (HOw1.out.below hb14)
         have HE2 := hid (HE1.out.below hb14)
         have HFf := hid (hfw.below hb13)
         have HAb2 := hid (HAb.out.below hb14 HAb.out.lt)
         have HTb := hid (Fb.new w12 #[.int .i64 v, .slice f'.G.A f'.G.n f'.G.c, .int .i64 v, .slice f'.K.A f'.K.n f'.K.c, .slice f'.C f'.k f'.q] 61)
         clear y0 y1 y2 y3 y4 y5 z0 z1 z2 z3 z4 hw1 hw2 hfw hsem hb12 hb13 hb14 HOw1 HE1 HFa HAb
         go_upto_region 14 with fail
         generalize w12.alloc (.cells #[.int .i64 v, .slice f'.G.A f'.G.n f'.G.c, .int .i64 v, .slice f'.K.A f'.K.n f'.K.c, .slice f'.C f'.k f'.q] 61) = w13 at *
         generalize w12.heap.size = bT at *
         obtain ⟨x0, x1, x2⟩ := HE2.out.ww.three
         obtain ⟨y0, y1, y2, y3, y4, y5⟩ := HAb2.out.six
         obtain ⟨z0, z1, z2, z3, z4⟩ := HTb.out.five
         have HC := hid (join_arc w0 v N gB gI t B' (J.set t rk) rk ⟨b.m, f'⟩ w13 HOw2.out hv hN Hrk.out HFf.out Hbm.out)
         go_wp2_with fail
         have hcon := HC.out
         unfold AH.a at hcon
         simp only [Hw12.out.1, Hw12.out.2] at hcon
         refine hcon.mono ?_
         clear hcon HC
         rintro _ w14 ⟨r', rfl, how, hjp, hgx, -⟩
         rw [List.set_set] at how
         have htx : TyX w13 w14 := TyX.grx hgx HOw2.out.fb HOw2.out.fi (fun g e => own_typ (HOw2.out.rt rk (List.mem_of_getElem? Hrk.out)).own e)
         have HI1 := hid (show Rml w0 w v N gB gI t bS #[.int .i64 v, .slice (some ⟨gB, 0, none⟩) N N, .slice (some ⟨gI, 0, none⟩) N N] s B' J (r.l.eraseIdx p) rn.l (k + 1) w14 from ⟨⟨r', Hj.out.next Hb0.out Hsem.out hjp, how⟩, HE2.out.ty htx⟩)
         clear x0 x1 x2 y0 y1 y2 y3 y4 y5 z0 z1 z2 z3 z4 how hjp hgx htx HOw2 HE2 HFf HAb2 HTb
         go_wp2_with fail
         go_roundw
         case rel => exact ⟨k + 1, by omega, by go_num, HI1⟩
         case measure => simp [intOf]; omega
       · have e : k = rn.n := by omega
         have e2 : k = rn.l.length := by rw [Hlen.out]; exact e
         have hj := Hj.out
         rw [e2] at hj
         have hto := remove_to (r' := rk) (z' := ⟨v, some ⟨g, 0, none⟩, Bs.nw v, Bs.nw v, orR v z.ws zp.ws⟩) H0.out (by rw [HB'.out]; exact HOw.out) Hnt.out Ht.out Hz.out Hrnn.out Hzn.out Ha.out Ham.out (by show orR v z.ws zp.ws = _; rw [HZp.out, Hs.out]) (by rw [Hs.out]; exact hj)
         rw [HB'.out] at hto
         have HFin := hid (show RetRm w0 v N gB gI n t B J w (.returned (.int .i64 0)) wr from ⟨B', _, rfl, HOw.out, hto, Fsub.set fun y hy => by
          rcases Hj.out.from' y hy with ⟨b, hb, e⟩ | ⟨b, hb, e⟩
          · exact ⟨r, List.mem_of_getElem? Ht.out, b, (mem_del Ha.out b).2 (.inr hb), e⟩
          · exact ⟨rn, List.mem_of_getElem? Hrnn.out, b, hb, e⟩, fun i hi => List.getElem?_set_ne (fun e => hi e.symm), fun r2 hr2 y hy => by
          rw [List.getElem?_set_self HtJ.out] at hr2
          obtain rfl := Option.some.inj hr2
          rcases Hj.out.from' y hy with ⟨b, hb, e⟩ | ⟨b, hb, e⟩
          · have := del_ne Hra.out.ris Ha.out b hb
            rw [Ham.out] at this
            rw [e]; exact this
          · rw [e]; exact Hno.out b hb, HE.out.tx⟩)
         clear hto hj
         go_wp2_with fail
         exact bodyPost_ret (v := .int .i64 0) (by simp [results, Tryz.results102, go_sem]) rfl HFin.out
def RetEl (w0 : World) (v N gB gI n : Nat) (B : List ZH) (J : List AL) (w : World) (e : Ending) (w' : World) : Prop :=
 ∃ (B' : List ZH) (J' : List AL), e = .returned (.int .i64 0) ∧ Ow w0 v N gB gI B' (J'.map AL.v) J' w' ∧ (pwO v B J).To (pwO v B' J') ∧ Fsub J J' ∧ (∀ r ∈ J', ∀ a ∈ r.l, a.m ≠ n) ∧ TyX w w'
structure Ell (w0 w : World) (v N gB gI n : Nat) (B : List ZH) (J : List AL) (t : Nat) (u : World) : Prop where
 ow : ∃ B' J', Ow w0 v N gB gI B' (J'.map AL.v) J' u ∧ (pwO v B J).To (pwO v B' J') ∧ Fsub J J' ∧ (∀ k r, k < t ∨ k = n → J'[k]? = some r → ∀ a ∈ r.l, a.m ≠ n)
 ww : Fb u w.heap.size #[.int .i64 v, .slice (some ⟨gB, 0, none⟩) N N, .slice (some ⟨gI, 0, none⟩) N N] 67
 tx : TyX w u
set_option maxHeartbeats 6400000 in
theorem eliminate_any (w0 : World) (v N gB gI n : Nat) (B : List ZH) (J : List AL) (w : World) (h : Ow w0 v N gB gI B (J.map AL.v) J w) (hv : v ≤ 8) (hN : N ≤ 20) (hnN : n < N) :
 Calls Tryz.prog 64 #[.agg #[.int .i64 v, .slice (some ⟨gB, 0, none⟩) N N, .slice (some ⟨gI, 0, none⟩) N N], .int .i64 n] w (RetEl w0 v N gB gI n B J w) := by
 have hN2 : N ≤ 256 := by omega
 have hb1 := (Below.refl w.heap.size w).alloc (Nat.le_refl _) (.cells #[.int .i64 v, .slice (some ⟨gB, 0, none⟩) N N, .slice (some ⟨gI, 0, none⟩) N N] 67)
 have HOw1 := hid (h.below hb1)
 have HW1 := hid (Fb.new w #[.int .i64 v, .slice (some ⟨gB, 0, none⟩) N N, .slice (some ⟨gI, 0, none⟩) N N] 67)
 have HX1 := hid (TyX.below hb1)
 clear h hb1
 go_enter Tryz.func64, Tryz.ntmps64
 go_upto_region 1 with fail
 generalize w.alloc (.cells #[.int .i64 v, .slice (some ⟨gB, 0, none⟩) N N, .slice (some ⟨gI, 0, none⟩) N N] 67) = w1 at *
 obtain ⟨x0, x1, x2⟩ := HW1.out.three
 go_wp2_with fail
 refine (resolve_any w0 v N gB gI n B J w1 HOw1.out hv hN2 hnN).mono ?_
 rintro _ w2 ⟨B2, J2, rfl, how, hto, hfs, hno, htx⟩
 have HOw2 := hid how
 have HW2 := hid (htx.fb HW1.out (by decide) (by decide) (by decide))
 have HX2 := hid (HX1.out.trans htx)
 have HTo := hid hto
 have HFs := hid hfs
 have HNo := hid hno
 clear x0 x1 x2 how hto hfs hno htx HOw1 HW1 HX1
 obtain ⟨x0, x1, x2⟩ := HW2.out.three
 go_wp2_with fail
 refine (arcsWithout_any w0 v N gB gI n B2 J2 w2 HOw2.out hN hnN).mono ?_
 rintro _ w3 ⟨c, rfl, hc, hb3⟩
 have HW3 := hid (HW2.out.below hb3 HW2.out.lt)
 have HI0 := hid (show Ell w0 w v N gB gI n B J 0 w3 from ⟨⟨B2, J2, HOw2.out.below hb3, HTo.out, HFs.out, fun k r hk hr => by
  rcases hk with hk | rfl
  · omega
  · exact HNo.out r hr⟩, HW3.out, HX2.out.trans (TyX.below hb3)⟩)
 clear x0 x1 x2 hb3 HW2 HX2 HTo HFs HNo HOw2
 obtain ⟨x0, x1, x2⟩ := HW3.out.three
 have hc2 : ¬ (1024 < c) := by omega
 go_wp2_with fail
 clear x0 x1 x2 HW3
 go_loopw [21] (fun tv wr => ∃ t : Nat, t ≤ N ∧ tv = .int .i64 t ∧ Hid (Ell w0 w v N gB gI n B J t wr)) (fun tv _ => N - (intOf tv).toNat)
 case atStart => exact ⟨0, by omega, rfl, HI0⟩
 case round =>
  clear HI0
  obtain ⟨t, ht, rfl, HI⟩ := hrel
  obtain ⟨⟨B4, J4, how, hto, hfs, hno⟩, hww, htx⟩ := HI.out
  have HOw := hid how
  have HTo := hid hto
  have HFs := hid hfs
  have HNo := hid hno
  have HW := hid hww
  have HX := hid htx
  clear HI how hto hfs hno hww htx
  by_cases hlt : t < N
  · have n0 : (0 : Int) ≤ t := by omega
    have n1 : (t : Int) < N := by omega
    obtain ⟨x0, x1, x2⟩ := HW.out.three
    go_wp2_with fail
    refine (remove_any w0 v N gB gI n t B4 J4 wr HOw.out hv hN2 hnN hlt (fun r hr => HNo.out n r (.inr rfl) hr)).mono ?_
    rintro _ w5 ⟨B5, J5, rfl, how, hto, hfs, hsame, hno, htx⟩
    have HI := hid (show Ell w0 w v N gB gI n B J (t + 1) w5 from ⟨⟨B5, J5, how, HTo.out.trans hto, HFs.out.trans hfs, fun k r hk hr => by
     by_cases e : k = t
     · subst e; exact hno r hr
     · rw [hsame k e] at hr
       exact HNo.out k r (by omega) hr⟩, htx.fb HW.out (by decide) (by decide) (by decide), HX.out.trans htx⟩)
    clear x0 x1 x2 how hto hfs hsame hno htx HOw HTo HFs HNo HW HX
    go_wp2_with fail
    go_roundw
    case rel => exact ⟨t + 1, by omega, by go_num, HI⟩
    case measure => simp [intOf]; omega
  · have e : t = N := by omega
    have HFin := hid (show RetEl w0 v N gB gI n B J w (.returned (.int .i64 0)) wr from ⟨B4, J4, rfl, HOw.out, HTo.out, HFs.out, fun r hr => by
     obtain ⟨k, hk⟩ := List.mem_iff_getElem?.1 hr
     have hkl := (List.getElem?_eq_some_iff.1 hk).1
     have hjl := HOw.out.jl
     exact HNo.out k r (.inl (by omega)) hk, HX.out⟩)
    go_wp2_with fail
    exact bodyPost_ret (v := .int .i64 0) (by simp [results, Tryz.results64, go_sem]) rfl HFin.out
theorem vset_fit {v : Nat} (hv : v ≤ 256) {l : List ZH} (h : ∀ s ∈ l, s.W = v ∧ Bs.Fit v s.ws) : l.all (zfitB v) = true := by
 rw [List.all_eq_true]
 intro s hs
 obtain ⟨h1, h2⟩ := h s hs
 unfold zfitB
 rw [h1, Bs.valid_of_fit h2 hv]; simp
theorem rows_snoc {il : List AL} {k : Nat} {r : AL} (h : il[k]? = some r) {done : List RH} (hd : done.map RH.l = (il.take k).map fun r => r.l.map AH.m) (A : Option Addr) (n c : Nat) : (done ++ [(⟨A, n, c, r.l.map AH.m⟩ : RH)]).map RH.l = (il.take (k + 1)).map fun r => r.l.map AH.m := by
 rw [List.take_add_one, h, List.map_append, List.map_append, hd]; rfl
set_option maxHeartbeats 12800000 in
theorem validWeb_any (x : WB) (v N : Nat) (ex : List (Option Nat)) (w : World) (h : WBok w ex x) (ho : WOk x v N) (hk : WLk x N) :
 Calls Tryz.prog 71 #[x.a] w fun e w' => e = .returned (.bool true) ∧ Below w.heap.size w w' := by
 obtain ⟨iI, hi, hz0, hz1, hz2⟩ := info_parts info3
 have HI := hid hi; have HI0 := hid hz0; have HI1 := hid hz1; have HI2 := hid hz2
 clear hi hz0 hz1 hz2
 have hv := ho.v256
 have hN := ho.n256
 have hN1 := hk.n1
 have Ho := hid ho
 have Hx := hid h
 have Hlk := hid (hk.link ho h)
 have hW := ho.w
 have hbn := ho.bn
 have hin := ho.inn
 clear h ho hk
 obtain ⟨W, ⟨BA, bn, bc, bl⟩, ⟨IA, inn, ic, il⟩⟩ := x
 simp only at hW hbn hin
 subst hW
 have hbn := hbn.symm
 subst hbn
 have hin := hin.symm
 subst hin
 obtain ⟨x0, hx0, -⟩ := get_at (show il.length = N from Hx.out.i.len) hN1
 obtain ⟨adi, hA, -, -⟩ := Hx.out.i.cell hx0
 clear hx0 x0
 simp only at hA
 subst hA
 unfold WB.a at *
 simp only at *
 have Hlk : Hid (linkB (il.map fun r => r.l.map AH.m) = true) := Hlk
 have hmk := run_mkints N (by omega)
 have HW0 := hid (show Vg w ⟨v, ⟨BA, N, bc, bl⟩, ⟨some adi, N, ic, il⟩⟩ N (w.heap.size + 1) (w.heap.size + 2) (.slice none 0 0) [] [] (List.replicate N (.slice none 0 0)) ((w.alloc (.cells #[.int .i64 v, .slice BA N bc, .slice (some adi) N ic] 67)).alloc (.cells (List.replicate N (Value.slice none 0 0)).toArray 22)) from by
  have hb := (Below.refl w.heap.size w).alloc (Nat.le_refl _) (.cells #[.int .i64 v, .slice BA N bc, .slice (some adi) N ic] 67)
  have ix := Fb.new (w.alloc (.cells #[.int .i64 v, .slice BA N bc, .slice (some adi) N ic] 67)) (List.replicate N (Value.slice none 0 0)).toArray 22
  rw [World.size_alloc] at ix
  exact ⟨(Fb.new w _ _).alloc _, ix, by omega, by omega, hb.alloc hb.size _, World.ownsRow_nil _ _ _ _, by simp, by simp, by simp, fun h => List.getElem?_replicate_of_lt h, fun j _ h => List.getElem?_replicate_of_lt h⟩)
 have HBs0 := hid (show w.heap.size + 2 ≤ ((w.alloc (.cells #[.int .i64 v, .slice BA N bc, .slice (some adi) N ic] 67)).alloc (.cells (List.replicate N (Value.slice none 0 0)).toArray 22)).heap.size by simp)
 generalize hrq : List.replicate N (Value.slice none 0 0) = ivs0 at *
 clear hrq
 go_enter Tryz.func71, Tryz.ntmps71
 go_wp2_with fail
 clear hmk
 generalize (w.alloc (.cells #[.int .i64 v, .slice BA N bc, .slice (some adi) N ic] 67)).alloc (.cells ivs0.toArray 22) = w3 at *
 generalize hg1 : w.heap.size + 1 = gD at *
 generalize hg2 : w.heap.size + 2 = b0 at *
 clear hg1 hg2
 go_loopw [4, 5, 7, 15] (fun _ _ _ kv wr => ∃ (k : Nat) (done : List RH) (ivs : List Value), k ≤ N ∧ kv = .int .i64 k ∧ Hid (done.length = k) ∧ Hid (b0 ≤ wr.heap.size) ∧ Hid (Vg w ⟨v, ⟨BA, N, bc, bl⟩, ⟨some adi, N, ic, il⟩⟩ N gD b0 (.slice none 0 0) done [] ivs wr) ∧ Hid (done.map RH.l = (il.take k).map fun r => r.l.map AH.m)) (fun _ _ _ kv _ => N - (intOf kv).toNat)
 case atStart => exact ⟨0, [], ivs0, by omega, rfl, hid rfl, HBs0, HW0, hid rfl⟩
 case round =>
  clear HBs0 HW0
  obtain ⟨k, done, ivs, hk, rfl, Hdk, HBs0, HS0, Hp⟩ := hrel
  by_cases hlt : k < N
  · obtain ⟨r, hr, hrm⟩ := get_at (show il.length = N from Hx.out.i.len) hlt
    obtain ⟨ad9, hA, hadr, hcr⟩ := (Hx.out.i.below HS0.out.bel).cell hr
    obtain rfl := Option.some.inj hA
    have hrn := (Ho.out.arcs r hrm).1
    have Hr := hid hr; have Hrm := hid hrm
    have n0 : (0 : Int) ≤ k := by omega
    have n1 : (k : Int) < N := by omega
    have n2 : (k : Int).toNat = k := by omega
    clear hr hrm hadr
    obtain ⟨rA, rn, rc, rl⟩ := r
    simp only at Hr Hrm hcr hrn ⊢
    obtain ⟨w0', w1', w2'⟩ := HS0.out.wx.three
    go_wp2_with fail
    clear w0' w1' w2' n0 n1 n2 hcr
    go_loopw [7, 22] (fun _ jv wr => ∃ (j : Nat) (Iv : Value) (cur : List Int) (ivs : List Value), j ≤ rn ∧ jv = .int .i64 j ∧ Hid (cur = (rl.take j).map AH.m) ∧ Hid (cur.length = j) ∧ Hid (b0 ≤ wr.heap.size) ∧ Hid (Vg w ⟨v, ⟨BA, N, bc, bl⟩, ⟨some adi, N, ic, il⟩⟩ N gD b0 Iv done cur ivs wr)) (fun _ jv _ => rn - (intOf jv).toNat)
    case atStart => exact ⟨0, _, [], ivs, by omega, rfl, hid rfl, hid rfl, HBs0, HS0⟩
    case round =>
     clear HBs0 HS0 ivs
     obtain ⟨j, Iv, cur, ivs, hj, rfl, Hcp, Hcl, HBs, HS⟩ := hrel
     by_cases hlt2 : j < rn
     · obtain ⟨a, ha, ham⟩ := get_at (show rl.length = rn from (Hx.out.i.all _ Hrm.out).len) hlt2
       obtain ⟨ad9, hA, had, hc0, hc1, hc2, hc3, hc4, hc5⟩ := ((Hx.out.i.all _ Hrm.out).below HS.out.bel).cell ha
       simp only at hA
       subst hA
       have Haf := hid (((Hx.out.i.all _ Hrm.out).all a ham).below HS.out.bel)
       have Hao := hid ((Ho.out.arcs _ Hrm.out).2 a ham)
       have Ha := hid ha
       obtain ⟨m, f0⟩ := a
       simp only at hc0 hc1 hc2 hc3 hc4 hc5
       have n0 : (0 : Int) ≤ j := by omega
       have n1 : (j : Int) < rn := by omega
       have n2 : (j : Int).toNat = j := by omega
       have hcl : cur.length ≤ 256 := by have := Hcl.out; omega
       have hba := (Below.refl wr.heap.size wr).alloc (Nat.le_refl _) (.cells #[.int .i64 m, .int .i64 f0.G.W, .slice f0.G.A f0.G.n f0.G.c, .int .i64 f0.K.W, .slice f0.K.A f0.K.n f0.K.c, .slice f0.C f0.k f0.q] 63)
       have HSa := hid (HS.out.below hba)
       have Haf2 := hid (Haf.out.below hba)
       have Hab2 := hid (Fb.new wr #[.int .i64 m, .int .i64 f0.G.W, .slice f0.G.A f0.G.n f0.G.c, .int .i64 f0.K.W, .slice f0.K.A f0.K.n f0.K.c, .slice f0.C f0.k f0.q] 63)
       have HBa := hid (show b0 ≤ (wr.alloc (.cells #[.int .i64 m, .int .i64 f0.G.W, .slice f0.G.A f0.G.n f0.G.c, .int .i64 f0.K.W, .slice f0.K.A f0.K.n f0.K.c, .slice f0.C f0.k f0.q] 63)).heap.size by have := HBs.out; have := hba.size; omega)
       have Hfit := hid (show (f0.vB && decide (f0.G.W = (v : Int))) = true by
        unfold FH.vB
        rw [Hao.out.2.w1, Hao.out.2.w2, Hao.out.2.ok]; simp)
       clear hba Haf HS HBs ha ham
       go_upto_region 8 with fail
       clear hc0 hc1 hc2 hc3 hc4 hc5 had n0 n1 n2
       generalize hbq : wr.heap.size = ba at *
       clear hbq
       generalize wr.alloc (.cells #[.int .i64 m, .int .i64 f0.G.W, .slice f0.G.A f0.G.n f0.G.c, .int .i64 f0.K.W, .slice f0.K.A f0.K.n f0.K.c, .slice f0.C f0.k f0.q] 63) = wb at *
       obtain ⟨d0, d1, d2, d3, d4, d5⟩ := Hab2.out.six
       obtain ⟨w0', w1', w2'⟩ := HSa.out.wx.three
       go_wp2_with fail
       refine (fits_any f0 v _ _ Haf2.out).mono ?_
       rw [Hfit.out]
       rintro e w1 ⟨rfl, hb1⟩
       have HS := hid (HSa.out.below hb1)
       have Hab := hid (Hab2.out.below hb1 Hab2.out.lt)
       have HBs := hid (show b0 ≤ w1.heap.size by have := HBa.out; have := hb1.size; omega)
       have Hiv := hid (show ivs[k]? = some Iv from by have := HS.out.i3 (by rw [Hdk.out]; exact hlt); rwa [Hdk.out] at this)
       clear d0 d1 d2 d3 d4 d5 w0' w1' w2' hb1 HSa Hab2 HBa Haf2
       go_upto_region 10 with fail
       rename_i Kx hKx
       refine wp_region_factsG (vaG b0 Iv cur) (vaF w1 gD b0 N Iv cur k ba m) (VgK w w1 ⟨v, ⟨BA, N, bc, bl⟩, ⟨some adi, N, ic, il⟩⟩ gD Iv ivs ba #[.int .i64 m, .int .i64 f0.G.W, .slice f0.G.A f0.G.n f0.G.c, .int .i64 f0.K.W, .slice f0.K.A f0.K.n f0.K.c, .slice f0.C f0.k f0.q]) vaU (vaR Iv) Kx (fun _ _ h => h) 12 10 [some 32, some 33, some 34, some 35, some 36, some 37, some 38, some 39, some 40, some 41, some 42, none] (by kernel_rfl) (by kernel_rfl) (by kernel_rfl) (by kernel_rfl) (by kernel_rfl) (by kernel_rfl) (by decide)
        vaF_st ?bs ?gs vaG_st ?ar ?en
       case bs => exact (HS.out.k Hab.out).below (Below.refl _ _).drew
       case gs =>
        intro c
        by_cases h9 : c = 9
        · subst h9; exact HS.out.oI.kept (grown_of_below (Below.refl w1.heap.size w1).drew none) (by cases Iv.ownBlock <;> simp)
        · unfold vaG; split <;> first | omega | trivial
       case ar =>
        intro j o f u ho hi hB hGi hpre K hK
        match j, ho, hpre, hK with
        | 0, ho, hpre, hK =>
          obtain rfl := Option.some.inj ho
          refine wpOp_step rfl fun K' hK' => ?_
          simp only [putL, updV]
          go_simp
          have hz := hK' _ _ (hK (.slice (some ⟨gD, 0, none⟩) N N) (u) (hB) (vaR.refl _ _ _) (rfl))
          refine Eq.mp (congrArg (fun a => K' a (u)) ?_) hz
          kernel_rfl
        | 1, ho, hpre, hK =>
          obtain rfl := Option.some.inj ho
          refine wpOp_step rfl fun K' hK' => ?_
          simp only [putL, updV]
          go_simp
          have hz := hK' _ _ (hK (.int .i64 (k : Int)) (u) (hB) (vaR.refl _ _ _) (rfl))
          refine Eq.mp (congrArg (fun a => K' a (u)) ?_) hz
          kernel_rfl
        | 2, ho, hpre, hK =>
          obtain rfl := Option.some.inj ho
          refine wpOp_step rfl fun K' hK' => ?_
          simp only [putL, updV]
          go_simp
          have hz := hK' _ _ (hK (.slice (some ⟨gD, 0, none⟩) N N) (u) (hB) (vaR.refl _ _ _) (rfl))
          refine Eq.mp (congrArg (fun a => K' a (u)) ?_) hz
          kernel_rfl
        | 3, ho, hpre, hK =>
          obtain rfl := Option.some.inj ho
          refine wpOp_step rfl fun K' hK' => ?_
          simp only [putL, updV]
          go_simp
          have hz := hK' _ _ (hK (.int .i64 (k : Int)) (u) (hB) (vaR.refl _ _ _) (rfl))
          refine Eq.mp (congrArg (fun a => K' a (u)) ?_) hz
          kernel_rfl
        | 4, ho, hpre, hK =>
          obtain rfl := Option.some.inj ho
          have k0 : (0 : Int) ≤ k := by omega
          have k1 : (k : Int) < N := by omega
          have k2 : (k : Int).toNat = k := by omega
          have e2 : f 2 = .slice (some ⟨gD, 0, none⟩) N N := hpre ⟨2, .data⟩ (by simp) rfl (.inl rfl)
          have e3 : f 3 = .int .i64 (k : Int) := hpre ⟨3, .data⟩ (by simp) rfl (.inl rfl)
          obtain ⟨f, rfl⟩ := fixG f 2 _ e2
          rw [updV_ne _ _ (by decide)] at e3
          obtain ⟨f, rfl⟩ := fixG f 3 _ e3
          clear e2 e3
          refine wpOp_step rfl fun K' hK' => ?_
          simp only [putL, updV]
          go_simp
          have hz := hK' _ _ (hK (.pointer (some ⟨gD, k, none⟩)) (u) (hB) (vaR.refl _ _ _) (rfl))
          refine Eq.mp (congrArg (fun a => K' a (u)) ?_) hz
          kernel_rfl
        | 5, ho, hpre, hK =>
          obtain rfl := Option.some.inj ho
          have c9 : u.cell? ⟨gD, k, none⟩ = some Iv := (hB.ix.cell k).trans (by rw [List.getElem?_toArray]; exact Hiv.out)
          have e4 : f 4 = .pointer (some ⟨gD, k, none⟩) := hpre ⟨4, .data⟩ (by simp) rfl (.inl rfl)
          obtain ⟨f, rfl⟩ := fixG f 4 _ e4
          clear e4
          refine wpOp_step rfl fun K' hK' => ?_
          simp only [putL, updV]
          go_simp
          have hz := hK' _ _ (hK (Iv) (u) (hB) (vaR.refl _ _ _) (rfl))
          refine Eq.mp (congrArg (fun a => K' a (u)) ?_) hz
          kernel_rfl
        | 6, ho, hpre, hK =>
          obtain rfl := Option.some.inj ho
          refine wpOp_step rfl fun K' hK' => ?_
          simp only [putL, updV]
          go_simp
          have hz := hK' _ _ (hK (.pointer (some ⟨ba, 0, none⟩)) (u) (hB) (vaR.refl _ _ _) (rfl))
          refine Eq.mp (congrArg (fun a => K' a (u)) ?_) hz
          kernel_rfl
        | 7, ho, hpre, hK =>
          obtain rfl := Option.some.inj ho
          have c9 : u.cell? ⟨ba, 0, none⟩ = some (.int .i64 m) := hB.ab.cell 0
          have e6 : f 6 = .pointer (some ⟨ba, 0, none⟩) := hpre ⟨6, .data⟩ (by simp) rfl (.inl rfl)
          obtain ⟨f, rfl⟩ := fixG f 6 _ e6
          clear e6
          refine wpOp_step rfl fun K' hK' => ?_
          simp only [putL, updV]
          go_simp
          have hz := hK' _ _ (hK (.int .i64 m) (u) (hB) (vaR.refl _ _ _) (rfl))
          refine Eq.mp (congrArg (fun a => K' a (u)) ?_) hz
          kernel_rfl
        | 8, ho, hpre, hK =>
          obtain rfl := Option.some.inj ho
          have e7 : f 7 = .int .i64 m := hpre ⟨7, .data⟩ (by simp) rfl (.inl rfl)
          obtain ⟨f, rfl⟩ := fixG f 7 _ e7
          clear e7
          have hbw := (Below.refl u.heap.size u).alloc (Nat.le_refl _) (.cells #[.int .i64 m] 3)
          refine wpOp_step rfl fun K' hK' => ?_
          simp only [putL, updV]
          go_simp
          have hz := hK' _ _ (hK (.slice (some ⟨u.heap.size, 0, none⟩) 1 1) (u.alloc (.cells #[.int .i64 m] 3)) (hB.below hbw) (vaR.below hbw) (⟨_, rfl, Fb.new _ _ _⟩))
          refine Eq.mp (congrArg (fun a => K' a (u.alloc (.cells #[.int .i64 m] 3))) ?_) hz
          kernel_rfl
        | 9, ho, hpre, hK =>
          obtain rfl := Option.some.inj ho
          have e5 : f 5 = Iv := hpre ⟨5, .data⟩ (by simp) rfl (.inl rfl)
          obtain ⟨g, e8, hf⟩ : ∃ g, f 8 = .slice (some ⟨g, 0, none⟩) 1 1 ∧ Fb u g #[.int .i64 m] 3 := hpre ⟨8, .data⟩ (by simp) rfl (.inr rfl)
          have ho : u.ownsRow b0 3 1 Iv cur.length (ints cur) := hGi
          have hbase : b0 ≤ u.heap.size := by have := HBs.out; have := hB.gx.size; omega
          obtain ⟨f, rfl⟩ := fixG f 5 _ e5
          rw [updV_ne _ _ (by decide)] at e8
          obtain ⟨f, rfl⟩ := fixG f 8 _ e8
          clear e5 e8
          refine wpOp_step rfl fun K' hK' => ?_
          refine step_append_lies _ rfl (.tmp 37) (.tmp 40) 22 rfl b0 3 iI _ 1 8 Tryz.underlying22 HI.out HI0.out HI1.out HI2.out rfl (by decide) Iv cur.length (ints cur) (by kernel_rfl) ho ⟨g, 0, none⟩ 1 1 [.int .i64 m] (by kernel_rfl) rfl (fun j x hx => World.news_of_block hf j x hx) (one_int1 m) (by omega) (by unfold maxLen; omega) (by omega) hbase _ rfl ?_
          intro g9 q9 w9 hown hgr hat _
          have hB9 := hB.app HS.out ho hgr
          have hn9 := hat.imp (fun e => e) (fun e => show w1.heap.size ≤ g9 by rw [e]; exact hB.gx.size)
          have hz := hK' _ _ (hK (.slice (some ⟨g9, 0, none⟩) (cur.length + 1) q9) (w9) (hB9) (⟨_, hgr, .inr ⟨rfl, rfl⟩⟩) (⟨g9, q9, rfl, hown, hn9⟩))
          refine Eq.mp (congrArg (fun a => K' a (w9)) ?_) hz
          kernel_rfl
        | j + 10, ho, hpre, hK => exact absurd hi (by omega)
       case en =>
        intro Q2 hQ2 f u hB hF
        have e0 : f 0 = .slice (some ⟨gD, 0, none⟩) N N := hF 0 (by decide) rfl
        have e1 : f 1 = .int .i64 (k : Int) := hF 1 (by decide) rfl
        obtain ⟨g9, q9, e9, o9, n9⟩ := hF 9 (by decide) rfl
        have HSn := hid (hB.push HS.out (by rw [Hdk.out]; exact hlt) o9 n9)
        rw [Hdk.out] at HSn
        have HBn := hid (show b0 ≤ (u.setCell ⟨gD, k, none⟩ (.slice (some ⟨g9, 0, none⟩) (cur.length + 1) q9)).heap.size from by have := HBs.out; have := hB.gx.size; simp only [World.size_setCell]; omega)
        have c9 : u.cell? ⟨gD, k, none⟩ = some Iv := (hB.ix.cell k).trans (by rw [List.getElem?_toArray]; exact Hiv.out)
        have f9 := hB.ix.frozen k
        have hl9 := hB.ix.lt
        obtain ⟨f, rfl⟩ := fixG f 0 _ e0
        rw [updV_ne _ _ (by decide)] at e1 e9
        obtain ⟨f, rfl⟩ := fixG f 1 _ e1
        rw [updV_ne _ _ (by decide)] at e9
        obtain ⟨f, rfl⟩ := fixG f 9 _ e9
        clear hF o9 n9 e0 e1 e9 hB
        show wpAny _ _ _ _ 2 (tailArr 12 10) _ _
        generalize hA : putL _ _ _ _ = aa
        refine tail_two (i := 10) (j := 11) ?q1 ?q2 ?q3 rfl rfl hQ2 ?q4
        case q1 => kernel_rfl
        case q2 => kernel_rfl
        case q3 => kernel_rfl
        simp only [putL, updV] at hA
        rw [← hA]
        clear hA
        have k0 : (0 : Int) ≤ k := by omega
        have k1 : (k : Int) < N := by omega
        have k2 : (k : Int).toNat = k := by omega
        go_simp
        refine hKx _ _ ?_
        clear k0 k1 k2
        have Hcp5 := hid (show cur ++ [m] = (rl.take (j + 1)).map AH.m by
         rw [List.take_add_one, Ha.out, List.map_append, Hcp.out]; rfl)
        have Hcl5 := hid (show (cur ++ [m]).length = j + 1 by rw [List.length_append, Hcl.out]; rfl)
        go_wp2_with fail
        go_roundw
        case rel => exact ⟨j + 1, _, cur ++ [m], _, by omega, by go_num, Hcp5, Hcl5, HBn, HSn⟩
        case measure => simp [intOf]; omega
     · obtain rfl : j = rn := by omega
       obtain ⟨A, c, e⟩ := own_slice3 HS.out.oI
       subst e
       have hcl := Hcl.out
       have HSx := hid (HS.out.next (by omega) (by rw [Hdk.out]; exact hlt))
       have hcu : cur = rl.map AH.m := by
        have := Hcp.out
        rwa [List.take_of_length_le (by rw [(Hx.out.i.all _ Hrm.out).len]; exact Nat.le_refl _)] at this
       have Hpx := hid (show (done ++ [(⟨A, cur.length, c, cur⟩ : RH)]).map RH.l = (il.take (k + 1)).map fun r => r.l.map AH.m by
        have := rows_snoc Hr.out Hp.out A cur.length c
        rw [← this]
        simp only [List.map_append, List.map_cons, List.map_nil, hcu])
       have Hdx := hid (show (done ++ [(⟨A, cur.length, c, cur⟩ : RH)]).length = k + 1 by rw [List.length_append, Hdk.out]; rfl)
       clear hcl hcu
       go_wp2_with fail
       go_roundw
       case rel => exact ⟨k + 1, _, ivs, by omega, by go_num, Hdx, HBs, HSx, Hpx⟩
       case measure => simp [intOf]; omega
  · obtain rfl : k = N := by omega
    have Hlh := hid (HS0.out.lh Hdk.out (by omega))
    have Hpl := hid (show done.map RH.l = il.map fun r => r.l.map AH.m by
     have := Hp.out
     rwa [List.take_of_length_le (by rw [Hx.out.i.len]; exact Nat.le_refl _)] at this)
    obtain ⟨w0', w1', w2'⟩ := HS0.out.wx.three
    go_wp2_with fail
    refine (linked_any ⟨some ⟨gD, 0, none⟩, k, k, done⟩ [] _ Hlh.out).mono ?_
    rw [show LH.v ⟨some ⟨gD, 0, none⟩, k, k, done⟩ = il.map fun r => r.l.map AH.m from Hpl.out, Hlk.out]
    rintro e w5 ⟨rfl, rfl⟩
    have HS5 := HS0
    clear w0' w1' w2'
    obtain ⟨w0', w1', w2'⟩ := HS5.out.wx.three
    go_wp2_with fail
    refine (allFit_any ⟨BA, k, bc, bl⟩ k v ex _ (Hx.out.b.below HS5.out.bel) (by omega)).mono ?_
    rw [show (decide ((⟨BA, k, bc, bl⟩ : ZL).n = k) && (⟨BA, k, bc, bl⟩ : ZL).l.all (zfitB v)) = true by
     simp only [decide_true, Bool.true_and]; exact vset_fit hv Ho.out.bd]
    rintro e w6 ⟨rfl, hb6⟩
    have Hb := hid (below_step HS5.out.bel hb6)
    clear hb6
    go_wp2_with fail
    go_ret
    exact ⟨rfl, Hb.out⟩
def z0 : ZH := ⟨0, none, 0, 0, []⟩
theorem made_sets (n : Nat) : madeCells (Value.agg #[.int .i64 0, .slice none 0 0]).cells (n * 2) = ((List.replicate n z0).flatMap ZH.cs).toArray := by
 rw [show (Value.agg #[.int .i64 0, .slice none 0 0]).cells = #[Value.int .i64 0, .slice none 0 0] from rfl]
 have hl := flat_len ZH.cs_len (List.replicate n z0)
 rw [List.length_replicate] at hl
 unfold madeCells
 apply Array.ext
 · rw [Array.size_map, Array.size_range, List.size_toArray, hl]
 · intro j h1 h2
   rw [Array.getElem_map, Array.getElem_range, List.getElem_toArray]
   show (#[Value.int .i64 0, .slice none 0 0] : Array Value)[j % 2]! = _
   rw [List.size_toArray, hl] at h2
   have hi : (List.replicate n z0)[j / 2]? = some z0 := List.getElem?_replicate_of_lt (by omega)
   have hc := flat_cell ZH.cs_len hi (j := j % 2) (Nat.mod_lt _ (by decide))
   have e : j / 2 * 2 + j % 2 = j := by omega
   rw [e] at hc
   have hb : ((List.replicate n z0).flatMap ZH.cs)[j]? = some (((List.replicate n z0).flatMap ZH.cs)[j]'(by rw [hl]; exact h2)) := List.getElem?_eq_getElem _
   rw [hb] at hc
   have h4 : j % 2 < 2 := Nat.mod_lt _ (by decide)
   generalize j % 2 = i at h4 hc ⊢
   match i, h4 with
   | 0, _ => exact (Option.some.inj hc).symm
   | 1, _ => exact (Option.some.inj hc).symm
theorem infoSet : (Tryz.prog.info? 49).map (fun i => (i.zero, i.size, i.bytes)) = some (some (.agg #[.int .i64 0, .slice none 0 0]), 2, 32) := by kernel_rfl
theorem run_mksets (n : Nat) (hn : n ≤ 100000) (w : World) :
 (Instr.makeSlice 25 (.int .i64 (n : Int)) (.int .i64 (n : Int))).run Tryz.prog w = .ok (.slice (some ⟨w.heap.size, 0, none⟩) n n) (w.alloc (.cells ((List.replicate n z0).flatMap ZH.cs).toArray 49)) := by
 obtain ⟨i, hi, hz0, hz1, hz2⟩ := info_parts infoSet
 have h := run_make (P := Tryz.prog) w 25 49 i (.agg #[.int .i64 0, .slice none 0 0]) Tryz.underlying25 hi hz0 .i64 .i64 n n (by omega) (by omega) (by rw [hz2]; omega) (by omega)
 rw [h, hz1]
 simp only [Int.toNat_natCast]
 rw [made_sets]
structure VRow (w : World) (g N : Nat) (l : List ZH) : Prop where
 fb : Fb w g (l.flatMap ZH.cs).toArray 49
 len : l.length = N
 all : ∀ z ∈ l, Arg w z.A z.n z.ws
theorem VRow.below {w w' : World} {g N : Nat} {l : List ZH} (h : VRow w g N l) (hb : Below w.heap.size w w') : VRow w' g N l := ⟨h.fb.below hb h.fb.lt, h.len, fun z hz => (h.all z hz).below hb⟩
theorem VRow.lt {w : World} {g N : Nat} {l : List ZH} (h : VRow w g N l) : g < w.heap.size := h.fb.lt
theorem flat_no_word (l : List ZH) (j : Nat) (x : Int) : (l.flatMap ZH.cs)[j]? ≠ some (.int .u64 x) := by
 intro h
 have hl := flat_len ZH.cs_len l
 have hj : j < l.length * 2 := by
  have := (List.getElem?_eq_some_iff.1 h).1
  omega
 have hi : l[j / 2]? = some (l[j / 2]'(by omega)) := List.getElem?_eq_getElem _
 have hc := flat_cell ZH.cs_len hi (j := j % 2) (Nat.mod_lt _ (by decide))
 rw [show j / 2 * 2 + j % 2 = j by omega, h] at hc
 have h4 : j % 2 < 2 := Nat.mod_lt _ (by decide)
 generalize j % 2 = i at h4 hc
 match i, h4 with
 | 0, _ => simp [ZH.cs] at hc
 | 1, _ => simp [ZH.cs] at hc
theorem VRow.not_word {w : World} {g N : Nat} {l : List ZH} (h : VRow w g N l) {p : Addr} {x : Int} (hp : w.cell? p = some (.int .u64 x)) : p.block ≠ g := by
 rintro rfl
 have h1 := h.fb
 unfold Fb at h1
 unfold World.cell? at hp
 rw [h1] at hp
 simp only [] at hp
 split at hp
 · simp at hp
 · exact flat_no_word l _ x (by simpa using hp)
theorem VRow.arg_far {w : World} {g N : Nat} {l : List ZH} (h : VRow w g N l) {A : Option Addr} {n : Nat} {ws : List Nat} (ha : Arg w A n ws) : ws = [] ∨ ∀ ad, A = some ad → ad.block ≠ g := by
 cases ws with
 | nil => exact .inl rfl
 | cons x ws =>
   refine .inr fun ad e => ?_
   obtain ⟨ad', e', _, hc⟩ := ha.lies.cell (j := 0) (u := .int .u64 x) rfl
   rw [e] at e'
   obtain rfl := Option.some.inj e'
   have := h.not_word hc
   rwa [add_block] at this
theorem flat_setV {l : List ZH} {k : Nat} (hk : k < l.length) (z : ZH) : ((l.flatMap ZH.cs).set (k * 2) (.int .i64 z.W)).set (k * 2 + 1) (.slice z.A z.n z.c) = (l.set k z).flatMap ZH.cs := by
 induction l generalizing k with
 | nil => simp at hk
 | cons y l ih =>
   cases k with
   | zero => simp [ZH.cs]
   | succ k =>
     have := ih (k := k) (by simpa using hk)
     rw [List.flatMap_cons, List.set_cons_succ, List.flatMap_cons, ← this, show (k + 1) * 2 = 2 + k * 2 by omega]
     simp [ZH.cs, show 2 + k * 2 = k * 2 + 1 + 1 by omega, show 2 + k * 2 + 1 = k * 2 + 1 + 1 + 1 by omega]
theorem VRow.put {w : World} {g N : Nat} {l : List ZH} (h : VRow w g N l) {k : Nat} (hk : k < N) {z : ZH} (hz : Arg w z.A z.n z.ws) : VRow ((w.setCell ⟨g, k * 2, none⟩ (.int .i64 z.W)).setCell ⟨g, k * 2 + 1, none⟩ (.slice z.A z.n z.c)) g N (l.set k z) := by
 have e : ∀ {A : Option Addr} {n : Nat} {ws : List Nat}, Arg w A n ws → Arg ((w.setCell ⟨g, k * 2, none⟩ (.int .i64 z.W)).setCell ⟨g, k * 2 + 1, none⟩ (.slice z.A z.n z.c)) A n ws := fun ha =>
  (ha.far (p := ⟨g, k * 2, none⟩) (h.arg_far ha) _).far (p := ⟨g, k * 2 + 1, none⟩) (h.arg_far ha) _
 refine ⟨?_, by rw [List.length_set]; exact h.len, fun y hy => ?_⟩
 · have h1 := (h.fb.set (k * 2) (.int .i64 z.W)).set (k * 2 + 1) (.slice z.A z.n z.c)
   have h2 : (((l.flatMap ZH.cs).toArray.setIfInBounds (k * 2) (.int .i64 z.W)).setIfInBounds (k * 2 + 1) (.slice z.A z.n z.c)) = ((l.set k z).flatMap ZH.cs).toArray := by
    rw [← flat_setV (by rw [h.len]; exact hk) z]
    simp
   rw [← h2]
   exact h1
 · rcases List.mem_or_eq_of_mem_set hy with hy | rfl
   · exact e (h.all y hy)
   · exact e hz
theorem VRow.zl {w : World} {g N : Nat} {l : List ZH} (h : VRow w g N l) (hN : N ≤ 100000) : ZLok w [] ⟨some ⟨g, 0, none⟩, N, N, l⟩ :=
 ⟨EAt.fb h.fb (by simp) (fun j u hu => by simpa using hu), h.len, by show N ≤ _; omega, fun z hz => ⟨by
   rcases (h.all z hz).lies with e | ⟨ad, e, hb, hc⟩
   · exact .inl e
   · exact .inr ⟨ad, e, ⟨hb, by simp⟩, hc⟩, (h.all z hz).len, (h.all z hz).ok⟩⟩
theorem VRow.cells {w : World} {g N : Nat} {l : List ZH} (h : VRow w g N l) {k : Nat} {z : ZH} (hk : l[k]? = some z) : w.cell? ⟨g, k * 2, none⟩ = some (.int .i64 z.W) ∧ w.cell? ⟨g, k * 2 + 1, none⟩ = some (.slice z.A z.n z.c) := by
 have h0 := flat_cell ZH.cs_len hk (j := 0) (by decide)
 have h1 := flat_cell ZH.cs_len hk (j := 1) (by decide)
 rw [Nat.add_zero] at h0
 constructor
 · rw [h.fb.cell]; simpa [ZH.cs] using h0
 · rw [h.fb.cell]; simpa [ZH.cs] using h1
theorem VRow.new (w : World) (N : Nat) : VRow (w.alloc (.cells ((List.replicate N z0).flatMap ZH.cs).toArray 49)) w.heap.size N (List.replicate N z0) :=
 ⟨Fb.new w _ _, List.length_replicate, fun z hz => by
   obtain ⟨_, rfl⟩ := List.mem_replicate.1 hz
   exact Arg.nil _ _⟩
structure BRow (w : World) (g N : Nat) (bs : List Bool) : Prop where
 fb : Fb w g (bs.map Value.bool).toArray 4
 len : bs.length = N
theorem BRow.below {w w' : World} {g N : Nat} {bs : List Bool} (h : BRow w g N bs) (hb : Below w.heap.size w w') : BRow w' g N bs := ⟨h.fb.below hb h.fb.lt, h.len⟩
theorem BRow.cell {w : World} {g N : Nat} {bs : List Bool} (h : BRow w g N bs) {k : Nat} {b : Bool} (hk : bs[k]? = some b) : w.cell? ⟨g, k, none⟩ = some (.bool b) := by
 rw [h.fb.cell]
 simp [hk]
theorem BRow.put {w : World} {g N : Nat} {bs : List Bool} (h : BRow w g N bs) (k : Nat) (b : Bool) : BRow (w.setCell ⟨g, k, none⟩ (.bool b)) g N (bs.set k b) := by
 refine ⟨?_, by rw [List.length_set]; exact h.len⟩
 have h1 := h.fb.set k (.bool b)
 have h2 : ((bs.map Value.bool).toArray.setIfInBounds k (.bool b)) = ((bs.set k b).map Value.bool).toArray := by
  rw [List.map_set]; simp
 rw [← h2]
 exact h1
theorem BRow.not_word {w : World} {g N : Nat} {bs : List Bool} (h : BRow w g N bs) {p : Addr} {x : Int} (hp : w.cell? p = some (.int .u64 x)) : p.block ≠ g := by
 rintro rfl
 have h1 := h.fb
 unfold Fb at h1
 unfold World.cell? at hp
 rw [h1] at hp
 simp only [] at hp
 split at hp
 · simp at hp
 · simp at hp
theorem BRow.arg_far {w : World} {g N : Nat} {bs : List Bool} (h : BRow w g N bs) {A : Option Addr} {n : Nat} {ws : List Nat} (ha : Arg w A n ws) : ws = [] ∨ ∀ ad, A = some ad → ad.block ≠ g := by
 cases ws with
 | nil => exact .inl rfl
 | cons x ws =>
   refine .inr fun ad e => ?_
   obtain ⟨ad', e', _, hc⟩ := ha.lies.cell (j := 0) (u := .int .u64 x) rfl
   rw [e] at e'
   obtain rfl := Option.some.inj e'
   have := h.not_word hc
   rwa [add_block] at this
theorem VRow.bools {w : World} {g N g' N' : Nat} {l : List ZH} {bs : List Bool} (h : VRow w g N l) (h' : BRow w g' N' bs) (hne : g ≠ g') (j : Nat) (u : Value) : VRow (w.setCell ⟨g', j, none⟩ u) g N l :=
 ⟨h.fb.far hne u, h.len, fun z hz => (h.all z hz).far (h'.arg_far (h.all z hz)) u⟩
theorem infoBool : (Tryz.prog.info? 4).map (fun i => (i.zero, i.size, i.bytes)) = some (some (.bool false), 1, 1) := by kernel_rfl
theorem run_mkbools (n : Nat) (hn : n ≤ 100000) (w : World) :
 (Instr.makeSlice 40 (.int .i64 (n : Int)) (.int .i64 (n : Int))).run Tryz.prog w = .ok (.slice (some ⟨w.heap.size, 0, none⟩) n n) (w.alloc (.cells ((List.replicate n false).map Value.bool).toArray 4)) := by
 obtain ⟨i, hi, hz0, hz1, hz2⟩ := info_parts infoBool
 have h := run_make (P := Tryz.prog) w 40 4 i (.bool false) Tryz.underlying40 hi hz0 .i64 .i64 n n (by omega) (by omega) (by rw [hz2]; omega) (by omega)
 rw [h, hz1]
 simp only [Int.toNat_natCast, Nat.mul_one]
 have e2 : madeCells (Value.bool false).cells n = ((List.replicate n false).map Value.bool).toArray := by
  apply Array.toList_inj.1
  rw [show (Value.bool false).cells = #[Value.bool false] from rfl, toList_madeCells_one]
  simp
 rw [e2]
theorem BRow.new (w : World) (N : Nat) : BRow (w.alloc (.cells ((List.replicate N false).map Value.bool).toArray 4)) w.heap.size N (List.replicate N false) := ⟨Fb.new w _ _, List.length_replicate⟩
set_option maxHeartbeats 1600000 in
theorem indexB_any (g N : Nat) (bs : List Bool) (w : World) (h : BRow w g N bs) (hN : N ≤ 100000) :
 Calls Tryz.prog 125 #[.slice (some ⟨g, 0, none⟩) N N, .bool true] w fun e w' => ∃ r : Int, e = .returned (.int .i64 r) ∧ decide (0 ≤ r) = bs.any id ∧ w = w' := by
 have HB := hid h
 clear h
 go_enter Tryz.func125, Tryz.ntmps125
 go_wp2_with fail
 go_loop [5, 8] (fun _ iv => ∃ k : Nat, k ≤ N ∧ iv = .int .i64 k ∧ Hid (∀ b ∈ bs.take k, (!b) = true)) (fun _ iv => N - (intOf iv).toNat)
 case atStart => exact ⟨0, by omega, rfl, hid (by simp)⟩
 case round =>
  obtain ⟨k, hk, rfl, hE⟩ := hrel
  by_cases hlt : k < N
  · obtain ⟨b, hb, hbm⟩ := get_at HB.out.len hlt
    have hc := HB.out.cell hb
    have hl := HB.out.fb.lt
    cases b with
    | true =>
      have Hr := hid (show decide (0 ≤ (k : Int)) = bs.any id by
       rw [List.any_eq_true.2 ⟨true, hbm, rfl⟩]; simp)
      clear hb hbm
      go_wp2_with fail
      go_ret
      exact ⟨k, rfl, Hr.out, rfl⟩
    | false =>
      have Hr := hid (all_take hE.out hb rfl)
      clear hb hbm
      go_wp2_with fail
      go_round
      case rel => exact ⟨k + 1, by omega, by go_num, Hr⟩
      case measure => simp [intOf]; omega
  · obtain rfl : k = N := by omega
    have Hr := hid (show decide ((0 : Int) ≤ -1) = bs.any id by
     have : bs.any id = false := List.any_eq_false.2 fun b hb => by
      have := hE.out b (by rw [List.take_of_length_le (by rw [HB.out.len]; exact Nat.le_refl _)]; exact hb)
      simpa using this
     rw [this]; rfl)
    go_wp2_with fail
    go_ret
    exact ⟨-1, rfl, Hr.out, rfl⟩
theorem containsB_any (g N : Nat) (bs : List Bool) (w : World) (h : BRow w g N bs) (hN : N ≤ 100000) :
 Calls Tryz.prog 98 #[.slice (some ⟨g, 0, none⟩) N N, .bool true] w fun e w' => e = .returned (.bool (bs.any id)) ∧ w = w' := by
 have HI := hid (indexB_any g N bs w h hN)
 clear h
 go_enter Tryz.func98, Tryz.ntmps98
 go_wp2_with fail
 refine HI.out.mono ?_
 rintro e w1 ⟨r, rfl, hr, rfl⟩
 have Hr := hid hr
 clear hr
 go_wp2_with fail
 go_ret
 exact ⟨ret_b Hr.out.symm, rfl⟩
theorem isUnknown_any (v N m : Nat) (BA IA : Option Addr) (bc ic : Nat) (w : World) (hm : m < N) :
 Calls Tryz.prog 72 #[.agg #[.int .i64 v, .slice BA N bc, .slice IA N ic], .int .i64 m] w fun e w' => e = .returned (.bool true) ∧ Below w.heap.size w w' := by
 have hb1 := (Below.refl w.heap.size w).alloc (Nat.le_refl _) (.cells #[.int .i64 v, .slice BA N bc, .slice IA N ic] 67)
 have HW1 := hid (Fb.new w #[.int .i64 v, .slice BA N bc, .slice IA N ic] 67)
 have HB := hid hb1
 clear hb1
 go_enter Tryz.func72, Tryz.ntmps72
 go_upto_region 1 with fail
 generalize w.alloc (.cells #[.int .i64 v, .slice BA N bc, .slice IA N ic] 67) = w1 at *
 have n0 : (0 : Int) ≤ m := by omega
 have n1 : (m : Int) < N := by omega
 obtain ⟨x0, x1, x2⟩ := HW1.out.three
 go_wp2_with fail
 exact bodyPost_ret (v := .bool true) (by simp [results, Tryz.results72, go_sem]) rfl ⟨rfl, HB.out⟩
def RetRd (w : World) (v N : Nat) (p : PW) (ks : List Int) (e : Ending) (w' : World) : Prop :=
 ∃ (w0 : World) (gB gI : Nat) (B : List ZH) (J : List AL), e = .returned (.tuple #[.agg #[.int .i64 v, .slice (some ⟨gB, 0, none⟩) N N, .slice (some ⟨gI, 0, none⟩) N N], .int .i64 0]) ∧ Ow w0 v N gB gI B (J.map AL.v) J w' ∧ p.To (pwO v B J) ∧ (∀ r ∈ J, ∀ a ∈ r.l, a.m ∈ ks) ∧ Below w.heap.size w w'
structure Rdb (w : World) (WX : Array Value) (gk N : Nat) (fs : List Bool) (u : World) : Prop where
 a : Fb u w.heap.size WX 67
 z : Fb u (w.heap.size + 1) #[.int .i64 0, .slice none 0 0, .slice none 0 0] 67
 k : BRow u gk N fs
theorem Rdb.ty {w u u' : World} {WX : Array Value} {gk N : Nat} {fs : List Bool} (h : Rdb w WX gk N fs u) (hx : TyX u u') : Rdb w WX gk N fs u' :=
 ⟨hx.fb h.a (by decide) (by decide) (by decide), hx.fb h.z (by decide) (by decide) (by decide), hx.fb h.k.fb (by decide) (by decide) (by decide), h.k.len⟩
def Kpt (N : Nat) (ks : List Int) (fs : List Bool) : Prop := ∀ m, m < N → (fs[m]? = some true ↔ (m : Int) ∈ ks)
theorem Kpt.start (N : Nat) : Kpt N [] (List.replicate N false) := fun m hm => by
 rw [List.getElem?_replicate, if_pos hm]; simp
theorem Kpt.next {N i m : Nat} {ks : List Int} {fs : List Bool} (h : Kpt N (ks.take i) fs) (hl : fs.length = N) (hi : ks[i]? = some (m : Int)) : Kpt N (ks.take (i + 1)) (fs.set m true) := by
 intro j hj
 have hil := (List.getElem?_eq_some_iff.1 hi).1
 rw [List.take_add_one, hi]
 simp only [Option.toList, List.mem_append, List.mem_singleton]
 by_cases e : j = m
 · subst e
   rw [List.getElem?_set_self (by omega)]; simp
 · rw [List.getElem?_set_ne (fun e' => e e'.symm), h j hj]
   constructor
   · exact .inl
   · rintro (h1 | h1)
     · exact h1
     · omega
theorem Ow.base {w w0 u : World} {v N gB gI : Nat} {B : List ZH} {M : List Value} {J : List AL} (h : Ow w0 v N gB gI B M J u) (hb : Below w.heap.size w w0) : Ow w v N gB gI B M J u := by
 have hs := hb.size
 refine ⟨below_step hb h.bel, by have := h.gb; omega, by have := h.gi; omega, h.fb, h.fi, h.bl, h.ml, h.jl, h.bt, fun r hr => ?_, h.ap⟩
 have h1 := h.rt r hr
 refine ⟨⟨h1.own.1, ?_⟩, h1.arcs, h1.ris⟩
 rcases h1.own.2 with h2 | ⟨g, cap, cur, e, hg, hr⟩
 · exact .inl h2
 · exact .inr ⟨g, cap, cur, e, by omega, hr⟩
structure Rdl (wc : World) (v N gB gI : Nat) (p : PW) (ks : List Int) (j : Nat) (u : World) : Prop where
 ow : ∃ B J, Ow wc v N gB gI B (J.map AL.v) J u ∧ p.To (pwO v B J) ∧ (∀ r ∈ J, ∀ a ∈ r.l, a.m ∈ ks ∨ (j : Int) ≤ a.m)
set_option maxHeartbeats 12800000 in
theorem reduce_any (v N : Nat) (BA IA : Option Addr) (bc ic : Nat) (bl : List ZH) (il : List AL) (rk : RH) (ex ex' : List (Option Nat)) (w : World) (h : WBok w ex ⟨v, ⟨BA, N, bc, bl⟩, ⟨IA, N, ic, il⟩⟩) (ho : WOk ⟨v, ⟨BA, N, bc, bl⟩, ⟨IA, N, ic, il⟩⟩ v N) (hk : WLk ⟨v, ⟨BA, N, bc, bl⟩, ⟨IA, N, ic, il⟩⟩ N) (hr : RHok w ex' rk) (hrm : ∀ m ∈ rk.l, 0 ≤ m ∧ m < (N : Int)) (hrn : rk.n ≤ 1000) (hv : v ≤ 8) (hN : N ≤ 20) :
 Calls Tryz.prog 34 #[.agg #[.int .i64 v, .slice BA N bc, .slice IA N ic], .slice rk.A rk.n rk.c] w (RetRd w v N (⟨v, ⟨BA, N, bc, bl⟩, ⟨IA, N, ic, il⟩⟩ : WB).pw rk.l) := by
 have HC1 := hid (fun (u : World) (hu : Below w.heap.size w u) => validWeb_any _ v N ex u (h.below hu) ho hk)
 have HC2 := hid (fun (u : World) (hu : Below w.heap.size w u) => copiedWeb_any _ v N ex u (h.below hu) ho hk)
 have HR := hid (fun (u : World) (hu : Below w.heap.size w u) => hr.below hu)
 have HRl := hid hr.len
 have HRm := hid hrm
 have hb1 := (Below.refl w.heap.size w).alloc (Nat.le_refl _) (.cells #[.int .i64 v, .slice BA N bc, .slice IA N ic] 67)
 have hb2 := hb1.alloc hb1.size (.cells #[.int .i64 0, .slice none 0 0, .slice none 0 0] 67)
 have HB2 := hid hb2
 have HF2 := hid (show Fb ((w.alloc (.cells #[.int .i64 v, .slice BA N bc, .slice IA N ic] 67)).alloc (.cells #[.int .i64 0, .slice none 0 0, .slice none 0 0] 67)) w.heap.size #[.int .i64 v, .slice BA N bc, .slice IA N ic] 67 ∧ Fb ((w.alloc (.cells #[.int .i64 v, .slice BA N bc, .slice IA N ic] 67)).alloc (.cells #[.int .i64 0, .slice none 0 0, .slice none 0 0] 67)) (w.heap.size + 1) #[.int .i64 0, .slice none 0 0, .slice none 0 0] 67 from by
  have f1 := Fb.new w #[.int .i64 v, .slice BA N bc, .slice IA N ic] 67
  have f2 := Fb.new (w.alloc (.cells #[.int .i64 v, .slice BA N bc, .slice IA N ic] 67)) #[.int .i64 0, .slice none 0 0, .slice none 0 0] 67
  exact ⟨f1.below ((Below.refl _ _).alloc (Nat.le_refl _) _) f1.lt, by simpa using f2⟩)
 have hmk := run_mkbools N (by omega)
 have HK0 := hid (Kpt.start N)
 have HL0 := hid (show (List.replicate N false).length = N from List.length_replicate)
 generalize List.replicate N false = ds0 at *
 have Hmk := hid hmk
 clear h ho hk hr hrm hb1 hb2 hmk
 go_enter Tryz.func34, Tryz.ntmps34
 go_upto_region 1 with fail
 generalize (w.alloc (.cells #[.int .i64 v, .slice BA N bc, .slice IA N ic] 67)).alloc (.cells #[.int .i64 0, .slice none 0 0, .slice none 0 0] 67) = w2 at *
 obtain ⟨x0, x1, x2⟩ := HF2.out.1.three
 go_wp2_with fail
 refine (HC1.out w2 HB2.out).mono ?_
 rintro _ w3 ⟨rfl, hb3⟩
 have hmk := Hmk.out w3
 have HB3 := hid (below_step HB2.out hb3)
 have HF3 := hid (And.intro (HF2.out.1.below hb3 HF2.out.1.lt) (HF2.out.2.below hb3 HF2.out.2.lt))
 clear x0 x1 x2 hb3 HB2 HF2 HC1
 obtain ⟨x0, x1, x2⟩ := HF3.out.1.three
 have hb4 := (Below.refl w3.heap.size w3).alloc (Nat.le_refl _) (.cells (ds0.map Value.bool).toArray 4)
 have HB4 := hid (below_step HB3.out hb4)
 have HD4 := hid (show Rdb w #[.int .i64 v, .slice BA N bc, .slice IA N ic] w3.heap.size N ds0 (w3.alloc (.cells (ds0.map Value.bool).toArray 4)) from ⟨HF3.out.1.below hb4 HF3.out.1.lt, HF3.out.2.below hb4 HF3.out.2.lt, Fb.new _ _ _, HL0.out⟩)
 have HB3s := hid HB3.out.size
 clear hb4 HB3 HF3
 go_upto_region 4 with fail
 generalize w3.alloc (.cells (ds0.map Value.bool).toArray 4) = w4 at *
 have Hgk := hid (show w.heap.size ≤ w3.heap.size from HB3s.out)
 generalize w3.heap.size = gk at *
 have HI0 := hid (show ∃ fs, Rdb w #[.int .i64 v, .slice BA N bc, .slice IA N ic] gk N fs w4 ∧ Below w.heap.size w w4 ∧ Kpt N (rk.l.take 0) fs from ⟨_, HD4.out, HB4.out, HK0.out⟩)
 clear x0 x1 x2 hmk HD4 HB4
 go_wp2_with fail
 go_loopw [22] (fun iv wr => ∃ i : Nat, i ≤ rk.n ∧ iv = .int .i64 i ∧ Hid (∃ fs, Rdb w #[.int .i64 v, .slice BA N bc, .slice IA N ic] gk N fs wr ∧ Below w.heap.size w wr ∧ Kpt N (rk.l.take i) fs)) (fun iv _ => rk.n - (intOf iv).toNat)
 case atStart => exact ⟨0, by omega, rfl, HI0⟩
 case round =>
  clear HI0
  obtain ⟨i, hi, rfl, HI⟩ := hrel
  obtain ⟨fs, hd, hb, hkp⟩ := HI.out
  have HD := hid hd
  have HB := hid hb
  have HK := hid hkp
  clear HI hd hb hkp
  by_cases hlt : i < rk.n
  · have n0 : (0 : Int) ≤ i := by omega
    have n1 : (i : Int) < rk.n := by omega
    have n2 : (i : Int).toNat = i := by omega
    obtain ⟨mi, hmi, hmm⟩ := get_at HRl.out hlt
    obtain ⟨m0, m1⟩ := HRm.out mi hmm
    obtain ⟨m, rfl⟩ : ∃ m : Nat, mi = m := ⟨mi.toNat, by omega⟩
    have Hmi := hid hmi
    obtain ⟨ad, hA, hal, y0⟩ := (HR.out wr HB.out).cell hmi
    have hmN : m < N := by omega
    have m2 : (m : Int).toNat = m := by omega
    obtain ⟨x0, x1, x2⟩ := HD.out.a.three
    clear hmi hmm
    rw [hA]
    go_wp2_with fail
    refine (isUnknown_any v N m BA IA bc ic wr hmN).mono ?_
    rintro _ w5 ⟨rfl, hb5⟩
    have HD5 := hid (HD.out.ty (TyX.below hb5))
    have HB5 := hid (below_step HB.out hb5)
    clear y0 x0 x1 x2 hb5 HD HB
    obtain ⟨fb, hfb⟩ : ∃ fb, fs[m]? = some fb := ⟨_, List.getElem?_eq_getElem (by rw [HD5.out.k.len]; exact hmN)⟩
    have y0 := HD5.out.k.cell hfb
    have f0 := HD5.out.k.fb.frozen m
    have hl := HD5.out.k.fb.lt
    have hs := stp_cell HD5.out.k.fb m (.bool true)
    have HI1 := hid (show ∃ fs', Rdb w #[.int .i64 v, .slice BA N bc, .slice IA N ic] gk N fs' (w5.setCell ⟨gk, m, none⟩ (.bool true)) ∧ Below w.heap.size w (w5.setCell ⟨gk, m, none⟩ (.bool true)) ∧ Kpt N (rk.l.take (i + 1)) fs' from ⟨fs.set m true, ⟨hs.fb HD5.out.a (by decide), hs.fb HD5.out.z (by decide), HD5.out.k.put m true⟩, HB5.out.setCell (by exact Hgk.out) _, HK.out.next HD5.out.k.len Hmi.out⟩)
    clear hs hfb HD5 HB5
    go_wp2_with fail
    go_roundw
    case rel => exact ⟨i + 1, by omega, by go_num, HI1⟩
    case measure => simp [intOf]; omega
  · have e : i = rk.n := by omega
    generalize wr = wc at *
    have HZl := hid HD.out.z.lt
    have hk0 := HK.out
    rw [e, ← HRl.out, List.take_length] at hk0
    have HK1 := hid hk0
    obtain ⟨x0, x1, x2⟩ := HD.out.a.three
    clear e hk0 HK
    go_wp2_with fail
    refine (HC2.out wc HB.out).mono ?_
    rintro _ w6 ⟨gB, gI, B, J, rfl, how, he1, he2⟩
    have hb6 := how.bel
    have hsz := hb6.size
    have hb7 := (Below.refl w6.heap.size w6).alloc (Nat.le_refl _) (.cells #[.int .i64 v, .slice (some ⟨gB, 0, none⟩) N N, .slice (some ⟨gI, 0, none⟩) N N] 67)
    have HD7 := hid (HD.out.ty (TyX.below (below_step hb6 hb7)))
    have HO7 := hid (Fb.new w6 #[.int .i64 v, .slice (some ⟨gB, 0, none⟩) N N, .slice (some ⟨gI, 0, none⟩) N N] 67)
    have hpw : pwO v B J = (⟨v, ⟨BA, N, bc, bl⟩, ⟨IA, N, ic, il⟩⟩ : WB).pw := by
     show PW.mk v (B.map ZH.ws) (J.map AL.pa) = PW.mk (Int.toNat v) (bl.map ZH.ws) (il.map AL.pa)
     rw [he1, he2, Int.toNat_natCast]
    have HI0 := hid (show Rdl wc v N gB gI (⟨v, ⟨BA, N, bc, bl⟩, ⟨IA, N, ic, il⟩⟩ : WB).pw rk.l 0 (w6.alloc (.cells #[.int .i64 v, .slice (some ⟨gB, 0, none⟩) N N, .slice (some ⟨gI, 0, none⟩) N N] 67)) from ⟨B, J, how.below hb7, by rw [hpw]; exact PW.To.refl _, fun r hr a ha => .inr ((how.rt r hr).ris.2 _ (List.mem_map.2 ⟨a, ha, rfl⟩)).1⟩)
    clear x0 x1 x2 how he1 he2 hb6 hb7 hsz hpw HD
    go_upto_region 12 with fail
    generalize w6.alloc (.cells #[.int .i64 v, .slice (some ⟨gB, 0, none⟩) N N, .slice (some ⟨gI, 0, none⟩) N N] 67) = w7 at *
    generalize w6.heap.size = bO at *
    obtain ⟨x0, x1, x2⟩ := HO7.out.three
    have HI1 := hid (And.intro HI0.out (And.intro HD7.out HO7.out))
    go_wp2_with fail
    clear x0 x1 x2 HI0 HD7 HO7
    go_loopw [40] (fun jv wr => ∃ j : Nat, j ≤ N ∧ jv = .int .i64 j ∧ Hid (Rdl wc v N gB gI (⟨v, ⟨BA, N, bc, bl⟩, ⟨IA, N, ic, il⟩⟩ : WB).pw rk.l j wr ∧ Rdb w #[.int .i64 v, .slice BA N bc, .slice IA N ic] gk N fs wr ∧ Fb wr bO #[.int .i64 v, .slice (some ⟨gB, 0, none⟩) N N, .slice (some ⟨gI, 0, none⟩) N N] 67)) (fun jv _ => N - (intOf jv).toNat)
    case atStart => exact ⟨0, by omega, rfl, HI1⟩
    case round =>
     clear HI1
     obtain ⟨j, hj, rfl, HI⟩ := hrel
     obtain ⟨⟨B2, J2, how, hto, hfr⟩, hd, ho⟩ := HI.out
     have HOw := hid how
     have HTo := hid hto
     have HFr := hid hfr
     have HD := hid hd
     have HO := hid ho
     clear HI how hto hfr hd ho
     by_cases hjN : j < N
     · have n0 : (0 : Int) ≤ j := by omega
       have n1 : (j : Int) < N := by omega
       have n2 : (j : Int).toNat = j := by omega
       obtain ⟨fj, hfj⟩ : ∃ fj, fs[j]? = some fj := ⟨_, List.getElem?_eq_getElem (by rw [HD.out.k.len]; exact hjN)⟩
       have y0 := HD.out.k.cell hfj
       have Hkj := hid (HK1.out j hjN)
       rw [hfj] at Hkj
       cases fj with
       | true =>
         have hjk := Hkj.out.1 rfl
         have HI2 := hid (show Rdl wc v N gB gI (⟨v, ⟨BA, N, bc, bl⟩, ⟨IA, N, ic, il⟩⟩ : WB).pw rk.l (j + 1) wr ∧ Rdb w #[.int .i64 v, .slice BA N bc, .slice IA N ic] gk N fs wr ∧ Fb wr bO #[.int .i64 v, .slice (some ⟨gB, 0, none⟩) N N, .slice (some ⟨gI, 0, none⟩) N N] 67 from ⟨⟨B2, J2, HOw.out, HTo.out, fun r hr a ha => by
          rcases HFr.out r hr a ha with h1 | h1
          · exact .inl h1
          · by_cases e : a.m = (j : Int)
            · rw [e]; exact .inl hjk
            · exact .inr (by omega)⟩, HD.out, HO.out⟩)
         clear hjk HOw HTo HFr HD HO hfj
         go_wp2_with fail
         go_roundw
         case rel => exact ⟨j + 1, by omega, by go_num, HI2⟩
         case measure => simp [intOf]; omega
       | false =>
         obtain ⟨x0, x1, x2⟩ := HO.out.three
         clear hfj
         go_wp2_with fail
         refine (eliminate_any wc v N gB gI j B2 J2 wr HOw.out hv hN hjN).mono ?_
         rintro _ w9 ⟨B3, J3, rfl, how, hto, hfs, hno, htx⟩
         have HI2 := hid (show Rdl wc v N gB gI (⟨v, ⟨BA, N, bc, bl⟩, ⟨IA, N, ic, il⟩⟩ : WB).pw rk.l (j + 1) w9 ∧ Rdb w #[.int .i64 v, .slice BA N bc, .slice IA N ic] gk N fs w9 ∧ Fb w9 bO #[.int .i64 v, .slice (some ⟨gB, 0, none⟩) N N, .slice (some ⟨gI, 0, none⟩) N N] 67 from ⟨⟨B3, J3, how, HTo.out.trans hto, fun r hr a ha => by
          obtain ⟨r2, hr2, b, hb, e⟩ := hfs r hr a ha
          have hne := hno r hr a ha
          rw [e] at hne ⊢
          rcases HFr.out r2 hr2 b hb with h1 | h1
          · exact .inl h1
          · exact .inr (by omega)⟩, HD.out.ty htx, htx.fb HO.out (by decide) (by decide) (by decide)⟩)
         clear x0 x1 x2 y0 how hto hfs hno htx HOw HTo HFr HD HO
         go_wp2_with fail
         go_roundw
         case rel => exact ⟨j + 1, by omega, by go_num, HI2⟩
         case measure => simp [intOf]; omega
     · have e : j = N := by omega
       obtain ⟨x0, x1, x2⟩ := HO.out.three
       obtain ⟨z0, z1, z2⟩ := HD.out.z.three
       have f0 := HD.out.z.frozen 0
       have f1 := HD.out.z.frozen 1
       have f2 := HD.out.z.frozen 2
       have hl := HD.out.z.lt
       have hsz := HB.out.size
       have hst := three_stp HD.out.z (.int .i64 v) (.slice (some ⟨gB, 0, none⟩) N N) (.slice (some ⟨gI, 0, none⟩) N N)
       have hwz : w.heap.size + 1 < wc.heap.size := HZl.out
       have hb0 := below_step HB.out HOw.out.bel
       have hb9 : Below w.heap.size w (((wr.setCell ⟨w.heap.size + 1, 0, none⟩ (.int .i64 v)).setCell ⟨w.heap.size + 1, 1, none⟩ (.slice (some ⟨gB, 0, none⟩) N N)).setCell ⟨w.heap.size + 1, 2, none⟩ (.slice (some ⟨gI, 0, none⟩) N N)) :=
        ((hb0.setCell (by show _ ≤ w.heap.size + 1; omega) _).setCell (by show _ ≤ w.heap.size + 1; omega) _).setCell (by show _ ≤ w.heap.size + 1; omega) _
       have HFin := hid (show RetRd w v N (⟨v, ⟨BA, N, bc, bl⟩, ⟨IA, N, ic, il⟩⟩ : WB).pw rk.l (.returned (.tuple #[.agg #[.int .i64 v, .slice (some ⟨gB, 0, none⟩) N N, .slice (some ⟨gI, 0, none⟩) N N], .int .i64 0])) (((wr.setCell ⟨w.heap.size + 1, 0, none⟩ (.int .i64 v)).setCell ⟨w.heap.size + 1, 1, none⟩ (.slice (some ⟨gB, 0, none⟩) N N)).setCell ⟨w.heap.size + 1, 2, none⟩ (.slice (some ⟨gI, 0, none⟩) N N)) from ⟨w, gB, gI, B2, J2, rfl, (HOw.out.base HB.out).stp hst hb9 (by decide) (by decide) (by decide) (by decide) (by decide), HTo.out, fun r hr a ha => by
        rcases HFr.out r hr a ha with h1 | h1
        · exact h1
        · have := ((HOw.out.rt r hr).ris.2 _ (List.mem_map.2 ⟨a, ha, rfl⟩)).2
          omega, hb9⟩)
       clear hst hwz hb0 hb9 hsz HOw HTo HFr HD HO
       go_wp2_with fail
       exact bodyPost_ret (v := .tuple #[.agg #[.int .i64 v, .slice (some ⟨gB, 0, none⟩) N N, .slice (some ⟨gI, 0, none⟩) N N], .int .i64 0]) (by simp [results, Tryz.results34, go_sem, z0, z1, z2]) rfl HFin.out
theorem NewAt.arg {w w' : World} {A : Option Addr} {n : Nat} {ws : List Nat} (h : NewAt w w' A (words ws)) (hl : ws.length = n) (hok : ∀ y ∈ ws, y < Bs.W64) : Arg w' A n ws := ⟨(h [] (by simp)).at, hl, hok⟩
structure Rs (w0 : World) (v : Nat) (wa wb : Value) (b : Nat) (A : Option Addr) (n c : Nat) (zs : List Nat) (u : World) : Prop where
 wx : Fb u w0.heap.size #[.int .i64 v, wa, wb] 67
 rx : Fb u (w0.heap.size + 1) #[.int .i64 0, .slice none 0 0] 49
 px : Fb u b #[.int .i64 v, .slice A n c] 49
 gb : w0.heap.size + 2 ≤ b
 pv : Arg u A n zs
 fit : Bs.Fit v zs
 bel : Below w0.heap.size w0 u
theorem Rs.below {w0 u u' : World} {v : Nat} {wa wb : Value} {b : Nat} {A : Option Addr} {n c : Nat} {zs : List Nat} (h : Rs w0 v wa wb b A n c zs u) (hb : Below u.heap.size u u') : Rs w0 v wa wb b A n c zs u' :=
 ⟨h.wx.below hb h.wx.lt, h.rx.below hb h.rx.lt, h.px.below hb h.px.lt, h.gb, h.pv.below hb, h.fit, below_step h.bel hb⟩
theorem Rs.put {w0 u : World} {v : Nat} {wa wb : Value} {b : Nat} {A : Option Addr} {n c : Nat} {zs : List Nat} (h : Rs w0 v wa wb b A n c zs u) {A2 : Option Addr} {n2 c2 : Nat} {zs2 : List Nat} (ha : Arg u A2 n2 zs2) (hf : Bs.Fit v zs2) :
 Rs w0 v wa wb b A2 n2 c2 zs2 ((u.setCell ⟨b, 0, none⟩ (.int .i64 v)).setCell ⟨b, 1, none⟩ (.slice A2 n2 c2)) := by
 have hg := h.gb
 exact ⟨(h.wx.far (by simp; omega) _).far (by simp; omega) _, (h.rx.far (by simp; omega) _).far (by simp; omega) _, (h.px.set 0 _).set 1 _, hg, Arg.store ha (show Box u b v A n c from h.px) v A2 n2 c2, hf,
  (h.bel.setCell (by simp; omega) _).setCell (by simp; omega) _⟩
structure Rs0 (w0 : World) (v : Nat) (wa wb : Value) (u : World) : Prop where
 wx : Fb u w0.heap.size #[.int .i64 v, wa, wb] 67
 rx : Fb u (w0.heap.size + 1) #[.int .i64 0, .slice none 0 0] 49
 bel : Below w0.heap.size w0 u
 sz : w0.heap.size + 2 ≤ u.heap.size
theorem Rs0.below {w0 u u' : World} {v : Nat} {wa wb : Value} (h : Rs0 w0 v wa wb u) (hb : Below u.heap.size u u') : Rs0 w0 v wa wb u' :=
 ⟨h.wx.below hb h.wx.lt, h.rx.below hb h.rx.lt, below_step h.bel hb, by have := hb.size; have := h.sz; omega⟩
theorem Rs0.one {w0 u : World} {v : Nat} {wa wb : Value} (h : Rs0 w0 v wa wb u) {b : Nat} {A2 : Option Addr} {n2 c2 : Nat} {zs : List Nat} (hb : Fb u b #[.int .i64 0, .slice none 0 0] 49) (hg : w0.heap.size + 2 ≤ b) (ha : Arg u A2 n2 zs) (hf : Bs.Fit v zs) :
 Rs w0 v wa wb b A2 n2 c2 zs ((u.setCell ⟨b, 0, none⟩ (.int .i64 v)).setCell ⟨b, 1, none⟩ (.slice A2 n2 c2)) :=
 ⟨(h.wx.far (by simp; omega) _).far (by simp; omega) _, (h.rx.far (by simp; omega) _).far (by simp; omega) _, (hb.set 0 _).set 1 _, hg, Arg.store ha (show Box u b 0 none 0 0 from hb) v A2 n2 c2, hf,
   (h.bel.setCell (by simp; omega) _).setCell (by simp; omega) _⟩
theorem Rs0.two {w0 u : World} {v : Nat} {wa wb : Value} (h : Rs0 w0 v wa wb u) {A2 : Option Addr} {n2 c2 : Nat} {zs : List Nat} (ha : Arg u A2 n2 zs) (hf : Bs.Fit v zs) :
 Rs w0 v wa wb u.heap.size A2 n2 c2 zs (u.alloc (.cells #[.int .i64 v, .slice A2 n2 c2] 49)) := by
 have hb := (Below.refl u.heap.size u).alloc (Nat.le_refl _) (.cells #[.int .i64 v, .slice A2 n2 c2] 49)
 exact ⟨h.wx.below hb h.wx.lt, h.rx.below hb h.rx.lt, Fb.new u _ _, h.sz, ha.below hb, hf, below_step h.bel hb⟩
set_option maxHeartbeats 6400000 in
theorem rightSide_any (x : WB) (y : ZL) (v N k : Nat) (ex ex' : List (Option Nat)) (w : World) (hx : WBok w ex x) (hy : ZLok w ex' y) (ho : WOk x v N) (hvo : VOk y v N) (hk : k < N) :
 Calls Tryz.prog 123 #[x.a, .slice y.A y.n y.c, .int .i64 k] w (RetA w v (x.pw.right y.vs k)) := by
 have hv := ho.v256
 have hN := ho.n256
 obtain ⟨s, hs, hsm⟩ := get_at (show x.B.l.length = N by rw [hx.b.len, ho.bn]) hk
 obtain ⟨r, hr, hrm⟩ := get_at (show x.I.l.length = N by rw [hx.i.len, ho.inn]) hk
 obtain ⟨hsW, hsf⟩ := ho.bd s hsm
 obtain ⟨hrn, hra⟩ := ho.arcs r hrm
 have hvn : x.pw.v = v := by show x.W.toNat = v; rw [ho.w]; simp
 have Hgoal := hid (show x.pw.right y.vs k = side v y.vs s.ws ((r.l.take r.n).map AH.pa) by
  unfold PW.right
  rw [hvn, WB.arcs_at hr, show at0 x.pw.bd k = s.ws from at0_get (by show (x.B.l.map ZH.ws)[k]? = _; rw [List.getElem?_map, hs]; rfl), List.take_of_length_le (by rw [((hx.i.all r hrm).len)]; exact Nat.le_refl _)]
  rfl)
 have hW := ho.w
 have hbn := ho.bn
 have hin := ho.inn
 have hyn := hvo.n
 have HX := hid (fun (u : World) (hu : Below w.heap.size w u) => hx.below hu)
 have HY := hid (fun (u : World) (hu : Below w.heap.size w u) => hy.below hu)
 have Hra := hid hra; have Hs := hid hs; have Hr := hid hr; have Hsm := hid hsm; have Hrm := hid hrm
 have Hvo := hid hvo
 have Hsf := hid hsf
 have hsl := hsf.len
 have hsn : s.n ≤ 100 := by rw [← (hx.b.all s hsm).len, hsl]; unfold Bs.nw; omega
 have Hrl := hid (hx.i.all r hrm).len
 clear hx hy ho hvo hs hr hsm hrm hsf hra hsl
 generalize x.pw.right y.vs k = G at *
 obtain ⟨XW, ⟨BA, bn, bc, bl⟩, ⟨IA, inn, ic, il⟩⟩ := x
 obtain ⟨YA, yn, yc, yl⟩ := y
 unfold WB.a at *
 simp only at *
 subst XW
 subst bn
 subst inn
 subst yn
 have H0 := hid (show Rs0 w v (.slice BA N bc) (.slice IA N ic) ((w.alloc (.cells #[.int .i64 v, .slice BA N bc, .slice IA N ic] 67)).alloc (.cells #[.int .i64 0, .slice none 0 0] 49)) from by
  have hb := (Below.refl w.heap.size w).alloc (Nat.le_refl _) (.cells #[.int .i64 v, .slice BA N bc, .slice IA N ic] 67)
  have hb2 := hb.alloc hb.size (.cells #[.int .i64 0, .slice none 0 0] 49)
  refine ⟨(Fb.new w _ _).alloc _, ?_, hb2, by simp only [World.size_alloc]; omega⟩
  have := Fb.new (w.alloc (.cells #[.int .i64 v, .slice BA N bc, .slice IA N ic] 67)) #[.int .i64 0, .slice none 0 0] 49
  rwa [World.size_alloc] at this)
 go_enter Tryz.func123, Tryz.ntmps123
 go_wp2_with fail
 generalize (w.alloc (.cells #[.int .i64 v, .slice BA N bc, .slice IA N ic] 67)).alloc (.cells #[.int .i64 0, .slice none 0 0] 49) = w1 at *
 have H0 := hid (H0.out.below (Below.refl _ _).drew)
 have hz1 : w.heap.size + 2 ≤ w1.heap.size := H0.out.sz
 have k0 : (0 : Int) ≤ k := by omega
 have k1 : (k : Int) < N := by omega
 have k2 : (k : Int).toNat = k := by omega
 go_cut [7] (fun a wd => ∃ (b : Nat) (A2 : Option Addr) (n2 c2 : Nat), a = .pointer (some ⟨b, 0, none⟩) ∧ Hid (Rs w v (.slice BA N bc) (.slice IA N ic) b A2 n2 c2 s.ws wd))
 case first =>
  have Ha := hid (H0.out.below ((Below.refl _ _).alloc (Nat.le_refl _) (.cells #[.int .i64 0, .slice none 0 0] 49)))
  obtain ⟨ad, hA, had, c0, c1⟩ := (HX.out _ H0.out.bel).b.cell Hs.out
  obtain ⟨ad2, hA2, had2, e0, e1⟩ := (HX.out _ Ha.out.bel).b.cell Hs.out
  simp only at hA hA2
  subst hA
  obtain rfl := Option.some.inj hA2
  have e1a : (w1.alloc (.cells #[.int .i64 0, .slice none 0 0] 49)).cell? ⟨(ad.add (k * 2)).block, (ad.add (k * 2)).off + 1, none⟩ = some (.slice s.A s.n s.c) := e1
  obtain ⟨q0, q1, q2⟩ := H0.out.wx.three
  have hwa : Fb (w1.alloc (.cells #[.int .i64 0, .slice none 0 0] 49)) w.heap.size #[.int .i64 v, .slice (some ad) N bc, .slice IA N ic] 67 := Ha.out.wx
  obtain ⟨d0, d1, d2⟩ := hwa.three
  have HC := hid (fun (u : World) (hu : Below w.heap.size w u) => cloneW_any s.A s.n s.c s.ws u ((HX.out u hu).b.all s Hsm.out).arg hsn)
  have HZ := hid ((HX.out _ H0.out.bel).b.all s Hsm.out)
  clear hwa e0 c0 hA2
  go_region_law (
   (go_simp
    go_at_call 85
    refine (HC.out _ (by first | exact H0.out.bel | exact Ha.out.bel)).mono ?_
    rintro e u2 ⟨A2, k2', rfl, ha2, hb2⟩
    have HA2 := hid (ha2.arg HZ.out.len HZ.out.ok)
    have H2 := hid (Rs0.below (by first | exact H0.out | exact Ha.out) hb2)
    obtain ⟨z0, z1, z2⟩ := H2.out.wx.three
    have hwl := H2.out.wx.lt
    have hwb : Fb (u2.alloc (.cells #[.int .i64 0, .slice none 0 0] 49)) w.heap.size #[.int .i64 v, .slice (some ad) N bc, .slice IA N ic] 67 := H2.out.wx.alloc _
    obtain ⟨z3, z4, z5⟩ := hwb.three
    clear hwb z1 z2 z4 z5
    try (have hbx : Fb u2 w1.heap.size #[.int .i64 0, .slice none 0 0] 49 := (Fb.new w1.drew _ _).below hb2 (by simp)
         have x0 := hbx.cell 0
         have x1 := hbx.cell 1
         have y0 := hbx.frozen 0
         have y1 := hbx.frozen 1
         have hbl := hbx.lt)
    clear ha2 hb2))
  all_goals
   go_wp2_with fail
   go_meet
   first
   | exact ⟨_, A2, _, k2', rfl, hid (Rs0.one H2.out hbx hz1 HA2.out Hsf.out)⟩
   | exact ⟨_, A2, _, k2', rfl, hid (Rs0.two H2.out HA2.out Hsf.out)⟩
 case rest =>
  obtain ⟨b, A2, n2, c2, rfl, H1⟩ := hcut
  clear H0 hz1
  generalize hvs : ZL.vs ⟨YA, N, yc, yl⟩ = vs at *
  have Hvs := hid (fun (i : Nat) (t : ZH) (h : yl[i]? = some t) => show at0 vs i = t.ws by rw [← hvs]; exact ZL.vs_at h)
  clear hvs
  obtain ⟨rA, rn, rc, rl⟩ := r
  simp only at *
  obtain ⟨q0, q1, q2⟩ := H1.out.wx.three
  obtain ⟨adI, hI, hadI, i0⟩ := (HX.out _ H1.out.bel).i.cell Hr.out
  simp only at hI
  subst hI
  have Hst := hid (fun (j : Nat) (a : AH) (h : rl[j]? = some a) => side_take (v := v) (vals := vs) (s := s.ws) (r := ⟨rA, rn, rc, rl⟩) h)
  simp only at Hst
  go_wp2_with fail
  clear q0 q1 q2 i0 k0 k1 k2
  have H1' := hid (show Rs w v (.slice BA N bc) (.slice (some adI) N ic) b A2 n2 c2 (side v vs s.ws ((rl.take 0).map AH.pa)) wc from H1.out)
  go_loopw [9, 26] (fun _ iv wr => ∃ (j : Nat) (A3 : Option Addr) (n3 c3 : Nat), j ≤ rn ∧ iv = .int .i64 j ∧ Hid (Rs w v (.slice BA N bc) (.slice (some adI) N ic) b A3 n3 c3 (side v vs s.ws ((rl.take j).map AH.pa)) wr)) (fun _ iv _ => rn - (intOf iv).toNat)
  case atStart => exact ⟨0, A2, n2, c2, by omega, rfl, H1'⟩
  case round =>
   clear H1 H1'
   obtain ⟨j, A3, n3, c3, hj, rfl, HI⟩ := hrel
   by_cases hlt : j < rn
   · obtain ⟨a, ha, ham⟩ := get_at Hrl.out hlt
     have HE := hid (Hst.out j a ha)
     generalize side v vs s.ws ((rl.take j).map AH.pa) = zs at *
     generalize hz2 : side v vs s.ws ((rl.take (j + 1)).map AH.pa) = zs2 at *
     have Hz2 := hid hz2
     clear hz2
     obtain ⟨⟨hm0, hm1⟩, hfo⟩ := Hra.out a ham
     have hRow := (HX.out _ HI.out.bel).i.all _ Hrm.out
     obtain ⟨ad, hA, had, c0, c1', c2', c3', c4, c5⟩ := hRow.cell ha
     simp only at hA
     subst hA
     have HFa := hid (hRow.all a ham)
     clear hRow ha ham
     obtain ⟨am, f⟩ := a
     simp only at *
     obtain ⟨mn, rfl⟩ := Int.eq_ofNat_of_zero_le hm0
     have hmN : mn < N := by omega
     obtain ⟨t, ht, htm⟩ := get_at (show yl.length = N from (HY.out w (Below.refl _ _)).len) hmN
     have hba := (Below.refl wr.heap.size wr).alloc (Nat.le_refl _) (.cells #[.int .i64 (mn : Int), .int .i64 f.G.W, .slice f.G.A f.G.n f.G.c, .int .i64 f.K.W, .slice f.K.A f.K.n f.K.c, .slice f.C f.k f.q] 63)
     have HI2 := hid (HI.out.below hba)
     have HF2 := hid (HFa.out.below hba)
     have hY := HY.out _ HI2.out.bel
     obtain ⟨adV, hV, hadV, v0, v1⟩ := hY.cell ht
     simp only at hV
     subst hV
     have Hvt := hid (hY.all t htm)
     obtain ⟨htW, htf⟩ := Hvo.out.all t htm
     have Htf := hid htf
     have Hfo := hid hfo
     have HE2 := hid (show zs2 = orR v zs (valR f.G.ws t.ws (folB v f.K.ws f.cs) v) by
      rw [HE.out]
      simp only [Int.toNat_natCast, AH.pa]
      rw [Hvs.out mn t ht]
      rfl)
     clear HE hY hba htf hfo ht htm hm0 hm1
     obtain ⟨p0, p1⟩ := HI2.out.px.two
     obtain ⟨TW, TA, tn, tc, ts⟩ := t
     simp only at *
     subst htW
     have HJ := hid (join_any v hv A3 n3 c3 zs mn f adV N yc TA tn tc ts _ HI2.out.pv HI2.out.fit HF2.out.arg Hfo.out.w1 Hfo.out.w2 Hfo.out.ok hmN v0 v1 hadV Hvt.out.arg Htf.out)
     clear v0 v1 hadV
     obtain ⟨⟨GW, GA, gn, gc, gs⟩, ⟨KW, KA, kn, kc, ks⟩, C, kq, q, cs⟩ := f
     simp only at *
     go_wp2_with fail
     refine HJ.out.mono ?_
     rintro e w5 ⟨A4, n4, c4', rfl, ha4, hb4⟩
     clear p0 p1 c0 c1' c2' c3' c4 c5
     have HI5 := hid (HI2.out.below hb4)
     have Hfin := hid (show Rs w v (.slice BA N bc) (.slice (some adI) N ic) b A4 n4 c4' zs2 ((w5.setCell ⟨b, 0, none⟩ (.int .i64 v)).setCell ⟨b, 1, none⟩ (.slice A4 n4 c4')) from by
      rw [HE2.out]
      exact HI5.out.put ha4 (fit_orR _ _ _))
     obtain ⟨p0, p1⟩ := HI5.out.px.two
     have f0 := HI5.out.px.frozen 0
     have f1 := HI5.out.px.frozen 1
     have hpl := HI5.out.px.lt
     clear ha4 hb4
     go_wp2_with fail
     go_roundw
     case rel => exact ⟨j + 1, A4, n4, c4', by omega, by go_num, by rw [Hz2.out]; exact Hfin⟩
     case measure => simp [intOf]; omega
   · obtain rfl : j = rn := by omega
     obtain ⟨p0, p1⟩ := HI.out.px.two
     obtain ⟨r0, r1⟩ := HI.out.rx.two
     have f0 := HI.out.rx.frozen 0
     have f1 := HI.out.rx.frozen 1
     have hrl := HI.out.rx.lt
     go_wp2_with fail
     refine bodyPost_ret (v := .agg #[.int .i64 v, .slice A3 n3 c3]) (by simp [results, Tryz.results123, go_sem, r0, r1]) rfl ?_
     rw [Hgoal.out]
     exact ⟨A3, n3, c3, rfl, Arg.store HI.out.pv (show Box _ (w.heap.size + 1) 0 none 0 0 from HI.out.rx) v A3 n3 c3, (HI.out.bel.setCell (by simp) _).setCell (by simp) _⟩
structure PWok (p : PW) (v N : Nat) : Prop where
 v : p.v = v
 n : p.n = N
 ok : p.Ok
 inn : p.In
theorem WOk.pw {x : WB} {v N : Nat} {w : World} {ex : List (Option Nat)} (h : WOk x v N) (hx : WBok w ex x) : PWok x.pw v N := by
 have hn : x.pw.n = N := by show (x.I.l.map AL.pa).length = N; rw [List.length_map, hx.i.len, h.inn]
 have hv : x.pw.v = v := by show x.W.toNat = v; rw [h.w]; simp
 refine ⟨hv, hn, ⟨by rw [hn]; show (x.B.l.map ZH.ws).length = N; rw [List.length_map, hx.b.len, h.bn], fun s hs => ?_⟩, fun l hl a ha => ?_⟩
 · obtain ⟨z, hz, rfl⟩ := List.mem_map.1 hs
   rw [hv]
   exact (h.bd z hz).2
 · rw [hn]
   obtain ⟨r, hr, rfl⟩ := List.mem_map.1 hl
   obtain ⟨b, hb, rfl⟩ := List.mem_map.1 ha
   have := ((h.arcs r hr).2 b hb).1
   show b.m.toNat < N
   omega
def RetV (w : World) (v N : Nat) (vals : List (List Nat)) (e : Ending) (w' : World) : Prop :=
 ∃ (g : Nat) (l : List ZH), e = .returned (.slice (some ⟨g, 0, none⟩) N N) ∧ w.heap.size ≤ g ∧ VRow w' g N l ∧ (∀ z ∈ l, z.W = v ∧ Bs.Fit v z.ws) ∧ l.map ZH.ws = vals ∧ Below w.heap.size w w'
def Done (v k : Nat) (f : Nat → List Nat) (l : List ZH) : Prop := ∀ i, i < k → ∃ z, l[i]? = some z ∧ z.W = v ∧ z.ws = f i ∧ Bs.Fit v z.ws
theorem Done.put {v k : Nat} {f : Nat → List Nat} {l : List ZH} (h : Done v k f l) (hk : k < l.length) {z : ZH} (h1 : z.W = v) (h2 : z.ws = f k) (h3 : Bs.Fit v z.ws) : Done v (k + 1) f (l.set k z) := by
 intro i hi
 by_cases e : i = k
 · subst e
   exact ⟨z, by rw [List.getElem?_set_self hk], h1, h2, h3⟩
 · obtain ⟨y, hy, hr⟩ := h i (by omega)
   exact ⟨y, by rw [List.getElem?_set_ne (by omega)]; exact hy, hr⟩
theorem Done.all {v N : Nat} {f : Nat → List Nat} {l : List ZH} (h : Done v N f l) (hl : l.length = N) : (∀ z ∈ l, z.W = v ∧ Bs.Fit v z.ws) ∧ l.map ZH.ws = (List.range N).map f := by
 constructor
 · intro z hz
   obtain ⟨i, hi, e⟩ := List.mem_iff_getElem.1 hz
   obtain ⟨y, hy, h1, h2, h3⟩ := h i (by omega)
   rw [List.getElem?_eq_getElem hi, e] at hy
   obtain rfl := Option.some.inj hy
   exact ⟨h1, h3⟩
 · refine vals_ext (n := N) (by rw [List.length_map]; exact hl) (by simp) fun i hi => ?_
   obtain ⟨y, hy, h1, h2, h3⟩ := h i hi
   rw [at0_map hi, ← h2]
   exact at0_get (by rw [List.getElem?_map, hy]; rfl)
structure Rss (w0 : World) (v N g : Nat) (wa wb : Value) (l : List ZH) (u : World) : Prop where
 wx : Fb u w0.heap.size #[.int .i64 v, wa, wb] 67
 row : VRow u g N l
 gb : w0.heap.size < g
 bel : Below w0.heap.size w0 u
section
variable {w0 u u' : World} {v N g : Nat} {wa wb : Value} {l : List ZH}
theorem Rss.below (h : Rss w0 v N g wa wb l u) (hb : Below u.heap.size u u') : Rss w0 v N g wa wb l u' := ⟨h.wx.below hb h.wx.lt, h.row.below hb, h.gb, below_step h.bel hb⟩
theorem Rss.put (h : Rss w0 v N g wa wb l u) {k : Nat} (hk : k < N) {z : ZH} (hz : Arg u z.A z.n z.ws) :
 Rss w0 v N g wa wb (l.set k z) ((u.setCell ⟨g, k * 2, none⟩ (.int .i64 z.W)).setCell ⟨g, k * 2 + 1, none⟩ (.slice z.A z.n z.c)) := by
 have hg := h.gb
 exact ⟨(h.wx.far (by simp; omega) _).far (by simp; omega) _, h.row.put hk hz, hg, (h.bel.setCell (by simp; omega) _).setCell (by simp; omega) _⟩
end
set_option maxHeartbeats 6400000 in
theorem rightSides_any (x : WB) (y : ZL) (v N : Nat) (ex ex' : List (Option Nat)) (w : World) (hx : WBok w ex x) (hy : ZLok w ex' y) (ho : WOk x v N) (hvo : VOk y v N) :
 Calls Tryz.prog 96 #[x.a, .slice y.A y.n y.c] w (RetV w v N (x.pw.rights y.vs)) := by
 have hN := ho.n256
 have hp := ho.pw hx
 have Hgoal := hid (show x.pw.rights y.vs = (List.range N).map (x.pw.right y.vs) by unfold PW.rights; rw [hp.n])
 have Hfit := hid (fun (k : Nat) (hk : k < N) => show Bs.Fit v (x.pw.right y.vs k) by
  have := hp.ok.right y.vs (k := k) (by rw [hp.n]; exact hk)
  rwa [hp.v] at this)
 have HR := hid (fun (u : World) (hu : Below w.heap.size w u) (k : Nat) (hk : k < N) => rightSide_any x y v N k ex ex' u (hx.below hu) (hy.below hu) ho hvo hk)
 have hW := ho.w
 have hbn := ho.bn
 have hin := ho.inn
 clear hx hy ho hvo hp
 generalize x.pw.rights y.vs = G at *
 generalize x.pw.right y.vs = f at *
 obtain ⟨XW, ⟨BA, bn, bc, bl⟩, ⟨IA, inn, ic, il⟩⟩ := x
 obtain ⟨YA, yn, yc, yl⟩ := y
 unfold WB.a at *
 simp only at *
 subst XW
 subst bn
 subst inn
 have hmk := run_mksets N (by omega)
 have H0 := hid (show Rss w v N (w.heap.size + 1) (.slice BA N bc) (.slice IA N ic) (List.replicate N z0) ((w.alloc (.cells #[.int .i64 v, .slice BA N bc, .slice IA N ic] 67)).alloc (.cells ((List.replicate N z0).flatMap ZH.cs).toArray 49)) from by
  have hb := (Below.refl w.heap.size w).alloc (Nat.le_refl _) (.cells #[.int .i64 v, .slice BA N bc, .slice IA N ic] 67)
  have hr := VRow.new (w.alloc (.cells #[.int .i64 v, .slice BA N bc, .slice IA N ic] 67)) N
  rw [World.size_alloc] at hr
  exact ⟨(Fb.new w _ _).alloc _, hr, by omega, hb.alloc hb.size _⟩)
 have H0' := hid (show Done v 0 f (List.replicate N z0) from fun i hi => by omega)
 generalize hl0 : List.replicate N z0 = l0 at *
 clear hl0
 go_enter Tryz.func96, Tryz.ntmps96
 go_wp2_with fail
 clear hmk
 generalize (w.alloc (.cells #[.int .i64 v, .slice BA N bc, .slice IA N ic] 67)).alloc (.cells (l0.flatMap ZH.cs).toArray 49) = w1 at *
 generalize hg1 : w.heap.size + 1 = g at *
 have Hg := hid hg1
 clear hg1
 go_loopw [6, 13] (fun _ iv wr => ∃ (k : Nat) (l : List ZH), k ≤ N ∧ iv = .int .i64 k ∧ Hid (Rss w v N g (.slice BA N bc) (.slice IA N ic) l wr) ∧ Hid (Done v k f l)) (fun _ iv _ => N - (intOf iv).toNat)
 case atStart => exact ⟨0, l0, by omega, rfl, H0, H0'⟩
 case round =>
  clear H0 H0'
  obtain ⟨k, l, hk, rfl, HI, HD⟩ := hrel
  by_cases hlt : k < N
  · obtain ⟨q0, q1, q2⟩ := HI.out.wx.three
    go_wp2_with fail
    refine (HR.out _ HI.out.bel k hlt).mono ?_
    rintro e w5 ⟨A, n, c, rfl, ha, hb⟩
    clear q0 q1 q2
    have HI5 := hid (HI.out.below hb)
    have Hfin := hid (HI5.out.put (k := k) hlt (z := ⟨v, A, n, c, f k⟩) ha)
    have HD5 := hid (HD.out.put (k := k) (by rw [HI.out.row.len]; exact hlt) (z := ⟨v, A, n, c, f k⟩) rfl rfl (Hfit.out k hlt))
    simp only at Hfin
    obtain ⟨y, hy, -⟩ := get_at HI5.out.row.len hlt
    obtain ⟨p0, p1⟩ := HI5.out.row.cells hy
    have f0 := HI5.out.row.fb.frozen (k * 2)
    have f1 := HI5.out.row.fb.frozen (k * 2 + 1)
    have hpl := HI5.out.row.lt
    have ea : (⟨g, 0, none⟩ : Addr).add (k * 2) = ⟨g, k * 2, none⟩ := add_of g (k * 2)
    clear ha hb hy
    go_wp2_with fail
    go_roundw
    case rel => exact ⟨k + 1, l.set k ⟨v, A, n, c, f k⟩, by omega, by go_num, Hfin, HD5⟩
    case measure => simp [intOf]; omega
  · obtain rfl : k = N := by omega
    obtain ⟨h1, h2⟩ := HD.out.all HI.out.row.len
    have Hr := hid (show RetV w v k G (.returned (.slice (some ⟨g, 0, none⟩) k k)) wr from ⟨g, l, rfl, by have := HI.out.gb; omega, HI.out.row, h1, h2.trans Hgoal.out.symm, HI.out.bel⟩)
    clear h1 h2
    go_wp2_with fail
    go_ret
    exact Hr.out
structure Adv (w0 : World) (v N gv gn gc gd : Nat) (x : WB) (lv l : List ZH) (cs ds : List Bool) (u : World) : Prop where
 wx : Fb u w0.heap.size #[.int .i64 v, .slice x.B.A x.B.n x.B.c, .slice x.I.A x.I.n x.I.c] 67
 rv : VRow u gv N lv
 rn : VRow u gn N l
 bc : BRow u gc N cs
 bd : BRow u gd N ds
 wk : WBok u [some gn, some gd] x
 gr : w0.grownBy u (some gn)
 nvn : gv ≠ gn
 ncn : gc ≠ gn
 lv : gv < w0.heap.size
 ln : gn < w0.heap.size
 lc : gc < w0.heap.size
 ld : w0.heap.size < gd
section
variable {w0 u u' : World} {v N gv gn gc gd : Nat} {x : WB} {lv l : List ZH} {cs ds : List Bool}
theorem Adv.below (h : Adv w0 v N gv gn gc gd x lv l cs ds u) (hb : Below u.heap.size u u') : Adv w0 v N gv gn gc gd x lv l cs ds u' :=
 ⟨h.wx.below hb h.wx.lt, h.rv.below hb, h.rn.below hb, h.bc.below hb, h.bd.below hb, h.wk.below hb, grown_trans h.gr (grown_of_below hb _), h.nvn, h.ncn, h.lv, h.ln, h.lc, h.ld⟩
theorem Adv.put (h : Adv w0 v N gv gn gc gd x lv l cs ds u) {k : Nat} (hk : k < N) {z : ZH} (hz : Arg u z.A z.n z.ws) :
 Adv w0 v N gv gn gc gd x lv (l.set k z) cs ds ((u.setCell ⟨gn, k * 2, none⟩ (.int .i64 z.W)).setCell ⟨gn, k * 2 + 1, none⟩ (.slice z.A z.n z.c)) := by
 have hl := h.ln
 have hd := h.ld
 have g1 := setCell_grown u ⟨gn, k * 2, none⟩ (.int .i64 z.W)
 have g2 := setCell_grown (u.setCell ⟨gn, k * 2, none⟩ (.int .i64 z.W)) ⟨gn, k * 2 + 1, none⟩ (.slice z.A z.n z.c)
 have e : ∀ {A : Option Addr} {n : Nat} {ws : List Nat}, Arg u A n ws → Arg ((u.setCell ⟨gn, k * 2, none⟩ (.int .i64 z.W)).setCell ⟨gn, k * 2 + 1, none⟩ (.slice z.A z.n z.c)) A n ws := fun ha =>
  (ha.far (p := ⟨gn, k * 2, none⟩) (h.rn.arg_far ha) _).far (p := ⟨gn, k * 2 + 1, none⟩) (h.rn.arg_far ha) _
 exact ⟨(h.wx.far (by simp; omega) _).far (by simp; omega) _, ⟨(h.rv.fb.far h.nvn _).far h.nvn _, h.rv.len, fun y hy => e (h.rv.all y hy)⟩, h.rn.put hk hz, ⟨(h.bc.fb.far h.ncn _).far h.ncn _, h.bc.len⟩, ⟨(h.bd.fb.far (by simp; omega) _).far (by simp; omega) _, h.bd.len⟩,
  (h.wk.go (Go2.same g1 (.inr (by simp)))).go (Go2.same g2 (.inr (by simp))), grown_trans (grown_trans h.gr g1) g2, h.nvn, h.ncn, h.lv, h.ln, h.lc, h.ld⟩
theorem Adv.note (h : Adv w0 v N gv gn gc gd x lv l cs ds u) (k : Nat) (b : Bool) : Adv w0 v N gv gn gc gd x lv l cs (ds.set k b) (u.setCell ⟨gd, k, none⟩ (.bool b)) := by
 have hv := h.lv
 have hl := h.ln
 have hc := h.lc
 have hd := h.ld
 have g1 := setCell_grown u ⟨gd, k, none⟩ (.bool b)
 exact ⟨h.wx.far (by simp; omega) _, h.rv.bools h.bd (by omega) _ _, h.rn.bools h.bd (by omega) _ _, ⟨h.bc.fb.far (by simp; omega) _, h.bc.len⟩, h.bd.put k b, h.wk.go (Go2.same g1 (.inr (by simp))), grown_set_new h.gr (by simp; omega) _, h.nvn, h.ncn, h.lv, h.ln, h.lc, h.ld⟩
theorem WBok.ext {w w' : World} {ex ex' : List (Option Nat)} {x : WB} (h : WBok w ex x) (hb : Below w.heap.size w w') (he : ∀ k, k < w.heap.size → some k ∈ ex' → some k ∈ ex) : WBok w' ex' x := h.go (Go2.grown (grown_of_below hb none) (.inl rfl) he)
theorem Adv.start {w : World} {v N gv gn gc : Nat} {x : WB} {lv l : List ZH} {cs : List Bool} (hx : WBok w [some gn] x) (hW : x.W = v) (hv : VRow w gv N lv) (hn : VRow w gn N l) (hc : BRow w gc N cs) (hvn : gv ≠ gn) (hcn : gc ≠ gn) :
 Adv w v N gv gn gc (w.heap.size + 1) x lv l cs (List.replicate N false) ((w.alloc (.cells #[.int .i64 v, .slice x.B.A x.B.n x.B.c, .slice x.I.A x.I.n x.I.c] 67)).alloc (.cells ((List.replicate N false).map Value.bool).toArray 4)) := by
 have hb := (Below.refl w.heap.size w).alloc (Nat.le_refl _) (.cells #[.int .i64 v, .slice x.B.A x.B.n x.B.c, .slice x.I.A x.I.n x.I.c] 67)
 have hb2 := hb.alloc hb.size (.cells ((List.replicate N false).map Value.bool).toArray 4)
 have hd := BRow.new (w.alloc (.cells #[.int .i64 v, .slice x.B.A x.B.n x.B.c, .slice x.I.A x.I.n x.I.c] 67)) N
 rw [World.size_alloc] at hd
 exact ⟨(Fb.new w _ _).alloc _, hv.below hb2, hn.below hb2, hc.below hb2, hd, hx.ext hb2 (fun k hk hm => by
  simp only [List.mem_cons, Option.some.injEq, List.not_mem_nil, or_false] at hm
  rcases hm with rfl | rfl
  · simp
  · omega), grown_of_below hb2 _, hvn, hcn, hv.lt, hn.lt, hc.fb.lt, by omega⟩
def RetAdv (w : World) (v N gv gn gc : Nat) (lv : List ZH) (cs : List Bool) (f : Nat → List Nat) (e : Ending) (w' : World) : Prop :=
 ∃ (gd : Nat) (l : List ZH) (ds : List Bool), e = .returned (.slice (some ⟨gd, 0, none⟩) N N) ∧ w.heap.size ≤ gd ∧ VRow w' gv N lv ∧ VRow w' gn N l ∧ BRow w' gd N ds ∧
   ((∀ z ∈ l, z.W = v ∧ Bs.Fit v z.ws) ∧ l.map ZH.ws = (List.range N).map f) ∧ ds = (List.range N).map (fun k => !decide (f k = at0 (lv.map ZH.ws) k)) ∧ w.grownBy w' (some gn)
end
def zsame (p : ZH × ZH) : Bool := sameB p.1.W p.1.ws p.2.W p.2.ws
set_option maxHeartbeats 3200000 in
theorem sameSets_any (x y : ZL) (ex ex' : List (Option Nat)) (w : World) (hx : ZLok w ex x) (hy : ZLok w ex' y) (hf : ∀ z ∈ x.l, z.n ≤ maxLen) :
 Calls Tryz.prog 33 #[.slice x.A x.n x.c, .slice y.A y.n y.c] w fun e w' => e = .returned (.bool (decide (x.n = y.n) && (x.l.zip y.l).all zsame)) ∧ Below w.heap.size w w' := by
 have HX := hid hx
 have HY := hid hy
 have HL := hid hx.len
 have HM := hid hy.len
 have hxf := hx.few
 have hyf := hy.few
 have Hf := hid hf
 clear hx hy hf
 obtain ⟨A, n, c, l⟩ := x
 obtain ⟨B, m, d, k'⟩ := y
 simp only at *
 go_enter Tryz.func33, Tryz.ntmps33
 by_cases h1 : n = m
 · subst h1
   have t1 : ((n : Int) != (n : Int)) = false := by simp
   have Hd := hid (show (decide (n = n) && (l.zip k').all zsame) = (l.zip k').all zsame by simp)
   generalize (decide (n = n) && (l.zip k').all zsame) = R at *
   have HZ := hid (show (l.zip k').length = n by rw [List.length_zip, HL.out, HM.out]; simp)
   go_wp2_with fail
   clear t1
   go_loopw [5] (fun iv wr => ∃ k : Nat, k ≤ n ∧ iv = .int .i64 k ∧ Hid (Below w.heap.size w wr) ∧ Hid (∀ p ∈ (l.zip k').take k, zsame p = true)) (fun iv _ => n - (intOf iv).toNat)
   case atStart => exact ⟨0, by omega, rfl, hid (Below.refl _ _), hid (by simp)⟩
   case round =>
    obtain ⟨k, hk, rfl, HB, hE⟩ := hrel
    by_cases hlt : k < n
    · obtain ⟨a, ha, ham⟩ := get_at HL.out hlt
      obtain ⟨b, hb, hbm⟩ := get_at HM.out hlt
      have hz : (l.zip k')[k]? = some (a, b) := List.getElem?_zip_eq_some.2 ⟨ha, hb⟩
      have hBd := HB.out.drew
      obtain ⟨ad, hA, had, c0, c1⟩ := (HX.out.below hBd).cell ha
      obtain ⟨ad2, hB, had2, e0, e1⟩ := (HY.out.below hBd).cell hb
      simp only at hA hB
      subst hA
      subst hB
      have Hno := hid (fun hp : zsame (a, b) = false => Hd.out.trans (all_no hz hp))
      have Hyes := hid (fun hp : zsame (a, b) = true => all_take hE.out hz hp)
      have HC := hid (refSame_any a.W b.W a.A b.A a.n a.c b.n b.c a.ws b.ws wr.drew ((HX.out.below hBd).all a ham).arg ((HY.out.below hBd).all b hbm).arg (Hf.out a ham))
      have HBd := hid hBd
      unfold zsame at Hno Hyes
      simp only at Hno Hyes
      clear ha hb ham hbm hz hBd
      have k0 : (0 : Int) ≤ k := by omega
      have k1 : (k : Int) < n := by omega
      have k2 : (k : Int).toNat = k := by omega
      cases hs : sameB a.W a.ws b.W b.ws with
      | false =>
        rw [hs] at HC
        have Hr := hid (Hno.out hs)
        clear hs Hno Hyes
        go_wp2_with fail
        go_region_with (first
         | (go_at_call 24
            go_must (
            refine HC.out.mono ?_
            rintro e w6 ⟨rfl, hb6⟩
            have HB6 := hid (below_step HBd.out hb6)
            clear hb6)))
        all_goals
         go_wp2_with fail
         go_ret
         exact ⟨ret_b Hr.out, HB6.out⟩
      | true =>
        rw [hs] at HC
        have Hr := hid (Hyes.out hs)
        clear hs Hno Hyes
        go_wp2_with fail
        go_region_with (first
         | (go_at_call 24
            go_must (
            refine HC.out.mono ?_
            rintro e w6 ⟨rfl, hb6⟩
            have HB6 := hid (below_step HBd.out hb6)
            clear hb6)))
        all_goals
         go_wp2_with fail
         go_roundw
         case rel => exact ⟨k + 1, by omega, by go_num, HB6, Hr⟩
         case measure => simp [intOf]; omega
    · obtain rfl : k = n := by omega
      have Hr := hid (Hd.out.trans (all_yes HZ.out hE.out))
      go_wp2_with fail
      go_ret
      exact ⟨ret_b Hr.out, HB.out⟩
 · have t1 : ((n : Int) != (m : Int)) = true := by simp; omega
   have Hr := hid (show (decide (n = m) && (l.zip k').all zsame) = false by simp [h1])
   clear h1
   go_wp2_with fail
   go_ret
   exact ⟨ret_b Hr.out, Below.refl _ _⟩
def advS (v : Nat) (vals : List (List Nat)) (ch : Nat → Bool) (s : List Nat) (rl : List AH) (j : Nat) : List Nat := side v vals s (((rl.take j).map AH.pa).filter fun a => ch a.1)
theorem advS_next {v : Nat} {vals : List (List Nat)} {ch : Nat → Bool} {s : List Nat} {rl : List AH} {j : Nat} {a : AH} (h : rl[j]? = some a) : advS v vals ch s rl (j + 1) = if ch a.m.toNat then orR v (advS v vals ch s rl j) (a.f.pf.vl v (at0 vals a.m.toNat)) else advS v vals ch s rl j := by
 unfold advS
 rw [List.take_add_one, h, List.map_append, List.filter_append]
 show side v vals s (_ ++ [a.pa].filter fun a => ch a.1) = _
 cases hc : ch a.m.toNat with
 | true =>
   rw [show [a.pa].filter (fun a => ch a.1) = [a.pa] by rw [List.filter_cons, if_pos (show ch a.pa.1 = true from hc)]; rfl]
   exact side_snoc _ _ _ _ _
 | false =>
   rw [show [a.pa].filter (fun a => ch a.1) = [] by rw [List.filter_cons, if_neg (show ¬ ch a.pa.1 = true by rw [show ch a.pa.1 = false from hc]; decide)]; rfl, List.append_nil]
   rfl
theorem fit_advS {v : Nat} {vals : List (List Nat)} {ch : Nat → Bool} {s : List Nat} {rl : List AH} {j : Nat} (h : Bs.Fit v s) : Bs.Fit v (advS v vals ch s rl j) := fit_side h
theorem Adv.drew {w0 u : World} {v N gv gn gc gd : Nat} {x : WB} {lv l : List ZH} {cs ds : List Bool} (h : Adv w0 v N gv gn gc gd x lv l cs ds u) : Adv w0 v N gv gn gc gd x lv l cs ds u.drew := h.below (Below.refl _ _).drew
set_option maxHeartbeats 12800000 in
theorem advance_any (x : WB) (lv l0 : List ZH) (cs : List Bool) (v N gv gn gc : Nat) (w : World) (hx : WBok w [some gn] x) (ho : WOk x v N) (hv : VRow w gv N lv) (hvo : ∀ z ∈ lv, z.W = v ∧ Bs.Fit v z.ws) (hn : VRow w gn N l0) (hc : BRow w gc N cs) (hvn : gv ≠ gn) (hcn : gc ≠ gn) :
 Calls Tryz.prog 99 #[x.a, .slice (some ⟨gv, 0, none⟩) N N, .slice (some ⟨gn, 0, none⟩) N N, .slice (some ⟨gc, 0, none⟩) N N] w
  (RetAdv w v N gv gn gc lv cs (x.pw.adv (lv.map ZH.ws) (fun m => cs.getD m false))) := by
 have hN := ho.n256
 have hv256 := ho.v256
 have hp := ho.pw hx
 have HA0 := hid (Adv.start hx ho.w hv hn hc hvn hcn)
 have Hlv := hid hv.len
 have Hvo := hid hvo
 have Hcl := hid hc.len
 have hW := ho.w
 have hbn := ho.bn
 have hin := ho.inn
 have Harcs := hid ho.arcs
 have Hil := hid (show x.I.l.length = N by rw [hx.i.len, ho.inn])
 have Hadv := hid (fun (k : Nat) (r : AL) (hr : x.I.l[k]? = some r) => show x.pw.adv (lv.map ZH.ws) (fun m => cs.getD m false) k = side v (lv.map ZH.ws) (at0 (lv.map ZH.ws) k) ((r.l.map AH.pa).filter fun a => cs.getD a.1 false) by
  unfold PW.adv; rw [hp.v, WB.arcs_at hr]; rfl)
 clear hx ho hv hvo hn hc hp
 generalize x.pw.adv (lv.map ZH.ws) (fun m => cs.getD m false) = f at *
 have Hvs := hid (fun (i : Nat) (t : ZH) (h : lv[i]? = some t) => show at0 (lv.map ZH.ws) i = t.ws from at0_get (by rw [List.getElem?_map, h]; rfl))
 obtain ⟨XW, ⟨BA, bn, bc, bl⟩, ⟨IA, inn, ic, il⟩⟩ := x
 unfold WB.a at *
 simp only at *
 subst XW
 subst bn
 subst inn
 generalize hX : (⟨v, ⟨BA, N, bc, bl⟩, ⟨IA, N, ic, il⟩⟩ : WB) = X at *
 have Hwx := hid (fun (gd : Nat) (l : List ZH) (ds : List Bool) (u : World) (h : Adv w v N gv gn gc gd X lv l cs ds u) => show (u.cell? ⟨w.heap.size, 0, none⟩ = some (.int .i64 v) ∧ u.cell? ⟨w.heap.size, 1, none⟩ = some (.slice BA N bc) ∧ u.cell? ⟨w.heap.size, 2, none⟩ = some (.slice IA N ic)) from by
  have := h.wx
  rw [← hX] at this
  exact this.three)
 have Hi := hid (fun (gd : Nat) (l : List ZH) (ds : List Bool) (u : World) (h : Adv w v N gv gn gc gd X lv l cs ds u) => show AMok u [some gn, some gd] ⟨IA, N, ic, il⟩ from by
  have := h.wk.i
  rw [← hX] at this
  exact this)
 have hmk := run_mkbools N (by omega)
 have HD0 := hid (show Done v 0 f l0 from fun i hi => by omega)
 have HE0 := hid (show ∀ i, i < 0 → (List.replicate N false)[i]? = some (!decide (f i = at0 (lv.map ZH.ws) i)) from fun i hi => by omega)
 have HEl := hid (show (List.replicate N false).length = N from List.length_replicate)
 have HA1 := hid (show Adv w v N gv gn gc (w.heap.size + 1) X lv l0 cs (List.replicate N false) ((w.alloc (.cells #[.int .i64 v, .slice BA N bc, .slice IA N ic] 67)).alloc (.cells ((List.replicate N false).map Value.bool).toArray 4)) from by
  have := HA0.out
  rw [← hX] at this ⊢
  exact this)
 clear HA0 hX
 generalize hds : List.replicate N false = ds0 at *
 clear hds
 go_enter Tryz.func99, Tryz.ntmps99
 go_wp2_with fail
 clear hmk
 generalize (w.alloc (.cells #[.int .i64 v, .slice BA N bc, .slice IA N ic] 67)).alloc (.cells (ds0.map Value.bool).toArray 4) = w1 at *
 generalize hg1 : w.heap.size + 1 = gd at *
 have Hg := hid hg1
 clear hg1
 go_loopw [10, 11, 12, 20] (fun _ _ _ iv wr => ∃ (k : Nat) (l : List ZH) (ds : List Bool), k ≤ N ∧ iv = .int .i64 k ∧ Hid (Adv w v N gv gn gc gd X lv l cs ds wr) ∧ Hid (Done v k f l) ∧ Hid (∀ i, i < k → ds[i]? = some (!decide (f i = at0 (lv.map ZH.ws) i)))) (fun _ _ _ iv _ => N - (intOf iv).toNat)
 case atStart => exact ⟨0, l0, ds0, by omega, rfl, HA1, HD0, HE0⟩
 case round =>
  clear HA1 HD0 HE0
  obtain ⟨k, l, ds, hk, rfl, HI, HD, HE⟩ := hrel
  by_cases hlt : k < N
  · obtain ⟨r, hr, hrm⟩ := get_at Hil.out hlt
    obtain ⟨adI, hI, hadI, i0⟩ := (Hi.out _ _ _ _ HI.out).cell hr
    simp only at hI
    obtain ⟨t, ht, htm⟩ := get_at Hlv.out hlt
    obtain ⟨v0, v1⟩ := HI.out.rv.cells ht
    obtain ⟨y, hy, -⟩ := get_at HI.out.rn.len hlt
    obtain ⟨p0, p1⟩ := HI.out.rn.cells hy
    have f0 := HI.out.rn.fb.frozen (k * 2)
    have f1 := HI.out.rn.fb.frozen (k * 2 + 1)
    have hpl := HI.out.rn.lt
    have hvl := HI.out.rv.lt
    have htA := HI.out.rv.all t htm
    obtain ⟨htW, htf⟩ := Hvo.out t htm
    have Hput := hid (HI.out.put (k := k) hlt (z := t) htA)
    have Hr := hid hr
    have Hrm := hid hrm
    have Hfk := hid (Hadv.out k r hr)
    have Hrl := hid ((Hi.out _ _ _ _ HI.out).all r hrm).len
    have Hak := hid (Hvs.out k t ht)
    have Ht := hid ht
    have Htm := hid htm
    have Htf := hid htf
    have Hly := hid (show (l.set k t)[k]? = some t from by rw [List.getElem?_set_self (by rw [HI.out.rn.len]; exact hlt)])
    have HDp := hid (show Done v k f (l.set k t) from fun i hi => by
     obtain ⟨q, hq, hq2⟩ := HD.out i hi
     exact ⟨q, by rw [List.getElem?_set_ne (by omega)]; exact hq, hq2⟩)
    obtain ⟨q0, q1, q2⟩ := Hwx.out _ _ _ _ HI.out
    subst hI
    clear hr hrm ht htm hy htA htf
    obtain ⟨TW, TA, tn, tc, ts⟩ := t
    simp only at *
    subst htW
    go_wp2_with fail
    generalize (wr.setCell ⟨gn, k * 2, none⟩ (.int .i64 v)).setCell ⟨gn, k * 2 + 1, none⟩ (.slice TA tn tc) = w5 at *
    clear v0 v1 p0 p1 f0 f1 hpl hvl q0 q1 q2 i0 hadI
    obtain ⟨rA, rn, rc, rl⟩ := r
    simp only at *
    obtain ⟨hrn, hra⟩ := Harcs.out _ Hrm.out
    have Hra := hid hra
    clear hra
    simp only at hrn Hra
    have Hl1 := hid (show (l.set k ⟨v, TA, tn, tc, ts⟩)[k]? = some ⟨v, TA, tn, tc, ts⟩ ∧ ((⟨v, TA, tn, tc, ts⟩ : ZH).W = v ∧ (⟨v, TA, tn, tc, ts⟩ : ZH).ws = advS v (lv.map ZH.ws) (fun m => cs.getD m false) ts rl 0) from ⟨Hly.out, rfl, rfl⟩)
    have Hfe := hid (show f k = advS v (lv.map ZH.ws) (fun m => cs.getD m false) ts rl rn from by
     rw [Hfk.out, Hak.out]
     unfold advS
     rw [List.take_of_length_le (by rw [Hrl.out]; exact Nat.le_refl _)])
    clear Hfk Hly
    go_loopw [12, 34] (fun _ jv wr => ∃ (j : Nat) (l1 : List ZH) (z : ZH), j ≤ rn ∧ jv = .int .i64 j ∧ Hid (Adv w v N gv gn gc gd X lv l1 cs ds wr) ∧ Hid (Done v k f l1) ∧ Hid (l1[k]? = some z ∧ (z.W = v ∧ z.ws = advS v (lv.map ZH.ws) (fun m => cs.getD m false) ts rl j))) (fun _ jv _ => rn - (intOf jv).toNat)
    case atStart => exact ⟨0, _, _, by omega, rfl, Hput, HDp, Hl1⟩
    case round =>
     clear Hput HDp Hl1 HI HD
     obtain ⟨j, l1, z, hj, rfl, HI1, HD1, HZ⟩ := hrel
     by_cases hlj : j < rn
     · obtain ⟨a, ha, ham⟩ := get_at Hrl.out hlj
       have hrow := (Hi.out _ _ _ _ HI1.out).all _ Hrm.out
       obtain ⟨ad, hA, had, c0, c1, c2, c3, c4, c5⟩ := hrow.cell ha
       simp only at hA
       subst hA
       obtain ⟨⟨hm0, hm1⟩, hfo⟩ := Hra.out a ham
       have hFa := hrow.all a ham
       have HE1 := hid (advS_next (v := v) (vals := lv.map ZH.ws) (ch := fun m => cs.getD m false) (s := ts) ha)
       clear hrow ha ham
       obtain ⟨am, fh⟩ := a
       simp only at *
       obtain ⟨mn, rfl⟩ := Int.eq_ofNat_of_zero_le hm0
       have hmN : mn < N := by omega
       have k0 : (0 : Int) ≤ mn := hm0
       have k1 : (mn : Int) < N := hm1
       have k2 : (mn : Int).toNat = mn := by omega
       have j0 : (0 : Int) ≤ j := by omega
       have j1 : (j : Int) < rn := by omega
       have j2 : (j : Int).toNat = j := by omega
       have n0 : (0 : Int) ≤ k := by omega
       have n1 : (k : Int) < N := by omega
       have n2 : (k : Int).toNat = k := by omega
       obtain ⟨bb, hbb, -⟩ := get_at Hcl.out hmN
       have hcb := HI1.out.bc.cell hbb
       have hbd : cs.getD mn false = bb := by rw [List.getD_eq_getElem?_getD, hbb]; rfl
       have hgl := HI1.out.bc.fb.lt
       rw [k2, hbd] at HE1
       cases bb with
       | false =>
         have HZ2 := hid (show l1[k]? = some z ∧ (z.W = v ∧ z.ws = advS v (lv.map ZH.ws) (fun m => cs.getD m false) ts rl (j + 1)) from ⟨HZ.out.1, HZ.out.2.1, HZ.out.2.2.trans HE1.out.symm⟩)
         clear hbb hbd hFa hfo hm0 hm1 HE1
         go_wp2_with fail
         go_roundw
         case rel => exact ⟨j + 1, l1, z, by omega, by go_num, HI1, HD1, HZ2⟩
         case measure => simp [intOf]; omega
       | true =>
         obtain ⟨t2, ht2, ht2m⟩ := get_at Hlv.out hmN
         obtain ⟨v0, v1⟩ := HI1.out.rv.cells ht2
         obtain ⟨p0, p1⟩ := HI1.out.rn.cells HZ.out.1
         obtain ⟨ht2W, ht2f⟩ := Hvo.out t2 ht2m
         have hzm : z ∈ l1 := List.mem_of_getElem? HZ.out.1
         have hzA := HI1.out.rn.all z hzm
         have hzf : Bs.Fit v z.ws := by rw [HZ.out.2.2]; exact fit_advS Htf.out
         have hzW := HZ.out.2.1
         have ht2A := HI1.out.rv.all t2 ht2m
         have hE2 : advS v (lv.map ZH.ws) (fun m => cs.getD m false) ts rl (j + 1) = orR v z.ws (valR fh.G.ws t2.ws (folB v fh.K.ws fh.cs) v) := by
          rw [HE1.out, HZ.out.2.2, Hvs.out mn t2 ht2]; rfl
         have HE2 := hid hE2
         clear hE2 HE1
         have HId := hid HI1.out.drew
         obtain ⟨TW2, TA2, tn2, tc2, ts2⟩ := t2
         obtain ⟨ZW, ZA, zn, zc, zs⟩ := z
         simp only at *
         subst ht2W
         subst hzW
         have bd := (Below.refl wr.heap.size wr).drew
         have HJ := hid (join_any v hv256 ZA zn zc zs mn fh ⟨gv, 0, none⟩ N N TA2 tn2 tc2 ts2 wr.drew (hzA.below bd) hzf (hFa.below bd).arg hfo.w1 hfo.w2 hfo.ok hmN (by rw [add_of]; exact v0) (by rw [add_of]; exact v1) HId.out.rv.lt (ht2A.below bd) ht2f)
         obtain ⟨⟨GW, GA, gn', gc', gs⟩, ⟨KW, KA, kn, kc, ks⟩, C, kq, q, css⟩ := fh
         simp only at *
         have d0 : wr.drew.cell? (ad.add (j * 6)) = _ := c0
         have d1 : wr.drew.cell? ⟨(ad.add (j * 6)).block, (ad.add (j * 6)).off + 1, none⟩ = _ := c1
         have d2 : wr.drew.cell? ⟨(ad.add (j * 6)).block, (ad.add (j * 6)).off + 2, none⟩ = _ := c2
         have d3 : wr.drew.cell? ⟨(ad.add (j * 6)).block, (ad.add (j * 6)).off + 3, none⟩ = _ := c3
         have d4 : wr.drew.cell? ⟨(ad.add (j * 6)).block, (ad.add (j * 6)).off + 4, none⟩ = _ := c4
         have d5 : wr.drew.cell? ⟨(ad.add (j * 6)).block, (ad.add (j * 6)).off + 5, none⟩ = _ := c5
         have d6 : wr.drew.cell? ⟨gn, k * 2, none⟩ = _ := p0
         have d7 : wr.drew.cell? ⟨gn, k * 2 + 1, none⟩ = _ := p1
         clear hbb hbd hFa hfo hm0 hm1 v0 v1 hzA hzf ht2A ht2f ht2 ht2m hzm bd
         go_wp2_with fail
         go_region_with (first
          | (go_at_call 126
             go_must (
             refine HJ.out.mono ?_
             rintro e w6 ⟨A6, n6, c6, rfl, ha6, hb6⟩
             have HI6 := hid (HId.out.below hb6)
             have Hfin := hid (HI6.out.put (k := k) hlt (z := ⟨v, A6, n6, c6, orR v zs (valR gs ts2 (folB v ks css) v)⟩) ha6)
             obtain ⟨p60, p61⟩ := HI6.out.rn.cells HZ.out.1
             have f60 := HI6.out.rn.fb.frozen (k * 2)
             have f61 := HI6.out.rn.fb.frozen (k * 2 + 1)
             have hl6 := HI6.out.rn.lt
             clear ha6 hb6)))
         all_goals
          go_wp2_with fail
          go_roundw
          case rel => exact ⟨j + 1, l1.set k ⟨v, A6, n6, c6, orR v zs (valR gs ts2 (folB v ks css) v)⟩, ⟨v, A6, n6, c6, orR v zs (valR gs ts2 (folB v ks css) v)⟩, by omega, by go_num, Hfin,
           hid (fun i hi => by
            obtain ⟨q, hq, hq2⟩ := HD1.out i hi
            exact ⟨q, by rw [List.getElem?_set_ne (by omega)]; exact hq, hq2⟩),
           hid ⟨by rw [List.getElem?_set_self (by rw [HI1.out.rn.len]; exact hlt)], rfl, HE2.out.symm⟩⟩
          case measure => simp [intOf]; omega
     · obtain rfl : j = rn := by omega
       have HId := hid HI1.out.drew
       have hzm : z ∈ l1 := List.mem_of_getElem? HZ.out.1
       have hzA := HId.out.rn.all z hzm
       have hzf : Bs.Fit v z.ws := by rw [HZ.out.2.2]; exact fit_advS Htf.out
       have hzW := HZ.out.2.1
       have hfk : f k = z.ws := Hfe.out.trans HZ.out.2.2.symm
       have htA := HId.out.rv.all _ Htm.out
       have hzn : z.n ≤ maxLen := by
        have h1 := hzA.len
        have h2 := hzf.len
        rw [← h1, h2]
        unfold Bs.nw maxLen
        omega
       have Hlast := hid (show Done v (k + 1) f l1 from fun i hi => by
        by_cases e : i = k
        · subst e
          exact ⟨z, HZ.out.1, hzW, hfk.symm, hzf⟩
        · exact HD1.out i (by omega))
       obtain ⟨b0, hb0, -⟩ := get_at HId.out.bd.len hlt
       have hbk := HId.out.bd.cell hb0
       obtain ⟨p0, p1⟩ := HId.out.rn.cells HZ.out.1
       obtain ⟨v0, v1⟩ := HId.out.rv.cells Ht.out
       have hnl := HId.out.rn.lt
       have hvl := HId.out.rv.lt
       have hEq : equalB v z.ws v ts = decide (f k = at0 (lv.map ZH.ws) k) := by
        unfold equalB sameB
        rw [Bs.valid_of_fit hzf hv256, Bs.valid_of_fit Htf.out hv256, hfk, Hak.out]
        simp
       have HC := hid (devEqual_any v v z.A TA z.n z.c tn tc z.ws ts wr.drew hzA htA hzn)
       rw [hEq] at HC
       have n0 : (0 : Int) ≤ k := by omega
       have n1 : (k : Int) < N := by omega
       have n2 : (k : Int).toNat = k := by omega
       have HE2 := hid (show ∀ i, i < k + 1 → (ds.set k (!decide (f k = at0 (lv.map ZH.ws) k)))[i]? = some (!decide (f i = at0 (lv.map ZH.ws) i)) from fun i hi => by
        by_cases e : i = k
        · subst e
          rw [List.getElem?_set_self (by rw [HId.out.bd.len]; exact hlt)]
        · rw [List.getElem?_set_ne (by omega)]
          exact HE.out i (by omega))
       generalize hbb : decide (f k = at0 (lv.map ZH.ws) k) = bb at *
       obtain ⟨ZW, ZA, zn, zc, zs⟩ := z
       simp only at *
       subst hzW
       clear hzm hzA hzf hfk htA hzn hEq hb0 hbb HE HD1 Hfe
       go_wp2_with fail
       go_region_with (first
        | (go_at_call 97
           go_must (
           refine HC.out.mono ?_
           rintro e w6 ⟨rfl, hb6⟩
           have HI6 := hid (HId.out.below hb6)
           have Hfin := hid (HI6.out.note k (!bb))
           have hb60 := hb6.cell (p := ⟨gd, k, none⟩) HId.out.bd.fb.lt
           have hbk6 := hb60.trans hbk
           have f60 := HI6.out.bd.fb.frozen k
           have hl6 := HI6.out.bd.fb.lt
           clear hb60 hb6)))
       all_goals
        go_wp2_with fail
        go_roundw
        case rel => exact ⟨k + 1, l1, ds.set k (!bb), by omega, by go_num, Hfin, Hlast, HE2⟩
        case measure => simp [intOf]; omega
  · obtain rfl : k = N := by omega
    have hal := HD.out.all HI.out.rn.len
    have hdse : ds = (List.range k).map (fun i => !decide (f i = at0 (lv.map ZH.ws) i)) := by
     apply List.ext_getElem?
     intro i
     by_cases hi : i < k
     · rw [HE.out i hi, List.getElem?_map, List.getElem?_range hi]; rfl
     · rw [List.getElem?_eq_none (by rw [HI.out.bd.len]; omega), List.getElem?_eq_none (by simp; omega)]
    have Hr := hid (show RetAdv w v k gv gn gc lv cs f (.returned (.slice (some ⟨gd, 0, none⟩) k k)) wr from ⟨gd, l, ds, rfl, by have := HI.out.ld; omega, HI.out.rv, HI.out.rn, HI.out.bd, hal, hdse, HI.out.gr⟩)
    clear hal hdse
    go_wp2_with fail
    go_ret
    exact Hr.out
def difB (N : Nat) (a b : List (List Nat)) : List Bool := (List.range N).map fun k => !decide (at0 a k = at0 b k)
theorem difB_get {N k : Nat} (h : k < N) (a b : List (List Nat)) : (difB N a b)[k]? = some (!decide (at0 a k = at0 b k)) := by
 unfold difB; rw [List.getElem?_map, List.getElem?_range h]; rfl
theorem difB_any {p : PW} {N : Nat} (hn : p.n = N) {a b : List (List Nat)} (ha : p.Vals a) (hb : p.Vals b) : (difB N a b).any id = true ↔ a ≠ b := by
 rw [List.any_eq_true]
 constructor
 · rintro ⟨c, hc, h1⟩ e
   obtain ⟨k, _, rfl⟩ := List.mem_map.1 hc
   subst e
   simp at h1
 · intro hne
   obtain ⟨m, hm, h⟩ := differ_at ha hb hne
   exact ⟨_, List.mem_map.2 ⟨m, List.mem_range.2 (by omega), rfl⟩, by simpa using h⟩
theorem advs_eq {p : PW} {N : Nat} (hp : p.Ok) (hi : p.In) (hn : p.n = N) (K : Nat) : (List.range N).map (p.adv (p.round (K + 1)) fun m => (difB N (p.round (K + 1)) (p.round K)).getD m false) = p.round (K + 2) := by
 have := p.adv_round hp hi K (fun m => (difB N (p.round (K + 1)) (p.round K)).getD m false) (fun m hm => by
  show (difB N (p.round (K + 1)) (p.round K)).getD m false = true ↔ _
  rw [List.getD_eq_getElem?_getD, difB_get (by omega)]
  simp only [Option.getD_some, Bool.not_eq_true', decide_eq_false_iff_not]
  exact ⟨fun h e => h e.symm, fun h e => h e.symm⟩)
 rw [← this]
 unfold PW.advs
 rw [hn]
structure Lst0 (w0 : World) (v N gv gn gc : Nat) (x : WB) (lv ln : List ZH) (cs : List Bool) (u : World) : Prop where
 wx : Fb u w0.heap.size #[.int .i64 v, .slice x.B.A x.B.n x.B.c, .slice x.I.A x.I.n x.I.c] 67
 rv : VRow u gv N lv
 rn : VRow u gn N ln
 bc : BRow u gc N cs
 wk : WBok u [some gn, some gv] x
 bel : Below w0.heap.size w0 u
 nvn : gv ≠ gn
 hv : w0.heap.size < gv
 hn : w0.heap.size < gn
 okv : ∀ z ∈ lv, z.W = v ∧ Bs.Fit v z.ws
 okn : ∀ z ∈ ln, z.W = v ∧ Bs.Fit v z.ws
theorem bc_ne_row {u : World} {g N gc N' : Nat} {l : List ZH} {cs : List Bool} (h : VRow u g N l) (hc : BRow u gc N' cs) : gc ≠ g := by
 intro e
 have h1 := h.fb
 have h2 := hc.fb
 unfold Fb at h1 h2
 rw [e, h1] at h2
 injection h2 with h2
 injection h2 with _ h2
 exact absurd h2 (by decide)
theorem Lst0.turn {w0 u u' : World} {v N gv gn gc gd : Nat} {x : WB} {lv ln l : List ZH} {cs ds : List Bool} (h : Lst0 w0 v N gv gn gc x lv ln cs u) (hg : u.grownBy u' (some gv)) (h1 : VRow u' gn N ln) (h2 : VRow u' gv N l) (h3 : BRow u' gd N ds) (ho : ∀ z ∈ l, z.W = v ∧ Bs.Fit v z.ws) :
 Lst0 w0 v N gn gv gd x ln l ds u' := by
 have hv := h.hv
 exact ⟨h.wx.grown hg (by intro e; have := Option.some.inj e; omega), h1, h2, h3, (h.wk.go (Go2.same hg (.inr (by simp)))).go (Go2.less u' (by intro k hk; simp only [List.mem_cons, List.not_mem_nil, or_false] at hk ⊢; exact hk.symm)),
  h.bel.grown hg h.bel.size (fun k hk => by have := Option.some.inj hk; omega), h.nvn.symm, h.hn, h.hv, h.okn, ho⟩
def RetLast (w : World) (v N : Nat) (p : PW) (e : Ending) (w' : World) : Prop :=
 ∃ (K g : Nat) (l : List ZH), p.Last K ∧ e = .returned (.tuple #[.slice (some ⟨g, 0, none⟩) N N, .int .i64 K]) ∧ w.heap.size ≤ g ∧ VRow w' g N l ∧ (∀ z ∈ l, z.W = v ∧ Bs.Fit v z.ws) ∧ l.map ZH.ws = p.round K ∧ Below w.heap.size w w'
theorem WBok.far0 {w u : World} {x : WB} {ex : List (Option Nat)} (h : WBok w [] x) (hb : Below w.heap.size w u) (he : ∀ k, some k ∈ ex → w.heap.size ≤ k) : WBok u ex x := h.ext hb fun k hk hm => by have := he k hm; omega
theorem emp_round {p : PW} {v N : Nat} (h : PWok p v N) : (List.range N).map (fun _ => Bs.emp v) = p.round 0 := by
 show _ = (List.range p.n).map fun _ => Bs.emp p.v
 rw [h.n, h.v]
theorem Lst0.below {w0 u u' : World} {v N gv gn gc : Nat} {x : WB} {lv ln : List ZH} {cs : List Bool} (h : Lst0 w0 v N gv gn gc x lv ln cs u) (hb : Below u.heap.size u u') : Lst0 w0 v N gv gn gc x lv ln cs u' :=
 ⟨h.wx.below hb h.wx.lt, h.rv.below hb, h.rn.below hb, h.bc.below hb, h.wk.below hb, below_step h.bel hb, h.nvn, h.hv, h.hn, h.okv, h.okn⟩
theorem Lst0.note {w0 u : World} {v N gv gn gc : Nat} {x : WB} {lv ln : List ZH} {cs : List Bool} (h : Lst0 w0 v N gv gn gc x lv ln cs u) (hx : WBok w0 [] x) (hg : w0.heap.size < gc) (k : Nat) (b : Bool) :
 Lst0 w0 v N gv gn gc x lv ln (cs.set k b) (u.setCell ⟨gc, k, none⟩ (.bool b)) := by
 have hv := h.hv
 have hn := h.hn
 have hb := h.bel.setCell (p := ⟨gc, k, none⟩) (by simp; omega) (.bool b)
 exact ⟨h.wx.far (by simp; omega) _, h.rv.bools h.bc (bc_ne_row h.rv h.bc).symm _ _, h.rn.bools h.bc (bc_ne_row h.rn h.bc).symm _ _, h.bc.put k b, hx.far0 hb (fun i hi => by
  simp only [List.mem_cons, Option.some.injEq, List.not_mem_nil, or_false] at hi
  rcases hi with rfl | rfl <;> omega), hb, h.nvn, hv, hn, h.okv, h.okn⟩
set_option maxHeartbeats 12800000 in
theorem lastRound_any (x : WB) (v N : Nat) (w : World) (hx : WBok w [] x) (ho : WOk x v N) :
 Calls Tryz.prog 61 #[x.a] w (RetLast w v N x.pw) := by
 have hN := ho.n256
 have hv := ho.v256
 have hp := ho.pw hx
 have Hp := hid hp
 have Hx := hid hx
 have Ho := hid ho
 have hW := ho.w
 have hbn := ho.bn
 have hin := ho.inn
 have Hemp := hid (show emptyR v = ((v : Int), Bs.emp v, 0) by unfold emptyR; rw [if_neg (by omega), Int.toNat_natCast])
 clear hx ho hp
 generalize hP : x.pw = p at *
 have HP := hid hP
 clear hP
 obtain ⟨XW, ⟨BA, bn, bc, bl⟩, ⟨IA, inn, ic, il⟩⟩ := x
 unfold WB.a at *
 simp only at *
 subst XW
 subst bn
 subst inn
 have hmk := run_mksets N (by omega)
 have H0 := hid (show Rss w v N (w.heap.size + 1) (.slice BA N bc) (.slice IA N ic) (List.replicate N z0) ((w.alloc (.cells #[.int .i64 v, .slice BA N bc, .slice IA N ic] 67)).alloc (.cells ((List.replicate N z0).flatMap ZH.cs).toArray 49)) from by
  have hb := (Below.refl w.heap.size w).alloc (Nat.le_refl _) (.cells #[.int .i64 v, .slice BA N bc, .slice IA N ic] 67)
  have hr := VRow.new (w.alloc (.cells #[.int .i64 v, .slice BA N bc, .slice IA N ic] 67)) N
  rw [World.size_alloc] at hr
  exact ⟨(Fb.new w _ _).alloc _, hr, by omega, hb.alloc hb.size _⟩)
 have H0' := hid (show Done v 0 (fun _ => Bs.emp v) (List.replicate N z0) from fun i hi => by omega)
 generalize hl0 : List.replicate N z0 = l0 at *
 clear hl0
 go_enter Tryz.func61, Tryz.ntmps61
 go_wp2_with fail
 clear hmk
 generalize (w.alloc (.cells #[.int .i64 v, .slice BA N bc, .slice IA N ic] 67)).alloc (.cells (l0.flatMap ZH.cs).toArray 49) = w1 at *
 generalize hg1 : w.heap.size + 1 = g at *
 have Hg := hid hg1
 clear hg1
 go_loopw [5, 16, 19, 20, 21, 22, 23, 24, 25, 26, 27] (fun _ iv _ _ _ _ _ _ _ _ _ wr => ∃ (k : Nat) (l : List ZH), k ≤ N ∧ iv = .int .i64 k ∧ Hid (Rss w v N g (.slice BA N bc) (.slice IA N ic) l wr) ∧ Hid (Done v k (fun _ => Bs.emp v) l)) (fun _ iv _ _ _ _ _ _ _ _ _ _ => N - (intOf iv).toNat)
 case atStart => exact ⟨0, l0, by omega, rfl, H0, H0'⟩
 case round =>
  clear H0 H0'
  obtain ⟨k, l, hk, rfl, HI, HD⟩ := hrel
  by_cases hlt : k < N
  · obtain ⟨q0, q1, q2⟩ := HI.out.wx.three
    go_wp2_with fail
    refine (devEmpty_any v wr).mono ?_
    rw [Hemp.out]
    rintro e w5 ⟨A, n, c, rfl, ha, hb⟩
    clear q0 q1 q2
    have HI5 := hid (HI.out.below hb)
    have Hfin := hid (HI5.out.put (k := k) hlt (z := ⟨v, A, n, c, Bs.emp v⟩) ha)
    have HD5 := hid (HD.out.put (k := k) (by rw [HI.out.row.len]; exact hlt) (z := ⟨v, A, n, c, Bs.emp v⟩) rfl rfl (Bs.fit_emp v))
    simp only at Hfin
    obtain ⟨y, hy, -⟩ := get_at HI5.out.row.len hlt
    obtain ⟨p0, p1⟩ := HI5.out.row.cells hy
    have f0 := HI5.out.row.fb.frozen (k * 2)
    have f1 := HI5.out.row.fb.frozen (k * 2 + 1)
    have hpl := HI5.out.row.lt
    clear ha hb hy
    go_wp2_with fail
    go_roundw
    case rel => exact ⟨k + 1, l.set k ⟨v, A, n, c, Bs.emp v⟩, by omega, by go_num, Hfin, HD5⟩
    case measure => simp [intOf]; omega
  · obtain rfl : k = N := by omega
    obtain ⟨hok, hvs⟩ := HD.out.all HI.out.row.len
    rw [emp_round Hp.out] at hvs
    have hR := rightSides_any ⟨v, ⟨BA, k, bc, bl⟩, ⟨IA, k, ic, il⟩⟩ ⟨some ⟨g, 0, none⟩, k, k, l⟩ v k [] [] wr (Hx.out.below HI.out.bel) (HI.out.row.zl (by omega)) Ho.out ⟨rfl, hok⟩
    rw [HP.out, show ZL.vs ⟨some ⟨g, 0, none⟩, k, k, l⟩ = p.round 0 from hvs] at hR
    have HR := hid hR
    have Hok := hid hok
    have Hvs := hid hvs
    have hmk := run_mkbools k (by omega)
    clear hR hok hvs
    unfold WB.a at HR
    simp only at HR
    obtain ⟨q0, q1, q2⟩ := HI.out.wx.three
    go_wp2_with fail
    refine HR.out.mono ?_
    rintro e w2 ⟨g2, l2, rfl, hg2, hrow2, hok2, hvs2, hb2⟩
    have HI2 := hid (HI.out.below hb2)
    have Hrow2 := hid hrow2
    have Hok2 := hid hok2
    have Hvs2 := hid (show l2.map ZH.ws = p.round 1 from hvs2)
    have hgl := HI.out.row.lt
    clear q0 q1 q2 hrow2 hok2 hvs2 hb2
    obtain ⟨q0, q1, q2⟩ := HI2.out.wx.three
    have HL := hid (show Lst0 w v k g g2 w2.heap.size ⟨v, ⟨BA, k, bc, bl⟩, ⟨IA, k, ic, il⟩⟩ l l2 (List.replicate k false) (w2.alloc (.cells ((List.replicate k false).map Value.bool).toArray 4)) from by
     have hb := (Below.refl w2.heap.size w2).alloc (Nat.le_refl _) (.cells ((List.replicate k false).map Value.bool).toArray 4)
     have hgb := HI.out.gb
     have hbl := HI.out.bel.size
     have hbb := below_step HI2.out.bel hb
     exact ⟨HI2.out.wx.below hb HI2.out.wx.lt, HI2.out.row.below hb, Hrow2.out.below hb, BRow.new w2 k, Hx.out.far0 hbb (fun i hi => by
      simp only [List.mem_cons, Option.some.injEq, List.not_mem_nil, or_false] at hi
      rcases hi with rfl | rfl
      · omega
      · omega), hbb, by omega, hgb, by omega, Hok.out, Hok2.out⟩)
    have HE0 := hid (show ∀ i, i < 0 → (List.replicate k false)[i]? = some (!decide (at0 (p.round 1) i = at0 (p.round 0) i)) from fun i hi => by omega)
    generalize hcs : List.replicate k false = cs0 at *
    clear hcs
    go_wp2_with fail
    clear hmk q0 q1 q2 HR HI HI2 HD
    generalize w2.alloc (.cells (cs0.map Value.bool).toArray 4) = w3 at *
    have Hg3 := hid (show w.heap.size < w2.heap.size from by have := HL.out.hv; have := hgl; have := Hrow2.out.lt; have := HL.out.hn; omega)
    generalize hg3 : w2.heap.size = g3 at *
    clear hg3 hg2 hgl
    go_loopw [8, 38] (fun _ iv wr => ∃ (i : Nat) (cs : List Bool), i ≤ k ∧ iv = .int .i64 i ∧ Hid (Lst0 w v k g g2 g3 ⟨v, ⟨BA, k, bc, bl⟩, ⟨IA, k, ic, il⟩⟩ l l2 cs wr) ∧ Hid (∀ j, j < i → cs[j]? = some (!decide (at0 (p.round 1) j = at0 (p.round 0) j)))) (fun _ iv _ => k - (intOf iv).toNat)
    case atStart => exact ⟨0, cs0, by omega, rfl, HL, HE0⟩
    case round =>
     clear HL HE0
     obtain ⟨i, cs, hi, rfl, HI, HE⟩ := hrel
     by_cases hlt : i < k
     · have HId := hid (HI.out.below (Below.refl _ _).drew)
       obtain ⟨z, hz, hzm⟩ := get_at HId.out.rv.len hlt
       obtain ⟨y, hy, hym⟩ := get_at HId.out.rn.len hlt
       obtain ⟨p0, p1⟩ := HId.out.rv.cells hz
       obtain ⟨r0, r1⟩ := HId.out.rn.cells hy
       obtain ⟨hzW, hzf⟩ := Hok.out z hzm
       obtain ⟨hyW, hyf⟩ := Hok2.out y hym
       have hzA := HId.out.rv.all z hzm
       have hyA := HId.out.rn.all y hym
       have hvl := HId.out.rv.lt
       have hnl := HId.out.rn.lt
       have hz0 : at0 (p.round 0) i = z.ws := by rw [← Hvs.out]; exact at0_get (by rw [List.getElem?_map, hz]; rfl)
       have hy0 : at0 (p.round 1) i = y.ws := by rw [← Hvs2.out]; exact at0_get (by rw [List.getElem?_map, hy]; rfl)
       have hzn : z.n ≤ maxLen := by
        have h1 := hzA.len
        have h2 := hzf.len
        rw [← h1, h2]
        unfold Bs.nw maxLen
        omega
       have hEq : equalB v z.ws v y.ws = decide (at0 (p.round 1) i = at0 (p.round 0) i) := by
        unfold equalB sameB
        rw [Bs.valid_of_fit hzf hv, Bs.valid_of_fit hyf hv, hz0, hy0]
        simp only [decide_true, Bool.true_and]
        exact decide_eq_decide.2 ⟨fun h => h.symm, fun h => h.symm⟩
       have HC := hid (devEqual_any v v z.A y.A z.n z.c y.n y.c z.ws y.ws wr.drew hzA hyA hzn)
       rw [hEq] at HC
       obtain ⟨b0, hb0, -⟩ := get_at HId.out.bc.len hlt
       have hbk := HId.out.bc.cell hb0
       have n0 : (0 : Int) ≤ i := by omega
       have n1 : (i : Int) < k := by omega
       have n2 : (i : Int).toNat = i := by omega
       have HE2 := hid (show ∀ j, j < i + 1 → (cs.set i (!decide (at0 (p.round 1) i = at0 (p.round 0) i)))[j]? = some (!decide (at0 (p.round 1) j = at0 (p.round 0) j)) from fun j hj => by
        by_cases e : j = i
        · subst e
          rw [List.getElem?_set_self (by rw [HId.out.bc.len]; exact hlt)]
        · rw [List.getElem?_set_ne (by omega)]
          exact HE.out j (by omega))
       generalize hbb : decide (at0 (p.round 1) i = at0 (p.round 0) i) = bb at *
       obtain ⟨ZW, ZA, zn, zc, zs⟩ := z
       obtain ⟨YW, YA, yn, yc, ys⟩ := y
       simp only at *
       subst hzW
       subst hyW
       clear hzm hzA hzf hym hyA hyf hzn hEq hb0 hbb HE hz0 hy0 hz hy HI
       go_wp2_with fail
       go_region_with (first
        | (go_at_call 97
           go_must (
           refine HC.out.mono ?_
           rintro e w6 ⟨rfl, hb6⟩
           have HI6 := hid (HId.out.below hb6)
           have Hfin := hid (HI6.out.note Hx.out Hg3.out i (!bb))
           have hb60 := hb6.cell (p := ⟨g3, i, none⟩) HId.out.bc.fb.lt
           have hbk6 := hb60.trans hbk
           have f60 := HI6.out.bc.fb.frozen i
           have hl6 := HI6.out.bc.fb.lt
           clear hb60 hb6)))
       all_goals
        go_wp2_with fail
        go_roundw
        case rel => exact ⟨i + 1, cs.set i (!bb), by omega, by go_num, Hfin, HE2⟩
        case measure => simp [intOf]; omega
     · obtain rfl : i = k := by omega
       have hcs : cs = difB i (p.round 1) (p.round 0) := by
        apply List.ext_getElem?
        intro j
        by_cases hj : j < i
        · rw [HE.out j hj, difB_get hj]
        · rw [List.getElem?_eq_none (by rw [HI.out.bc.len]; omega), List.getElem?_eq_none (by unfold difB; simp; omega)]
       subst hcs
       have Hlr := hid (fun (K : Nat) => advs_eq Hp.out.ok Hp.out.inn Hp.out.n K)
       have Hpv := hid (fun (K : Nat) => PW.round_vals Hp.out.ok K)
       have HI' := hid (show Lst0 w v i g g2 g3 ⟨v, ⟨BA, i, bc, bl⟩, ⟨IA, i, ic, il⟩⟩ l l2 (difB i (p.round (0 + 1)) (p.round 0)) wr from HI.out)
       have HV0 := hid (show l.map ZH.ws = p.round 0 ∧ l2.map ZH.ws = p.round (0 + 1) from ⟨Hvs.out, Hvs2.out⟩)
       have HB0 := hid (show ∀ j, j < 0 → p.round (j + 1) ≠ p.round j from fun j hj => by omega)
       have Hbd := hid (fun (K : Nat) (hb : ∀ j, j < K → p.round (j + 1) ≠ p.round j) => show K ≤ i * v from by
        have h1 := PW.left_round Hp.out.ok Hp.out.inn hb
        rw [Hp.out.n, Hp.out.v] at h1
        omega)
       have hiv : i * v ≤ 65536 := Nat.mul_le_mul hN hv
       clear HE Hok Hok2 Hemp
       go_wp2_with fail
       go_loopw [4, 6, 7, 9] (fun a b c nv wr => ∃ (K gv gn gc : Nat) (lv ln : List ZH), a = .slice (some ⟨gv, 0, none⟩) i i ∧ b = .slice (some ⟨gn, 0, none⟩) i i ∧ c = .slice (some ⟨gc, 0, none⟩) i i ∧ nv = .int .i64 K ∧ Hid (Lst0 w v i gv gn gc ⟨v, ⟨BA, i, bc, bl⟩, ⟨IA, i, ic, il⟩⟩ lv ln (difB i (p.round (K + 1)) (p.round K)) wr) ∧ Hid (lv.map ZH.ws = p.round K ∧ ln.map ZH.ws = p.round (K + 1)) ∧ Hid (∀ j, j < K → p.round (j + 1) ≠ p.round j)) (fun _ _ _ nv _ => i * v + 1 - (intOf nv).toNat)
       case atStart => exact ⟨0, g, g2, g3, l, l2, rfl, rfl, rfl, rfl, HI', HV0, HB0⟩
       case round =>
        clear HI HI' HV0 HB0 Hvs Hvs2
        obtain ⟨K, gv, gn, gc, lv, ln, rfl, rfl, rfl, rfl, HI, HV, HB⟩ := hrel
        have hKb := Hbd.out K HB.out
        have HCt := hid (containsB_any gc i _ wr HI.out.bc (by omega))
        cases hc : (difB i (p.round (K + 1)) (p.round K)).any id with
        | true =>
          rw [hc] at HCt
          have hne := (difB_any Hp.out.n (Hpv.out (K + 1)) (Hpv.out K)).1 hc
          have HB2 := hid (show ∀ j, j < K + 1 → p.round (j + 1) ≠ p.round j from fun j hj => by
           by_cases e : j = K
           · subst e; exact hne
           · exact HB.out j (by omega))
          have hKb2 := Hbd.out (K + 1) HB2.out
          have hA := advance_any ⟨v, ⟨BA, i, bc, bl⟩, ⟨IA, i, ic, il⟩⟩ ln lv (difB i (p.round (K + 1)) (p.round K)) v i gn gv gc wr (HI.out.wk.go (Go2.less wr (by intro k hk; simp only [List.mem_cons, List.not_mem_nil, or_false] at hk ⊢; exact .inr hk))) Ho.out HI.out.rn HI.out.okn HI.out.rv HI.out.bc HI.out.nvn.symm (bc_ne_row HI.out.rv HI.out.bc)
          rw [HP.out, HV.out.2] at hA
          have HA := hid hA
          unfold WB.a at HA
          simp only at HA
          obtain ⟨q0, q1, q2⟩ := HI.out.wx.three
          clear hc hne hA
          go_wp2_with fail
          refine HCt.out.mono ?_
          rintro e w7 ⟨rfl, rfl⟩
          go_wp2_with fail
          refine HA.out.mono ?_
          rintro e w8 ⟨gd, l9, ds9, rfl, hgd, h1, h2, h3, ⟨h4, h5⟩, h6, h7⟩
          have h5' := h5.trans (Hlr.out K)
          have hf : ∀ m, m < i → p.adv (p.round (K + 1)) (fun m => (difB i (p.round (K + 1)) (p.round K)).getD m false) m = at0 (p.round (K + 2)) m := fun m hm => by rw [← Hlr.out K, at0_map hm]
          have h6' : ds9 = difB i (p.round (K + 1 + 1)) (p.round (K + 1)) := by
           rw [h6, HV.out.2]
           show _ = (List.range i).map fun k => !decide (at0 (p.round (K + 2)) k = at0 (p.round (K + 1)) k)
           apply List.map_congr_left
           intro m hm
           rw [hf m (List.mem_range.1 hm)]
          clear hf
          subst h6'
          have HI8 := hid (HI.out.turn h7 h1 h2 h3 h4)
          have HV8 := hid (show ln.map ZH.ws = p.round (K + 1) ∧ l9.map ZH.ws = p.round (K + 1 + 1) from ⟨HV.out.2, h5'⟩)
          clear h1 h2 h3 h4 h5 h5' h6 h7 q0 q1 q2
          go_wp2_with fail
          go_roundw
          case rel => exact ⟨K + 1, gn, gv, gd, ln, l9, rfl, rfl, rfl, by go_num, HI8, HV8, HB2⟩
          case measure => simp [intOf]; omega
        | false =>
          rw [hc] at HCt
          have heq : p.round (K + 1) = p.round K := Classical.byContradiction fun hne => by
           have := (difB_any Hp.out.n (Hpv.out (K + 1)) (Hpv.out K)).2 hne
           rw [hc] at this
           cases this
          have Hr := hid (show RetLast w v i p (.returned (.tuple #[.slice (some ⟨gv, 0, none⟩) i i, .int .i64 K])) wr from ⟨K, gv, lv, ⟨heq, HB.out⟩, rfl, by have := HI.out.hv; omega, HI.out.rv, HI.out.okv, HV.out.1, HI.out.bel⟩)
          clear hc heq
          go_wp2_with fail
          refine HCt.out.mono ?_
          rintro e w7 ⟨rfl, rfl⟩
          go_wp2_with fail
          exact bodyPost_ret (v := .tuple #[.slice (some ⟨gv, 0, none⟩) i i, .int .i64 K]) (by simp [results, Tryz.results61, go_sem]) rfl Hr.out
def RetSolW (w : World) (v N : Nat) (p : PW) (e : Ending) (w' : World) : Prop :=
 ∃ (K g : Nat) (l : List ZH), p.Last K ∧ e = .returned (.tuple #[.slice (some ⟨g, 0, none⟩) N N, .int .i64 0]) ∧ w.heap.size ≤ g ∧ VRow w' g N l ∧ (∀ z ∈ l, z.W = v ∧ Bs.Fit v z.ws) ∧ l.map ZH.ws = p.round K ∧ Below w.heap.size w w'
set_option maxHeartbeats 3200000 in
theorem solveWeb_any (x : WB) (v N : Nat) (ex : List (Option Nat)) (w : World) (h : WBok w ex x) (ho : WOk x v N) (hk : WLk x N) :
 Calls Tryz.prog 32 #[x.a] w (RetSolW w v N x.pw) := by
 have h := h.go (Go2.less w (ex' := []) (by simp))
 have hW := ho.w
 have hbn := ho.bn
 have hin := ho.inn
 have HV := hid (fun (u : World) (hu : Below w.heap.size w u) => validWeb_any x v N [] u (h.below hu) ho hk)
 have HR := hid (fun (u : World) (hu : Below w.heap.size w u) => lastRound_any x v N u (h.below hu) ho)
 clear h ho hk
 generalize x.pw = p at *
 obtain ⟨XW, ⟨BA, bn, bc, bl⟩, ⟨IA, inn, ic, il⟩⟩ := x
 simp only at hW hbn hin
 subst hW
 have hbn := hbn.symm
 subst hbn
 have hin := hin.symm
 subst hin
 unfold WB.a at *
 simp only at *
 have Hb0 := hid ((Below.refl w.heap.size w).alloc (Nat.le_refl _) (.cells #[.int .i64 v, .slice BA N bc, .slice IA N ic] 67))
 have Hbx := hid (Fb.new w #[.int .i64 v, .slice BA N bc, .slice IA N ic] 67)
 go_enter Tryz.func32, Tryz.ntmps32
 go_wp2_with fail
 refine (HV.out _ Hb0.out).mono ?_
 rintro e w2 ⟨rfl, hb2⟩
 have Hb2 := hid (below_step Hb0.out hb2)
 have Hbx2 := hid (Hbx.out.below hb2 Hbx.out.lt)
 clear hb2 Hb0 Hbx HV
 obtain ⟨c0, c1, c2⟩ := Hbx2.out.three
 go_wp2_with fail
 refine (HR.out _ Hb2.out).mono ?_
 rintro e w3 ⟨K, g, l, hK, rfl, hg, hrow, hok, hvs, hb3⟩
 have Hr := hid (show RetSolW w v N p (.returned (.tuple #[.slice (some ⟨g, 0, none⟩) N N, .int .i64 0])) w3 from ⟨K, g, l, hK, rfl, by have := Hb2.out.size; omega, hrow, hok, hvs, below_step Hb2.out hb3⟩)
 clear hK hg hrow hok hvs hb3 HR c0 c1 c2
 go_wp2_with fail
 exact bodyPost_ret (v := .tuple #[.slice (some ⟨g, 0, none⟩) N N, .int .i64 0]) (by simp [results, Tryz.results32, go_sem]) rfl Hr.out
end Go.Proofs.YtopkmeceakjocaaGreat
