/- For every list of choices, every graph and every list of nodes: the package's Reverse, Valid, Edges and Reach answer as the reference's, of the graphs made of the choices, of one spoiled, and of the graph given; and the sanity check holds: GraphReads returns true and leaves its arguments as they were. -/
import Derived.Test.YtmbelhdkaepohaaGreatDoorMgb
import Derived.Test.YtmbelhdkaepohaaGreatDoorMgc
import Derived.Test.YtmbelhdkaepohaaGreatDoorMge
namespace Go.Proofs.YtmbelhdkaepohaaGreatDoor
set_option maxRecDepth 20000
set_option linter.unusedVariables false
set_option linter.unusedSimpArgs false
open Go.ChangeShapes Go.WideShapes Go.ChangeAt Go.RowKit

/-- The tape's graph in its box, and the tape. -/
structure Twg (w1 : World) (T b : Nat) (x : GH) (v : World) : Prop where
  gos : GoS w1 T v
  bx : Fb v b #[.slice x.A x.n x.c, .slice x.S.A x.S.n x.S.c, .slice x.P.A x.P.n x.P.c] 26
  g : GHok v [some T] x
  ne : b ≠ T
section
variable {w1 v v' : World} {T b : Nat} {x : GH}
theorem Twg.step2 (h : Twg w1 T b x v) (hgo : Going w1 T v') (hg : v.grownBy v' (some T)) : Twg w1 T b x v' :=
  ⟨h.gos.step hgo hg, h.bx.grown hg (by intro e; exact h.ne (Option.some.inj e)), h.g.go (Go2.same hg (.inr (by simp))), h.ne⟩
theorem Twg.step (h : Twg w1 T b x v) (ht : Tape v' T) (hg : v.grownBy v' (some T)) : Twg w1 T b x v' := h.step2 (h.gos.go.step ht hg) hg
theorem Twg.below (h : Twg w1 T b x v) (hb : Below v.heap.size v v') : Twg w1 T b x v' := h.step2 (h.gos.go.below hb) (grown_of_below hb _)
end
theorem iarg_below {w w' : World} {A : Option Addr} {n : Nat} {l : List Int} (h : IArg w A n l) (hb : Below w.heap.size w w') : IArg w' A n l := ⟨h.lies.below hb hb.size, h.len⟩
theorem lit_kept {v v' : World} {T : Nat} {r : Int} (hT : T < v.heap.size) (hg : (v.alloc (.cells #[.int .i64 r] 3)).grownBy v' (some T)) : RHok v' [] ⟨some ⟨v.heap.size, 0, none⟩, 1, 1, [r]⟩ := by
  have h : Fb v' v.heap.size #[.int .i64 r] 3 := (Fb.new v #[.int .i64 r] 3).grown hg (fun e => by have := Option.some.inj e; omega)
  exact ⟨EAt.fb h (by simp) (fun j u hu => by simpa [ints] using hu), rfl, by show 1 ≤ _; omega⟩
def FRw (T : Nat) (v : Value) (w : World) : Prop := ∃ z : RH, v = .slice z.A z.n z.c ∧ RHok w [some T] z
def FGr (T : Nat) (v : Value) (w : World) : Prop := ∃ y : GH, v = y.a ∧ GHok w [some T] y
theorem FRw.stb {T : Nat} {v : Value} {w u : World} (hg : w.grownBy u (some T)) (h : FRw T v w) : FRw T v u := by
  obtain ⟨z, e, h⟩ := h
  exact ⟨z, e, h.go (Go2.same hg (.inr (by simp)))⟩
theorem FGr.stb {T : Nat} {v : Value} {w u : World} (hg : w.grownBy u (some T)) (h : FGr T v w) : FGr T v u := by
  obtain ⟨z, e, h⟩ := h
  exact ⟨z, e, h.go (Go2.same hg (.inr (by simp)))⟩
theorem RHok.out0 {v : World} {ex : List (Option Nat)} {x : RH} (h : RHok v ex x) : RHok v [] x := h.go (Go2.less v (by simp))
theorem lit_T {T : Nat} (v : World) (cs : Array Value) (l : List Int) (n : Nat) (hT : T < v.heap.size) (hc : cs = (ints l).toArray) (hn : l.length = n) (hf : n ≤ 1000) : FRw T (.slice (some ⟨v.heap.size, 0, none⟩) n n) (v.alloc (.cells cs 3)) :=
  ⟨⟨some ⟨v.heap.size, 0, none⟩, n, n, l⟩, rfl, ⟨EAt.fb (Fb.new v cs 3) (by simp; omega) (fun j u hu => by subst hc; simpa using hu), hn, by show n ≤ _; omega⟩⟩
/-- A step's goal, closed to the unifier. -/
structure Stp (p : Prop) : Prop where
  out : p
theorem stp_step {P : Program} {ops : Array Oper} {Q : Exit → Act → World → Prop} {i : Nat} {o : Oper} {K : Act → World → Prop} {a : Act} {w : World} (ho : ops[i]? = some o)
    (h : ∀ K' : Act → World → Prop, (∀ a w, K a w → K' a w) → if Region.wanted o (yielded ops a.tmps) = true then Oper.wp P o a w K' Q else K' (a.put o.dst undef) w) : Stp (wpOp P ops Q i K a w) := ⟨wpOp_step ho h⟩
theorem wp_region_factsS {P : Program} {ops : Array Oper} {Q : Exit → Act → World → Prop} {id : Nat} {a0 : Act} {w : World} (F : Nat → Value → World → Prop) (B : World → Prop) (use : Nat → Option Nat) (R : Nat → World → World → Prop) (K0 : Act → World → Prop) (hK0 : ∀ a w, K0 a w → Q .normal a w) (n m : Nat) (ds : List (Option Tmp)) (hn : ops.size = n) (hmix : P.follows .mixedOrders = true) (hds : ops.toList.map (·.dst) = ds) (hd : distB ds = true) (hb : backB ops = true) (ht : tailB ops m = true) (hm : m ≤ n)
    (hst : ∀ j w w' i v, R j w w' → i ≠ j → use i ≠ some j → F i v w → F i v w') (hB : B w.drew)
    (hstep : ∀ (i : Nat) (o : Oper) (f : Nat → Value) (w : World), ops[i]? = some o → i < m → B w → (∀ e ∈ o.after, Region.binds .any e = true → use e.on = none ∨ use e.on = some i → F e.on (f e.on) w) → ∀ K : Act → World → Prop, (∀ v w', B w' → R i w w' → F i v w' → K ((putL ds f 0 a0).put o.dst v) w') → Stp (wpOp P ops Q i K (putL ds f 0 a0) w))
    (hend : ∀ (Q2 : Exit → Act → World → Prop), (∀ a w, K0 a w → Q2 .normal a w) → ∀ (f : Nat → Value) (w : World), B w → (∀ i, i < m → use i = none → F i (f i) w) → wpAny P .any ops Q2 (n - m) (tailArr n m) (putL ds f 0 a0) w) :
    (Code.region id ops true).wp P Q a0 w :=
  wp_region_facts F B use R K0 hK0 n m ds hn hmix hds hd hb ht hm hst hB (fun i o f w h1 h2 h3 h4 K hK => (hstep i o f w h1 h2 h3 h4 K hK).out) hend
def facts7t (T : Nat) (x : GH) (fr : RH) : List (Value → World → Prop) :=
  ((Fv (.agg #[.slice x.A x.n x.c, .slice x.S.A x.S.n x.S.c, .slice x.P.A x.P.n x.P.c])) :: (Fv (.pointer (some ⟨T, 0, none⟩))) :: (Fv (.int .i64 (x.n : Int))) :: (Fnx x.n) :: (FRw T) :: (Fv (.bool true)) :: (Fv (.bool false)) :: (Fv (.bool false)) :: (Fv (.agg #[.slice x.A x.n x.c, .slice x.S.A x.S.n x.S.c, .slice x.P.A x.P.n x.P.c])) :: (Fv (.pointer (some ⟨T, 0, none⟩))) :: (Fv (.int .i64 (x.n : Int))) :: (Fnx x.n) :: (Fv (.pointer (some ⟨T, 0, none⟩))) :: (Fv (.int .i64 (x.n : Int))) :: (Fnx x.n) :: (FRw T) :: (Fv (.bool true)) :: (Fv (.bool false)) :: (Fv (.bool false)) :: (Fv (.bool false)) :: (Fv (.pointer (some ⟨T, 0, none⟩))) :: (Fv (.agg #[.slice x.A x.n x.c, .slice x.S.A x.S.n x.S.c, .slice x.P.A x.P.n x.P.c])) :: (FGr T) :: (FRw T) :: (Fv (.bool true)) :: (Fv (.bool false)) :: (Fv (.bool false)) :: (Fv (.bool false)) :: (Fv (.agg #[.slice x.A x.n x.c, .slice x.S.A x.S.n x.S.c, .slice x.P.A x.P.n x.P.c])) :: (Fv (.pointer (some ⟨T, 0, none⟩))) :: (Fv (.int .i64 (x.n : Int))) :: (Fv (.int .i64 ((x.n : Int) + 2))) :: (Fnx (x.n + 2)) :: (Fin1) :: (FRw T) :: (Fv (.bool true)) :: (Fv (.bool false)) :: (Fv (.bool false)) :: (Fv (.bool false)) :: (Fv (.slice fr.A fr.n fr.c)) :: (Fv (.int .i64 (fr.n : Int))) :: (Fv (.bool true)) :: (Fv (.bool true)) :: (Fv (.agg #[.slice x.A x.n x.c, .slice x.S.A x.S.n x.S.c, .slice x.P.A x.P.n x.P.c])) :: (Fv (.slice fr.A fr.n fr.c)) :: (Fv (.bool true)) :: (Fv (.bool false)) :: (Fv (.bool false)) :: (Fv (.bool false)) :: [])
theorem facts7t_stb (T : Nat) (x : GH) (fr : RH) : ∀ j v w w', w.grownBy w' (some T) → (facts7t T x fr).getD j (fun _ _ => True) v w → (facts7t T x fr).getD j (fun _ _ => True) v w' := by
  intro j v w w' hb
  match j with
  | 0 => exact fun h => h
  | 1 => exact fun h => h
  | 2 => exact fun h => h
  | 3 => exact fun h => h
  | 4 => exact fun h => FRw.stb hb h
  | 5 => exact fun h => h
  | 6 => exact fun h => h
  | 7 => exact fun h => h
  | 8 => exact fun h => h
  | 9 => exact fun h => h
  | 10 => exact fun h => h
  | 11 => exact fun h => h
  | 12 => exact fun h => h
  | 13 => exact fun h => h
  | 14 => exact fun h => h
  | 15 => exact fun h => FRw.stb hb h
  | 16 => exact fun h => h
  | 17 => exact fun h => h
  | 18 => exact fun h => h
  | 19 => exact fun h => h
  | 20 => exact fun h => h
  | 21 => exact fun h => h
  | 22 => exact fun h => FGr.stb hb h
  | 23 => exact fun h => FRw.stb hb h
  | 24 => exact fun h => h
  | 25 => exact fun h => h
  | 26 => exact fun h => h
  | 27 => exact fun h => h
  | 28 => exact fun h => h
  | 29 => exact fun h => h
  | 30 => exact fun h => h
  | 31 => exact fun h => h
  | 32 => exact fun h => h
  | 33 => exact fun h => h
  | 34 => exact fun h => FRw.stb hb h
  | 35 => exact fun h => h
  | 36 => exact fun h => h
  | 37 => exact fun h => h
  | 38 => exact fun h => h
  | 39 => exact fun h => h
  | 40 => exact fun h => h
  | 41 => exact fun h => h
  | 42 => exact fun h => h
  | 43 => exact fun h => h
  | 44 => exact fun h => h
  | 45 => exact fun h => h
  | 46 => exact fun h => h
  | 47 => exact fun h => h
  | 48 => exact fun h => h
  | j + 49 => exact fun _ => trivial
def facts7f (T : Nat) (x : GH) (fr : RH) : List (Value → World → Prop) :=
  ((Fv (.agg #[.slice x.A x.n x.c, .slice x.S.A x.S.n x.S.c, .slice x.P.A x.P.n x.P.c])) :: (Fv (.pointer (some ⟨T, 0, none⟩))) :: (Fv (.int .i64 (x.n : Int))) :: (Fnx x.n) :: (FRw T) :: (Fv (.bool true)) :: (Fv (.bool false)) :: (Fv (.bool false)) :: (Fv (.agg #[.slice x.A x.n x.c, .slice x.S.A x.S.n x.S.c, .slice x.P.A x.P.n x.P.c])) :: (Fv (.pointer (some ⟨T, 0, none⟩))) :: (Fv (.int .i64 (x.n : Int))) :: (Fnx x.n) :: (Fv (.pointer (some ⟨T, 0, none⟩))) :: (Fv (.int .i64 (x.n : Int))) :: (Fnx x.n) :: (FRw T) :: (Fv (.bool true)) :: (Fv (.bool false)) :: (Fv (.bool false)) :: (Fv (.bool false)) :: (Fv (.pointer (some ⟨T, 0, none⟩))) :: (Fv (.agg #[.slice x.A x.n x.c, .slice x.S.A x.S.n x.S.c, .slice x.P.A x.P.n x.P.c])) :: (FGr T) :: (FRw T) :: (Fv (.bool true)) :: (Fv (.bool false)) :: (Fv (.bool false)) :: (Fv (.bool false)) :: (Fv (.agg #[.slice x.A x.n x.c, .slice x.S.A x.S.n x.S.c, .slice x.P.A x.P.n x.P.c])) :: (Fv (.pointer (some ⟨T, 0, none⟩))) :: (Fv (.int .i64 (x.n : Int))) :: (Fv (.int .i64 ((x.n : Int) + 2))) :: (Fnx (x.n + 2)) :: (Fin1) :: (FRw T) :: (Fv (.bool true)) :: (Fv (.bool false)) :: (Fv (.bool false)) :: (Fv (.bool false)) :: (Fv (.slice fr.A fr.n fr.c)) :: (Fv (.int .i64 (fr.n : Int))) :: (Fv (.bool false)) :: (Fv (.bool false)) :: (Fv (undef)) :: (Fv (undef)) :: (Fv (undef)) :: (Fv (undef)) :: (Fv (.bool false)) :: (Fv (.bool false)) :: [])
theorem facts7f_stb (T : Nat) (x : GH) (fr : RH) : ∀ j v w w', w.grownBy w' (some T) → (facts7f T x fr).getD j (fun _ _ => True) v w → (facts7f T x fr).getD j (fun _ _ => True) v w' := by
  intro j v w w' hb
  match j with
  | 0 => exact fun h => h
  | 1 => exact fun h => h
  | 2 => exact fun h => h
  | 3 => exact fun h => h
  | 4 => exact fun h => FRw.stb hb h
  | 5 => exact fun h => h
  | 6 => exact fun h => h
  | 7 => exact fun h => h
  | 8 => exact fun h => h
  | 9 => exact fun h => h
  | 10 => exact fun h => h
  | 11 => exact fun h => h
  | 12 => exact fun h => h
  | 13 => exact fun h => h
  | 14 => exact fun h => h
  | 15 => exact fun h => FRw.stb hb h
  | 16 => exact fun h => h
  | 17 => exact fun h => h
  | 18 => exact fun h => h
  | 19 => exact fun h => h
  | 20 => exact fun h => h
  | 21 => exact fun h => h
  | 22 => exact fun h => FGr.stb hb h
  | 23 => exact fun h => FRw.stb hb h
  | 24 => exact fun h => h
  | 25 => exact fun h => h
  | 26 => exact fun h => h
  | 27 => exact fun h => h
  | 28 => exact fun h => h
  | 29 => exact fun h => h
  | 30 => exact fun h => h
  | 31 => exact fun h => h
  | 32 => exact fun h => h
  | 33 => exact fun h => h
  | 34 => exact fun h => FRw.stb hb h
  | 35 => exact fun h => h
  | 36 => exact fun h => h
  | 37 => exact fun h => h
  | 38 => exact fun h => h
  | 39 => exact fun h => h
  | 40 => exact fun h => h
  | 41 => exact fun h => h
  | 42 => exact fun h => h
  | 43 => exact fun h => h
  | 44 => exact fun h => h
  | 45 => exact fun h => h
  | 46 => exact fun h => h
  | 47 => exact fun h => h
  | 48 => exact fun h => h
  | j + 49 => exact fun _ => trivial
set_option maxHeartbeats 12800000 in
theorem lawGreads (At : Option Addr) (nt ct : Nat) (zs : List Int) (x0 : GH) (fr : RH) (w : World)
    (ht : IArg w At nt zs) (hnt : nt ≤ maxLen) (hx : GHok w [] x0) (hf : RHok w [] fr) (hsh : Shp w) :
    Calls Tryz.prog 3 #[.slice At nt ct, x0.a, .slice fr.A fr.n fr.c] w fun e w' => e = .returned (.bool true) ∧ Below w.heap.size w w' := by
  have hb0 := (Below.refl w.heap.size w).alloc (Nat.le_refl _) (.cells #[.slice x0.A x0.n x0.c, .slice x0.S.A x0.S.n x0.S.c, .slice x0.P.A x0.P.n x0.P.c] 26)
  have HB0 := hid hb0
  have HX0 := hid (hx.below hb0)
  have HF0 := hid (hf.below hb0)
  have HG0 := hid (Fb.new w #[.slice x0.A x0.n x0.c, .slice x0.S.A x0.S.n x0.S.c, .slice x0.P.A x0.P.n x0.P.c] 26)
  have HS0 := hid (hsh.keep (hb0.block 0 hsh.pos0))
  have HT0 := hid (iarg_below ht hb0)
  have HP0 := hid (show 0 < (w.alloc (.cells #[.slice x0.A x0.n x0.c, .slice x0.S.A x0.S.n x0.S.c, .slice x0.P.A x0.P.n x0.P.c] 26)).heap.size by have := hsh.pos0; rw [World.size_alloc]; omega)
  have hfn := hf.few
  have hx0n := hx.few
  have hx0s := hx.s.few
  have hx0p := hx.p.few
  clear ht hx hf hsh hb0
  unfold GH.a at *
  go_enter Tryz.func3, Tryz.ntmps3
  go_wp2_with fail
  generalize w.alloc (.cells #[.slice x0.A x0.n x0.c, .slice x0.S.A x0.S.n x0.S.c, .slice x0.P.A x0.P.n x0.P.c] 26) = w1 at *
  generalize hG0 : w.heap.size = G0 at *
  refine (new_any At nt ct _).mono ?_
  rintro e w2 ⟨rfl, rfl⟩
  have Hinv := hid (show GoS w1 w1.heap.size (w1.alloc (.cells #[.slice At nt ct, .int .i64 0] 36)) from ⟨⟨tape_new HT0.out hnt, (Below.refl _ _).alloc (Nat.le_refl _) _, Nat.le_refl _⟩, HS0.out.keep (Below.heap_alloc w1 _ 0 HS0.out.pos0), HP0.out⟩)
  clear HS0 HT0 HP0
  go_wp2_with fail
  generalize w1.alloc (.cells #[.slice At nt ct, .int .i64 0] 36) = w2 at *
  generalize hTd : w1.heap.size = T at Hinv ⊢
  have HTd := hid hTd
  clear hTd
  go_loopw [8, 9, 10] (fun iv _ _ wr => ∃ i : Nat, i ≤ 5 ∧ iv = .int .i64 i ∧ Hid (GoS w1 T wr)) (fun iv _ _ _ => 5 - (intOf iv).toNat)
  case atStart => exact ⟨0, by omega, rfl, Hinv⟩
  case round =>
    clear Hinv
    obtain ⟨i, hi, rfl, HI⟩ := hrel
    by_cases hlt : i < 5
    · go_wp2_with fail
      refine (tgraphc_any [some T] w1 T 8 _ HI.out.go (by intro k hk; simp at hk; have := HI.out.go.1.lt; omega) (by omega)).mono ?_
      rintro e w3 ⟨x, rfl, hx, hv, hsn, hpn, hfew, hgo, hgr, hsc, hpc⟩
      have h3 := GoS.step HI.out hgo hgr
      have ha := (Below.refl w3.heap.size w3).alloc (Nat.le_refl _) (.cells #[.slice x.A x.n x.c, .slice x.S.A x.S.n x.S.c, .slice x.P.A x.P.n x.P.c] 26)
      have HW := hid (show Twg w1 T w3.heap.size x (w3.alloc (.cells #[.slice x.A x.n x.c, .slice x.S.A x.S.n x.S.c, .slice x.P.A x.P.n x.P.c] 26)) from ⟨h3.below ha, Fb.new w3 _ _, hx.below ha, by have := h3.go.1.lt; omega⟩)
      have hN1 := hv.some
      have HSp := hid (fun (v : World) (hw : Twg w1 T w3.heap.size x v) => spoilG_any T x w1 v hw.gos.go hw.g hN1 (by omega) hsn hpn
        (fun y hy => ⟨hsc y hy, by have := rows_small hx.s hv.ris y hy; omega⟩) (fun y hy => ⟨hpc y hy, by have := rows_small hx.p hv.pris y hy; omega⟩))
      clear hx hv hsn hpn hgo hgr hsc hpc h3 ha HI
      unfold GH.a at *
      have hc := HW.out.bx.thr
      have hl := HW.out.bx.lt
      go_wp2_with fail
      clear hc hl
      generalize w3.alloc (.cells #[.slice x.A x.n x.c, .slice x.S.A x.S.n x.S.c, .slice x.P.A x.P.n x.P.c] 26) = w4 at *
      generalize w3.heap.size = b at *
      have HW := hid (HW.out.below (Below.refl _ _).drew)
      have HRd := hid (fun (v : World) (hw : Twg w1 T b x v) (r : RH) (hr : RHok v [] r) => reads_any x r v hw.g.out0 hr)
      have HFr := hid (fun (v : World) (hw : Twg w1 T b x v) => HF0.out.below hw.gos.go.2.1)
      have HTl := hid (fun (v : World) (hw : Twg w1 T b x v) => hw.gos.go.1.lt)
      unfold GH.a at HRd
      have e2 : IntKind.i64.wrap ((x.n : Int) + 2) = (x.n : Int) + 2 := IntWalk.i64_in _ (by omega)
      by_cases h20 : fr.n < 20
      · have H20 := hid (show decide ((fr.n : Int) < 20) = true by simp; omega)
        clear h20
        rename_i Kx hKx HWo
        clear HWo
        refine wp_region_factsS (fun j => (facts7t T x fr).getD j (fun _ _ => True)) (fun v => Twg w1 T b x v) (fun _ => none) (fun _ v u => v.grownBy u (some T)) Kx (fun _ _ h => h) 49 49
          (some 22 :: some 23 :: some 24 :: some 25 :: some 26 :: some 27 :: some 28 :: some 29 :: some 30 :: some 31 :: some 32 :: some 33 :: some 34 :: some 35 :: some 36 :: some 37 :: some 38 :: some 39 :: some 40 :: some 41 :: some 42 :: some 43 :: some 44 :: some 45 :: some 46 :: some 47 :: some 48 :: some 49 :: some 50 :: some 51 :: some 52 :: some 53 :: some 54 :: some 55 :: some 56 :: some 57 :: some 58 :: some 59 :: some 60 :: some 61 :: some 62 :: some 63 :: some 64 :: some 65 :: some 66 :: some 67 :: some 68 :: some 69 :: some 70 :: []) (by kernel_rfl) (by kernel_rfl) (by kernel_rfl) (by kernel_rfl) (by kernel_rfl) (by kernel_rfl) (by decide)
          (fun _ v u j z hb _ _ hF => facts7t_stb T x fr j z v u hb hF) HW.out ?_ ?_
        · intro j o f v ho hi hB hpre K hK
          have HB := hid hB
          match j, ho, hpre, hK with
          | 0, ho, hpre, hK =>
            simp only [List.getElem?_toArray, List.getElem?_cons_succ, List.getElem?_cons_zero, Option.some.injEq] at ho
            subst ho
            refine stp_step rfl fun K' hK' => ?_
            have hc := HB.out.bx.thr
            have hbl := HB.out.bx.lt
            simp only [putL, updV]
            go_simp
            have hz := hK' _ _ (hK (.agg #[.slice x.A x.n x.c, .slice x.S.A x.S.n x.S.c, .slice x.P.A x.P.n x.P.c]) (v) (HB.out) (grown_of_below (Below.refl _ _) _) (rfl))
            refine Eq.mp (congrArg (fun a => K' a (v)) ?_) hz
            as_aux_lemma => kernel_rfl
          | 1, ho, hpre, hK =>
            simp only [List.getElem?_toArray, List.getElem?_cons_succ, List.getElem?_cons_zero, Option.some.injEq] at ho
            subst ho
            refine stp_step rfl fun K' hK' => ?_
            simp only [putL, updV]
            go_simp
            have hz := hK' _ _ (hK (.pointer (some ⟨T, 0, none⟩)) (v) (HB.out) (grown_of_below (Below.refl _ _) _) (rfl))
            refine Eq.mp (congrArg (fun a => K' a (v)) ?_) hz
            as_aux_lemma => kernel_rfl
          | 2, ho, hpre, hK =>
            simp only [List.getElem?_toArray, List.getElem?_cons_succ, List.getElem?_cons_zero, Option.some.injEq] at ho
            subst ho
            refine stp_step rfl fun K' hK' => ?_
            simp only [putL, updV]
            go_simp
            have hz := hK' _ _ (hK (.int .i64 (x.n : Int)) (v) (HB.out) (grown_of_below (Below.refl _ _) _) (rfl))
            refine Eq.mp (congrArg (fun a => K' a (v)) ?_) hz
            as_aux_lemma => kernel_rfl
          | 3, ho, hpre, hK =>
            simp only [List.getElem?_toArray, List.getElem?_cons_succ, List.getElem?_cons_zero, Option.some.injEq] at ho
            subst ho
            have e0 : f 1 = .pointer (some ⟨T, 0, none⟩) := hpre ⟨1, .data⟩ (by simp) rfl (.inl rfl)
            have e1 : f 2 = .int .i64 (x.n : Int) := hpre ⟨2, .data⟩ (by simp) rfl (.inl rfl)
            obtain ⟨f, rfl⟩ := fix1 f 1 _ e0
            rw [updV_ne _ _ (by decide)] at e1
            obtain ⟨f, rfl⟩ := fix1 f 2 _ e1
            clear e0 e1
            refine stp_step rfl fun K' hK' => ?_
            simp only [putL, updV]
            go_simp
            go_at_call 7
            refine (next_any T (x.n : Int) _ HB.out.gos.go.1 (by omega)).mono ?_
            rintro e u5 ⟨r, rfl, hr0, hr1, ht, hg, -⟩
            have hB5 := HB.out.step ht hg
            have HF := hid (show Fnx (x.n) (.int .i64 r) u5 from ⟨r, rfl, hr0, by omega⟩)
            have hz := hK' _ _ (hK (.int .i64 r) (u5) (hB5) (hg) (HF.out))
            refine Eq.mp (congrArg (fun a => K' a (u5)) ?_) hz
            as_aux_lemma => kernel_rfl
          | 4, ho, hpre, hK =>
            simp only [List.getElem?_toArray, List.getElem?_cons_succ, List.getElem?_cons_zero, Option.some.injEq] at ho
            subst ho
            obtain ⟨r0, e0, hr0, hr1⟩ : Fnx x.n (f 3) v := hpre ⟨3, .data⟩ (by simp) rfl (.inl rfl)
            obtain ⟨f, rfl⟩ := fix1 f 3 _ e0
            clear e0
            refine stp_step rfl fun K' hK' => ?_
            simp only [putL, updV]
            go_simp
            have hbw := (Below.refl v.heap.size v).alloc (Nat.le_refl _) (.cells #[.int .i64 r0] 3)
            have hB5 := HB.out.below hbw
            have hTv := HB.out.gos.go.1.lt
            have HF := hid (lit_T (T := T) v #[.int .i64 r0] [r0] 1 hTv rfl rfl (by omega))
            have hz := hK' _ _ (hK (.slice (some ⟨v.heap.size, 0, none⟩) 1 1) (v.alloc (.cells #[.int .i64 r0] 3)) (hB5) (grown_of_below hbw _) (HF.out))
            refine Eq.mp (congrArg (fun a => K' a (v.alloc (.cells #[.int .i64 r0] 3))) ?_) hz
            as_aux_lemma => kernel_rfl
          | 5, ho, hpre, hK =>
            simp only [List.getElem?_toArray, List.getElem?_cons_succ, List.getElem?_cons_zero, Option.some.injEq] at ho
            subst ho
            have e0 : f 0 = .agg #[.slice x.A x.n x.c, .slice x.S.A x.S.n x.S.c, .slice x.P.A x.P.n x.P.c] := hpre ⟨0, .data⟩ (by simp) rfl (.inl rfl)
            obtain ⟨z, e1, hz9⟩ : FRw T (f 4) v := hpre ⟨4, .data⟩ (by simp) rfl (.inl rfl)
            obtain ⟨f, rfl⟩ := fix1 f 0 _ e0
            rw [updV_ne _ _ (by decide)] at e1
            obtain ⟨f, rfl⟩ := fix1 f 4 _ e1
            clear e0 e1
            refine stp_step rfl fun K' hK' => ?_
            simp only [putL, updV]
            go_simp
            go_at_call 6
            refine (HRd.out _ HB.out z hz9.out0).mono ?_
            rintro e u5 ⟨rfl, hb5⟩
            have hB5 := HB.out.below hb5
            have hgn := grown_of_below hb5 (some T)
            have hz := hK' _ _ (hK (.bool true) (u5) (hB5) (hgn) (rfl))
            refine Eq.mp (congrArg (fun a => K' a (u5)) ?_) hz
            as_aux_lemma => kernel_rfl
          | 6, ho, hpre, hK =>
            simp only [List.getElem?_toArray, List.getElem?_cons_succ, List.getElem?_cons_zero, Option.some.injEq] at ho
            subst ho
            have e0 : f 5 = .bool true := hpre ⟨5, .data⟩ (by simp) rfl (.inl rfl)
            obtain ⟨f, rfl⟩ := fix1 f 5 _ e0
            clear e0
            refine stp_step rfl fun K' hK' => ?_
            simp only [putL, updV]
            go_simp
            have hz := hK' _ _ (hK (.bool false) (v) (HB.out) (grown_of_below (Below.refl _ _) _) (rfl))
            refine Eq.mp (congrArg (fun a => K' a (v)) ?_) hz
            as_aux_lemma => kernel_rfl
          | 7, ho, hpre, hK =>
            simp only [List.getElem?_toArray, List.getElem?_cons_succ, List.getElem?_cons_zero, Option.some.injEq] at ho
            subst ho
            have e0 : f 6 = .bool false := hpre ⟨6, .data⟩ (by simp) rfl (.inl rfl)
            obtain ⟨f, rfl⟩ := fix1 f 6 _ e0
            clear e0
            refine stp_step rfl fun K' hK' => ?_
            simp only [putL, updV]
            go_simp
            have hz := hK' _ _ (hK (.bool false) (v) (HB.out) (grown_of_below (Below.refl _ _) _) (rfl))
            refine Eq.mp (congrArg (fun a => K' a (v)) ?_) hz
            as_aux_lemma => kernel_rfl
          | 8, ho, hpre, hK =>
            simp only [List.getElem?_toArray, List.getElem?_cons_succ, List.getElem?_cons_zero, Option.some.injEq] at ho
            subst ho
            have e0 : f 7 = .bool false := hpre ⟨7, .guard⟩ (by simp) rfl (.inl rfl)
            obtain ⟨f, rfl⟩ := fix1 f 7 _ e0
            clear e0
            refine stp_step rfl fun K' hK' => ?_
            have hc := HB.out.bx.thr
            have hbl := HB.out.bx.lt
            simp only [putL, updV]
            go_simp
            have hz := hK' _ _ (hK (.agg #[.slice x.A x.n x.c, .slice x.S.A x.S.n x.S.c, .slice x.P.A x.P.n x.P.c]) (v) (HB.out) (grown_of_below (Below.refl _ _) _) (rfl))
            refine Eq.mp (congrArg (fun a => K' a (v)) ?_) hz
            as_aux_lemma => kernel_rfl
          | 9, ho, hpre, hK =>
            simp only [List.getElem?_toArray, List.getElem?_cons_succ, List.getElem?_cons_zero, Option.some.injEq] at ho
            subst ho
            have e0 : f 7 = .bool false := hpre ⟨7, .guard⟩ (by simp) rfl (.inl rfl)
            obtain ⟨f, rfl⟩ := fix1 f 7 _ e0
            clear e0
            refine stp_step rfl fun K' hK' => ?_
            simp only [putL, updV]
            go_simp
            have hz := hK' _ _ (hK (.pointer (some ⟨T, 0, none⟩)) (v) (HB.out) (grown_of_below (Below.refl _ _) _) (rfl))
            refine Eq.mp (congrArg (fun a => K' a (v)) ?_) hz
            as_aux_lemma => kernel_rfl
          | 10, ho, hpre, hK =>
            simp only [List.getElem?_toArray, List.getElem?_cons_succ, List.getElem?_cons_zero, Option.some.injEq] at ho
            subst ho
            have e0 : f 7 = .bool false := hpre ⟨7, .guard⟩ (by simp) rfl (.inl rfl)
            obtain ⟨f, rfl⟩ := fix1 f 7 _ e0
            clear e0
            refine stp_step rfl fun K' hK' => ?_
            simp only [putL, updV]
            go_simp
            have hz := hK' _ _ (hK (.int .i64 (x.n : Int)) (v) (HB.out) (grown_of_below (Below.refl _ _) _) (rfl))
            refine Eq.mp (congrArg (fun a => K' a (v)) ?_) hz
            as_aux_lemma => kernel_rfl
          | 11, ho, hpre, hK =>
            simp only [List.getElem?_toArray, List.getElem?_cons_succ, List.getElem?_cons_zero, Option.some.injEq] at ho
            subst ho
            have e0 : f 9 = .pointer (some ⟨T, 0, none⟩) := hpre ⟨9, .data⟩ (by simp) rfl (.inl rfl)
            have e1 : f 10 = .int .i64 (x.n : Int) := hpre ⟨10, .data⟩ (by simp) rfl (.inl rfl)
            have e2 : f 7 = .bool false := hpre ⟨7, .guard⟩ (by simp) rfl (.inl rfl)
            obtain ⟨f, rfl⟩ := fix1 f 9 _ e0
            rw [updV_ne _ _ (by decide)] at e1 e2
            obtain ⟨f, rfl⟩ := fix1 f 10 _ e1
            rw [updV_ne _ _ (by decide)] at e2
            obtain ⟨f, rfl⟩ := fix1 f 7 _ e2
            clear e0 e1 e2
            refine stp_step rfl fun K' hK' => ?_
            simp only [putL, updV]
            go_simp
            go_at_call 7
            refine (next_any T (x.n : Int) _ HB.out.gos.go.1 (by omega)).mono ?_
            rintro e u5 ⟨r, rfl, hr0, hr1, ht, hg, -⟩
            have hB5 := HB.out.step ht hg
            have HF := hid (show Fnx (x.n) (.int .i64 r) u5 from ⟨r, rfl, hr0, by omega⟩)
            have hz := hK' _ _ (hK (.int .i64 r) (u5) (hB5) (hg) (HF.out))
            refine Eq.mp (congrArg (fun a => K' a (u5)) ?_) hz
            as_aux_lemma => kernel_rfl
          | 12, ho, hpre, hK =>
            simp only [List.getElem?_toArray, List.getElem?_cons_succ, List.getElem?_cons_zero, Option.some.injEq] at ho
            subst ho
            have e0 : f 7 = .bool false := hpre ⟨7, .guard⟩ (by simp) rfl (.inl rfl)
            obtain ⟨f, rfl⟩ := fix1 f 7 _ e0
            clear e0
            refine stp_step rfl fun K' hK' => ?_
            simp only [putL, updV]
            go_simp
            have hz := hK' _ _ (hK (.pointer (some ⟨T, 0, none⟩)) (v) (HB.out) (grown_of_below (Below.refl _ _) _) (rfl))
            refine Eq.mp (congrArg (fun a => K' a (v)) ?_) hz
            as_aux_lemma => kernel_rfl
          | 13, ho, hpre, hK =>
            simp only [List.getElem?_toArray, List.getElem?_cons_succ, List.getElem?_cons_zero, Option.some.injEq] at ho
            subst ho
            have e0 : f 7 = .bool false := hpre ⟨7, .guard⟩ (by simp) rfl (.inl rfl)
            obtain ⟨f, rfl⟩ := fix1 f 7 _ e0
            clear e0
            refine stp_step rfl fun K' hK' => ?_
            simp only [putL, updV]
            go_simp
            have hz := hK' _ _ (hK (.int .i64 (x.n : Int)) (v) (HB.out) (grown_of_below (Below.refl _ _) _) (rfl))
            refine Eq.mp (congrArg (fun a => K' a (v)) ?_) hz
            as_aux_lemma => kernel_rfl
          | 14, ho, hpre, hK =>
            simp only [List.getElem?_toArray, List.getElem?_cons_succ, List.getElem?_cons_zero, Option.some.injEq] at ho
            subst ho
            have e0 : f 12 = .pointer (some ⟨T, 0, none⟩) := hpre ⟨12, .data⟩ (by simp) rfl (.inl rfl)
            have e1 : f 13 = .int .i64 (x.n : Int) := hpre ⟨13, .data⟩ (by simp) rfl (.inl rfl)
            have e2 : f 7 = .bool false := hpre ⟨7, .guard⟩ (by simp) rfl (.inl rfl)
            obtain ⟨f, rfl⟩ := fix1 f 12 _ e0
            rw [updV_ne _ _ (by decide)] at e1 e2
            obtain ⟨f, rfl⟩ := fix1 f 13 _ e1
            rw [updV_ne _ _ (by decide)] at e2
            obtain ⟨f, rfl⟩ := fix1 f 7 _ e2
            clear e0 e1 e2
            refine stp_step rfl fun K' hK' => ?_
            simp only [putL, updV]
            go_simp
            go_at_call 7
            refine (next_any T (x.n : Int) _ HB.out.gos.go.1 (by omega)).mono ?_
            rintro e u5 ⟨r, rfl, hr0, hr1, ht, hg, -⟩
            have hB5 := HB.out.step ht hg
            have HF := hid (show Fnx (x.n) (.int .i64 r) u5 from ⟨r, rfl, hr0, by omega⟩)
            have hz := hK' _ _ (hK (.int .i64 r) (u5) (hB5) (hg) (HF.out))
            refine Eq.mp (congrArg (fun a => K' a (u5)) ?_) hz
            as_aux_lemma => kernel_rfl
          | 15, ho, hpre, hK =>
            simp only [List.getElem?_toArray, List.getElem?_cons_succ, List.getElem?_cons_zero, Option.some.injEq] at ho
            subst ho
            obtain ⟨r0, e0, ha0, ha1⟩ : Fnx x.n (f 11) v := hpre ⟨11, .data⟩ (by simp) rfl (.inl rfl)
            obtain ⟨r1, e1, hb0, hb1⟩ : Fnx x.n (f 14) v := hpre ⟨14, .data⟩ (by simp) rfl (.inl rfl)
            have g0 : f 7 = .bool false := hpre ⟨7, .guard⟩ (by simp) rfl (.inl rfl)
            obtain ⟨f, rfl⟩ := fix1 f 11 _ e0
            rw [updV_ne _ _ (by decide)] at e1 g0
            obtain ⟨f, rfl⟩ := fix1 f 14 _ e1
            rw [updV_ne _ _ (by decide)] at g0
            obtain ⟨f, rfl⟩ := fix1 f 7 _ g0
            clear e0 e1 g0
            refine stp_step rfl fun K' hK' => ?_
            simp only [putL, updV]
            go_simp
            have hbw := (Below.refl v.heap.size v).alloc (Nat.le_refl _) (.cells #[.int .i64 r0, .int .i64 r1] 3)
            have hB5 := HB.out.below hbw
            have hTv := HB.out.gos.go.1.lt
            have HF := hid (lit_T (T := T) v #[.int .i64 r0, .int .i64 r1] [r0, r1] 2 hTv rfl rfl (by omega))
            have hz := hK' _ _ (hK (.slice (some ⟨v.heap.size, 0, none⟩) 2 2) (v.alloc (.cells #[.int .i64 r0, .int .i64 r1] 3)) (hB5) (grown_of_below hbw _) (HF.out))
            refine Eq.mp (congrArg (fun a => K' a (v.alloc (.cells #[.int .i64 r0, .int .i64 r1] 3))) ?_) hz
            as_aux_lemma => kernel_rfl
          | 16, ho, hpre, hK =>
            simp only [List.getElem?_toArray, List.getElem?_cons_succ, List.getElem?_cons_zero, Option.some.injEq] at ho
            subst ho
            have e0 : f 8 = .agg #[.slice x.A x.n x.c, .slice x.S.A x.S.n x.S.c, .slice x.P.A x.P.n x.P.c] := hpre ⟨8, .data⟩ (by simp) rfl (.inl rfl)
            obtain ⟨z, e1, hz9⟩ : FRw T (f 15) v := hpre ⟨15, .data⟩ (by simp) rfl (.inl rfl)
            have g0 : f 7 = .bool false := hpre ⟨7, .guard⟩ (by simp) rfl (.inl rfl)
            obtain ⟨f, rfl⟩ := fix1 f 8 _ e0
            rw [updV_ne _ _ (by decide)] at e1 g0
            obtain ⟨f, rfl⟩ := fix1 f 15 _ e1
            rw [updV_ne _ _ (by decide)] at g0
            obtain ⟨f, rfl⟩ := fix1 f 7 _ g0
            clear e0 e1 g0
            refine stp_step rfl fun K' hK' => ?_
            simp only [putL, updV]
            go_simp
            go_at_call 6
            refine (HRd.out _ HB.out z hz9.out0).mono ?_
            rintro e u5 ⟨rfl, hb5⟩
            have hB5 := HB.out.below hb5
            have hgn := grown_of_below hb5 (some T)
            have hz := hK' _ _ (hK (.bool true) (u5) (hB5) (hgn) (rfl))
            refine Eq.mp (congrArg (fun a => K' a (u5)) ?_) hz
            as_aux_lemma => kernel_rfl
          | 17, ho, hpre, hK =>
            simp only [List.getElem?_toArray, List.getElem?_cons_succ, List.getElem?_cons_zero, Option.some.injEq] at ho
            subst ho
            have e0 : f 16 = .bool true := hpre ⟨16, .data⟩ (by simp) rfl (.inl rfl)
            have e1 : f 7 = .bool false := hpre ⟨7, .guard⟩ (by simp) rfl (.inl rfl)
            obtain ⟨f, rfl⟩ := fix1 f 16 _ e0
            rw [updV_ne _ _ (by decide)] at e1
            obtain ⟨f, rfl⟩ := fix1 f 7 _ e1
            clear e0 e1
            refine stp_step rfl fun K' hK' => ?_
            simp only [putL, updV]
            go_simp
            have hz := hK' _ _ (hK (.bool false) (v) (HB.out) (grown_of_below (Below.refl _ _) _) (rfl))
            refine Eq.mp (congrArg (fun a => K' a (v)) ?_) hz
            as_aux_lemma => kernel_rfl
          | 18, ho, hpre, hK =>
            simp only [List.getElem?_toArray, List.getElem?_cons_succ, List.getElem?_cons_zero, Option.some.injEq] at ho
            subst ho
            have e0 : f 7 = .bool false := hpre ⟨7, .data⟩ (by simp) rfl (.inl rfl)
            have e1 : f 17 = .bool false := hpre ⟨17, .data⟩ (by simp) rfl (.inl rfl)
            obtain ⟨f, rfl⟩ := fix1 f 7 _ e0
            rw [updV_ne _ _ (by decide)] at e1
            obtain ⟨f, rfl⟩ := fix1 f 17 _ e1
            clear e0 e1
            refine stp_step rfl fun K' hK' => ?_
            simp only [putL, updV]
            go_simp
            have hz := hK' _ _ (hK (.bool false) (v) (HB.out) (grown_of_below (Below.refl _ _) _) (rfl))
            refine Eq.mp (congrArg (fun a => K' a (v)) ?_) hz
            as_aux_lemma => kernel_rfl
          | 19, ho, hpre, hK =>
            simp only [List.getElem?_toArray, List.getElem?_cons_succ, List.getElem?_cons_zero, Option.some.injEq] at ho
            subst ho
            have e0 : f 18 = .bool false := hpre ⟨18, .data⟩ (by simp) rfl (.inl rfl)
            obtain ⟨f, rfl⟩ := fix1 f 18 _ e0
            clear e0
            refine stp_step rfl fun K' hK' => ?_
            simp only [putL, updV]
            go_simp
            have hz := hK' _ _ (hK (.bool false) (v) (HB.out) (grown_of_below (Below.refl _ _) _) (rfl))
            refine Eq.mp (congrArg (fun a => K' a (v)) ?_) hz
            as_aux_lemma => kernel_rfl
          | 20, ho, hpre, hK =>
            simp only [List.getElem?_toArray, List.getElem?_cons_succ, List.getElem?_cons_zero, Option.some.injEq] at ho
            subst ho
            have e0 : f 19 = .bool false := hpre ⟨19, .guard⟩ (by simp) rfl (.inl rfl)
            obtain ⟨f, rfl⟩ := fix1 f 19 _ e0
            clear e0
            refine stp_step rfl fun K' hK' => ?_
            simp only [putL, updV]
            go_simp
            have hz := hK' _ _ (hK (.pointer (some ⟨T, 0, none⟩)) (v) (HB.out) (grown_of_below (Below.refl _ _) _) (rfl))
            refine Eq.mp (congrArg (fun a => K' a (v)) ?_) hz
            as_aux_lemma => kernel_rfl
          | 21, ho, hpre, hK =>
            simp only [List.getElem?_toArray, List.getElem?_cons_succ, List.getElem?_cons_zero, Option.some.injEq] at ho
            subst ho
            have e0 : f 19 = .bool false := hpre ⟨19, .guard⟩ (by simp) rfl (.inl rfl)
            obtain ⟨f, rfl⟩ := fix1 f 19 _ e0
            clear e0
            refine stp_step rfl fun K' hK' => ?_
            have hc := HB.out.bx.thr
            have hbl := HB.out.bx.lt
            simp only [putL, updV]
            go_simp
            have hz := hK' _ _ (hK (.agg #[.slice x.A x.n x.c, .slice x.S.A x.S.n x.S.c, .slice x.P.A x.P.n x.P.c]) (v) (HB.out) (grown_of_below (Below.refl _ _) _) (rfl))
            refine Eq.mp (congrArg (fun a => K' a (v)) ?_) hz
            as_aux_lemma => kernel_rfl
          | 22, ho, hpre, hK =>
            simp only [List.getElem?_toArray, List.getElem?_cons_succ, List.getElem?_cons_zero, Option.some.injEq] at ho
            subst ho
            have e0 : f 20 = .pointer (some ⟨T, 0, none⟩) := hpre ⟨20, .data⟩ (by simp) rfl (.inl rfl)
            have e1 : f 21 = .agg #[.slice x.A x.n x.c, .slice x.S.A x.S.n x.S.c, .slice x.P.A x.P.n x.P.c] := hpre ⟨21, .data⟩ (by simp) rfl (.inl rfl)
            have e2 : f 19 = .bool false := hpre ⟨19, .guard⟩ (by simp) rfl (.inl rfl)
            obtain ⟨f, rfl⟩ := fix1 f 20 _ e0
            rw [updV_ne _ _ (by decide)] at e1 e2
            obtain ⟨f, rfl⟩ := fix1 f 21 _ e1
            rw [updV_ne _ _ (by decide)] at e2
            obtain ⟨f, rfl⟩ := fix1 f 19 _ e2
            clear e0 e1 e2
            refine stp_step rfl fun K' hK' => ?_
            simp only [putL, updV]
            go_simp
            go_at_call 8
            refine (HSp.out _ HB.out).mono ?_
            rintro e u5 ⟨y, rfl, hy, hgo6, hg6⟩
            have hB5 := HB.out.step2 hgo6 hg6
            have HF := hid (show FGr T y.a u5 from ⟨y, rfl, hy⟩)
            unfold GH.a at *
            have hz := hK' _ _ (hK (.agg #[.slice y.A y.n y.c, .slice y.S.A y.S.n y.S.c, .slice y.P.A y.P.n y.P.c]) (u5) (hB5) (hg6) (HF.out))
            refine Eq.mp (congrArg (fun a => K' a (u5)) ?_) hz
            as_aux_lemma => kernel_rfl
          | 23, ho, hpre, hK =>
            simp only [List.getElem?_toArray, List.getElem?_cons_succ, List.getElem?_cons_zero, Option.some.injEq] at ho
            subst ho
            have g0 : f 19 = .bool false := hpre ⟨19, .guard⟩ (by simp) rfl (.inl rfl)
            obtain ⟨f, rfl⟩ := fix1 f 19 _ g0
            clear g0
            refine stp_step rfl fun K' hK' => ?_
            simp only [putL, updV]
            go_simp
            have hbw := (Below.refl v.heap.size v).alloc (Nat.le_refl _) (.cells #[.int .i64 0] 3)
            have hB5 := HB.out.below hbw
            have hTv := HB.out.gos.go.1.lt
            have HF := hid (lit_T (T := T) v #[.int .i64 0] [0] 1 hTv rfl rfl (by omega))
            have hz := hK' _ _ (hK (.slice (some ⟨v.heap.size, 0, none⟩) 1 1) (v.alloc (.cells #[.int .i64 0] 3)) (hB5) (grown_of_below hbw _) (HF.out))
            refine Eq.mp (congrArg (fun a => K' a (v.alloc (.cells #[.int .i64 0] 3))) ?_) hz
            as_aux_lemma => kernel_rfl
          | 24, ho, hpre, hK =>
            simp only [List.getElem?_toArray, List.getElem?_cons_succ, List.getElem?_cons_zero, Option.some.injEq] at ho
            subst ho
            obtain ⟨y, e0, hy⟩ : FGr T (f 22) v := hpre ⟨22, .data⟩ (by simp) rfl (.inl rfl)
            obtain ⟨z, e1, hz9⟩ : FRw T (f 23) v := hpre ⟨23, .data⟩ (by simp) rfl (.inl rfl)
            have g0 : f 19 = .bool false := hpre ⟨19, .guard⟩ (by simp) rfl (.inl rfl)
            obtain ⟨f, rfl⟩ := fix1 f 22 _ e0
            rw [updV_ne _ _ (by decide)] at e1 g0
            obtain ⟨f, rfl⟩ := fix1 f 23 _ e1
            rw [updV_ne _ _ (by decide)] at g0
            obtain ⟨f, rfl⟩ := fix1 f 19 _ g0
            clear e0 e1 g0
            refine stp_step rfl fun K' hK' => ?_
            simp only [putL, updV]
            go_simp
            go_at_call 6
            refine (reads_any y z _ hy.out0 hz9.out0).mono ?_
            rintro e u5 ⟨rfl, hb5⟩
            have hB5 := HB.out.below hb5
            have hgn := grown_of_below hb5 (some T)
            have hz := hK' _ _ (hK (.bool true) (u5) (hB5) (hgn) (rfl))
            refine Eq.mp (congrArg (fun a => K' a (u5)) ?_) hz
            as_aux_lemma => kernel_rfl
          | 25, ho, hpre, hK =>
            simp only [List.getElem?_toArray, List.getElem?_cons_succ, List.getElem?_cons_zero, Option.some.injEq] at ho
            subst ho
            have e0 : f 24 = .bool true := hpre ⟨24, .data⟩ (by simp) rfl (.inl rfl)
            have e1 : f 19 = .bool false := hpre ⟨19, .guard⟩ (by simp) rfl (.inl rfl)
            obtain ⟨f, rfl⟩ := fix1 f 24 _ e0
            rw [updV_ne _ _ (by decide)] at e1
            obtain ⟨f, rfl⟩ := fix1 f 19 _ e1
            clear e0 e1
            refine stp_step rfl fun K' hK' => ?_
            simp only [putL, updV]
            go_simp
            have hz := hK' _ _ (hK (.bool false) (v) (HB.out) (grown_of_below (Below.refl _ _) _) (rfl))
            refine Eq.mp (congrArg (fun a => K' a (v)) ?_) hz
            as_aux_lemma => kernel_rfl
          | 26, ho, hpre, hK =>
            simp only [List.getElem?_toArray, List.getElem?_cons_succ, List.getElem?_cons_zero, Option.some.injEq] at ho
            subst ho
            have e0 : f 19 = .bool false := hpre ⟨19, .data⟩ (by simp) rfl (.inl rfl)
            have e1 : f 25 = .bool false := hpre ⟨25, .data⟩ (by simp) rfl (.inl rfl)
            obtain ⟨f, rfl⟩ := fix1 f 19 _ e0
            rw [updV_ne _ _ (by decide)] at e1
            obtain ⟨f, rfl⟩ := fix1 f 25 _ e1
            clear e0 e1
            refine stp_step rfl fun K' hK' => ?_
            simp only [putL, updV]
            go_simp
            have hz := hK' _ _ (hK (.bool false) (v) (HB.out) (grown_of_below (Below.refl _ _) _) (rfl))
            refine Eq.mp (congrArg (fun a => K' a (v)) ?_) hz
            as_aux_lemma => kernel_rfl
          | 27, ho, hpre, hK =>
            simp only [List.getElem?_toArray, List.getElem?_cons_succ, List.getElem?_cons_zero, Option.some.injEq] at ho
            subst ho
            have e0 : f 26 = .bool false := hpre ⟨26, .data⟩ (by simp) rfl (.inl rfl)
            obtain ⟨f, rfl⟩ := fix1 f 26 _ e0
            clear e0
            refine stp_step rfl fun K' hK' => ?_
            simp only [putL, updV]
            go_simp
            have hz := hK' _ _ (hK (.bool false) (v) (HB.out) (grown_of_below (Below.refl _ _) _) (rfl))
            refine Eq.mp (congrArg (fun a => K' a (v)) ?_) hz
            as_aux_lemma => kernel_rfl
          | 28, ho, hpre, hK =>
            simp only [List.getElem?_toArray, List.getElem?_cons_succ, List.getElem?_cons_zero, Option.some.injEq] at ho
            subst ho
            have e0 : f 27 = .bool false := hpre ⟨27, .guard⟩ (by simp) rfl (.inl rfl)
            obtain ⟨f, rfl⟩ := fix1 f 27 _ e0
            clear e0
            refine stp_step rfl fun K' hK' => ?_
            have hc := HB.out.bx.thr
            have hbl := HB.out.bx.lt
            simp only [putL, updV]
            go_simp
            have hz := hK' _ _ (hK (.agg #[.slice x.A x.n x.c, .slice x.S.A x.S.n x.S.c, .slice x.P.A x.P.n x.P.c]) (v) (HB.out) (grown_of_below (Below.refl _ _) _) (rfl))
            refine Eq.mp (congrArg (fun a => K' a (v)) ?_) hz
            as_aux_lemma => kernel_rfl
          | 29, ho, hpre, hK =>
            simp only [List.getElem?_toArray, List.getElem?_cons_succ, List.getElem?_cons_zero, Option.some.injEq] at ho
            subst ho
            have e0 : f 27 = .bool false := hpre ⟨27, .guard⟩ (by simp) rfl (.inl rfl)
            obtain ⟨f, rfl⟩ := fix1 f 27 _ e0
            clear e0
            refine stp_step rfl fun K' hK' => ?_
            simp only [putL, updV]
            go_simp
            have hz := hK' _ _ (hK (.pointer (some ⟨T, 0, none⟩)) (v) (HB.out) (grown_of_below (Below.refl _ _) _) (rfl))
            refine Eq.mp (congrArg (fun a => K' a (v)) ?_) hz
            as_aux_lemma => kernel_rfl
          | 30, ho, hpre, hK =>
            simp only [List.getElem?_toArray, List.getElem?_cons_succ, List.getElem?_cons_zero, Option.some.injEq] at ho
            subst ho
            have e0 : f 27 = .bool false := hpre ⟨27, .guard⟩ (by simp) rfl (.inl rfl)
            obtain ⟨f, rfl⟩ := fix1 f 27 _ e0
            clear e0
            refine stp_step rfl fun K' hK' => ?_
            simp only [putL, updV]
            go_simp
            have hz := hK' _ _ (hK (.int .i64 (x.n : Int)) (v) (HB.out) (grown_of_below (Below.refl _ _) _) (rfl))
            refine Eq.mp (congrArg (fun a => K' a (v)) ?_) hz
            as_aux_lemma => kernel_rfl
          | 31, ho, hpre, hK =>
            simp only [List.getElem?_toArray, List.getElem?_cons_succ, List.getElem?_cons_zero, Option.some.injEq] at ho
            subst ho
            have e0 : f 30 = .int .i64 (x.n : Int) := hpre ⟨30, .data⟩ (by simp) rfl (.inl rfl)
            have e1 : f 27 = .bool false := hpre ⟨27, .guard⟩ (by simp) rfl (.inl rfl)
            obtain ⟨f, rfl⟩ := fix1 f 30 _ e0
            rw [updV_ne _ _ (by decide)] at e1
            obtain ⟨f, rfl⟩ := fix1 f 27 _ e1
            clear e0 e1
            refine stp_step rfl fun K' hK' => ?_
            have hw : IntKind.i64.wrap ((x.n : Int) + 2) = (x.n : Int) + 2 := IntWalk.i64_in _ (by omega)
            simp only [putL, updV]
            go_simp
            have hz := hK' _ _ (hK (.int .i64 ((x.n : Int) + 2)) (v) (HB.out) (grown_of_below (Below.refl _ _) _) (rfl))
            refine Eq.mp (congrArg (fun a => K' a (v)) ?_) hz
            as_aux_lemma => kernel_rfl
          | 32, ho, hpre, hK =>
            simp only [List.getElem?_toArray, List.getElem?_cons_succ, List.getElem?_cons_zero, Option.some.injEq] at ho
            subst ho
            have e0 : f 29 = .pointer (some ⟨T, 0, none⟩) := hpre ⟨29, .data⟩ (by simp) rfl (.inl rfl)
            have e1 : f 31 = .int .i64 ((x.n : Int) + 2) := hpre ⟨31, .data⟩ (by simp) rfl (.inl rfl)
            have e2 : f 27 = .bool false := hpre ⟨27, .guard⟩ (by simp) rfl (.inl rfl)
            obtain ⟨f, rfl⟩ := fix1 f 29 _ e0
            rw [updV_ne _ _ (by decide)] at e1 e2
            obtain ⟨f, rfl⟩ := fix1 f 31 _ e1
            rw [updV_ne _ _ (by decide)] at e2
            obtain ⟨f, rfl⟩ := fix1 f 27 _ e2
            clear e0 e1 e2
            refine stp_step rfl fun K' hK' => ?_
            simp only [putL, updV]
            go_simp
            go_at_call 7
            refine (next_any T ((x.n : Int) + 2) _ HB.out.gos.go.1 (by omega)).mono ?_
            rintro e u5 ⟨r, rfl, hr0, hr1, ht, hg, -⟩
            have hB5 := HB.out.step ht hg
            have HF := hid (show Fnx (x.n + 2) (.int .i64 r) u5 from ⟨r, rfl, hr0, by omega⟩)
            have hz := hK' _ _ (hK (.int .i64 r) (u5) (hB5) (hg) (HF.out))
            refine Eq.mp (congrArg (fun a => K' a (u5)) ?_) hz
            as_aux_lemma => kernel_rfl
          | 33, ho, hpre, hK =>
            simp only [List.getElem?_toArray, List.getElem?_cons_succ, List.getElem?_cons_zero, Option.some.injEq] at ho
            subst ho
            obtain ⟨r, e0, hr0, hr1⟩ : Fnx (x.n + 2) (f 32) v := hpre ⟨32, .data⟩ (by simp) rfl (.inl rfl)
            have e1 : f 27 = .bool false := hpre ⟨27, .guard⟩ (by simp) rfl (.inl rfl)
            obtain ⟨f, rfl⟩ := fix1 f 32 _ e0
            rw [updV_ne _ _ (by decide)] at e1
            obtain ⟨f, rfl⟩ := fix1 f 27 _ e1
            clear e0 e1
            refine stp_step rfl fun K' hK' => ?_
            have hw : IntKind.i64.wrap (r - 1) = r - 1 := IntWalk.i64_in _ (by omega)
            simp only [putL, updV]
            go_simp
            have hz := hK' _ _ (hK (.int .i64 (r - 1)) (v) (HB.out) (grown_of_below (Below.refl _ _) _) (⟨_, rfl⟩))
            refine Eq.mp (congrArg (fun a => K' a (v)) ?_) hz
            as_aux_lemma => kernel_rfl
          | 34, ho, hpre, hK =>
            simp only [List.getElem?_toArray, List.getElem?_cons_succ, List.getElem?_cons_zero, Option.some.injEq] at ho
            subst ho
            obtain ⟨r0, e0⟩ : Fin1 (f 33) v := hpre ⟨33, .data⟩ (by simp) rfl (.inl rfl)
            have g0 : f 27 = .bool false := hpre ⟨27, .guard⟩ (by simp) rfl (.inl rfl)
            obtain ⟨f, rfl⟩ := fix1 f 33 _ e0
            rw [updV_ne _ _ (by decide)] at g0
            obtain ⟨f, rfl⟩ := fix1 f 27 _ g0
            clear e0 g0
            refine stp_step rfl fun K' hK' => ?_
            simp only [putL, updV]
            go_simp
            have hbw := (Below.refl v.heap.size v).alloc (Nat.le_refl _) (.cells #[.int .i64 r0] 3)
            have hB5 := HB.out.below hbw
            have hTv := HB.out.gos.go.1.lt
            have HF := hid (lit_T (T := T) v #[.int .i64 r0] [r0] 1 hTv rfl rfl (by omega))
            have hz := hK' _ _ (hK (.slice (some ⟨v.heap.size, 0, none⟩) 1 1) (v.alloc (.cells #[.int .i64 r0] 3)) (hB5) (grown_of_below hbw _) (HF.out))
            refine Eq.mp (congrArg (fun a => K' a (v.alloc (.cells #[.int .i64 r0] 3))) ?_) hz
            as_aux_lemma => kernel_rfl
          | 35, ho, hpre, hK =>
            simp only [List.getElem?_toArray, List.getElem?_cons_succ, List.getElem?_cons_zero, Option.some.injEq] at ho
            subst ho
            have e0 : f 28 = .agg #[.slice x.A x.n x.c, .slice x.S.A x.S.n x.S.c, .slice x.P.A x.P.n x.P.c] := hpre ⟨28, .data⟩ (by simp) rfl (.inl rfl)
            obtain ⟨z, e1, hz9⟩ : FRw T (f 34) v := hpre ⟨34, .data⟩ (by simp) rfl (.inl rfl)
            have g0 : f 27 = .bool false := hpre ⟨27, .guard⟩ (by simp) rfl (.inl rfl)
            obtain ⟨f, rfl⟩ := fix1 f 28 _ e0
            rw [updV_ne _ _ (by decide)] at e1 g0
            obtain ⟨f, rfl⟩ := fix1 f 34 _ e1
            rw [updV_ne _ _ (by decide)] at g0
            obtain ⟨f, rfl⟩ := fix1 f 27 _ g0
            clear e0 e1 g0
            refine stp_step rfl fun K' hK' => ?_
            simp only [putL, updV]
            go_simp
            go_at_call 6
            refine (HRd.out _ HB.out z hz9.out0).mono ?_
            rintro e u5 ⟨rfl, hb5⟩
            have hB5 := HB.out.below hb5
            have hgn := grown_of_below hb5 (some T)
            have hz := hK' _ _ (hK (.bool true) (u5) (hB5) (hgn) (rfl))
            refine Eq.mp (congrArg (fun a => K' a (u5)) ?_) hz
            as_aux_lemma => kernel_rfl
          | 36, ho, hpre, hK =>
            simp only [List.getElem?_toArray, List.getElem?_cons_succ, List.getElem?_cons_zero, Option.some.injEq] at ho
            subst ho
            have e0 : f 35 = .bool true := hpre ⟨35, .data⟩ (by simp) rfl (.inl rfl)
            have e1 : f 27 = .bool false := hpre ⟨27, .guard⟩ (by simp) rfl (.inl rfl)
            obtain ⟨f, rfl⟩ := fix1 f 35 _ e0
            rw [updV_ne _ _ (by decide)] at e1
            obtain ⟨f, rfl⟩ := fix1 f 27 _ e1
            clear e0 e1
            refine stp_step rfl fun K' hK' => ?_
            simp only [putL, updV]
            go_simp
            have hz := hK' _ _ (hK (.bool false) (v) (HB.out) (grown_of_below (Below.refl _ _) _) (rfl))
            refine Eq.mp (congrArg (fun a => K' a (v)) ?_) hz
            as_aux_lemma => kernel_rfl
          | 37, ho, hpre, hK =>
            simp only [List.getElem?_toArray, List.getElem?_cons_succ, List.getElem?_cons_zero, Option.some.injEq] at ho
            subst ho
            have e0 : f 27 = .bool false := hpre ⟨27, .data⟩ (by simp) rfl (.inl rfl)
            have e1 : f 36 = .bool false := hpre ⟨36, .data⟩ (by simp) rfl (.inl rfl)
            obtain ⟨f, rfl⟩ := fix1 f 27 _ e0
            rw [updV_ne _ _ (by decide)] at e1
            obtain ⟨f, rfl⟩ := fix1 f 36 _ e1
            clear e0 e1
            refine stp_step rfl fun K' hK' => ?_
            simp only [putL, updV]
            go_simp
            have hz := hK' _ _ (hK (.bool false) (v) (HB.out) (grown_of_below (Below.refl _ _) _) (rfl))
            refine Eq.mp (congrArg (fun a => K' a (v)) ?_) hz
            as_aux_lemma => kernel_rfl
          | 38, ho, hpre, hK =>
            simp only [List.getElem?_toArray, List.getElem?_cons_succ, List.getElem?_cons_zero, Option.some.injEq] at ho
            subst ho
            have e0 : f 37 = .bool false := hpre ⟨37, .data⟩ (by simp) rfl (.inl rfl)
            obtain ⟨f, rfl⟩ := fix1 f 37 _ e0
            clear e0
            refine stp_step rfl fun K' hK' => ?_
            simp only [putL, updV]
            go_simp
            have hz := hK' _ _ (hK (.bool false) (v) (HB.out) (grown_of_below (Below.refl _ _) _) (rfl))
            refine Eq.mp (congrArg (fun a => K' a (v)) ?_) hz
            as_aux_lemma => kernel_rfl
          | 39, ho, hpre, hK =>
            simp only [List.getElem?_toArray, List.getElem?_cons_succ, List.getElem?_cons_zero, Option.some.injEq] at ho
            subst ho
            have e0 : f 38 = .bool false := hpre ⟨38, .guard⟩ (by simp) rfl (.inl rfl)
            obtain ⟨f, rfl⟩ := fix1 f 38 _ e0
            clear e0
            refine stp_step rfl fun K' hK' => ?_
            simp only [putL, updV]
            go_simp
            have hz := hK' _ _ (hK (.slice fr.A fr.n fr.c) (v) (HB.out) (grown_of_below (Below.refl _ _) _) (rfl))
            refine Eq.mp (congrArg (fun a => K' a (v)) ?_) hz
            as_aux_lemma => kernel_rfl
          | 40, ho, hpre, hK =>
            simp only [List.getElem?_toArray, List.getElem?_cons_succ, List.getElem?_cons_zero, Option.some.injEq] at ho
            subst ho
            have e0 : f 39 = .slice fr.A fr.n fr.c := hpre ⟨39, .data⟩ (by simp) rfl (.inl rfl)
            have e1 : f 38 = .bool false := hpre ⟨38, .guard⟩ (by simp) rfl (.inl rfl)
            obtain ⟨f, rfl⟩ := fix1 f 39 _ e0
            rw [updV_ne _ _ (by decide)] at e1
            obtain ⟨f, rfl⟩ := fix1 f 38 _ e1
            clear e0 e1
            refine stp_step rfl fun K' hK' => ?_
            simp only [putL, updV]
            go_simp
            have hz := hK' _ _ (hK (.int .i64 (fr.n : Int)) (v) (HB.out) (grown_of_below (Below.refl _ _) _) (rfl))
            refine Eq.mp (congrArg (fun a => K' a (v)) ?_) hz
            as_aux_lemma => kernel_rfl
          | 41, ho, hpre, hK =>
            simp only [List.getElem?_toArray, List.getElem?_cons_succ, List.getElem?_cons_zero, Option.some.injEq] at ho
            subst ho
            have e0 : f 40 = .int .i64 (fr.n : Int) := hpre ⟨40, .data⟩ (by simp) rfl (.inl rfl)
            have e1 : f 38 = .bool false := hpre ⟨38, .guard⟩ (by simp) rfl (.inl rfl)
            obtain ⟨f, rfl⟩ := fix1 f 40 _ e0
            rw [updV_ne _ _ (by decide)] at e1
            obtain ⟨f, rfl⟩ := fix1 f 38 _ e1
            clear e0 e1
            refine stp_step rfl fun K' hK' => ?_
            have h9 := H20.out
            simp only [putL, updV]
            go_simp
            have hz := hK' _ _ (hK (.bool true) (v) (HB.out) (grown_of_below (Below.refl _ _) _) (rfl))
            refine Eq.mp (congrArg (fun a => K' a (v)) ?_) hz
            as_aux_lemma => kernel_rfl
          | 42, ho, hpre, hK =>
            simp only [List.getElem?_toArray, List.getElem?_cons_succ, List.getElem?_cons_zero, Option.some.injEq] at ho
            subst ho
            have e0 : f 41 = .bool true := hpre ⟨41, .data⟩ (by simp) rfl (.inl rfl)
            have e1 : f 38 = .bool false := hpre ⟨38, .guard⟩ (by simp) rfl (.inl rfl)
            obtain ⟨f, rfl⟩ := fix1 f 41 _ e0
            rw [updV_ne _ _ (by decide)] at e1
            obtain ⟨f, rfl⟩ := fix1 f 38 _ e1
            clear e0 e1
            refine stp_step rfl fun K' hK' => ?_
            simp only [putL, updV]
            go_simp
            have hz := hK' _ _ (hK (.bool true) (v) (HB.out) (grown_of_below (Below.refl _ _) _) (rfl))
            refine Eq.mp (congrArg (fun a => K' a (v)) ?_) hz
            as_aux_lemma => kernel_rfl
          | 43, ho, hpre, hK =>
            simp only [List.getElem?_toArray, List.getElem?_cons_succ, List.getElem?_cons_zero, Option.some.injEq] at ho
            subst ho
            have e0 : f 42 = .bool true := hpre ⟨42, .guard⟩ (by simp) rfl (.inl rfl)
            obtain ⟨f, rfl⟩ := fix1 f 42 _ e0
            clear e0
            refine stp_step rfl fun K' hK' => ?_
            have hc := HB.out.bx.thr
            have hbl := HB.out.bx.lt
            simp only [putL, updV]
            go_simp
            have hz := hK' _ _ (hK (.agg #[.slice x.A x.n x.c, .slice x.S.A x.S.n x.S.c, .slice x.P.A x.P.n x.P.c]) (v) (HB.out) (grown_of_below (Below.refl _ _) _) (rfl))
            refine Eq.mp (congrArg (fun a => K' a (v)) ?_) hz
            as_aux_lemma => kernel_rfl
          | 44, ho, hpre, hK =>
            simp only [List.getElem?_toArray, List.getElem?_cons_succ, List.getElem?_cons_zero, Option.some.injEq] at ho
            subst ho
            have e0 : f 42 = .bool true := hpre ⟨42, .guard⟩ (by simp) rfl (.inl rfl)
            obtain ⟨f, rfl⟩ := fix1 f 42 _ e0
            clear e0
            refine stp_step rfl fun K' hK' => ?_
            simp only [putL, updV]
            go_simp
            have hz := hK' _ _ (hK (.slice fr.A fr.n fr.c) (v) (HB.out) (grown_of_below (Below.refl _ _) _) (rfl))
            refine Eq.mp (congrArg (fun a => K' a (v)) ?_) hz
            as_aux_lemma => kernel_rfl
          | 45, ho, hpre, hK =>
            simp only [List.getElem?_toArray, List.getElem?_cons_succ, List.getElem?_cons_zero, Option.some.injEq] at ho
            subst ho
            have e0 : f 43 = .agg #[.slice x.A x.n x.c, .slice x.S.A x.S.n x.S.c, .slice x.P.A x.P.n x.P.c] := hpre ⟨43, .data⟩ (by simp) rfl (.inl rfl)
            have e1 : f 44 = .slice fr.A fr.n fr.c := hpre ⟨44, .data⟩ (by simp) rfl (.inl rfl)
            have g0 : f 42 = .bool true := hpre ⟨42, .guard⟩ (by simp) rfl (.inl rfl)
            obtain ⟨f, rfl⟩ := fix1 f 43 _ e0
            rw [updV_ne _ _ (by decide)] at e1 g0
            obtain ⟨f, rfl⟩ := fix1 f 44 _ e1
            rw [updV_ne _ _ (by decide)] at g0
            obtain ⟨f, rfl⟩ := fix1 f 42 _ g0
            clear e0 e1 g0
            refine stp_step rfl fun K' hK' => ?_
            simp only [putL, updV]
            go_simp
            go_at_call 6
            refine (HRd.out _ HB.out fr (HFr.out _ HB.out)).mono ?_
            rintro e u5 ⟨rfl, hb5⟩
            have hB5 := HB.out.below hb5
            have hgn := grown_of_below hb5 (some T)
            have hz := hK' _ _ (hK (.bool true) (u5) (hB5) (hgn) (rfl))
            refine Eq.mp (congrArg (fun a => K' a (u5)) ?_) hz
            as_aux_lemma => kernel_rfl
          | 46, ho, hpre, hK =>
            simp only [List.getElem?_toArray, List.getElem?_cons_succ, List.getElem?_cons_zero, Option.some.injEq] at ho
            subst ho
            have e0 : f 45 = .bool true := hpre ⟨45, .data⟩ (by simp) rfl (.inl rfl)
            have e1 : f 42 = .bool true := hpre ⟨42, .guard⟩ (by simp) rfl (.inl rfl)
            obtain ⟨f, rfl⟩ := fix1 f 45 _ e0
            rw [updV_ne _ _ (by decide)] at e1
            obtain ⟨f, rfl⟩ := fix1 f 42 _ e1
            clear e0 e1
            refine stp_step rfl fun K' hK' => ?_
            simp only [putL, updV]
            go_simp
            have hz := hK' _ _ (hK (.bool false) (v) (HB.out) (grown_of_below (Below.refl _ _) _) (rfl))
            refine Eq.mp (congrArg (fun a => K' a (v)) ?_) hz
            as_aux_lemma => kernel_rfl
          | 47, ho, hpre, hK =>
            simp only [List.getElem?_toArray, List.getElem?_cons_succ, List.getElem?_cons_zero, Option.some.injEq] at ho
            subst ho
            have e0 : f 42 = .bool true := hpre ⟨42, .data⟩ (by simp) rfl (.inl rfl)
            have e1 : f 46 = .bool false := hpre ⟨46, .data⟩ (by simp) rfl (.inl rfl)
            have e2 : f 38 = .bool false := hpre ⟨38, .guard⟩ (by simp) rfl (.inl rfl)
            obtain ⟨f, rfl⟩ := fix1 f 42 _ e0
            rw [updV_ne _ _ (by decide)] at e1 e2
            obtain ⟨f, rfl⟩ := fix1 f 46 _ e1
            rw [updV_ne _ _ (by decide)] at e2
            obtain ⟨f, rfl⟩ := fix1 f 38 _ e2
            clear e0 e1 e2
            refine stp_step rfl fun K' hK' => ?_
            simp only [putL, updV]
            go_simp
            have hz := hK' _ _ (hK (.bool false) (v) (HB.out) (grown_of_below (Below.refl _ _) _) (rfl))
            refine Eq.mp (congrArg (fun a => K' a (v)) ?_) hz
            as_aux_lemma => kernel_rfl
          | 48, ho, hpre, hK =>
            simp only [List.getElem?_toArray, List.getElem?_cons_succ, List.getElem?_cons_zero, Option.some.injEq] at ho
            subst ho
            have e0 : f 38 = .bool false := hpre ⟨38, .data⟩ (by simp) rfl (.inl rfl)
            have e1 : f 47 = .bool false := hpre ⟨47, .data⟩ (by simp) rfl (.inl rfl)
            obtain ⟨f, rfl⟩ := fix1 f 38 _ e0
            rw [updV_ne _ _ (by decide)] at e1
            obtain ⟨f, rfl⟩ := fix1 f 47 _ e1
            clear e0 e1
            refine stp_step rfl fun K' hK' => ?_
            simp only [putL, updV]
            go_simp
            have hz := hK' _ _ (hK (.bool false) (v) (HB.out) (grown_of_below (Below.refl _ _) _) (rfl))
            refine Eq.mp (congrArg (fun a => K' a (v)) ?_) hz
            as_aux_lemma => kernel_rfl
          | j + 49, ho, hpre, hK => exact absurd hi (by omega)
        · intro Q2 hQ2 f v hB hF
          have HB := hid hB
          have e48 : f 48 = .bool false := hF 48 (by decide) rfl
          obtain ⟨f, rfl⟩ := fix1 f 48 _ e48
          clear hB hF e48 HSp HRd HFr HTl HW
          refine ⟨by kernel_rfl, hQ2 _ _ ?_⟩
          simp only [putL, updV]
          go_simp
          refine hKx _ _ ?_
          clear hKx
          go_wp2_with fail
          go_roundw
          case rel => exact ⟨i + 1, by omega, by go_num, hid HB.out.gos⟩
          case measure => simp [intOf]; omega
      · have H20 := hid (show decide ((fr.n : Int) < 20) = false by simp; omega)
        have H20b := hid (show decide (fr.n < 20) = false by simp; omega)
        clear h20
        rename_i Kx hKx HWo
        clear HWo
        refine wp_region_factsS (fun j => (facts7f T x fr).getD j (fun _ _ => True)) (fun v => Twg w1 T b x v) (fun _ => none) (fun _ v u => v.grownBy u (some T)) Kx (fun _ _ h => h) 49 49
          (some 22 :: some 23 :: some 24 :: some 25 :: some 26 :: some 27 :: some 28 :: some 29 :: some 30 :: some 31 :: some 32 :: some 33 :: some 34 :: some 35 :: some 36 :: some 37 :: some 38 :: some 39 :: some 40 :: some 41 :: some 42 :: some 43 :: some 44 :: some 45 :: some 46 :: some 47 :: some 48 :: some 49 :: some 50 :: some 51 :: some 52 :: some 53 :: some 54 :: some 55 :: some 56 :: some 57 :: some 58 :: some 59 :: some 60 :: some 61 :: some 62 :: some 63 :: some 64 :: some 65 :: some 66 :: some 67 :: some 68 :: some 69 :: some 70 :: []) (by kernel_rfl) (by kernel_rfl) (by kernel_rfl) (by kernel_rfl) (by kernel_rfl) (by kernel_rfl) (by decide)
          (fun _ v u j z hb _ _ hF => facts7f_stb T x fr j z v u hb hF) HW.out ?_ ?_
        · intro j o f v ho hi hB hpre K hK
          have HB := hid hB
          match j, ho, hpre, hK with
          | 0, ho, hpre, hK =>
            simp only [List.getElem?_toArray, List.getElem?_cons_succ, List.getElem?_cons_zero, Option.some.injEq] at ho
            subst ho
            refine stp_step rfl fun K' hK' => ?_
            have hc := HB.out.bx.thr
            have hbl := HB.out.bx.lt
            simp only [putL, updV]
            go_simp
            have hz := hK' _ _ (hK (.agg #[.slice x.A x.n x.c, .slice x.S.A x.S.n x.S.c, .slice x.P.A x.P.n x.P.c]) (v) (HB.out) (grown_of_below (Below.refl _ _) _) (rfl))
            refine Eq.mp (congrArg (fun a => K' a (v)) ?_) hz
            as_aux_lemma => kernel_rfl
          | 1, ho, hpre, hK =>
            simp only [List.getElem?_toArray, List.getElem?_cons_succ, List.getElem?_cons_zero, Option.some.injEq] at ho
            subst ho
            refine stp_step rfl fun K' hK' => ?_
            simp only [putL, updV]
            go_simp
            have hz := hK' _ _ (hK (.pointer (some ⟨T, 0, none⟩)) (v) (HB.out) (grown_of_below (Below.refl _ _) _) (rfl))
            refine Eq.mp (congrArg (fun a => K' a (v)) ?_) hz
            as_aux_lemma => kernel_rfl
          | 2, ho, hpre, hK =>
            simp only [List.getElem?_toArray, List.getElem?_cons_succ, List.getElem?_cons_zero, Option.some.injEq] at ho
            subst ho
            refine stp_step rfl fun K' hK' => ?_
            simp only [putL, updV]
            go_simp
            have hz := hK' _ _ (hK (.int .i64 (x.n : Int)) (v) (HB.out) (grown_of_below (Below.refl _ _) _) (rfl))
            refine Eq.mp (congrArg (fun a => K' a (v)) ?_) hz
            as_aux_lemma => kernel_rfl
          | 3, ho, hpre, hK =>
            simp only [List.getElem?_toArray, List.getElem?_cons_succ, List.getElem?_cons_zero, Option.some.injEq] at ho
            subst ho
            have e0 : f 1 = .pointer (some ⟨T, 0, none⟩) := hpre ⟨1, .data⟩ (by simp) rfl (.inl rfl)
            have e1 : f 2 = .int .i64 (x.n : Int) := hpre ⟨2, .data⟩ (by simp) rfl (.inl rfl)
            obtain ⟨f, rfl⟩ := fix1 f 1 _ e0
            rw [updV_ne _ _ (by decide)] at e1
            obtain ⟨f, rfl⟩ := fix1 f 2 _ e1
            clear e0 e1
            refine stp_step rfl fun K' hK' => ?_
            simp only [putL, updV]
            go_simp
            go_at_call 7
            refine (next_any T (x.n : Int) _ HB.out.gos.go.1 (by omega)).mono ?_
            rintro e u5 ⟨r, rfl, hr0, hr1, ht, hg, -⟩
            have hB5 := HB.out.step ht hg
            have HF := hid (show Fnx (x.n) (.int .i64 r) u5 from ⟨r, rfl, hr0, by omega⟩)
            have hz := hK' _ _ (hK (.int .i64 r) (u5) (hB5) (hg) (HF.out))
            refine Eq.mp (congrArg (fun a => K' a (u5)) ?_) hz
            as_aux_lemma => kernel_rfl
          | 4, ho, hpre, hK =>
            simp only [List.getElem?_toArray, List.getElem?_cons_succ, List.getElem?_cons_zero, Option.some.injEq] at ho
            subst ho
            obtain ⟨r0, e0, hr0, hr1⟩ : Fnx x.n (f 3) v := hpre ⟨3, .data⟩ (by simp) rfl (.inl rfl)
            obtain ⟨f, rfl⟩ := fix1 f 3 _ e0
            clear e0
            refine stp_step rfl fun K' hK' => ?_
            simp only [putL, updV]
            go_simp
            have hbw := (Below.refl v.heap.size v).alloc (Nat.le_refl _) (.cells #[.int .i64 r0] 3)
            have hB5 := HB.out.below hbw
            have hTv := HB.out.gos.go.1.lt
            have HF := hid (lit_T (T := T) v #[.int .i64 r0] [r0] 1 hTv rfl rfl (by omega))
            have hz := hK' _ _ (hK (.slice (some ⟨v.heap.size, 0, none⟩) 1 1) (v.alloc (.cells #[.int .i64 r0] 3)) (hB5) (grown_of_below hbw _) (HF.out))
            refine Eq.mp (congrArg (fun a => K' a (v.alloc (.cells #[.int .i64 r0] 3))) ?_) hz
            as_aux_lemma => kernel_rfl
          | 5, ho, hpre, hK =>
            simp only [List.getElem?_toArray, List.getElem?_cons_succ, List.getElem?_cons_zero, Option.some.injEq] at ho
            subst ho
            have e0 : f 0 = .agg #[.slice x.A x.n x.c, .slice x.S.A x.S.n x.S.c, .slice x.P.A x.P.n x.P.c] := hpre ⟨0, .data⟩ (by simp) rfl (.inl rfl)
            obtain ⟨z, e1, hz9⟩ : FRw T (f 4) v := hpre ⟨4, .data⟩ (by simp) rfl (.inl rfl)
            obtain ⟨f, rfl⟩ := fix1 f 0 _ e0
            rw [updV_ne _ _ (by decide)] at e1
            obtain ⟨f, rfl⟩ := fix1 f 4 _ e1
            clear e0 e1
            refine stp_step rfl fun K' hK' => ?_
            simp only [putL, updV]
            go_simp
            go_at_call 6
            refine (HRd.out _ HB.out z hz9.out0).mono ?_
            rintro e u5 ⟨rfl, hb5⟩
            have hB5 := HB.out.below hb5
            have hgn := grown_of_below hb5 (some T)
            have hz := hK' _ _ (hK (.bool true) (u5) (hB5) (hgn) (rfl))
            refine Eq.mp (congrArg (fun a => K' a (u5)) ?_) hz
            as_aux_lemma => kernel_rfl
          | 6, ho, hpre, hK =>
            simp only [List.getElem?_toArray, List.getElem?_cons_succ, List.getElem?_cons_zero, Option.some.injEq] at ho
            subst ho
            have e0 : f 5 = .bool true := hpre ⟨5, .data⟩ (by simp) rfl (.inl rfl)
            obtain ⟨f, rfl⟩ := fix1 f 5 _ e0
            clear e0
            refine stp_step rfl fun K' hK' => ?_
            simp only [putL, updV]
            go_simp
            have hz := hK' _ _ (hK (.bool false) (v) (HB.out) (grown_of_below (Below.refl _ _) _) (rfl))
            refine Eq.mp (congrArg (fun a => K' a (v)) ?_) hz
            as_aux_lemma => kernel_rfl
          | 7, ho, hpre, hK =>
            simp only [List.getElem?_toArray, List.getElem?_cons_succ, List.getElem?_cons_zero, Option.some.injEq] at ho
            subst ho
            have e0 : f 6 = .bool false := hpre ⟨6, .data⟩ (by simp) rfl (.inl rfl)
            obtain ⟨f, rfl⟩ := fix1 f 6 _ e0
            clear e0
            refine stp_step rfl fun K' hK' => ?_
            simp only [putL, updV]
            go_simp
            have hz := hK' _ _ (hK (.bool false) (v) (HB.out) (grown_of_below (Below.refl _ _) _) (rfl))
            refine Eq.mp (congrArg (fun a => K' a (v)) ?_) hz
            as_aux_lemma => kernel_rfl
          | 8, ho, hpre, hK =>
            simp only [List.getElem?_toArray, List.getElem?_cons_succ, List.getElem?_cons_zero, Option.some.injEq] at ho
            subst ho
            have e0 : f 7 = .bool false := hpre ⟨7, .guard⟩ (by simp) rfl (.inl rfl)
            obtain ⟨f, rfl⟩ := fix1 f 7 _ e0
            clear e0
            refine stp_step rfl fun K' hK' => ?_
            have hc := HB.out.bx.thr
            have hbl := HB.out.bx.lt
            simp only [putL, updV]
            go_simp
            have hz := hK' _ _ (hK (.agg #[.slice x.A x.n x.c, .slice x.S.A x.S.n x.S.c, .slice x.P.A x.P.n x.P.c]) (v) (HB.out) (grown_of_below (Below.refl _ _) _) (rfl))
            refine Eq.mp (congrArg (fun a => K' a (v)) ?_) hz
            as_aux_lemma => kernel_rfl
          | 9, ho, hpre, hK =>
            simp only [List.getElem?_toArray, List.getElem?_cons_succ, List.getElem?_cons_zero, Option.some.injEq] at ho
            subst ho
            have e0 : f 7 = .bool false := hpre ⟨7, .guard⟩ (by simp) rfl (.inl rfl)
            obtain ⟨f, rfl⟩ := fix1 f 7 _ e0
            clear e0
            refine stp_step rfl fun K' hK' => ?_
            simp only [putL, updV]
            go_simp
            have hz := hK' _ _ (hK (.pointer (some ⟨T, 0, none⟩)) (v) (HB.out) (grown_of_below (Below.refl _ _) _) (rfl))
            refine Eq.mp (congrArg (fun a => K' a (v)) ?_) hz
            as_aux_lemma => kernel_rfl
          | 10, ho, hpre, hK =>
            simp only [List.getElem?_toArray, List.getElem?_cons_succ, List.getElem?_cons_zero, Option.some.injEq] at ho
            subst ho
            have e0 : f 7 = .bool false := hpre ⟨7, .guard⟩ (by simp) rfl (.inl rfl)
            obtain ⟨f, rfl⟩ := fix1 f 7 _ e0
            clear e0
            refine stp_step rfl fun K' hK' => ?_
            simp only [putL, updV]
            go_simp
            have hz := hK' _ _ (hK (.int .i64 (x.n : Int)) (v) (HB.out) (grown_of_below (Below.refl _ _) _) (rfl))
            refine Eq.mp (congrArg (fun a => K' a (v)) ?_) hz
            as_aux_lemma => kernel_rfl
          | 11, ho, hpre, hK =>
            simp only [List.getElem?_toArray, List.getElem?_cons_succ, List.getElem?_cons_zero, Option.some.injEq] at ho
            subst ho
            have e0 : f 9 = .pointer (some ⟨T, 0, none⟩) := hpre ⟨9, .data⟩ (by simp) rfl (.inl rfl)
            have e1 : f 10 = .int .i64 (x.n : Int) := hpre ⟨10, .data⟩ (by simp) rfl (.inl rfl)
            have e2 : f 7 = .bool false := hpre ⟨7, .guard⟩ (by simp) rfl (.inl rfl)
            obtain ⟨f, rfl⟩ := fix1 f 9 _ e0
            rw [updV_ne _ _ (by decide)] at e1 e2
            obtain ⟨f, rfl⟩ := fix1 f 10 _ e1
            rw [updV_ne _ _ (by decide)] at e2
            obtain ⟨f, rfl⟩ := fix1 f 7 _ e2
            clear e0 e1 e2
            refine stp_step rfl fun K' hK' => ?_
            simp only [putL, updV]
            go_simp
            go_at_call 7
            refine (next_any T (x.n : Int) _ HB.out.gos.go.1 (by omega)).mono ?_
            rintro e u5 ⟨r, rfl, hr0, hr1, ht, hg, -⟩
            have hB5 := HB.out.step ht hg
            have HF := hid (show Fnx (x.n) (.int .i64 r) u5 from ⟨r, rfl, hr0, by omega⟩)
            have hz := hK' _ _ (hK (.int .i64 r) (u5) (hB5) (hg) (HF.out))
            refine Eq.mp (congrArg (fun a => K' a (u5)) ?_) hz
            as_aux_lemma => kernel_rfl
          | 12, ho, hpre, hK =>
            simp only [List.getElem?_toArray, List.getElem?_cons_succ, List.getElem?_cons_zero, Option.some.injEq] at ho
            subst ho
            have e0 : f 7 = .bool false := hpre ⟨7, .guard⟩ (by simp) rfl (.inl rfl)
            obtain ⟨f, rfl⟩ := fix1 f 7 _ e0
            clear e0
            refine stp_step rfl fun K' hK' => ?_
            simp only [putL, updV]
            go_simp
            have hz := hK' _ _ (hK (.pointer (some ⟨T, 0, none⟩)) (v) (HB.out) (grown_of_below (Below.refl _ _) _) (rfl))
            refine Eq.mp (congrArg (fun a => K' a (v)) ?_) hz
            as_aux_lemma => kernel_rfl
          | 13, ho, hpre, hK =>
            simp only [List.getElem?_toArray, List.getElem?_cons_succ, List.getElem?_cons_zero, Option.some.injEq] at ho
            subst ho
            have e0 : f 7 = .bool false := hpre ⟨7, .guard⟩ (by simp) rfl (.inl rfl)
            obtain ⟨f, rfl⟩ := fix1 f 7 _ e0
            clear e0
            refine stp_step rfl fun K' hK' => ?_
            simp only [putL, updV]
            go_simp
            have hz := hK' _ _ (hK (.int .i64 (x.n : Int)) (v) (HB.out) (grown_of_below (Below.refl _ _) _) (rfl))
            refine Eq.mp (congrArg (fun a => K' a (v)) ?_) hz
            as_aux_lemma => kernel_rfl
          | 14, ho, hpre, hK =>
            simp only [List.getElem?_toArray, List.getElem?_cons_succ, List.getElem?_cons_zero, Option.some.injEq] at ho
            subst ho
            have e0 : f 12 = .pointer (some ⟨T, 0, none⟩) := hpre ⟨12, .data⟩ (by simp) rfl (.inl rfl)
            have e1 : f 13 = .int .i64 (x.n : Int) := hpre ⟨13, .data⟩ (by simp) rfl (.inl rfl)
            have e2 : f 7 = .bool false := hpre ⟨7, .guard⟩ (by simp) rfl (.inl rfl)
            obtain ⟨f, rfl⟩ := fix1 f 12 _ e0
            rw [updV_ne _ _ (by decide)] at e1 e2
            obtain ⟨f, rfl⟩ := fix1 f 13 _ e1
            rw [updV_ne _ _ (by decide)] at e2
            obtain ⟨f, rfl⟩ := fix1 f 7 _ e2
            clear e0 e1 e2
            refine stp_step rfl fun K' hK' => ?_
            simp only [putL, updV]
            go_simp
            go_at_call 7
            refine (next_any T (x.n : Int) _ HB.out.gos.go.1 (by omega)).mono ?_
            rintro e u5 ⟨r, rfl, hr0, hr1, ht, hg, -⟩
            have hB5 := HB.out.step ht hg
            have HF := hid (show Fnx (x.n) (.int .i64 r) u5 from ⟨r, rfl, hr0, by omega⟩)
            have hz := hK' _ _ (hK (.int .i64 r) (u5) (hB5) (hg) (HF.out))
            refine Eq.mp (congrArg (fun a => K' a (u5)) ?_) hz
            as_aux_lemma => kernel_rfl
          | 15, ho, hpre, hK =>
            simp only [List.getElem?_toArray, List.getElem?_cons_succ, List.getElem?_cons_zero, Option.some.injEq] at ho
            subst ho
            obtain ⟨r0, e0, ha0, ha1⟩ : Fnx x.n (f 11) v := hpre ⟨11, .data⟩ (by simp) rfl (.inl rfl)
            obtain ⟨r1, e1, hb0, hb1⟩ : Fnx x.n (f 14) v := hpre ⟨14, .data⟩ (by simp) rfl (.inl rfl)
            have g0 : f 7 = .bool false := hpre ⟨7, .guard⟩ (by simp) rfl (.inl rfl)
            obtain ⟨f, rfl⟩ := fix1 f 11 _ e0
            rw [updV_ne _ _ (by decide)] at e1 g0
            obtain ⟨f, rfl⟩ := fix1 f 14 _ e1
            rw [updV_ne _ _ (by decide)] at g0
            obtain ⟨f, rfl⟩ := fix1 f 7 _ g0
            clear e0 e1 g0
            refine stp_step rfl fun K' hK' => ?_
            simp only [putL, updV]
            go_simp
            have hbw := (Below.refl v.heap.size v).alloc (Nat.le_refl _) (.cells #[.int .i64 r0, .int .i64 r1] 3)
            have hB5 := HB.out.below hbw
            have hTv := HB.out.gos.go.1.lt
            have HF := hid (lit_T (T := T) v #[.int .i64 r0, .int .i64 r1] [r0, r1] 2 hTv rfl rfl (by omega))
            have hz := hK' _ _ (hK (.slice (some ⟨v.heap.size, 0, none⟩) 2 2) (v.alloc (.cells #[.int .i64 r0, .int .i64 r1] 3)) (hB5) (grown_of_below hbw _) (HF.out))
            refine Eq.mp (congrArg (fun a => K' a (v.alloc (.cells #[.int .i64 r0, .int .i64 r1] 3))) ?_) hz
            as_aux_lemma => kernel_rfl
          | 16, ho, hpre, hK =>
            simp only [List.getElem?_toArray, List.getElem?_cons_succ, List.getElem?_cons_zero, Option.some.injEq] at ho
            subst ho
            have e0 : f 8 = .agg #[.slice x.A x.n x.c, .slice x.S.A x.S.n x.S.c, .slice x.P.A x.P.n x.P.c] := hpre ⟨8, .data⟩ (by simp) rfl (.inl rfl)
            obtain ⟨z, e1, hz9⟩ : FRw T (f 15) v := hpre ⟨15, .data⟩ (by simp) rfl (.inl rfl)
            have g0 : f 7 = .bool false := hpre ⟨7, .guard⟩ (by simp) rfl (.inl rfl)
            obtain ⟨f, rfl⟩ := fix1 f 8 _ e0
            rw [updV_ne _ _ (by decide)] at e1 g0
            obtain ⟨f, rfl⟩ := fix1 f 15 _ e1
            rw [updV_ne _ _ (by decide)] at g0
            obtain ⟨f, rfl⟩ := fix1 f 7 _ g0
            clear e0 e1 g0
            refine stp_step rfl fun K' hK' => ?_
            simp only [putL, updV]
            go_simp
            go_at_call 6
            refine (HRd.out _ HB.out z hz9.out0).mono ?_
            rintro e u5 ⟨rfl, hb5⟩
            have hB5 := HB.out.below hb5
            have hgn := grown_of_below hb5 (some T)
            have hz := hK' _ _ (hK (.bool true) (u5) (hB5) (hgn) (rfl))
            refine Eq.mp (congrArg (fun a => K' a (u5)) ?_) hz
            as_aux_lemma => kernel_rfl
          | 17, ho, hpre, hK =>
            simp only [List.getElem?_toArray, List.getElem?_cons_succ, List.getElem?_cons_zero, Option.some.injEq] at ho
            subst ho
            have e0 : f 16 = .bool true := hpre ⟨16, .data⟩ (by simp) rfl (.inl rfl)
            have e1 : f 7 = .bool false := hpre ⟨7, .guard⟩ (by simp) rfl (.inl rfl)
            obtain ⟨f, rfl⟩ := fix1 f 16 _ e0
            rw [updV_ne _ _ (by decide)] at e1
            obtain ⟨f, rfl⟩ := fix1 f 7 _ e1
            clear e0 e1
            refine stp_step rfl fun K' hK' => ?_
            simp only [putL, updV]
            go_simp
            have hz := hK' _ _ (hK (.bool false) (v) (HB.out) (grown_of_below (Below.refl _ _) _) (rfl))
            refine Eq.mp (congrArg (fun a => K' a (v)) ?_) hz
            as_aux_lemma => kernel_rfl
          | 18, ho, hpre, hK =>
            simp only [List.getElem?_toArray, List.getElem?_cons_succ, List.getElem?_cons_zero, Option.some.injEq] at ho
            subst ho
            have e0 : f 7 = .bool false := hpre ⟨7, .data⟩ (by simp) rfl (.inl rfl)
            have e1 : f 17 = .bool false := hpre ⟨17, .data⟩ (by simp) rfl (.inl rfl)
            obtain ⟨f, rfl⟩ := fix1 f 7 _ e0
            rw [updV_ne _ _ (by decide)] at e1
            obtain ⟨f, rfl⟩ := fix1 f 17 _ e1
            clear e0 e1
            refine stp_step rfl fun K' hK' => ?_
            simp only [putL, updV]
            go_simp
            have hz := hK' _ _ (hK (.bool false) (v) (HB.out) (grown_of_below (Below.refl _ _) _) (rfl))
            refine Eq.mp (congrArg (fun a => K' a (v)) ?_) hz
            as_aux_lemma => kernel_rfl
          | 19, ho, hpre, hK =>
            simp only [List.getElem?_toArray, List.getElem?_cons_succ, List.getElem?_cons_zero, Option.some.injEq] at ho
            subst ho
            have e0 : f 18 = .bool false := hpre ⟨18, .data⟩ (by simp) rfl (.inl rfl)
            obtain ⟨f, rfl⟩ := fix1 f 18 _ e0
            clear e0
            refine stp_step rfl fun K' hK' => ?_
            simp only [putL, updV]
            go_simp
            have hz := hK' _ _ (hK (.bool false) (v) (HB.out) (grown_of_below (Below.refl _ _) _) (rfl))
            refine Eq.mp (congrArg (fun a => K' a (v)) ?_) hz
            as_aux_lemma => kernel_rfl
          | 20, ho, hpre, hK =>
            simp only [List.getElem?_toArray, List.getElem?_cons_succ, List.getElem?_cons_zero, Option.some.injEq] at ho
            subst ho
            have e0 : f 19 = .bool false := hpre ⟨19, .guard⟩ (by simp) rfl (.inl rfl)
            obtain ⟨f, rfl⟩ := fix1 f 19 _ e0
            clear e0
            refine stp_step rfl fun K' hK' => ?_
            simp only [putL, updV]
            go_simp
            have hz := hK' _ _ (hK (.pointer (some ⟨T, 0, none⟩)) (v) (HB.out) (grown_of_below (Below.refl _ _) _) (rfl))
            refine Eq.mp (congrArg (fun a => K' a (v)) ?_) hz
            as_aux_lemma => kernel_rfl
          | 21, ho, hpre, hK =>
            simp only [List.getElem?_toArray, List.getElem?_cons_succ, List.getElem?_cons_zero, Option.some.injEq] at ho
            subst ho
            have e0 : f 19 = .bool false := hpre ⟨19, .guard⟩ (by simp) rfl (.inl rfl)
            obtain ⟨f, rfl⟩ := fix1 f 19 _ e0
            clear e0
            refine stp_step rfl fun K' hK' => ?_
            have hc := HB.out.bx.thr
            have hbl := HB.out.bx.lt
            simp only [putL, updV]
            go_simp
            have hz := hK' _ _ (hK (.agg #[.slice x.A x.n x.c, .slice x.S.A x.S.n x.S.c, .slice x.P.A x.P.n x.P.c]) (v) (HB.out) (grown_of_below (Below.refl _ _) _) (rfl))
            refine Eq.mp (congrArg (fun a => K' a (v)) ?_) hz
            as_aux_lemma => kernel_rfl
          | 22, ho, hpre, hK =>
            simp only [List.getElem?_toArray, List.getElem?_cons_succ, List.getElem?_cons_zero, Option.some.injEq] at ho
            subst ho
            have e0 : f 20 = .pointer (some ⟨T, 0, none⟩) := hpre ⟨20, .data⟩ (by simp) rfl (.inl rfl)
            have e1 : f 21 = .agg #[.slice x.A x.n x.c, .slice x.S.A x.S.n x.S.c, .slice x.P.A x.P.n x.P.c] := hpre ⟨21, .data⟩ (by simp) rfl (.inl rfl)
            have e2 : f 19 = .bool false := hpre ⟨19, .guard⟩ (by simp) rfl (.inl rfl)
            obtain ⟨f, rfl⟩ := fix1 f 20 _ e0
            rw [updV_ne _ _ (by decide)] at e1 e2
            obtain ⟨f, rfl⟩ := fix1 f 21 _ e1
            rw [updV_ne _ _ (by decide)] at e2
            obtain ⟨f, rfl⟩ := fix1 f 19 _ e2
            clear e0 e1 e2
            refine stp_step rfl fun K' hK' => ?_
            simp only [putL, updV]
            go_simp
            go_at_call 8
            refine (HSp.out _ HB.out).mono ?_
            rintro e u5 ⟨y, rfl, hy, hgo6, hg6⟩
            have hB5 := HB.out.step2 hgo6 hg6
            have HF := hid (show FGr T y.a u5 from ⟨y, rfl, hy⟩)
            unfold GH.a at *
            have hz := hK' _ _ (hK (.agg #[.slice y.A y.n y.c, .slice y.S.A y.S.n y.S.c, .slice y.P.A y.P.n y.P.c]) (u5) (hB5) (hg6) (HF.out))
            refine Eq.mp (congrArg (fun a => K' a (u5)) ?_) hz
            as_aux_lemma => kernel_rfl
          | 23, ho, hpre, hK =>
            simp only [List.getElem?_toArray, List.getElem?_cons_succ, List.getElem?_cons_zero, Option.some.injEq] at ho
            subst ho
            have g0 : f 19 = .bool false := hpre ⟨19, .guard⟩ (by simp) rfl (.inl rfl)
            obtain ⟨f, rfl⟩ := fix1 f 19 _ g0
            clear g0
            refine stp_step rfl fun K' hK' => ?_
            simp only [putL, updV]
            go_simp
            have hbw := (Below.refl v.heap.size v).alloc (Nat.le_refl _) (.cells #[.int .i64 0] 3)
            have hB5 := HB.out.below hbw
            have hTv := HB.out.gos.go.1.lt
            have HF := hid (lit_T (T := T) v #[.int .i64 0] [0] 1 hTv rfl rfl (by omega))
            have hz := hK' _ _ (hK (.slice (some ⟨v.heap.size, 0, none⟩) 1 1) (v.alloc (.cells #[.int .i64 0] 3)) (hB5) (grown_of_below hbw _) (HF.out))
            refine Eq.mp (congrArg (fun a => K' a (v.alloc (.cells #[.int .i64 0] 3))) ?_) hz
            as_aux_lemma => kernel_rfl
          | 24, ho, hpre, hK =>
            simp only [List.getElem?_toArray, List.getElem?_cons_succ, List.getElem?_cons_zero, Option.some.injEq] at ho
            subst ho
            obtain ⟨y, e0, hy⟩ : FGr T (f 22) v := hpre ⟨22, .data⟩ (by simp) rfl (.inl rfl)
            obtain ⟨z, e1, hz9⟩ : FRw T (f 23) v := hpre ⟨23, .data⟩ (by simp) rfl (.inl rfl)
            have g0 : f 19 = .bool false := hpre ⟨19, .guard⟩ (by simp) rfl (.inl rfl)
            obtain ⟨f, rfl⟩ := fix1 f 22 _ e0
            rw [updV_ne _ _ (by decide)] at e1 g0
            obtain ⟨f, rfl⟩ := fix1 f 23 _ e1
            rw [updV_ne _ _ (by decide)] at g0
            obtain ⟨f, rfl⟩ := fix1 f 19 _ g0
            clear e0 e1 g0
            refine stp_step rfl fun K' hK' => ?_
            simp only [putL, updV]
            go_simp
            go_at_call 6
            refine (reads_any y z _ hy.out0 hz9.out0).mono ?_
            rintro e u5 ⟨rfl, hb5⟩
            have hB5 := HB.out.below hb5
            have hgn := grown_of_below hb5 (some T)
            have hz := hK' _ _ (hK (.bool true) (u5) (hB5) (hgn) (rfl))
            refine Eq.mp (congrArg (fun a => K' a (u5)) ?_) hz
            as_aux_lemma => kernel_rfl
          | 25, ho, hpre, hK =>
            simp only [List.getElem?_toArray, List.getElem?_cons_succ, List.getElem?_cons_zero, Option.some.injEq] at ho
            subst ho
            have e0 : f 24 = .bool true := hpre ⟨24, .data⟩ (by simp) rfl (.inl rfl)
            have e1 : f 19 = .bool false := hpre ⟨19, .guard⟩ (by simp) rfl (.inl rfl)
            obtain ⟨f, rfl⟩ := fix1 f 24 _ e0
            rw [updV_ne _ _ (by decide)] at e1
            obtain ⟨f, rfl⟩ := fix1 f 19 _ e1
            clear e0 e1
            refine stp_step rfl fun K' hK' => ?_
            simp only [putL, updV]
            go_simp
            have hz := hK' _ _ (hK (.bool false) (v) (HB.out) (grown_of_below (Below.refl _ _) _) (rfl))
            refine Eq.mp (congrArg (fun a => K' a (v)) ?_) hz
            as_aux_lemma => kernel_rfl
          | 26, ho, hpre, hK =>
            simp only [List.getElem?_toArray, List.getElem?_cons_succ, List.getElem?_cons_zero, Option.some.injEq] at ho
            subst ho
            have e0 : f 19 = .bool false := hpre ⟨19, .data⟩ (by simp) rfl (.inl rfl)
            have e1 : f 25 = .bool false := hpre ⟨25, .data⟩ (by simp) rfl (.inl rfl)
            obtain ⟨f, rfl⟩ := fix1 f 19 _ e0
            rw [updV_ne _ _ (by decide)] at e1
            obtain ⟨f, rfl⟩ := fix1 f 25 _ e1
            clear e0 e1
            refine stp_step rfl fun K' hK' => ?_
            simp only [putL, updV]
            go_simp
            have hz := hK' _ _ (hK (.bool false) (v) (HB.out) (grown_of_below (Below.refl _ _) _) (rfl))
            refine Eq.mp (congrArg (fun a => K' a (v)) ?_) hz
            as_aux_lemma => kernel_rfl
          | 27, ho, hpre, hK =>
            simp only [List.getElem?_toArray, List.getElem?_cons_succ, List.getElem?_cons_zero, Option.some.injEq] at ho
            subst ho
            have e0 : f 26 = .bool false := hpre ⟨26, .data⟩ (by simp) rfl (.inl rfl)
            obtain ⟨f, rfl⟩ := fix1 f 26 _ e0
            clear e0
            refine stp_step rfl fun K' hK' => ?_
            simp only [putL, updV]
            go_simp
            have hz := hK' _ _ (hK (.bool false) (v) (HB.out) (grown_of_below (Below.refl _ _) _) (rfl))
            refine Eq.mp (congrArg (fun a => K' a (v)) ?_) hz
            as_aux_lemma => kernel_rfl
          | 28, ho, hpre, hK =>
            simp only [List.getElem?_toArray, List.getElem?_cons_succ, List.getElem?_cons_zero, Option.some.injEq] at ho
            subst ho
            have e0 : f 27 = .bool false := hpre ⟨27, .guard⟩ (by simp) rfl (.inl rfl)
            obtain ⟨f, rfl⟩ := fix1 f 27 _ e0
            clear e0
            refine stp_step rfl fun K' hK' => ?_
            have hc := HB.out.bx.thr
            have hbl := HB.out.bx.lt
            simp only [putL, updV]
            go_simp
            have hz := hK' _ _ (hK (.agg #[.slice x.A x.n x.c, .slice x.S.A x.S.n x.S.c, .slice x.P.A x.P.n x.P.c]) (v) (HB.out) (grown_of_below (Below.refl _ _) _) (rfl))
            refine Eq.mp (congrArg (fun a => K' a (v)) ?_) hz
            as_aux_lemma => kernel_rfl
          | 29, ho, hpre, hK =>
            simp only [List.getElem?_toArray, List.getElem?_cons_succ, List.getElem?_cons_zero, Option.some.injEq] at ho
            subst ho
            have e0 : f 27 = .bool false := hpre ⟨27, .guard⟩ (by simp) rfl (.inl rfl)
            obtain ⟨f, rfl⟩ := fix1 f 27 _ e0
            clear e0
            refine stp_step rfl fun K' hK' => ?_
            simp only [putL, updV]
            go_simp
            have hz := hK' _ _ (hK (.pointer (some ⟨T, 0, none⟩)) (v) (HB.out) (grown_of_below (Below.refl _ _) _) (rfl))
            refine Eq.mp (congrArg (fun a => K' a (v)) ?_) hz
            as_aux_lemma => kernel_rfl
          | 30, ho, hpre, hK =>
            simp only [List.getElem?_toArray, List.getElem?_cons_succ, List.getElem?_cons_zero, Option.some.injEq] at ho
            subst ho
            have e0 : f 27 = .bool false := hpre ⟨27, .guard⟩ (by simp) rfl (.inl rfl)
            obtain ⟨f, rfl⟩ := fix1 f 27 _ e0
            clear e0
            refine stp_step rfl fun K' hK' => ?_
            simp only [putL, updV]
            go_simp
            have hz := hK' _ _ (hK (.int .i64 (x.n : Int)) (v) (HB.out) (grown_of_below (Below.refl _ _) _) (rfl))
            refine Eq.mp (congrArg (fun a => K' a (v)) ?_) hz
            as_aux_lemma => kernel_rfl
          | 31, ho, hpre, hK =>
            simp only [List.getElem?_toArray, List.getElem?_cons_succ, List.getElem?_cons_zero, Option.some.injEq] at ho
            subst ho
            have e0 : f 30 = .int .i64 (x.n : Int) := hpre ⟨30, .data⟩ (by simp) rfl (.inl rfl)
            have e1 : f 27 = .bool false := hpre ⟨27, .guard⟩ (by simp) rfl (.inl rfl)
            obtain ⟨f, rfl⟩ := fix1 f 30 _ e0
            rw [updV_ne _ _ (by decide)] at e1
            obtain ⟨f, rfl⟩ := fix1 f 27 _ e1
            clear e0 e1
            refine stp_step rfl fun K' hK' => ?_
            have hw : IntKind.i64.wrap ((x.n : Int) + 2) = (x.n : Int) + 2 := IntWalk.i64_in _ (by omega)
            simp only [putL, updV]
            go_simp
            have hz := hK' _ _ (hK (.int .i64 ((x.n : Int) + 2)) (v) (HB.out) (grown_of_below (Below.refl _ _) _) (rfl))
            refine Eq.mp (congrArg (fun a => K' a (v)) ?_) hz
            as_aux_lemma => kernel_rfl
          | 32, ho, hpre, hK =>
            simp only [List.getElem?_toArray, List.getElem?_cons_succ, List.getElem?_cons_zero, Option.some.injEq] at ho
            subst ho
            have e0 : f 29 = .pointer (some ⟨T, 0, none⟩) := hpre ⟨29, .data⟩ (by simp) rfl (.inl rfl)
            have e1 : f 31 = .int .i64 ((x.n : Int) + 2) := hpre ⟨31, .data⟩ (by simp) rfl (.inl rfl)
            have e2 : f 27 = .bool false := hpre ⟨27, .guard⟩ (by simp) rfl (.inl rfl)
            obtain ⟨f, rfl⟩ := fix1 f 29 _ e0
            rw [updV_ne _ _ (by decide)] at e1 e2
            obtain ⟨f, rfl⟩ := fix1 f 31 _ e1
            rw [updV_ne _ _ (by decide)] at e2
            obtain ⟨f, rfl⟩ := fix1 f 27 _ e2
            clear e0 e1 e2
            refine stp_step rfl fun K' hK' => ?_
            simp only [putL, updV]
            go_simp
            go_at_call 7
            refine (next_any T ((x.n : Int) + 2) _ HB.out.gos.go.1 (by omega)).mono ?_
            rintro e u5 ⟨r, rfl, hr0, hr1, ht, hg, -⟩
            have hB5 := HB.out.step ht hg
            have HF := hid (show Fnx (x.n + 2) (.int .i64 r) u5 from ⟨r, rfl, hr0, by omega⟩)
            have hz := hK' _ _ (hK (.int .i64 r) (u5) (hB5) (hg) (HF.out))
            refine Eq.mp (congrArg (fun a => K' a (u5)) ?_) hz
            as_aux_lemma => kernel_rfl
          | 33, ho, hpre, hK =>
            simp only [List.getElem?_toArray, List.getElem?_cons_succ, List.getElem?_cons_zero, Option.some.injEq] at ho
            subst ho
            obtain ⟨r, e0, hr0, hr1⟩ : Fnx (x.n + 2) (f 32) v := hpre ⟨32, .data⟩ (by simp) rfl (.inl rfl)
            have e1 : f 27 = .bool false := hpre ⟨27, .guard⟩ (by simp) rfl (.inl rfl)
            obtain ⟨f, rfl⟩ := fix1 f 32 _ e0
            rw [updV_ne _ _ (by decide)] at e1
            obtain ⟨f, rfl⟩ := fix1 f 27 _ e1
            clear e0 e1
            refine stp_step rfl fun K' hK' => ?_
            have hw : IntKind.i64.wrap (r - 1) = r - 1 := IntWalk.i64_in _ (by omega)
            simp only [putL, updV]
            go_simp
            have hz := hK' _ _ (hK (.int .i64 (r - 1)) (v) (HB.out) (grown_of_below (Below.refl _ _) _) (⟨_, rfl⟩))
            refine Eq.mp (congrArg (fun a => K' a (v)) ?_) hz
            as_aux_lemma => kernel_rfl
          | 34, ho, hpre, hK =>
            simp only [List.getElem?_toArray, List.getElem?_cons_succ, List.getElem?_cons_zero, Option.some.injEq] at ho
            subst ho
            obtain ⟨r0, e0⟩ : Fin1 (f 33) v := hpre ⟨33, .data⟩ (by simp) rfl (.inl rfl)
            have g0 : f 27 = .bool false := hpre ⟨27, .guard⟩ (by simp) rfl (.inl rfl)
            obtain ⟨f, rfl⟩ := fix1 f 33 _ e0
            rw [updV_ne _ _ (by decide)] at g0
            obtain ⟨f, rfl⟩ := fix1 f 27 _ g0
            clear e0 g0
            refine stp_step rfl fun K' hK' => ?_
            simp only [putL, updV]
            go_simp
            have hbw := (Below.refl v.heap.size v).alloc (Nat.le_refl _) (.cells #[.int .i64 r0] 3)
            have hB5 := HB.out.below hbw
            have hTv := HB.out.gos.go.1.lt
            have HF := hid (lit_T (T := T) v #[.int .i64 r0] [r0] 1 hTv rfl rfl (by omega))
            have hz := hK' _ _ (hK (.slice (some ⟨v.heap.size, 0, none⟩) 1 1) (v.alloc (.cells #[.int .i64 r0] 3)) (hB5) (grown_of_below hbw _) (HF.out))
            refine Eq.mp (congrArg (fun a => K' a (v.alloc (.cells #[.int .i64 r0] 3))) ?_) hz
            as_aux_lemma => kernel_rfl
          | 35, ho, hpre, hK =>
            simp only [List.getElem?_toArray, List.getElem?_cons_succ, List.getElem?_cons_zero, Option.some.injEq] at ho
            subst ho
            have e0 : f 28 = .agg #[.slice x.A x.n x.c, .slice x.S.A x.S.n x.S.c, .slice x.P.A x.P.n x.P.c] := hpre ⟨28, .data⟩ (by simp) rfl (.inl rfl)
            obtain ⟨z, e1, hz9⟩ : FRw T (f 34) v := hpre ⟨34, .data⟩ (by simp) rfl (.inl rfl)
            have g0 : f 27 = .bool false := hpre ⟨27, .guard⟩ (by simp) rfl (.inl rfl)
            obtain ⟨f, rfl⟩ := fix1 f 28 _ e0
            rw [updV_ne _ _ (by decide)] at e1 g0
            obtain ⟨f, rfl⟩ := fix1 f 34 _ e1
            rw [updV_ne _ _ (by decide)] at g0
            obtain ⟨f, rfl⟩ := fix1 f 27 _ g0
            clear e0 e1 g0
            refine stp_step rfl fun K' hK' => ?_
            simp only [putL, updV]
            go_simp
            go_at_call 6
            refine (HRd.out _ HB.out z hz9.out0).mono ?_
            rintro e u5 ⟨rfl, hb5⟩
            have hB5 := HB.out.below hb5
            have hgn := grown_of_below hb5 (some T)
            have hz := hK' _ _ (hK (.bool true) (u5) (hB5) (hgn) (rfl))
            refine Eq.mp (congrArg (fun a => K' a (u5)) ?_) hz
            as_aux_lemma => kernel_rfl
          | 36, ho, hpre, hK =>
            simp only [List.getElem?_toArray, List.getElem?_cons_succ, List.getElem?_cons_zero, Option.some.injEq] at ho
            subst ho
            have e0 : f 35 = .bool true := hpre ⟨35, .data⟩ (by simp) rfl (.inl rfl)
            have e1 : f 27 = .bool false := hpre ⟨27, .guard⟩ (by simp) rfl (.inl rfl)
            obtain ⟨f, rfl⟩ := fix1 f 35 _ e0
            rw [updV_ne _ _ (by decide)] at e1
            obtain ⟨f, rfl⟩ := fix1 f 27 _ e1
            clear e0 e1
            refine stp_step rfl fun K' hK' => ?_
            simp only [putL, updV]
            go_simp
            have hz := hK' _ _ (hK (.bool false) (v) (HB.out) (grown_of_below (Below.refl _ _) _) (rfl))
            refine Eq.mp (congrArg (fun a => K' a (v)) ?_) hz
            as_aux_lemma => kernel_rfl
          | 37, ho, hpre, hK =>
            simp only [List.getElem?_toArray, List.getElem?_cons_succ, List.getElem?_cons_zero, Option.some.injEq] at ho
            subst ho
            have e0 : f 27 = .bool false := hpre ⟨27, .data⟩ (by simp) rfl (.inl rfl)
            have e1 : f 36 = .bool false := hpre ⟨36, .data⟩ (by simp) rfl (.inl rfl)
            obtain ⟨f, rfl⟩ := fix1 f 27 _ e0
            rw [updV_ne _ _ (by decide)] at e1
            obtain ⟨f, rfl⟩ := fix1 f 36 _ e1
            clear e0 e1
            refine stp_step rfl fun K' hK' => ?_
            simp only [putL, updV]
            go_simp
            have hz := hK' _ _ (hK (.bool false) (v) (HB.out) (grown_of_below (Below.refl _ _) _) (rfl))
            refine Eq.mp (congrArg (fun a => K' a (v)) ?_) hz
            as_aux_lemma => kernel_rfl
          | 38, ho, hpre, hK =>
            simp only [List.getElem?_toArray, List.getElem?_cons_succ, List.getElem?_cons_zero, Option.some.injEq] at ho
            subst ho
            have e0 : f 37 = .bool false := hpre ⟨37, .data⟩ (by simp) rfl (.inl rfl)
            obtain ⟨f, rfl⟩ := fix1 f 37 _ e0
            clear e0
            refine stp_step rfl fun K' hK' => ?_
            simp only [putL, updV]
            go_simp
            have hz := hK' _ _ (hK (.bool false) (v) (HB.out) (grown_of_below (Below.refl _ _) _) (rfl))
            refine Eq.mp (congrArg (fun a => K' a (v)) ?_) hz
            as_aux_lemma => kernel_rfl
          | 39, ho, hpre, hK =>
            simp only [List.getElem?_toArray, List.getElem?_cons_succ, List.getElem?_cons_zero, Option.some.injEq] at ho
            subst ho
            have e0 : f 38 = .bool false := hpre ⟨38, .guard⟩ (by simp) rfl (.inl rfl)
            obtain ⟨f, rfl⟩ := fix1 f 38 _ e0
            clear e0
            refine stp_step rfl fun K' hK' => ?_
            simp only [putL, updV]
            go_simp
            have hz := hK' _ _ (hK (.slice fr.A fr.n fr.c) (v) (HB.out) (grown_of_below (Below.refl _ _) _) (rfl))
            refine Eq.mp (congrArg (fun a => K' a (v)) ?_) hz
            as_aux_lemma => kernel_rfl
          | 40, ho, hpre, hK =>
            simp only [List.getElem?_toArray, List.getElem?_cons_succ, List.getElem?_cons_zero, Option.some.injEq] at ho
            subst ho
            have e0 : f 39 = .slice fr.A fr.n fr.c := hpre ⟨39, .data⟩ (by simp) rfl (.inl rfl)
            have e1 : f 38 = .bool false := hpre ⟨38, .guard⟩ (by simp) rfl (.inl rfl)
            obtain ⟨f, rfl⟩ := fix1 f 39 _ e0
            rw [updV_ne _ _ (by decide)] at e1
            obtain ⟨f, rfl⟩ := fix1 f 38 _ e1
            clear e0 e1
            refine stp_step rfl fun K' hK' => ?_
            simp only [putL, updV]
            go_simp
            have hz := hK' _ _ (hK (.int .i64 (fr.n : Int)) (v) (HB.out) (grown_of_below (Below.refl _ _) _) (rfl))
            refine Eq.mp (congrArg (fun a => K' a (v)) ?_) hz
            as_aux_lemma => kernel_rfl
          | 41, ho, hpre, hK =>
            simp only [List.getElem?_toArray, List.getElem?_cons_succ, List.getElem?_cons_zero, Option.some.injEq] at ho
            subst ho
            have e0 : f 40 = .int .i64 (fr.n : Int) := hpre ⟨40, .data⟩ (by simp) rfl (.inl rfl)
            have e1 : f 38 = .bool false := hpre ⟨38, .guard⟩ (by simp) rfl (.inl rfl)
            obtain ⟨f, rfl⟩ := fix1 f 40 _ e0
            rw [updV_ne _ _ (by decide)] at e1
            obtain ⟨f, rfl⟩ := fix1 f 38 _ e1
            clear e0 e1
            refine stp_step rfl fun K' hK' => ?_
            have h9 := H20.out
            have h9b := H20b.out
            simp only [putL, updV]
            go_simp
            have hz := hK' _ _ (hK (.bool false) (v) (HB.out) (grown_of_below (Below.refl _ _) _) (rfl))
            refine Eq.mp (congrArg (fun a => K' a (v)) ?_) hz
            as_aux_lemma => kernel_rfl
          | 42, ho, hpre, hK =>
            simp only [List.getElem?_toArray, List.getElem?_cons_succ, List.getElem?_cons_zero, Option.some.injEq] at ho
            subst ho
            have e0 : f 41 = .bool false := hpre ⟨41, .data⟩ (by simp) rfl (.inl rfl)
            have e1 : f 38 = .bool false := hpre ⟨38, .guard⟩ (by simp) rfl (.inl rfl)
            obtain ⟨f, rfl⟩ := fix1 f 41 _ e0
            rw [updV_ne _ _ (by decide)] at e1
            obtain ⟨f, rfl⟩ := fix1 f 38 _ e1
            clear e0 e1
            refine stp_step rfl fun K' hK' => ?_
            simp only [putL, updV]
            go_simp
            have hz := hK' _ _ (hK (.bool false) (v) (HB.out) (grown_of_below (Below.refl _ _) _) (rfl))
            refine Eq.mp (congrArg (fun a => K' a (v)) ?_) hz
            as_aux_lemma => kernel_rfl
          | 43, ho, hpre, hK =>
            simp only [List.getElem?_toArray, List.getElem?_cons_succ, List.getElem?_cons_zero, Option.some.injEq] at ho
            subst ho
            have e0 : f 42 = .bool false := hpre ⟨42, .guard⟩ (by simp) rfl (.inl rfl)
            obtain ⟨f, rfl⟩ := fix1 f 42 _ e0
            clear e0
            refine stp_step rfl fun K' hK' => ?_
            simp only [putL, updV]
            go_simp
            have hz := hK' _ _ (hK (undef) (v) (HB.out) (grown_of_below (Below.refl _ _) _) (rfl))
            refine Eq.mp (congrArg (fun a => K' a (v)) ?_) hz
            as_aux_lemma => kernel_rfl
          | 44, ho, hpre, hK =>
            simp only [List.getElem?_toArray, List.getElem?_cons_succ, List.getElem?_cons_zero, Option.some.injEq] at ho
            subst ho
            have e0 : f 42 = .bool false := hpre ⟨42, .guard⟩ (by simp) rfl (.inl rfl)
            obtain ⟨f, rfl⟩ := fix1 f 42 _ e0
            clear e0
            refine stp_step rfl fun K' hK' => ?_
            simp only [putL, updV]
            go_simp
            have hz := hK' _ _ (hK (undef) (v) (HB.out) (grown_of_below (Below.refl _ _) _) (rfl))
            refine Eq.mp (congrArg (fun a => K' a (v)) ?_) hz
            as_aux_lemma => kernel_rfl
          | 45, ho, hpre, hK =>
            simp only [List.getElem?_toArray, List.getElem?_cons_succ, List.getElem?_cons_zero, Option.some.injEq] at ho
            subst ho
            have e0 : f 42 = .bool false := hpre ⟨42, .guard⟩ (by simp) rfl (.inl rfl)
            obtain ⟨f, rfl⟩ := fix1 f 42 _ e0
            clear e0
            refine stp_step rfl fun K' hK' => ?_
            simp only [putL, updV]
            go_simp
            have hz := hK' _ _ (hK (undef) (v) (HB.out) (grown_of_below (Below.refl _ _) _) (rfl))
            refine Eq.mp (congrArg (fun a => K' a (v)) ?_) hz
            as_aux_lemma => kernel_rfl
          | 46, ho, hpre, hK =>
            simp only [List.getElem?_toArray, List.getElem?_cons_succ, List.getElem?_cons_zero, Option.some.injEq] at ho
            subst ho
            have e0 : f 42 = .bool false := hpre ⟨42, .guard⟩ (by simp) rfl (.inl rfl)
            obtain ⟨f, rfl⟩ := fix1 f 42 _ e0
            clear e0
            refine stp_step rfl fun K' hK' => ?_
            simp only [putL, updV]
            go_simp
            have hz := hK' _ _ (hK (undef) (v) (HB.out) (grown_of_below (Below.refl _ _) _) (rfl))
            refine Eq.mp (congrArg (fun a => K' a (v)) ?_) hz
            as_aux_lemma => kernel_rfl
          | 47, ho, hpre, hK =>
            simp only [List.getElem?_toArray, List.getElem?_cons_succ, List.getElem?_cons_zero, Option.some.injEq] at ho
            subst ho
            have e0 : f 42 = .bool false := hpre ⟨42, .data⟩ (by simp) rfl (.inl rfl)
            have e1 : f 38 = .bool false := hpre ⟨38, .guard⟩ (by simp) rfl (.inl rfl)
            obtain ⟨f, rfl⟩ := fix1 f 42 _ e0
            rw [updV_ne _ _ (by decide)] at e1
            obtain ⟨f, rfl⟩ := fix1 f 38 _ e1
            clear e0 e1
            refine stp_step rfl fun K' hK' => ?_
            simp only [putL, updV]
            go_simp
            have hz := hK' _ _ (hK (.bool false) (v) (HB.out) (grown_of_below (Below.refl _ _) _) (rfl))
            refine Eq.mp (congrArg (fun a => K' a (v)) ?_) hz
            as_aux_lemma => kernel_rfl
          | 48, ho, hpre, hK =>
            simp only [List.getElem?_toArray, List.getElem?_cons_succ, List.getElem?_cons_zero, Option.some.injEq] at ho
            subst ho
            have e0 : f 38 = .bool false := hpre ⟨38, .data⟩ (by simp) rfl (.inl rfl)
            have e1 : f 47 = .bool false := hpre ⟨47, .data⟩ (by simp) rfl (.inl rfl)
            obtain ⟨f, rfl⟩ := fix1 f 38 _ e0
            rw [updV_ne _ _ (by decide)] at e1
            obtain ⟨f, rfl⟩ := fix1 f 47 _ e1
            clear e0 e1
            refine stp_step rfl fun K' hK' => ?_
            simp only [putL, updV]
            go_simp
            have hz := hK' _ _ (hK (.bool false) (v) (HB.out) (grown_of_below (Below.refl _ _) _) (rfl))
            refine Eq.mp (congrArg (fun a => K' a (v)) ?_) hz
            as_aux_lemma => kernel_rfl
          | j + 49, ho, hpre, hK => exact absurd hi (by omega)
        · intro Q2 hQ2 f v hB hF
          have HB := hid hB
          have e48 : f 48 = .bool false := hF 48 (by decide) rfl
          obtain ⟨f, rfl⟩ := fix1 f 48 _ e48
          clear hB hF e48 HSp HRd HFr HTl HW
          refine ⟨by kernel_rfl, hQ2 _ _ ?_⟩
          simp only [putL, updV]
          go_simp
          refine hKx _ _ ?_
          clear hKx
          go_wp2_with fail
          go_roundw
          case rel => exact ⟨i + 1, by omega, by go_num, hid HB.out.gos⟩
          case measure => simp [intOf]; omega
    · obtain rfl : i = 5 := by omega
      have HBw := hid (show Below w.heap.size w wr from below_step (hG0 ▸ HB0.out) HI.out.go.2.1)
      have HX9 := hid (HX0.out.below HI.out.go.2.1)
      have HF9 := hid (HF0.out.below HI.out.go.2.1)
      have HG9 := hid (HG0.out.below HI.out.go.2.1 HG0.out.lt)
      have HS9 := hid HI.out.shp
      clear HX0 HF0 HG0 HI HB0
      have hc := HG9.out.thr
      have hl := HG9.out.lt
      have hcase : (10 < x0.n) ∨ (x0.n ≤ 10 ∧ 10 < x0.S.n) ∨ (x0.n ≤ 10 ∧ x0.S.n ≤ 10 ∧ 10 < x0.P.n) ∨ (x0.n ≤ 10 ∧ x0.S.n ≤ 10 ∧ x0.P.n ≤ 10 ∧ 20 < fr.n) ∨ (x0.n ≤ 10 ∧ x0.S.n ≤ 10 ∧ x0.P.n ≤ 10 ∧ fr.n ≤ 20) := by omega
      rcases hcase with h1 | ⟨h1, h2⟩ | ⟨h1, h2, h3⟩ | ⟨h1, h2, h3, h4⟩ | ⟨h1, h2, h3, h4⟩
      · have g0 : (10 : Int) < (x0.n : Int) := by omega
        go_wp2_with fail
        refine (sane8_any _ HS9.out).mono ?_
        rintro e w7 ⟨rfl, hb7⟩
        have HB7 := hid (below_step HBw.out hb7)
        clear hb7 hc hl
        go_wp2_with fail
        go_ret
        exact ⟨rfl, HB7.out⟩
      · have g0 : ¬ ((10 : Int) < (x0.n : Int)) := by omega
        have g1 : (10 : Int) < (x0.S.n : Int) := by omega
        go_wp2_with fail
        refine (sane8_any _ HS9.out).mono ?_
        rintro e w7 ⟨rfl, hb7⟩
        have HB7 := hid (below_step HBw.out hb7)
        clear hb7 hc hl
        go_wp2_with fail
        go_ret
        exact ⟨rfl, HB7.out⟩
      · have g0 : ¬ ((10 : Int) < (x0.n : Int)) := by omega
        have g1 : ¬ ((10 : Int) < (x0.S.n : Int)) := by omega
        have g2 : (10 : Int) < (x0.P.n : Int) := by omega
        go_wp2_with fail
        refine (sane8_any _ HS9.out).mono ?_
        rintro e w7 ⟨rfl, hb7⟩
        have HB7 := hid (below_step HBw.out hb7)
        clear hb7 hc hl
        go_wp2_with fail
        go_ret
        exact ⟨rfl, HB7.out⟩
      · have g0 : ¬ ((10 : Int) < (x0.n : Int)) := by omega
        have g1 : ¬ ((10 : Int) < (x0.S.n : Int)) := by omega
        have g2 : ¬ ((10 : Int) < (x0.P.n : Int)) := by omega
        have g3 : (20 : Int) < (fr.n : Int) := by omega
        go_wp2_with fail
        refine (sane8_any _ HS9.out).mono ?_
        rintro e w7 ⟨rfl, hb7⟩
        have HB7 := hid (below_step HBw.out hb7)
        clear hb7 hc hl
        go_wp2_with fail
        go_ret
        exact ⟨rfl, HB7.out⟩
      · have g0 : ¬ ((10 : Int) < (x0.n : Int)) := by omega
        have g1 : ¬ ((10 : Int) < (x0.S.n : Int)) := by omega
        have g2 : ¬ ((10 : Int) < (x0.P.n : Int)) := by omega
        have g3 : ¬ ((20 : Int) < (fr.n : Int)) := by omega
        go_wp2_with fail
        refine (reads_any x0 fr _ HX9.out HF9.out).mono ?_
        rintro e w6 ⟨rfl, hb6⟩
        have HB6 := hid (below_step HBw.out hb6)
        have HS6 := hid (HS9.out.keep (hb6.block 0 HS9.out.pos0))
        clear hb6 HBw HS9 hc hl
        go_wp2_with fail
        refine (sane8_any _ HS6.out).mono ?_
        rintro e w7 ⟨rfl, hb7⟩
        have HB7 := hid (below_step HB6.out hb7)
        clear hb7
        go_wp2_with fail
        go_ret
        exact ⟨rfl, HB7.out⟩
end Go.Proofs.YtmbelhdkaepohaaGreatDoor

namespace Go.Proofs.YtmbelhdkaepohaaGreatDoor.graphReads
set_option maxRecDepth 100000
open Go.ChangeShapes Go.WideShapes Go.ChangeAt Go.RowKit
open Go.ChangeMaps (open_string)
set_option linter.unusedVariables false

theorem rhok_iarg {W : World} {A : Option Addr} {n c : Nat} {l : List Int} (h : IArg W A n l) (hn : n ≤ maxLen) : RHok W [] ⟨A, n, c, l⟩ := by
  refine ⟨?_, h.len, by unfold maxLen at hn; show n ≤ _; omega⟩
  rcases h.lies with h | ⟨ad, e, hb, hc⟩
  · exact .inl h
  · exact .inr ⟨ad, e, ⟨hb, by simp⟩, hc⟩
theorem reads (os : Os) {H : Type} (enc : TypeId × Value → H) : ∃ places, DataW.whole enc Tryz.prog ((door os).forCall (fun _ _ => 0) ⟨#[], #[.slice none 0 0, .agg #[.slice none 0 0, .slice none 0 0, .slice none 0 0], .slice none 0 0], []⟩).memory Tryz.f3.params.toList Rows.graphReadsSpec.vars false (#[.slice none 0 0, .agg #[.slice none 0 0, .slice none 0 0, .slice none 0 0], .slice none 0 0] : Array Value).toList 8 = some ([.nil, .agg [.nil, .nil, .nil], .nil], [], places) :=
  ⟨[], by kernel_rfl⟩

theorem lifted (os : Os) (started : os.Started) (H : Type) (enc : TypeId × Value → H) (F : Stop.Interp) :
    ReturnsInHanded {} Tryz.checked os 3 .any ((OpenSpec.ofChange Rows.graphReadsSpec).preRow enc Tryz.prog Tryz.f3 Rows.graphReadsRow.domain false Rows.graphReadsRow.laid) (((OpenSpec.ofChange Rows.graphReadsSpec).at F).post enc Tryz.prog Tryz.f3 false true false false) := by
  obtain ⟨places, hx⟩ := reads os enc
  refine returnsInHanded_of_row (C := Tryz.checked) (s := OpenSpec.ofChange Rows.graphReadsSpec) own started (by kernel_rfl) Tryz.func3
    (witness_row_atRef (enc := enc) (C := Tryz.checked) false (door os) #[.slice none 0 0, .agg #[.slice none 0 0, .slice none 0 0, .slice none 0 0], .slice none 0 0] rfl (door_vars os _) (door_rest os _) (by kernel_rfl)
      (OpenSpec.preRow_of_cond 8 hx (by kernel_rfl) (fun k hk => by cases hk) (by kernel_rfl) (door_met os _))) ?_
  intro W base args ds gs before hval0 hW _ _ _ hL hsh _
  have hval : ∀ (j : Nat) t v, Tryz.f3.params[j]? = some t → args[j]? = some v → Value.okWide Tryz.prog W .any base t v := hval0
  have hW' := hW
  obtain ⟨p, q, hA0, hV, rfl, hfz, hnd⟩ := hW
  have hA : DataW.TrodAll enc Tryz.prog W 0 (fun _ => true) true Tryz.f3.params.toList args.toList ds p := hA0
  rw [Tryz.params3] at hA hval
  obtain ⟨v0, vs0, d0, ds0, p0, q0, hargs, rfl, rfl, h0, r0⟩ := trodAll_cons hA
  obtain ⟨v1, vs1, d1, ds1, p1, q1, rfl, rfl, rfl, h1, r1⟩ := trodAll_cons r0
  obtain ⟨v2, vs2, d2, ds2, p2, q2, rfl, rfl, rfl, h2, r2⟩ := trodAll_cons r1
  obtain ⟨rfl, rfl, rfl⟩ := trodAll_nil r2
  obtain rfl : args = #[v0, v1, v2] := by cases args; simp_all
  obtain ⟨rfl, rfl⟩ := trodVars_none hV
  have k0 := h0
  have lt0 : ∀ x ∈ p0, x.block < W.heap.size := by obtain ⟨m, hm⟩ := k0; exact DataW.trod_lt m _ _ _ hm
  obtain ⟨a0, n0, c0, l0, rfl, g0, m0⟩ := open_list (hval 0 22 v0 rfl rfl) h0
  have k1 := h1
  have lt1 : ∀ x ∈ p1, x.block < W.heap.size := by obtain ⟨m, hm⟩ := k1; exact DataW.trod_lt m _ _ _ hm
  obtain ⟨x1, rfl, g1, gS1, gP1⟩ := open_graphR (hval 1 26 v1 rfl rfl) h1
  have k2 := h2
  have lt2 : ∀ x ∈ p2, x.block < W.heap.size := by obtain ⟨m, hm⟩ := k2; exact DataW.trod_lt m _ _ _ hm
  obtain ⟨a2, n2, c2, l2, rfl, g2, m2⟩ := open_list (hval 2 22 v2 rfl rfl) h2
  clear hA0 hval0
  refine (lawGreads a0 n0 c0 l0 x1 ⟨a2, n2, c2, l2⟩ W g0 m0 g1 (rhok_iarg g2 m2) (shp1 hL)).mono fun e W' ⟨he, bel⟩ => ?_
  subst he
  exact ⟨_, rfl, _, _, _, [], _, [], hW', trodAll_mk1 (shut_bool Tryz.underlying4 _), (trodAll_cons_mk (Below.trod laidOut (by kernel_rfl) (of_decide_eq_true (by kernel_rfl)) k0 bel lt0) (trodAll_cons_mk (Below.trod laidOut (by kernel_rfl) (of_decide_eq_true (by kernel_rfl)) k1 bel lt1) (trodAll_cons_mk (Below.trod laidOut (by kernel_rfl) (of_decide_eq_true (by kernel_rfl)) k2 bel lt2) trodAll_mk0))), rfl, bel.frame _, fun h => by cases h⟩

theorem said : Rows.GraphReadsSaid :=
  OpenClaim.holds_of_cond 3 Tryz.f3 rfl rfl rfl rfl rfl rfl rfl ⟨rfl, rfl, rfl, rfl, rfl⟩ rfl rfl rfl rfl rfl (by kernel_rfl) Tryz.func3 (by kernel_rfl)
    (of_decide_eq_true (by kernel_rfl)) (by unfold Func.isWrapper; first | (rw [if_pos (by decide +kernel)]; kernel_rfl) | (rw [if_neg (by decide +kernel)]; exact ⟨rfl, rfl⟩))
    (fun os started H enc _ F => by rw [OpenClaim.pre_eq_preRow]; exact lifted os started H enc F)

theorem plain (f : FuncId) (fn : Func) (hf : Tryz.pinned.checked.prog.funcNamed "flowquery/flqlaw8.GraphReads" = some f) (hfn : Tryz.pinned.checked.prog.funcs[f]? = some fn) :
    false = Tryz.pinned.checked.prog.looks [] ∧ ∀ (j : Nat) t, fn.params[j]? = some t → Tryz.pinned.checked.prog.wantsStandIn t = false := by
  obtain rfl : f = 3 := Option.some.inj ((show Tryz.prog.funcNamed "flowquery/flqlaw8.GraphReads" = some 3 by kernel_rfl).symm.trans hf) |>.symm
  obtain rfl : fn = Tryz.f3 := (Option.some.inj (Tryz.func3.symm.trans hfn)).symm
  refine ⟨by kernel_rfl, fun j t ht => ?_⟩
  rw [Tryz.params3] at ht
  have hm : t ∈ [22, 26, 22] := by simpa using Array.mem_of_getElem? ht
  have hall : ([22, 26, 22].all fun u => !Tryz.prog.wantsStandIn u) = true := by kernel_rfl
  exact (show Tryz.prog.wantsStandIn t = false by simpa using List.all_eq_true.1 hall t hm)

theorem proved : Rows.GraphReadsCardSaid :=
  Claim7.holds_tied_plain_at .later [] _ _ _ _ said (fun _ h => by cases h) (by kernel_rfl) (fun _ h => by cases h) graphReads_row_tie rfl ⟨rfl, rfl⟩ (by kernel_rfl) rfl plain (by kernel_rfl)
#print axioms proved
end Go.Proofs.YtmbelhdkaepohaaGreatDoor.graphReads
