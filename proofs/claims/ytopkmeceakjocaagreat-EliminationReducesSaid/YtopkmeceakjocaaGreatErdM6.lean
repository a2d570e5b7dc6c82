/- EliminationReduces holds for every input: reducing a web to some unknowns keeps their values and leaves arcs only from them. No condition: every list of numbers, in whatever memory, on every schedule. -/
import Derived.Deep.AppendLies
import Derived.Test.YtopkmeceakjocaaGreatErdM5
import Derived.Test.YtopkmeceakjocaaGreatErdM0d
import Derived.Test.YtopkmeceakjocaaGreatErdM4
namespace Go.Proofs.YtopkmeceakjocaaGreat
set_option maxRecDepth 20000
set_option linter.unusedVariables false
set_option linter.unusedSimpArgs false
open Go.ChangeShapes Go.WideShapes Go.ChangeAt Go.RowKit
structure Rk (w2 : World) (T N : Nat) (V : Value) (l : List Int) (u : World) : Prop where
 tp : Tape u T
 gr : w2.grownBy u (some T)
 ow : u.ownsRow w2.heap.size 3 1 V l.length (ints l)
 lm : ∀ m ∈ l, 0 ≤ m ∧ m < (N : Int)
section
variable {w2 u u' : World} {T N : Nat} {V : Value} {l : List Int}
theorem Rk.below (h : Rk w2 T N V l u) (hb : Below u.heap.size u u') : Rk w2 T N V l u' := ⟨h.tp.below hb h.tp.lt, grown_trans h.gr (grown_of_below hb _), (Stp1.below (t := 0) hb).own h.ow (by decide), h.lm⟩
theorem Rk.tape (h : Rk w2 T N V l u) (ht : Tape u' T) (hg : u.grownBy u' (some T)) : Rk w2 T N V l u' :=
 have hs : Stp1 80 u u' := ⟨_, hg, fun k e => by obtain rfl := Option.some.inj e; exact h.tp.typ⟩
 ⟨ht, grown_trans h.gr hg, hs.own h.ow (by decide), h.lm⟩
theorem Rk.app {V' : Value} {m : Int} (h : Rk w2 T N V l u) (hg : u.grownBy u' V.ownBlock) (ho : u'.ownsRow w2.heap.size 3 1 V' (l.length + 1) (ints l ++ [.int .i64 m])) (hm : 0 ≤ m ∧ m < (N : Int)) (hT : T < w2.heap.size) : Rk w2 T N V' (l ++ [m]) u' := by
 have hs : Stp1 3 u u' := ⟨_, hg, fun k e => own_typ h.ow e⟩
 have hsz := h.gr.size
 refine ⟨h.tp.keep fun k hk => hg.block k (by omega) (fun e => by have := (h.ow.lt k e.symm).1; omega), ⟨hg.os.trans h.gr.os, hg.tape.trans h.gr.tape, hg.output.trans h.gr.output, Nat.le_trans h.gr.size hg.size, fun k hk hne => (hg.block k (by omega) fun e => by have := (h.ow.lt k e.symm).1; omega).trans (h.gr.block k hk hne)⟩, ?_, fun x hx => ?_⟩
 · rw [List.length_append, List.length_singleton]
   unfold ints at ho ⊢
   rw [List.map_append]
   exact ho
 · rcases List.mem_append.1 hx with hx | hx
   · exact h.lm x hx
   · rw [List.mem_singleton.1 hx]; exact hm
end
theorem hasI_yes {l : List Int} {m : Int} (h : m ∈ l) : hasI l m = true := by unfold hasI; simpa using h
set_option maxHeartbeats 25600000 in
theorem lawReduces (At : Option Addr) (nt ct : Nat) (zs : List Int) (w : World) (ht : IArg w At nt zs) (hnt : nt ≤ maxLen) :
 Calls Tryz.prog 7 #[.slice At nt ct] w fun e w' => e = .returned (.bool true) ∧ Below w.heap.size w w' := by
 obtain ⟨i1, hi, hz0, hz1, hz2⟩ := info_parts info3
 have Hi := hid hi; have Hz0 := hid hz0; have Hz1 := hid hz1; have Hz2 := hid hz2
 clear hi hz0 hz1 hz2
 have HT := hid (tape_new (c := ct) ht hnt)
 have HB := hid ((Below.refl w.heap.size w).alloc (Nat.le_refl _) (.cells #[.slice At nt ct, .int .i64 0] 80))
 clear ht
 go_enter Tryz.func7, Tryz.ntmps7
 go_wp2_with fail
 refine (new_any At nt ct w).mono ?_
 rintro e w0 ⟨rfl, rfl⟩
 go_wp2_with fail
 refine (lweb_any w.heap.size 6 _ HT.out (by omega) (by omega)).mono ?_
 rintro e w1 ⟨x, v, N, rfl, hx, ho, hk, hv, hN1, hN, htp, hgr⟩
 obtain ⟨BA, IA, bc, ic, bl, il, rfl⟩ := WB.parts ho
 have hba := (Below.refl w1.heap.size w1).alloc (Nat.le_refl _) (.cells #[.int .i64 v, .slice BA N bc, .slice IA N ic] 67)
 have HB2 := hid (below_step (after_app HB.out hgr (Nat.le_refl _)) hba)
 have Hx2 := hid (hx.below hba)
 have HBx := hid (Fb.new w1 #[.int .i64 v, .slice BA N bc, .slice IA N ic] 67)
 have HT2 := hid (htp.below hba htp.lt)
 have Ho := hid ho
 have Hk := hid hk
 clear hx ho hk htp hgr hba HT HB
 unfold WB.a
 go_upto_region 3 with fail
 generalize w1.alloc (.cells #[.int .i64 v, .slice BA N bc, .slice IA N ic] 67) = w2 at *
 generalize w1.heap.size = bw at *
 have hTw2 : w.heap.size < w2.heap.size := HT2.out.lt
 go_wp2_with fail
 refine (next_any w.heap.size 4 w2 HT2.out (by omega)).mono ?_
 rintro e w3 ⟨q, rfl, h0, h1, ht3, hg3, -⟩
 obtain ⟨q, rfl⟩ := Int.eq_ofNat_of_zero_le h0
 have hq3 : q ≤ 3 := by omega
 have HK0 := hid (show Rk w2 w.heap.size N (.slice none 0 0) [] w3 from ⟨ht3, hg3, World.ownsRow_nil _ _ _ _, by simp⟩)
 clear h0 h1 ht3 hg3
 go_wp2_with fail
 go_loopw [5, 6] (fun kv iv wr => ∃ (i : Nat) (l : List Int) (A : Option Addr) (L c : Nat), kv = .slice A L c ∧ iv = .int .i64 i ∧ L = l.length ∧ L + i ≤ 3 ∧ Hid (Rk w2 w.heap.size N (.slice A L c) l wr)) (fun _ iv _ => (intOf iv).toNat)
 case atStart => exact ⟨q, [], none, 0, 0, rfl, rfl, rfl, by omega, HK0⟩
 case round =>
  clear HK0 hq3
  obtain ⟨i, l, A, L, c, rfl, rfl, rfl, hli, HK⟩ := hrel
  obtain ⟨x0, x1, x2⟩ := (HBx.out.grown HK.out.gr fun e => (HBx.out.typ.ne HT2.out.typ (by decide)) (Option.some.inj e)).three
  have hlx : bw < wr.heap.size := Nat.lt_of_lt_of_le HBx.out.lt HK.out.gr.size
  by_cases hpos : 0 < i
  · have t1 : decide (0 < (i : Int)) = true := by simp; omega
    go_wp2_with fail
    refine (next_any w.heap.size N wr HK.out.tp (by omega)).mono ?_
    rintro e wa ⟨m, rfl, h0, h1, hta, hga, -⟩
    have Hm := hid (show 0 ≤ m ∧ m < (N : Int) by omega)
    have hKa := HK.out.tape hta hga
    have HKb := hid (hKa.below ((Below.refl wa.heap.size wa).alloc (Nat.le_refl _) (.cells #[.int .i64 m] 3)))
    have hsz : w2.heap.size ≤ wa.heap.size := hKa.gr.size
    clear h0 h1 hta hga hKa HK x0 x1 x2 t1
    go_wp2_with (first
     | (at_builtin
        refine wpList_append_lies _ rfl _ _ 22 rfl w2.heap.size 3 i1 _ 1 8 Tryz.underlying22 Hi.out Hz0.out Hz1.out Hz2.out rfl (by decide) _ l.length (ints l) rfl HKb.out.ow ⟨wa.heap.size, 0, none⟩ 1 1 [Value.int .i64 m] rfl rfl (int_new wa m 3) (one_int1 _) (by omega) (by unfold maxLen; omega) (by omega) (by rw [World.size_alloc]; omega) _ rfl ?_
        intro g5 cap5 w5 hown5 hgr5 hat5 hlt5
        have HKc := hid (HKb.out.app hgr5 hown5 Hm.out hTw2)
        clear hown5 hgr5 hat5 hlt5))
    go_roundw
    case rel => exact ⟨i - 1, l ++ [m], some ⟨g5, 0, none⟩, _, cap5, rfl, by first | go_num | (congr 1; omega), by simp, by omega, HKc⟩
    case measure => simp [intOf]; omega
  · have e0 : i = 0 := by omega
    have t1 : decide (0 < (i : Int)) = false := by simp; omega
    clear hpos
    have Hx3 := hid (Hx2.out.go (Go2.same HK.out.gr (.inr (by simp)) (ex := [some w.heap.size])))
    have HBx3 := hid (HBx.out.grown HK.out.gr fun e => (HBx.out.typ.ne HT2.out.typ (by decide)) (Option.some.inj e))
    have HB3 := hid (after_app HB2.out HK.out.gr (Nat.le_refl _))
    have HRk := hid (show RHok wr [] ⟨A, l.length, c, l⟩ from ⟨EAt.own HK.out.ow (by simp), rfl, by show l.length ≤ _; omega⟩)
    have HC := hid (reduce_any v N BA IA bc ic bl il ⟨A, l.length, c, l⟩ [some w.heap.size] [] wr Hx3.out Ho.out Hk.out HRk.out HK.out.lm (by show l.length ≤ 1000; omega) (by omega) (by omega))
    clear HK Hx2 HBx HT2 HB2
    go_wp2_with fail
    refine HC.out.mono ?_
    generalize wr = w3' at *
    rintro e w4 ⟨wo, gB, gI, B, J, rfl, how, hto, hq, hb4⟩
    have hba := (Below.refl w4.heap.size w4).alloc (Nat.le_refl _) (.cells #[.int .i64 v, .slice (some ⟨gB, 0, none⟩) N N, .slice (some ⟨gI, 0, none⟩) N N] 67)
    have hb5 := below_step hb4 hba
    have HB5 := hid (below_step HB3.out hb5)
    have HRk5 := hid (HRk.out.below hb5)
    have Hx5 := hid (Hx3.out.below hb5)
    have HBx5 := hid (HBx3.out.below hb5 HBx3.out.lt)
    have HBq5 := hid (Fb.new w4 #[.int .i64 v, .slice (some ⟨gB, 0, none⟩) N N, .slice (some ⟨gI, 0, none⟩) N N] 67)
    have How5 := hid (how.below hba)
    have Hto := hid hto
    have Hq := hid hq
    clear how hto hq hb4 hba hb5 HB3 Hx3 HBx3 HC HRk x0 x1 x2
    go_upto_region 9 with fail
    generalize w4.alloc (.cells #[.int .i64 v, .slice (some ⟨gB, 0, none⟩) N N, .slice (some ⟨gI, 0, none⟩) N N] 67) = w5 at *
    generalize w4.heap.size = bq at *
    obtain ⟨x0, x1, x2⟩ := HBx5.out.three
    have HC := hid (solveWeb_any _ v N _ w5 Hx5.out Ho.out Hk.out)
    unfold WB.a at HC
    go_wp2_with fail
    refine HC.out.mono ?_
    rintro e w6 ⟨K, g, lz, hK, rfl, -, hrow, hok, hvs, hb6⟩
    have HB6 := hid (below_step HB5.out hb6)
    have HRk6 := hid (HRk5.out.below hb6)
    have HBx6 := hid (HBx5.out.below hb6 HBx5.out.lt)
    have HBq6 := hid (HBq5.out.below hb6 HBq5.out.lt)
    have How6 := hid (How5.out.below hb6)
    have HA := hid (And.intro hK (And.intro hrow (And.intro hok hvs)))
    have Hsl := hid (fun (K2 : Nat) => same_least (K := K) (K2 := K2) Hx5.out Ho.out How5.out Hto.out hK)
    clear hK hrow hok hvs hb6 HB5 HBx5 HBq5 How5 HC Hx5 x0 x1 x2
    obtain ⟨x0, x1, x2⟩ := HBq6.out.three
    have HC := hid (solveWeb_any _ v N _ w6 (How6.out.wb (by omega)) (How6.out.wok (by omega) (by omega)) (How6.out.wlk hN1 (by omega)))
    unfold WB.a at HC
    go_wp2_with fail
    refine HC.out.mono ?_
    rintro e w7 ⟨K2, g2, l2, hK2, rfl, -, hrow2, hok2, hvs2, hb7⟩
    have HB7 := hid (below_step HB6.out hb7)
    have HRk7 := hid (HRk6.out.below hb7)
    have HBx7 := hid (HBx6.out.below hb7 HBx6.out.lt)
    have HBq7 := hid (HBq6.out.below hb7 HBq6.out.lt)
    have How7 := hid (How6.out.below hb7)
    have HE := hid (same_end v N g g2 lz l2 w6 w7 HA.out.2.1 hrow2 hb7 HA.out.2.2.1 hok2 (by rw [HA.out.2.2.2, hvs2]; exact Hsl.out K2 hK2) (by omega) (by omega) w7 (Below.refl _ _))
    clear hK2 hrow2 hok2 hvs2 hb7 HB6 HBx6 HBq6 How6 HC Hsl HA x0 x1 x2
    obtain ⟨x0, x1, x2⟩ := HBx7.out.three
    obtain ⟨y0, y1, y2⟩ := HBq7.out.three
    have hlx := HBx7.out.lt
    have hlq := HBq7.out.lt
    go_wp2_with fail
    go_loop [13] (fun iv => ∃ i : Nat, i ≤ N ∧ iv = .int .i64 i) (fun iv => N - (intOf iv).toNat)
    case atStart => exact ⟨0, by omega, rfl⟩
    case round =>
     obtain ⟨i, hi, rfl⟩ := hrel
     by_cases hlt : i < N
     · obtain ⟨r, hr, hrm⟩ := get_at How7.out.jl hlt
       have m0 := How7.out.cellM (k := i) (x := .slice r.A r.n r.c) (by rw [List.getElem?_map, hr]; rfl)
       have hlI := How7.out.fi.lt
       have Hr := hid (And.intro hr hrm)
       have n0 : (0 : Int) ≤ i := by omega
       have n1 : (i : Int) < N := by omega
       have n2 : (i : Int).toNat = i := by omega
       clear hr hrm
       go_wp2_with fail
       go_loop [14] (fun jv => ∃ j : Nat, j ≤ r.n ∧ jv = .int .i64 j) (fun jv => r.n - (intOf jv).toNat)
       case atStart => exact ⟨0, by omega, rfl⟩
       case round =>
        obtain ⟨j, hj, rfl⟩ := hrel
        have hrn : r.n ≤ N := (How7.out.rt r Hr.out.2).few
        by_cases hjl : j < r.n
        · obtain ⟨a, ha, ham⟩ := get_at (How7.out.rt r Hr.out.2).len hjl
          obtain ⟨ga, hA, -, hgl, -, hcc, -⟩ := (How7.out.rt r Hr.out.2).at ha
          have z0 : w7.cell? ⟨ga, j * 6, none⟩ = some (.int .i64 a.m) := hcc 0 (by decide)
          have hh := hasI_yes (Hq.out r Hr.out.2 a ham)
          have HC2 := has_any ⟨A, l.length, c, l⟩ a.m [] w7 HRk7.out
          rw [hh] at HC2
          have HC2 := hid HC2
          have j0 : (0 : Int) ≤ j := by omega
          have j1 : (j : Int) < r.n := by omega
          have j2 : (j : Int).toNat = j := by omega
          have HAd := hid hA
          clear ha ham hcc hh
          rw [hA] at m0
          clear hA
          go_wp2_with fail
          refine HC2.out.mono ?_
          rintro _ w8 ⟨rfl, rfl⟩
          go_wp2_with fail
          go_round
          case rel => exact ⟨j + 1, by omega, by go_num⟩
          case measure => simp [intOf]; omega
        · have e : j = r.n := by omega
          clear hjl
          go_wp2_with fail
          go_round
          case rel => exact ⟨i + 1, by omega, by go_num⟩
          case measure => simp [intOf]; omega
     · have e : i = N := by omega
       clear hlt
       go_wp2_with fail
       clear x0 x1 x2 y0 y1 y2
       refine HE.out.mono ?_
       rintro e w8 ⟨rfl, hb8⟩
       have HB8 := hid (below_step HB7.out hb8)
       clear hb8 HE
       go_wp2_with fail
       refine (sane13_any _).mono ?_
       rintro e w9 ⟨rfl, hb9⟩
       have HB9 := hid (below_step HB8.out hb9)
       clear hb9
       go_wp2_with fail
       go_ret
       exact ⟨rfl, HB9.out⟩
end Go.Proofs.YtopkmeceakjocaaGreat
namespace Go.Proofs.YtopkmeceakjocaaGreat.eliminationReduces
open Go.ChangeShapes Go.WideShapes Go.ChangeAt Go.RowKit
open Go.ChangeMaps (open_string)
set_option linter.unusedVariables false
theorem own : ownKnob Tryz.prog.godebug = none := by kernel_rfl
theorem laidOut : laidOutB Tryz.prog = true := by kernel_rfl
set_option maxRecDepth 100000 in
theorem lifted (os : Os) (started : os.Started) (H : Type) (enc : TypeId × Value → H) :
 ReturnsInHanded {} Tryz.checked os 7 .any (Rows.eliminationReducesSpec.pre6 enc Tryz.prog Tryz.f7 Rows.eliminationReducesRow.domain false) (Rows.eliminationReducesSpec.post enc Tryz.prog Tryz.f7 false true false false) := by
 refine returnsInHanded_of_change (C := Tryz.checked) own started (by kernel_rfl) Tryz.func7
  (ChangeSpec.witness6 (enc := enc) (C := Tryz.checked) false ⟨#[], #[.slice none 0 0], []⟩ 8 (by kernel_rfl) (by kernel_rfl) (by kernel_rfl) (by kernel_rfl)) ?_
 intro W base args ds gs before hval0 hW hcnd _
 have hval : ∀ (j : Nat) t v, Tryz.f7.params[j]? = some t → args[j]? = some v → Value.okWide Tryz.prog W .any base t v := hval0
 have hW' := hW
 obtain ⟨p, q, hA0, hV, rfl, hfz, hnd⟩ := hW
 have hA : DataW.TrodAll enc Tryz.prog W 0 (fun _ => true) true Tryz.f7.params.toList args.toList ds p := hA0
 rw [Tryz.params7] at hA hval
 obtain ⟨v0, vs0, d0, ds0, p0, q0, hargs, rfl, rfl, h0, r0⟩ := trodAll_cons hA
 obtain ⟨rfl, rfl, rfl⟩ := trodAll_nil r0
 obtain rfl : args = #[v0] := by cases args; simp_all
 obtain ⟨rfl, rfl⟩ := trodVars_none hV
 have k0 := h0
 have lt0 : ∀ x ∈ p0, x.block < W.heap.size := by obtain ⟨m, hm⟩ := k0; exact DataW.trod_lt m _ _ _ hm
 obtain ⟨a0, n0, c0, l0, rfl, g0, m0⟩ := open_list (hval 0 22 v0 rfl rfl) h0
 clear hA0 hval0
 refine (lawReduces a0 n0 c0 l0 W g0 m0).mono fun e W' ⟨he, bel⟩ => ?_
 subst he
 exact ⟨_, rfl, _, _, _, [], _, [], hW', trodAll_mk1 (shut_bool Tryz.underlying4 _), (trodAll_cons_mk (Below.trod laidOut (by kernel_rfl) (of_decide_eq_true (by kernel_rfl)) k0 bel lt0) trodAll_mk0), rfl, bel.frame _, fun h => by cases h⟩
theorem over : Rows.eliminationReducesRow.holds Tryz.pinned (OpenSpec.ofChange Rows.eliminationReducesSpec) :=
 OpenClaim.holds_of_wide 7 Tryz.f7 rfl rfl rfl rfl rfl rfl rfl ⟨rfl, rfl, rfl, rfl, rfl⟩ rfl rfl rfl rfl rfl (by kernel_rfl) Tryz.func7 (by kernel_rfl)
  (of_decide_eq_true (by kernel_rfl)) (by unfold Func.isWrapper; first | (rw [if_pos (by decide +kernel)]; kernel_rfl) | (rw [if_neg (by decide +kernel)]; exact ⟨rfl, rfl⟩))
  (fun os started H enc _ => lifted os started H enc)
theorem proved : Rows.EliminationReducesSaid := over
#print axioms proved
end Go.Proofs.YtopkmeceakjocaaGreat.eliminationReduces
