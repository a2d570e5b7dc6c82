/- Merged texts: what YtopkmeceakjocaaGreatEliminationReducesProof leans on. -/
import Derived.Deep.DeepCutAuto
import Derived.Deep.AppendLies
import Derived.Deep.QuietTactic
import Derived.BigQuiet
import Derived.Test.YtopkmeceakjocaaGreatErdM0
import Derived.Test.YtopkmeceakjocaaGreatErdM0d
import Derived.Test.YtopkmeceakjocaaGreatErdM0a
import Derived.Test.YtopkmeceakjocaaGreatErdM1
import Derived.Test.YtopkmeceakjocaaGreatErdM2
import Derived.Test.YtopkmeceakjocaaGreatErdM4
namespace Go.Proofs.YtopkmeceakjocaaGreat
set_option maxRecDepth 20000
set_option linter.unusedVariables false
end Go.Proofs.YtopkmeceakjocaaGreat
namespace Go.Proofs.YtopkmeceakjocaaGreat
set_option maxRecDepth 20000
set_option linter.unusedVariables false
set_option linter.unusedSimpArgs false
open Go.ChangeShapes Go.WideShapes Go.ChangeAt Go.RowKit
section
variable {w u u' : World} {S : Array Value} {gL gF N : Nat} {lf l l0 : List Int} {V : Value}
end
theorem zsame_all2 {v N : Nat} {l m : List ZH} (hl : l.length = N) (hm : m.length = N) (h1 : ∀ z ∈ l, z.W = v ∧ Bs.Fit v z.ws) (h2 : ∀ z ∈ m, z.W = v ∧ Bs.Fit v z.ws) (he : l.map ZH.ws = m.map ZH.ws) : (l.zip m).all zsame = true := by
 have len : l.length = m.length := by omega
 clear hl hm
 induction l generalizing m with
 | nil => simp
 | cons a l ih => cases m with
   | nil => simp at len
   | cons b m =>
     rw [List.map_cons, List.map_cons] at he
     injection he with e1 e2
     rw [List.zip_cons_cons, List.all_cons, ih (fun z hz => h1 z (List.mem_cons_of_mem _ hz)) (fun z hz => h2 z (List.mem_cons_of_mem _ hz)) e2 (by simpa using len)]
     unfold zsame sameB
     rw [(h1 a List.mem_cons_self).1, (h2 b List.mem_cons_self).1, e1]
     simp
theorem same_end (v N g g2 : Nat) (l l2 : List ZH) (w w2 : World) (h1 : VRow w g N l) (h2 : VRow w2 g2 N l2) (hb : Below w.heap.size w w2) (o1 : ∀ z ∈ l, z.W = v ∧ Bs.Fit v z.ws) (o2 : ∀ z ∈ l2, z.W = v ∧ Bs.Fit v z.ws) (he : l.map ZH.ws = l2.map ZH.ws) (hv : v ≤ 256) (hN : N ≤ 256) (u : World) (hu : Below w2.heap.size w2 u) :
 Calls Tryz.prog 33 #[.slice (some ⟨g, 0, none⟩) N N, .slice (some ⟨g2, 0, none⟩) N N] u fun e w' => e = .returned (.bool true) ∧ Below u.heap.size u w' := by
 have z1 := (h1.below (below_step hb hu)).zl (show N ≤ 100000 by omega)
 have z2 := (h2.below hu).zl (show N ≤ 100000 by omega)
 have := sameSets_any ⟨some ⟨g, 0, none⟩, N, N, l⟩ ⟨some ⟨g2, 0, none⟩, N, N, l2⟩ [] [] u z1 z2 (fun z hz => by
  have h1 := (z1.all z hz).len
  have h2 := (o1 z hz).2.len
  rw [← h1, h2]
  unfold Bs.nw maxLen; omega)
 have hz : (l.zip l2).all zsame = true := zsame_all2 h1.len h2.len o1 o2 he
 have e : (decide ((⟨some ⟨g, 0, none⟩, N, N, l⟩ : ZL).n = (⟨some ⟨g2, 0, none⟩, N, N, l2⟩ : ZL).n) && (l.zip l2).all zsame) = true := by rw [hz]; simp
 rw [e] at this
 exact this
theorem WB.parts {x : WB} {v N : Nat} (ho : WOk x v N) : ∃ (BA IA : Option Addr) (bc ic : Nat) (bl : List ZH) (il : List AL), x = ⟨v, ⟨BA, N, bc, bl⟩, ⟨IA, N, ic, il⟩⟩ := by
 obtain ⟨XW, ⟨BA, bn, bc, bl⟩, ⟨IA, inn, ic, il⟩⟩ := x
 have h1 := ho.w
 have h2 := ho.bn
 have h3 := ho.inn
 simp only at h1 h2 h3
 subst h1
 subst h2
 subst h3
 exact ⟨BA, IA, bc, ic, bl, il, rfl⟩
theorem same_least {x : WB} {v N K K2 gB gI : Nat} {B : List ZH} {J : List AL} {w0 u u' : World} {ex : List (Option Nat)} {M : List Value} (hx : WBok u ex x) (ho : WOk x v N) (how : Ow w0 v N gB gI B M J u') (hto : x.pw.To (pwO v B J)) (hK : x.pw.Last K) (hK2 : (pwO v B J).Last K2) : x.pw.round K = (pwO v B J).round K2 :=
 (hto.least (ho.pw hx).inn how.pok.2.1 (ho.pw hx).ok how.pok.1 hK hK2).symm
set_option maxHeartbeats 25600000 in
theorem lawKeeps (At : Option Addr) (nt ct : Nat) (zs : List Int) (w : World) (ht : IArg w At nt zs) (hnt : nt ≤ maxLen) :
 Calls Tryz.prog 6 #[.slice At nt ct] w fun e w' => e = .returned (.bool true) ∧ Below w.heap.size w w' := by
 have HT := hid (tape_new (c := ct) ht hnt)
 have HB := hid ((Below.refl w.heap.size w).alloc (Nat.le_refl _) (.cells #[.slice At nt ct, .int .i64 0] 80))
 clear ht
 go_enter Tryz.func6, Tryz.ntmps6
 go_wp2_with fail
 refine (new_any At nt ct w).mono ?_
 rintro e w0 ⟨rfl, rfl⟩
 go_wp2_with fail
 refine (lweb_any w.heap.size 5 _ HT.out (by omega) (by omega)).mono ?_
 rintro e w1 ⟨x, v, N, rfl, hx, ho, hk, hv, hN1, hN, htp, hgr⟩
 obtain ⟨BA, IA, bc, ic, bl, il, rfl⟩ := WB.parts ho
 have hba := (Below.refl w1.heap.size w1).alloc (Nat.le_refl _) (.cells #[.int .i64 v, .slice BA N bc, .slice IA N ic] 67)
 have HB2 := hid (below_step (after_app HB.out hgr (Nat.le_refl _)) hba)
 have Hx2 := hid (hx.below hba)
 have HBx := hid (Fb.new w1 #[.int .i64 v, .slice BA N bc, .slice IA N ic] 67)
 have HT2 := hid (htp.below hba htp.lt)
 have Ho := hid ho
 have Hk := hid hk
 clear hx ho hk htp hgr hba HT HB
 unfold WB.a
 go_upto_region 3 with fail
 generalize w1.alloc (.cells #[.int .i64 v, .slice BA N bc, .slice IA N ic] 67) = w2 at *
 generalize w1.heap.size = bw at *
 obtain ⟨x0, x1, x2⟩ := HBx.out.three
 go_wp2_with fail
 refine (next_any w.heap.size N w2 HT2.out (by omega)).mono ?_
 rintro e w3 ⟨n, rfl, h0, h1, ht3, hg3, -⟩
 obtain ⟨n, rfl⟩ := Int.eq_ofNat_of_zero_le h0
 have hnN : n < N := by omega
 have Hx3 := hid (Hx2.out.go (Go2.same hg3 (.inr (by simp)) (ex := [some w.heap.size])))
 have HBx3 := hid (HBx.out.grown hg3 fun e => (HBx.out.typ.ne HT2.out.typ (by decide)) (Option.some.inj e))
 have HB3 := hid (after_app HB2.out hg3 (Nat.le_refl _))
 have HC := hid (eEliminate_any v N n BA IA bc ic bl il [some w.heap.size] w3 Hx3.out Ho.out Hk.out (by omega) (by omega) hnN)
 clear h0 h1 ht3 hg3 HB2 Hx2 HBx HT2 x0 x1 x2
 obtain ⟨x0, x1, x2⟩ := HBx3.out.three
 go_wp2_with fail
 refine HC.out.mono ?_
 rintro e w4 ⟨gB, gI, B, J, rfl, how, hto, hq, hb4⟩
 have hba := (Below.refl w4.heap.size w4).alloc (Nat.le_refl _) (.cells #[.int .i64 v, .slice (some ⟨gB, 0, none⟩) N N, .slice (some ⟨gI, 0, none⟩) N N] 67)
 have hb5 := below_step hb4 hba
 have HB5 := hid (below_step HB3.out hb5)
 have Hx5 := hid (Hx3.out.below hb5)
 have HBx5 := hid (HBx3.out.below hb5 HBx3.out.lt)
 have HBq5 := hid (Fb.new w4 #[.int .i64 v, .slice (some ⟨gB, 0, none⟩) N N, .slice (some ⟨gI, 0, none⟩) N N] 67)
 have How5 := hid (how.below hba)
 have Hto := hid hto
 have Hq := hid hq
 clear how hto hq hb4 hba hb5 HB3 Hx3 HBx3 HC x0 x1 x2
 go_upto_region 5 with fail
 generalize w4.alloc (.cells #[.int .i64 v, .slice (some ⟨gB, 0, none⟩) N N, .slice (some ⟨gI, 0, none⟩) N N] 67) = w5 at *
 generalize w4.heap.size = bq at *
 obtain ⟨x0, x1, x2⟩ := HBx5.out.three
 have HC := hid (solveWeb_any _ v N _ w5 Hx5.out Ho.out Hk.out)
 unfold WB.a at HC
 go_wp2_with fail
 refine HC.out.mono ?_
 rintro e w6 ⟨K, g, l, hK, rfl, -, hrow, hok, hvs, hb6⟩
 have HB6 := hid (below_step HB5.out hb6)
 have HBx6 := hid (HBx5.out.below hb6 HBx5.out.lt)
 have HBq6 := hid (HBq5.out.below hb6 HBq5.out.lt)
 have How6 := hid (How5.out.below hb6)
 have HA := hid (And.intro hK (And.intro hrow (And.intro hok hvs)))
 have Hsl := hid (fun (K2 : Nat) => same_least (K := K) (K2 := K2) Hx5.out Ho.out How5.out Hto.out hK)
 clear hK hrow hok hvs hb6 HB5 HBx5 HBq5 How5 HC Hx5 x0 x1 x2
 obtain ⟨x0, x1, x2⟩ := HBq6.out.three
 have HC := hid (solveWeb_any _ v N _ w6 (How6.out.wb (by omega)) (How6.out.wok (by omega) (by omega)) (How6.out.wlk hN1 (by omega)))
 unfold WB.a at HC
 go_wp2_with fail
 refine HC.out.mono ?_
 rintro e w7 ⟨K2, g2, l2, hK2, rfl, -, hrow2, hok2, hvs2, hb7⟩
 have HB7 := hid (below_step HB6.out hb7)
 have HBx7 := hid (HBx6.out.below hb7 HBx6.out.lt)
 have HBq7 := hid (HBq6.out.below hb7 HBq6.out.lt)
 have How7 := hid (How6.out.below hb7)
 have HE := hid (same_end v N g g2 l l2 w6 w7 HA.out.2.1 hrow2 hb7 HA.out.2.2.1 hok2 (by rw [HA.out.2.2.2, hvs2]; exact Hsl.out K2 hK2) (by omega) (by omega) w7 (Below.refl _ _))
 clear hK2 hrow2 hok2 hvs2 hb7 HB6 HBx6 HBq6 How6 HC Hsl HA x0 x1 x2
 obtain ⟨x0, x1, x2⟩ := HBx7.out.three
 obtain ⟨y0, y1, y2⟩ := HBq7.out.three
 have hlx := HBx7.out.lt
 have hlq := HBq7.out.lt
 go_wp2_with fail
 go_loop [12] (fun iv => ∃ i : Nat, i ≤ N ∧ iv = .int .i64 i) (fun iv => N - (intOf iv).toNat)
 case atStart => exact ⟨0, by omega, rfl⟩
 case round =>
  obtain ⟨i, hi, rfl⟩ := hrel
  by_cases hlt : i < N
  · obtain ⟨r, hr, hrm⟩ := get_at How7.out.jl hlt
    have m0 := How7.out.cellM (k := i) (x := .slice r.A r.n r.c) (by rw [List.getElem?_map, hr]; rfl)
    have hlI := How7.out.fi.lt
    have Hr := hid (And.intro hr hrm)
    have n0 : (0 : Int) ≤ i := by omega
    have n1 : (i : Int) < N := by omega
    have n2 : (i : Int).toNat = i := by omega
    clear hr hrm
    go_wp2_with fail
    go_loop [13] (fun jv => ∃ j : Nat, j ≤ r.n ∧ jv = .int .i64 j) (fun jv => r.n - (intOf jv).toNat)
    case atStart => exact ⟨0, by omega, rfl⟩
    case round =>
     obtain ⟨j, hj, rfl⟩ := hrel
     have hrn : r.n ≤ N := (How7.out.rt r Hr.out.2).few
     by_cases hjl : j < r.n
     · obtain ⟨a, ha, ham⟩ := get_at (How7.out.rt r Hr.out.2).len hjl
       obtain ⟨ga, hA, -, hgl, -, hcc, -⟩ := (How7.out.rt r Hr.out.2).at ha
       have z0 : w7.cell? ⟨ga, j * 6, none⟩ = some (.int .i64 a.m) := hcc 0 (by decide)
       have hne := Hq.out r Hr.out.2 a ham
       have t : (a.m == (n : Int)) = false := by simpa using hne
       have j0 : (0 : Int) ≤ j := by omega
       have j1 : (j : Int) < r.n := by omega
       have j2 : (j : Int).toNat = j := by omega
       have HAd := hid hA
       clear ha ham hcc hne
       rw [hA] at m0
       clear hA
       go_wp2_with fail
       go_round
       case rel => exact ⟨j + 1, by omega, by go_num⟩
       case measure => simp [intOf]; omega
     · have e : j = r.n := by omega
       clear hjl
       go_wp2_with fail
       go_round
       case rel => exact ⟨i + 1, by omega, by go_num⟩
       case measure => simp [intOf]; omega
  · have e : i = N := by omega
    clear hlt
    go_wp2_with fail
    clear x0 x1 x2 y0 y1 y2
    refine HE.out.mono ?_
    rintro e w8 ⟨rfl, hb8⟩
    have HB8 := hid (below_step HB7.out hb8)
    clear hb8 HE
    go_wp2_with fail
    refine (sane13_any _).mono ?_
    rintro e w9 ⟨rfl, hb9⟩
    have HB9 := hid (below_step HB8.out hb9)
    clear hb9
    go_wp2_with fail
    go_ret
    exact ⟨rfl, HB9.out⟩
end Go.Proofs.YtopkmeceakjocaaGreat
