/- For every list of choices, every system, every root and all lists of numbers: of the systems that the choices make and of their spoiled copies, and of the given system if it is not too large to be examined, the package's Of and Closed agree with the reference, and the sanity check holds: ConeAgrees returns true and leaves its arguments as they were. -/
import Derived.Test.YtadkjnjibefocaaCc
import Derived.Test.YtadkjnjibefocaaCe
import Derived.Test.YtadkjnjibefocaaCf
import Derived.Test.YtadkjnjibefocaaCg
import Derived.Test.YtadkjnjibefocaaOpen
namespace Go.Proofs.Ytadkjnjibefocaa
set_option maxRecDepth 20000
open Go.ChangeShapes Go.WideShapes Go.ChangeAt Go.RowKit

theorem spoilS_any (T v N : Nat) (s : SY) (w : World) (ht : Tape w T) (hs : SYok w [some T] s) (hg : GSy s v N) (hN : N ≤ 100) : Calls Try.prog 10 #[.pointer (some ⟨T, 0, none⟩), s.a] w (RetSpo w T) := by
  obtain ⟨W, ⟨DA, dn, dc, lD⟩, ⟨TA, tn, tc, lT⟩, ⟨BA, bn, bc, lB⟩⟩ := s
  obtain ⟨h1, h2, h3, h4, h5, h6, h7, h8, h9⟩ := hg
  simp only at h1 h4 h5 h6 h7 h8 h9
  subst h1 h4 h5 h6
  obtain ⟨adD, e1⟩ := eat_some hs.d.lies (by have h := hs.d.len; simp only at h; rw [List.length_map]; show 0 < lD.length; omega)
  obtain ⟨adT, e2⟩ := eat_some hs.t.lies (by have h := hs.t.len; simp only at h; rw [flat_len FH.cells_len]; show 0 < lT.length * 5; omega)
  obtain ⟨adB, e3⟩ := eat_some hs.b.lies (by have h := hs.b.len; simp only at h; rw [flat_len ZH.cs_len]; show 0 < lB.length * 2; omega)
  simp only at e1 e2 e3
  subst e1 e2 e3
  exact spoilSys_any T v _ dc tc bc adD adT adB lD lT lB w ht h3 hN h2 hs (fun y hy => (h7 y hy).2) h8 h9
end Go.Proofs.Ytadkjnjibefocaa

namespace Go.Proofs.Ytadkjnjibefocaa
set_option maxRecDepth 20000
set_option linter.unusedVariables false
set_option linter.unusedSimpArgs false
open Go.ChangeShapes Go.WideShapes Go.ChangeAt Go.RowKit

/-- While the list is made. -/
structure Lsv (w : World) (T : Nat) (V : Value) (l : List Int) (u : World) : Prop where
  tp : Tape u T
  hT : T < w.heap.size
  gr : w.grownBy u (some T)
  ow : u.ownsRow w.heap.size 3 1 V l.length (ints l)
theorem Lsv.step {w u u' : World} {T : Nat} {V : Value} {l : List Int} (h : Lsv w T V l u) (ht : Tape u' T) (hg : u.grownBy u' (some T)) : Lsv w T V l u' :=
  ⟨ht, h.hT, grown_trans h.gr hg, h.ow.kept hg (Sg.far h.ow (by have := h.hT; omega))⟩
def RetLs (w : World) (T : Nat) (e : Ending) (w' : World) : Prop :=
  ∃ y : RH, e = .returned (.slice y.A y.n y.c) ∧ (∀ ex : List (Option Nat), (∀ k, some k ∈ ex → k < w.heap.size) → RHok w' ex y) ∧ y.n ≤ 3 ∧ Tape w' T ∧ w.grownBy w' (some T)
theorem grown_low {w u u' : World} {T : Nat} (h : w.grownBy u (some T)) (hB : Below w.heap.size u u') : w.grownBy u' (some T) := by
  obtain ⟨a1, a2, a3, a4, a5⟩ := h
  obtain ⟨b1, b2, b3, b4, b5⟩ := hB
  exact ⟨b1.trans a1, b2.trans a2, b3.trans a3, Nat.le_trans a4 b4, fun k h1 h2 => by first | exact (b5 k h1).trans (a5 k h1 h2) | exact (b5 k h2).trans (a5 k h1 h2)⟩
theorem Lsv.app {w u u' : World} {T : Nat} {V V' : Value} {l : List Int} {m : Int} (h : Lsv w T V l u) (hg : u.grownBy u' V.ownBlock) (ho : u'.ownsRow w.heap.size 3 1 V' (l.length + 1) (ints l ++ [.int .i64 m])) : Lsv w T V' (l ++ [m]) u' := by
  have hB : Below w.heap.size u u' := (Below.refl w.heap.size u).grown hg h.gr.size (fun k e => (h.ow.lt k e).1)
  exact ⟨h.tp.below hB h.hT, h.hT, grown_low h.gr hB, by
    rw [List.length_append, List.length_singleton]
    unfold ints at ho ⊢
    rw [List.map_append]
    exact ho⟩
set_option maxHeartbeats 6400000 in
theorem list14_any (T : Nat) (n : Int) (w : World) (ht : Tape w T) (hn : n ≤ 1000000) : Calls Try.prog 9 #[.pointer (some ⟨T, 0, none⟩), .int .i64 n] w (RetLs w T) := by
  obtain ⟨i1, hi, hz0, hz1, hz2⟩ := info_parts info3
  have Hi := hid hi; have Hz0 := hid hz0; have Hz1 := hid hz1; have Hz2 := hid hz2
  clear hi hz0 hz1 hz2
  have H0 := hid (show Lsv w T (.slice none 0 0) [] w from ⟨ht, ht.lt, ⟨rfl, rfl, rfl, Nat.le_refl _, fun _ _ _ => rfl⟩, World.ownsRow_nil _ _ _ _⟩)
  clear ht
  go_enter Try.func9, Try.ntmps9
  go_wp2_with fail
  refine (next_any T 4 _ H0.out.tp (by omega)).mono ?_
  rintro e w1 ⟨k0, rfl, hk0, hk1, ht6, hg6, -⟩
  have H1 := hid (H0.out.step ht6 hg6)
  obtain ⟨k0, rfl⟩ := Int.eq_ofNat_of_zero_le hk0
  have hk3 : k0 ≤ 3 := by omega
  clear ht6 hg6 H0 hk0 hk1
  go_wp2_with fail
  go_loopw [5, 6] (fun lv iv wr => ∃ (A : Option Addr) (c k : Nat) (l : List Int), lv = .slice A l.length c ∧ iv = .int .i64 k ∧ l.length + k ≤ 3 ∧ Hid (Lsv w T (.slice A l.length c) l wr)) (fun _ iv _ => (intOf iv).toNat)
  case atStart => exact ⟨none, 0, k0, [], rfl, rfl, by simpa using hk3, H1⟩
  case round =>
    clear H1 hk3
    obtain ⟨A, c, k, l, rfl, rfl, hkl, HS⟩ := hrel
    by_cases hpos : 0 < k
    · go_wp2_with fail
      refine (next_any T n _ HS.out.tp hn).mono ?_
      rintro e w7 ⟨q, rfl, -, -, ht7, hg7, -⟩
      have HS7 := hid (HS.out.step ht7 hg7)
      clear ht7 hg7 HS
      go_wp2_with fail
      refine (next_any T 12 _ HS7.out.tp (by omega)).mono ?_
      rintro e w8 ⟨r, rfl, hr0, hr1, ht7, hg7, -⟩
      have HS8 := hid (HS7.out.step ht7 hg7)
      clear ht7 hg7 HS7
      have HS9 := hid (HS8.out.step (HS8.out.tp.alloc (.cells #[.int .i64 (wrap64 (q - r / 11))] 3)) (grown_of_below ((Below.refl _ _).alloc (Nat.le_refl _) (.cells #[.int .i64 (wrap64 (q - r / 11))] 3)) _))
      have hsz : w.heap.size ≤ w8.heap.size := HS8.out.gr.size
      have hTl := HS8.out.hT
      generalize hm : wrap64 (q - r / 11) = m at *
      go_wp2_with (first
        | (at_builtin
           rw [hm]
           refine wpList_append_lies _ rfl _ _ 22 rfl w.heap.size 3 i1 _ 1 8 Try.underlying22 Hi.out Hz0.out Hz1.out Hz2.out rfl (by decide) _ l.length (ints l) rfl HS9.out.ow ⟨w8.heap.size, 0, none⟩ 1 1 [Value.int .i64 m] rfl rfl (int_new w8 m 3) (one_int1 _) (by omega) (by unfold maxLen; omega) (by omega) (by rw [World.size_alloc]; omega) _ rfl ?_
           intro g5 cap5 w5 hown5 hgr5 hat5 hlt5
           have HSa := hid (show Lsv w T (.slice (some ⟨g5, 0, none⟩) (l.length + 1) cap5) (l ++ [m]) w5 from
             HS9.out.app hgr5 hown5)
           clear hown5 hgr5 hat5 hlt5))
      go_roundw
      case rel => exact ⟨some ⟨g5, 0, none⟩, cap5, k - 1, l ++ [m], by simp, by go_num, by rw [List.length_append, List.length_singleton]; omega, by rw [List.length_append, List.length_singleton]; exact HSa⟩
      case measure => simp [intOf]; omega
    · have HR := hid (show RetLs w T (.returned (.slice A l.length c)) wr from ⟨⟨A, l.length, c, l⟩, rfl, fun ex hex => ⟨EAt.own HS.out.ow (fun b hb hm => by have h1 := hex b hm; have h2 := (HS.out.ow.lt b hb).1; omega), rfl, by show l.length ≤ _; omega⟩, by show l.length ≤ 3; omega, HS.out.tp, HS.out.gr⟩)
      clear HS
      go_wp2_with fail
      go_ret
      exact HR.out
end Go.Proofs.Ytadkjnjibefocaa

namespace Go.Proofs.Ytadkjnjibefocaa
set_option maxRecDepth 20000
set_option linter.unusedVariables false
set_option linter.unusedSimpArgs false
open Go.ChangeShapes Go.WideShapes Go.ChangeAt Go.RowKit

/-- What stands in the law: the tape, the argument's box. -/
structure Cag (w : World) (s0 : SY) (u : World) : Prop where
  tp : Tape u (w.heap.size + 1)
  bx : Fb u w.heap.size s0.box 27
  bel : Below w.heap.size w u
/-- And in a round: the system in its box, lists of numbers. -/
structure CgS (w : World) (s0 s : SY) (b : Nat) (ls : List RH) (u : World) : Prop where
  c : Cag w s0 u
  bx : Fb u b s.box 27
  sy : SYok u [some (w.heap.size + 1)] s
  ls : ∀ y ∈ ls, RHok u [some (w.heap.size + 1)] y
section
variable {w u u' : World} {s0 s : SY} {b : Nat} {ls : List RH}
theorem Cag.below (h : Cag w s0 u) (hb : Below u.heap.size u u') : Cag w s0 u' := ⟨h.tp.below hb h.tp.lt, h.bx.below hb h.bx.lt, below_step h.bel hb⟩
theorem Cag.tape (h : Cag w s0 u) (ht : Tape u' (w.heap.size + 1)) (hg : u.grownBy u' (some (w.heap.size + 1))) : Cag w s0 u' := ⟨ht, h.bx.grown hg (by simp), after_app h.bel hg (by omega)⟩
theorem CgS.below (h : CgS w s0 s b ls u) (hb : Below u.heap.size u u') : CgS w s0 s b ls u' := ⟨h.c.below hb, h.bx.below hb h.bx.lt, h.sy.below hb, fun y hy => (h.ls y hy).below hb⟩
theorem CgS.tape (h : CgS w s0 s b ls u) (ht : Tape u' (w.heap.size + 1)) (hg : u.grownBy u' (some (w.heap.size + 1))) : CgS w s0 s b ls u' :=
  ⟨h.c.tape ht hg, h.bx.grown hg fun e => (h.bx.typ.ne h.c.tp.typ (by decide)) (Option.some.inj e), h.sy.go (Go2.same hg (.inr (by simp))), fun y hy => (h.ls y hy).go (Go2.same hg (.inr (by simp)))⟩
theorem CgS.push {y : RH} (h : CgS w s0 s b ls u) (hy : RHok u [some (w.heap.size + 1)] y) : CgS w s0 s b (y :: ls) u :=
  ⟨h.c, h.bx, h.sy, fun z hz => by rcases List.mem_cons.1 hz with rfl | hz; exact hy; exact h.ls z hz⟩
theorem CgS.lt (h : CgS w s0 s b ls u) : ∀ k, some k ∈ [some (w.heap.size + 1)] → k < u.heap.size := fun k hk => by simp at hk; subst hk; exact h.c.tp.lt
end
theorem rh_nil (u : World) (ex : List (Option Nat)) : RHok u ex ⟨none, 0, 0, []⟩ := ⟨.inl rfl, rfl, by show 0 ≤ 9223372036854775807; omega⟩
set_option maxHeartbeats 25600000 in
theorem lawAgrees (At : Option Addr) (nt ct : Nat) (zs : List Int) (s0 : SY) (root : Int) (rl rs : RH) (w : World) (ht : IArg w At nt zs) (hnt : nt ≤ maxLen) (hs : SYok w [] s0) (hl : RHok w [] rl) (hset : RHok w [] rs) :
    Calls Try.prog 3 #[.slice At nt ct, s0.a, .int .i64 root, .slice rl.A rl.n rl.c, .slice rs.A rs.n rs.c] w fun e w' => e = .returned (.bool true) ∧ Below w.heap.size w w' := by
  have hb0 := (Below.refl w.heap.size w).alloc (Nat.le_refl _) (.cells s0.box 27)
  have F0 := hid (Fb.new w s0.box 27)
  have HB0 := hid hb0
  have HT := hid (ht.below hb0)
  have HS0 := hid (fun (u : World) (hu : Below w.heap.size w u) => hs.below hu)
  have HL0 := hid (fun (u : World) (hu : Below w.heap.size w u) => hl.below hu)
  have HR0 := hid (fun (u : World) (hu : Below w.heap.size w u) => hset.below hu)
  have hlf := hl.few
  have hsf := hset.few
  clear hb0 ht hs hl hset
  have HAG := hid agrees14_any
  have HCN := hid coneR_ok
  have HSPL := hid spoilS_any
  have HHU := hid huge_any
  unfold SY.a SY.box at *
  have Hz := hid (World.size_alloc w (.cells #[.int .i64 s0.W, .slice s0.D.A s0.D.n s0.D.c, .slice s0.T.A s0.T.n s0.T.c, .slice s0.B.A s0.B.n s0.B.c] 27))
  go_enter Try.func3, Try.ntmps3
  go_wp2_with fail
  generalize w.alloc (.cells #[.int .i64 s0.W, .slice s0.D.A s0.D.n s0.D.c, .slice s0.T.A s0.T.n s0.T.c, .slice s0.B.A s0.B.n s0.B.c] 27) = w1 at *
  have HN := new_any At nt ct w1
  rw [Hz.out] at HN
  refine HN.mono ?_
  rintro e w2 ⟨rfl, rfl⟩
  have htp := tape_new (c := ct) HT.out hnt
  rw [Hz.out] at htp
  have HI0 := hid (show Cag w s0 (w1.alloc (.cells #[.slice At nt ct, .int .i64 0] 42)) from ⟨htp, F0.out.alloc _, HB0.out.alloc (by rw [Hz.out]; omega) _⟩)
  clear htp HN
  go_wp2_with fail
  generalize w1.alloc (.cells #[.slice At nt ct, .int .i64 0] 42) = w2 at *
  go_loopw [12, 13, 14, 15, 16, 17] (fun iv _ _ _ _ _ wr => ∃ i : Nat, i ≤ 5 ∧ iv = .int .i64 i ∧ Hid (Cag w s0 wr)) (fun iv _ _ _ _ _ _ => 5 - (intOf iv).toNat)
  case atStart => exact ⟨0, by omega, rfl, HI0⟩
  case round =>
    clear HI0
    obtain ⟨i, hi, rfl, HI⟩ := hrel
    by_cases hlt : i < 5
    · go_wp2_with fail
      refine (system_any (w.heap.size + 1) 7 _ HI.out.tp (by omega) (by omega)).mono ?_
      rintro e w3 ⟨s, v, N, rfl, hsy, hg, hN, htp, hgr⟩
      have ho := hg.ok hsy (by omega)
      have hN1 := hg.n1
      have hba := (Below.refl w3.heap.size w3).alloc (Nat.le_refl _) (.cells s.box 27)
      have HS4 := hid (show CgS w s0 s w3.heap.size [] (w3.alloc (.cells s.box 27)) from ⟨(HI.out.tape htp hgr).below hba, Fb.new w3 _ _, hsy.below hba, by simp⟩)
      have HV := hid (ho.valid3 hsy)
      have Ho := hid ho
      have Hg := hid hg
      have hdn := ho.dn
      clear hsy hg htp hgr ho hba HI
      unfold SY.a SY.box at *
      subst hdn
      go_upto_region 7 with fail
      have HS : Hid (CgS w s0 s w3.heap.size [] (w3.alloc (.cells #[.int .i64 s.W, .slice s.D.A s.D.n s.D.c, .slice s.T.A s.T.n s.T.c, .slice s.B.A s.B.n s.B.c] 27))) := HS4
      clear HS4
      generalize w3.alloc (.cells #[.int .i64 s.W, .slice s.D.A s.D.n s.D.c, .slice s.T.A s.T.n s.T.c, .slice s.B.A s.B.n s.B.c] 27) = w4 at *
      generalize w3.heap.size = bx at *
      have HX := hid (fun (ls : List RH) (u : World) (h : CgS w s0 s bx ls u) => show Fb u bx #[.int .i64 s.W, .slice s.D.A s.D.n s.D.c, .slice s.T.A s.T.n s.T.c, .slice s.B.A s.B.n s.B.c] 27 from h.bx)
      have HS := hid (HS.out.below (Below.refl _ _).drew)
      have hlx := (HX.out _ _ HS.out).lt
      go_region_held3 (fun x => x.cell? ⟨bx, 0, none⟩ = some (.int .i64 s.W) ∧ x.cell? ⟨bx, 1, none⟩ = some (.slice s.D.A s.D.n s.D.c) ∧ x.cell? ⟨bx, 2, none⟩ = some (.slice s.T.A s.T.n s.T.c) ∧ x.cell? ⟨bx, 3, none⟩ = some (.slice s.B.A s.B.n s.B.c))
        (exact (HX.out _ _ HS.out).four)
        (first
         | (go_at_call 7
            refine (next_any (w.heap.size + 1) s.D.n _ HS.out.c.tp (by omega)).mono ?_
            rintro e v1 ⟨r0, rfl, h00, h01, ht1, hg1, -⟩
            have HS := hid (HS.out.tape ht1 hg1)
            have Hr := hid (show 0 ≤ r0 ∧ r0 < (s.D.n : Int) by omega)
            clear h00 h01 ht1 hg1)
         | (go_at_call 6
            refine (HCN.out s v s.D.n r0 ⟨none, 0, 0, []⟩ [some (w.heap.size + 1)] [] _ HS.out.sy Ho.out (rh_nil _ _) rfl HV.out Hr.out.1 Hr.out.2).mono ?_
            rintro e v2 ⟨y, rfl, -, hyr, -, hb2⟩
            have HS := hid ((HS.out.below hb2).push (hyr [some (w.heap.size + 1)] HS.out.lt))
            clear hyr hb2))
      all_goals
        have e2 : IntKind.i64.wrap ((s.D.n : Int) + 2) = (s.D.n : Int) + 2 := IntWalk.i64_in _ (by omega)
        have HM := hid (fun r : Int => fun (h0 : 0 ≤ r) (h1 : r ≤ 20) => (IntWalk.i64_in (r - 1) (by omega) : IntKind.i64.wrap (r - 1) = r - 1))
        have K1 : Hid True := hid trivial
        have K2 : Hid True := hid trivial
        have K3 : Hid True := hid trivial
        have K4 : Hid True := hid trivial
        have K5 : Hid True := hid trivial
        have K6 : Hid True := hid trivial
        clear HCN HHU
        go_upto_region 8 with fail
        have HS := hid (HS.out.below (Below.refl _ _).drew)
        have hlx := (HX.out _ _ HS.out).lt
        go_region_held3 (fun x => x.cell? ⟨bx, 0, none⟩ = some (.int .i64 s.W) ∧ x.cell? ⟨bx, 1, none⟩ = some (.slice s.D.A s.D.n s.D.c) ∧ x.cell? ⟨bx, 2, none⟩ = some (.slice s.T.A s.T.n s.T.c) ∧ x.cell? ⟨bx, 3, none⟩ = some (.slice s.B.A s.B.n s.B.c))
          (exact (HX.out _ _ HS.out).four)
          (first
           | (go_at_call 7
              clear K1
              refine (next_any (w.heap.size + 1) s.D.n _ HS.out.c.tp (by omega)).mono ?_
              rintro e v1 ⟨r1, rfl, -, -, ht1, hg1, -⟩
              have HS := hid (HS.out.tape ht1 hg1)
              clear ht1 hg1)
           | (go_at_call 9
              clear K2
              refine (list14_any (w.heap.size + 1) s.D.n _ HS.out.c.tp (by omega)).mono ?_
              rintro e v2 ⟨z2, rfl, hz2, -, ht2, hg2⟩
              have HS := hid ((HS.out.tape ht2 hg2).push (hz2 [some (w.heap.size + 1)] HS.out.lt))
              clear hz2 ht2 hg2)
           | (go_at_call 8
              clear K3
              refine (HAG.out s r1 z2 y [some (w.heap.size + 1)] [some (w.heap.size + 1)] [some (w.heap.size + 1)] _ HS.out.sy (HS.out.ls z2 (by simp)) (HS.out.ls y (by simp))).mono ?_
              rintro e v3 ⟨rfl, hb3⟩
              have HS := hid (HS.out.below hb3)
              clear hb3)
           | (go_at_call 7
              clear K4
              refine (next_any (w.heap.size + 1) ((s.D.n : Int) + 2) _ HS.out.c.tp (by omega)).mono ?_
              rintro e v4 ⟨r4, rfl, h40, h41, ht4, hg4, -⟩
              have HS := hid (HS.out.tape ht4 hg4)
              have h42 : r4 ≤ 20 := by omega
              have em4 := HM.out r4 h40 h42
              clear ht4 hg4 h40 h41 h42)
           | (go_at_call 9
              clear K5
              refine (list14_any (w.heap.size + 1) s.D.n _ HS.out.c.tp (by omega)).mono ?_
              rintro e v5 ⟨z5, rfl, hz5, -, ht5, hg5⟩
              have HS := hid ((HS.out.tape ht5 hg5).push (hz5 [some (w.heap.size + 1)] HS.out.lt))
              clear hz5 ht5 hg5)
           | (go_at_call 8
              clear K6
              refine (HAG.out s (r4 - 1) ⟨none, 0, 0, []⟩ z5 [some (w.heap.size + 1)] [some (w.heap.size + 1)] [some (w.heap.size + 1)] _ HS.out.sy (rh_nil _ _) (HS.out.ls z5 (by simp))).mono ?_
              rintro e v6 ⟨rfl, hb6⟩
              have HS := hid (HS.out.below hb6)
              clear hb6)
           | (go_at_call 10
              refine (HSPL.out (w.heap.size + 1) v s.D.n s _ HS.out.c.tp HS.out.sy Hg.out (by omega)).mono ?_
              rintro e v7 ⟨q, rfl, hq7, ht7, hg7⟩
              have HQ := hid hq7
              have HS := hid (HS.out.tape ht7 hg7)
              clear hq7 ht7 hg7)
           | (go_at_call 8
              refine (HAG.out q 0 ⟨none, 0, 0, []⟩ y [] [some (w.heap.size + 1)] [some (w.heap.size + 1)] _ HQ.out (rh_nil _ _) (HS.out.ls y (by simp))).mono ?_
              rintro e v8 ⟨rfl, hb8⟩
              have HS := hid (HS.out.below hb8)
              clear hb8 HQ))
        all_goals
          have HC := hid HS.out.c
          clear HS HX HM e2
          go_wp2_with fail
          go_roundw
          case rel => exact ⟨i + 1, by omega, by go_num, HC⟩
          case measure => simp [intOf]; omega
    · obtain rfl : i = 5 := by omega
      obtain ⟨c0, c1, c2, c3⟩ := (show Fb wr w.heap.size #[.int .i64 s0.W, .slice s0.D.A s0.D.n s0.D.c, .slice s0.T.A s0.T.n s0.T.c, .slice s0.B.A s0.B.n s0.B.c] 27 from HI.out.bx).four
      have hbx := HI.out.bx.lt
      go_wp2_with fail
      refine (HHU.out s0 [] wr (HS0.out _ HI.out.bel)).mono ?_
      rintro e w5 ⟨b, rfl, hb5, -, -⟩
      have HC5 := hid (HI.out.below hb5)
      clear c0 c1 c2 c3 hb5 hbx HI HHU HCN HSPL F0 HB0 HT
      obtain ⟨c0, c1, c2, c3⟩ := (show Fb w5 w.heap.size #[.int .i64 s0.W, .slice s0.D.A s0.D.n s0.D.c, .slice s0.T.A s0.T.n s0.T.c, .slice s0.B.A s0.B.n s0.B.c] 27 from HC5.out.bx).four
      have hbx := HC5.out.bx.lt
      cases b with
      | true =>
        as_aux_lemma =>
          go_wp2_with fail
          go_ret
          exact ⟨rfl, HC5.out.bel⟩
      | false =>
        by_cases q1 : 30 < rl.n
        · have t1 : decide (30 < (rl.n : Int)) = true := by first | (simp; omega) | simp [q1]
          clear q1
          as_aux_lemma =>
            go_wp2_with fail
            go_ret
            exact ⟨rfl, HC5.out.bel⟩
        · have t1 : decide (30 < (rl.n : Int)) = false := by first | (simp; omega) | simp [q1]
          clear q1
          by_cases q2 : 30 < rs.n
          · have t2 : decide (30 < (rs.n : Int)) = true := by first | (simp; omega) | simp [q2]
            clear q2
            as_aux_lemma =>
              go_wp2_with fail
              go_ret
              exact ⟨rfl, HC5.out.bel⟩
          · have t2 : decide (30 < (rs.n : Int)) = false := by first | (simp; omega) | simp [q2]
            clear q2
            as_aux_lemma =>
              go_wp2_with fail
              refine (HAG.out s0 root rl rs [] [] [] w5 (HS0.out _ HC5.out.bel) (HL0.out _ HC5.out.bel) (HR0.out _ HC5.out.bel)).mono ?_
              rintro e w6 ⟨rfl, hb6⟩
              have HB6 := hid (below_step HC5.out.bel hb6)
              clear hb6
              go_wp2_with fail
              refine (sane14_any _).mono ?_
              rintro e w7 ⟨rfl, hb7⟩
              have HB7 := hid (below_step HB6.out hb7)
              clear hb7
              go_wp2_with fail
              go_ret
              exact ⟨rfl, HB7.out⟩
end Go.Proofs.Ytadkjnjibefocaa

namespace Go.Proofs.Ytadkjnjibefocaa.coneAgrees
open Go.ChangeShapes Go.WideShapes Go.ChangeAt Go.RowKit
open Go.ChangeMaps (open_string)
set_option linter.unusedVariables false

theorem own : ownKnob Try.prog.godebug = none := by kernel_rfl
theorem laidOut : laidOutB Try.prog = true := by kernel_rfl

set_option maxRecDepth 100000 in
theorem lifted (os : Os) (started : os.Started) (H : Type) (enc : TypeId × Value → H) :
    ReturnsInHanded {} Try.checked os 3 .any (Rows.coneAgreesSpec.pre6 enc Try.prog Try.f3 Rows.coneAgreesRow.domain false) (Rows.coneAgreesSpec.post enc Try.prog Try.f3 false true false false) := by
  refine returnsInHanded_of_change (C := Try.checked) own started (by kernel_rfl) Try.func3
    (ChangeSpec.witness6 (enc := enc) (C := Try.checked) false ⟨#[], #[.slice none 0 0, .agg #[.int .i64 0, .slice none 0 0, .slice none 0 0, .slice none 0 0], .int .i64 0, .slice none 0 0, .slice none 0 0], []⟩ 8 (by kernel_rfl) (by kernel_rfl) (by kernel_rfl) (by kernel_rfl)) ?_
  intro W base args ds gs before hval0 hW hcnd _
  have hval : ∀ (j : Nat) t v, Try.f3.params[j]? = some t → args[j]? = some v → Value.okWide Try.prog W .any base t v := hval0
  have hW' := hW
  obtain ⟨p, q, hA0, hV, rfl, hfz, hnd⟩ := hW
  have hA : DataW.TrodAll enc Try.prog W 0 (fun _ => true) true Try.f3.params.toList args.toList ds p := hA0
  rw [Try.params3] at hA hval
  obtain ⟨v0, vs0, d0, ds0, p0, q0, hargs, rfl, rfl, h0, r0⟩ := trodAll_cons hA
  obtain ⟨v1, vs1, d1, ds1, p1, q1, rfl, rfl, rfl, h1, r1⟩ := trodAll_cons r0
  obtain ⟨v2, vs2, d2, ds2, p2, q2, rfl, rfl, rfl, h2, r2⟩ := trodAll_cons r1
  obtain ⟨v3, vs3, d3, ds3, p3, q3, rfl, rfl, rfl, h3, r3⟩ := trodAll_cons r2
  obtain ⟨v4, vs4, d4, ds4, p4, q4, rfl, rfl, rfl, h4, r4⟩ := trodAll_cons r3
  obtain ⟨rfl, rfl, rfl⟩ := trodAll_nil r4
  obtain rfl : args = #[v0, v1, v2, v3, v4] := by cases args; simp_all
  obtain ⟨rfl, rfl⟩ := trodVars_none hV
  have k0 := h0
  have lt0 : ∀ x ∈ p0, x.block < W.heap.size := by obtain ⟨m, hm⟩ := k0; exact DataW.trod_lt m _ _ _ hm
  obtain ⟨a0, n0, c0, l0, rfl, g0, m0⟩ := open_list (hval 0 22 v0 rfl rfl) h0
  have k1 := h1
  have lt1 : ∀ x ∈ p1, x.block < W.heap.size := by obtain ⟨m, hm⟩ := k1; exact DataW.trod_lt m _ _ _ hm
  obtain ⟨s1, rfl, g1⟩ := open_system (hval 1 27 v1 rfl rfl) h1
  have k2 := h2
  have lt2 : ∀ x ∈ p2, x.block < W.heap.size := by obtain ⟨m, hm⟩ := k2; exact DataW.trod_lt m _ _ _ hm
  obtain ⟨a2, rfl, -, -, g2⟩ := open_int Try.underlying3 (hval 2 3 v2 rfl rfl) h2
  have k3 := h3
  have lt3 : ∀ x ∈ p3, x.block < W.heap.size := by obtain ⟨m, hm⟩ := k3; exact DataW.trod_lt m _ _ _ hm
  obtain ⟨y3, rfl, g3⟩ := open_listR (hval 3 22 v3 rfl rfl) h3
  have k4 := h4
  have lt4 : ∀ x ∈ p4, x.block < W.heap.size := by obtain ⟨m, hm⟩ := k4; exact DataW.trod_lt m _ _ _ hm
  obtain ⟨y4, rfl, g4⟩ := open_listR (hval 4 22 v4 rfl rfl) h4
  clear hA0 hval0
  refine (lawAgrees a0 n0 c0 l0 s1 a2 y3 y4 W g0 m0 g1 g3 g4).mono fun e W' ⟨he, bel⟩ => ?_
  subst he
  exact ⟨_, rfl, _, _, _, [], _, [], hW', trodAll_mk1 (shut_bool Try.underlying4 _), (trodAll_cons_mk (Below.trod laidOut (by kernel_rfl) (of_decide_eq_true (by kernel_rfl)) k0 bel lt0) (trodAll_cons_mk (Below.trod laidOut (by kernel_rfl) (of_decide_eq_true (by kernel_rfl)) k1 bel lt1) (trodAll_cons_mk (Below.trod laidOut (by kernel_rfl) (of_decide_eq_true (by kernel_rfl)) k2 bel lt2) (trodAll_cons_mk (Below.trod laidOut (by kernel_rfl) (of_decide_eq_true (by kernel_rfl)) k3 bel lt3) (trodAll_cons_mk (Below.trod laidOut (by kernel_rfl) (of_decide_eq_true (by kernel_rfl)) k4 bel lt4) trodAll_mk0))))), rfl, bel.frame _, fun h => by cases h⟩

theorem over : Rows.coneAgreesRow.holds Try.pinned (OpenSpec.ofChange Rows.coneAgreesSpec) :=
  OpenClaim.holds_of_wide 3 Try.f3 rfl rfl rfl rfl rfl rfl rfl ⟨rfl, rfl, rfl, rfl, rfl⟩ rfl rfl rfl rfl rfl (by kernel_rfl) Try.func3 (by kernel_rfl)
    (of_decide_eq_true (by kernel_rfl)) (by unfold Func.isWrapper; first | (rw [if_pos (by decide +kernel)]; kernel_rfl) | (rw [if_neg (by decide +kernel)]; exact ⟨rfl, rfl⟩))
    (fun os started H enc _ => lifted os started H enc)

theorem proved : Rows.ConeAgreesSaid := over
#print axioms proved
end Go.Proofs.Ytadkjnjibefocaa.coneAgrees
