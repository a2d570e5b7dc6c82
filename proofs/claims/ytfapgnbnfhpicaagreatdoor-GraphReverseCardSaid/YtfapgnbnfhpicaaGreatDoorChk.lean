/- The package's isTerminator, checkStmt, collect. -/
import Derived.Test.YtfapgnbnfhpicaaGreatDoorMst
import Derived.Test.YtfapgnbnfhpicaaGreatDoorDp1
namespace Go.Proofs.YtfapgnbnfhpicaaGreatDoor
set_option maxRecDepth 20000
set_option linter.unusedVariables false
set_option linter.unusedSimpArgs false
open Go.ChangeShapes Go.WideShapes Go.ChangeAt Go.RowKit

def termB (o : Int) : Bool := o == 7 || (o == 8 || o == 9)
theorem term_any (o : Int) (w : World) : Calls Tryz.prog 179 #[.int .i64 o] w fun e w' => e = .returned (.bool (termB o)) ∧ w = w' := by
  unfold termB
  cases h1 : (o == 7) with
  | true =>
    go_enter Tryz.func179, Tryz.ntmps179
    go_wp2
    go_ret
    exact ⟨rfl, rfl⟩
  | false =>
    cases h2 : (o == 8) with
    | true =>
      go_enter Tryz.func179, Tryz.ntmps179
      go_wp2
      go_ret
      exact ⟨rfl, rfl⟩
    | false =>
      cases h3 : (o == 9) with
      | true =>
        go_enter Tryz.func179, Tryz.ntmps179
        go_wp2
        go_ret
        exact ⟨rfl, rfl⟩
      | false =>
        go_enter Tryz.func179, Tryz.ntmps179
        go_wp2
        go_ret
        exact ⟨rfl, rfl⟩
/-- The first error of a statement. -/
def stmtE (F B : List ByteArray) (last : Bool) (t : Stm) : Int :=
  if termB t.op != last then 4 else if t.ts.all (fun x => inB x (if t.op == 3 then F else B)) then 0 else 5
theorem stmtE_4 {F B : List ByteArray} {last : Bool} {t : Stm} (h : (termB t.op != last) = true) : stmtE F B last t = 4 := by unfold stmtE; rw [h]; rfl
theorem stmtE_0 {F B S : List ByteArray} {last : Bool} {t : Stm} (h : (termB t.op != last) = false) (hS : (if t.op == 3 then F else B) = S) (ha : t.ts.all (fun x => inB x S) = true) : stmtE F B last t = 0 := by unfold stmtE; rw [h, hS, ha]; rfl
theorem stmtE_5 {F B S : List ByteArray} {last : Bool} {t : Stm} (h : (termB t.op != last) = false) (hS : (if t.op == 3 then F else B) = S) (ha : t.ts.all (fun x => inB x S) = false) : stmtE F B last t = 5 := by unfold stmtE; rw [h, hS, ha]; rfl
theorem ret_i {a b : Int} (h : a = b) : Ending.returned (.int .i64 b) = Ending.returned (.int .i64 a) := by rw [h]
set_option maxHeartbeats 3200000 in
theorem chk_call (d : ByteArray) (A : Option Addr) (n c : Nat) (B : Option Addr) (m c2 : Nat) (us ts : List ByteArray) (last : Bool) (b1 b2 : Nat) (F Bn : List ByteArray) (w : World)
    (hT : SArg w B m ts) (h1 : NS w b1 Bn) (h2 : NS w b2 F) :
    Calls Tryz.prog 161 #[.agg #[.int .i64 3, .string d, .slice A n c, .slice B m c2], .bool last, .map (some b1), .map (some b2)] w fun e w' => e = .returned (.int .i64 (stmtE F Bn last ⟨3, d, us, ts⟩)) ∧ Below w.heap.size w w' := by
  have hb2 := (Below.refl w.heap.size w).alloc (Nat.le_refl _) (.cells #[.int .i64 3, .string d, .slice A n c, .slice B m c2] 68)
  have HB := hid hb2
  have Hf := hid (Fb.new w #[.int .i64 3, .string d, .slice A n c, .slice B m c2] 68)
  have HT := hid (hT.below hb2)
  have H := hid (h2.below hb2)
  have hm := hT.few
  have HL := hid hT.len
  
  clear hb2 hT h1 h2
  go_enter Tryz.func161, Tryz.ntmps161
  go_wp2_with fail
  refine (term_any _ _).mono ?_
  rintro e w2 ⟨rfl, rfl⟩
  cases ht : (termB 3 == last) with
  | false =>
    as_aux_lemma =>
      have Hr := hid (show stmtE F Bn last ⟨3, d, us, ts⟩ = 4 from stmtE_4 (by show (!(termB 3 == last)) = true; rw [ht]; rfl))
      go_wp2_with fail
      go_ret
      exact ⟨ret_i Hr.out, HB.out⟩
  | true =>
    have Ht := hid (show (termB 3 != last) = false by show (!(termB 3 == last)) = false; rw [ht]; rfl)
    have hlt := Hf.out.lt
    obtain ⟨a0, a1, a2, a3⟩ := Fb.four Hf.out
    go_wp2_with fail
    clear a0 a1 a2 a3 ht hlt
    go_loopw [11, 25] (fun _ iv wr => ∃ k : Nat, k ≤ m ∧ iv = .int .i64 k ∧ Hid ((ts.take k).all (fun x => inB x F) = true) ∧ Hid (w.alloc (.cells #[.int .i64 3, .string d, .slice A n c, .slice B m c2] 68) = wr)) (fun _ iv _ => m - (intOf iv).toNat)
    case atStart => exact ⟨0, by omega, rfl, hid rfl, hid rfl⟩
    case round =>
      obtain ⟨k, hk, rfl, hX, hW⟩ := hrel
      have hW' := hW.out
      subst hW'
      clear hW
      by_cases hlt : k < m
      · obtain ⟨ad, rfl, hb, hc, hs⟩ := HT.out.cell hlt
        have Hget := hid (show ts[k]? = some (ts.getD k ByteArray.empty) by rw [List.getD_eq_getElem?_getD, List.getElem?_eq_getElem (by have := HL.out; omega)]; rfl)
        generalize ts.getD k ByteArray.empty = y at *
        have hlook := NS.look H.out (show y.size ≤ maxLen by unfold maxLen; omega)
        cases hv : inB y F with
        | false =>
          as_aux_lemma =>
            have Hr := hid (show stmtE F Bn last ⟨3, d, us, ts⟩ = 5 from stmtE_5 Ht.out (S := F) rfl (all_no (p := fun x => inB x F) Hget.out hv))
            rw [hv] at hlook
            clear hv
            go_wp2_with fail
            go_ret
            exact ⟨ret_i Hr.out, HB.out⟩
        | true =>
          as_aux_lemma =>
            have Hr := hid (take_all (p := fun x => inB x F) hX.out Hget.out hv)
            rw [hv] at hlook
            clear hv
            go_wp2_with fail
            go_roundw
            case rel => exact ⟨k + 1, by omega, by go_num, Hr, by first | exact hid rfl | exact hid trivial⟩
            case measure => simp [intOf]; omega
      · as_aux_lemma =>
          obtain rfl : k = m := by omega
          have Hr := hid (show stmtE F Bn last ⟨3, d, us, ts⟩ = 0 from stmtE_0 Ht.out (S := F) rfl (by rw [← List.take_length (l := ts), HL.out]; exact hX.out))
          go_wp2_with fail
          go_ret
          exact ⟨ret_i Hr.out, HB.out⟩
set_option maxHeartbeats 3200000 in
theorem chk_other (o : Int) (d : ByteArray) (A : Option Addr) (n c : Nat) (B : Option Addr) (m c2 : Nat) (us ts : List ByteArray) (last : Bool) (b1 b2 : Nat) (F Bn : List ByteArray) (w : World)
    (hT : SArg w B m ts) (h1 : NS w b1 Bn) (h2 : NS w b2 F) (ho : (o == 3) = false) :
    Calls Tryz.prog 161 #[.agg #[.int .i64 o, .string d, .slice A n c, .slice B m c2], .bool last, .map (some b1), .map (some b2)] w fun e w' => e = .returned (.int .i64 (stmtE F Bn last ⟨o, d, us, ts⟩)) ∧ Below w.heap.size w w' := by
  have hb2 := (Below.refl w.heap.size w).alloc (Nat.le_refl _) (.cells #[.int .i64 o, .string d, .slice A n c, .slice B m c2] 68)
  have HB := hid hb2
  have Hf := hid (Fb.new w #[.int .i64 o, .string d, .slice A n c, .slice B m c2] 68)
  have HT := hid (hT.below hb2)
  have H := hid (h1.below hb2)
  have hm := hT.few
  have HL := hid hT.len
  have Ho := hid ho
  clear hb2 hT h1 h2
  go_enter Tryz.func161, Tryz.ntmps161
  go_wp2_with fail
  refine (term_any _ _).mono ?_
  rintro e w2 ⟨rfl, rfl⟩
  cases ht : (termB o == last) with
  | false =>
    as_aux_lemma =>
      have Hr := hid (show stmtE F Bn last ⟨o, d, us, ts⟩ = 4 from stmtE_4 (by show (!(termB o == last)) = true; rw [ht]; rfl))
      go_wp2_with fail
      go_ret
      exact ⟨ret_i Hr.out, HB.out⟩
  | true =>
    have Ht := hid (show (termB o != last) = false by show (!(termB o == last)) = false; rw [ht]; rfl)
    have hlt := Hf.out.lt
    obtain ⟨a0, a1, a2, a3⟩ := Fb.four Hf.out
    go_wp2_with fail
    clear a0 a1 a2 a3 ht hlt
    go_loopw [11, 25] (fun _ iv wr => ∃ k : Nat, k ≤ m ∧ iv = .int .i64 k ∧ Hid ((ts.take k).all (fun x => inB x Bn) = true) ∧ Hid (w.alloc (.cells #[.int .i64 o, .string d, .slice A n c, .slice B m c2] 68) = wr)) (fun _ iv _ => m - (intOf iv).toNat)
    case atStart => exact ⟨0, by omega, rfl, hid rfl, hid rfl⟩
    case round =>
      obtain ⟨k, hk, rfl, hX, hW⟩ := hrel
      have hW' := hW.out
      subst hW'
      clear hW
      by_cases hlt : k < m
      · obtain ⟨ad, rfl, hb, hc, hs⟩ := HT.out.cell hlt
        have Hget := hid (show ts[k]? = some (ts.getD k ByteArray.empty) by rw [List.getD_eq_getElem?_getD, List.getElem?_eq_getElem (by have := HL.out; omega)]; rfl)
        generalize ts.getD k ByteArray.empty = y at *
        have hlook := NS.look H.out (show y.size ≤ maxLen by unfold maxLen; omega)
        cases hv : inB y Bn with
        | false =>
          as_aux_lemma =>
            have Hr := hid (show stmtE F Bn last ⟨o, d, us, ts⟩ = 5 from stmtE_5 Ht.out (S := Bn) (by rw [Ho.out]; rfl) (all_no (p := fun x => inB x Bn) Hget.out hv))
            rw [hv] at hlook
            clear hv
            go_wp2_with fail
            go_ret
            exact ⟨ret_i Hr.out, HB.out⟩
        | true =>
          as_aux_lemma =>
            have Hr := hid (take_all (p := fun x => inB x Bn) hX.out Hget.out hv)
            rw [hv] at hlook
            clear hv
            go_wp2_with fail
            go_roundw
            case rel => exact ⟨k + 1, by omega, by go_num, Hr, by first | exact hid rfl | exact hid trivial⟩
            case measure => simp [intOf]; omega
      · as_aux_lemma =>
          obtain rfl : k = m := by omega
          have Hr := hid (show stmtE F Bn last ⟨o, d, us, ts⟩ = 0 from stmtE_0 Ht.out (S := Bn) (by rw [Ho.out]; rfl) (by rw [← List.take_length (l := ts), HL.out]; exact hX.out))
          go_wp2_with fail
          go_ret
          exact ⟨ret_i Hr.out, HB.out⟩
theorem checkStmt_any (x : SH) (ex : List (Option Nat)) (last : Bool) (b1 b2 : Nat) (F Bn : List ByteArray) (w : World) (h : SHok w ex x) (h1 : NS w b1 Bn) (h2 : NS w b2 F) :
    Calls Tryz.prog 161 #[.agg #[.int .i64 x.t.op, .string x.t.d, .slice x.A x.n x.c, .slice x.B x.m x.c2], .bool last, .map (some b1), .map (some b2)] w fun e w' => e = .returned (.int .i64 (stmtE F Bn last x.t)) ∧ Below w.heap.size w w' := by
  obtain ⟨A, n, c, B, m, c2, ⟨o, d, us, ts⟩⟩ := x
  have ha := h.arg.targets
  simp only at ha
  cases ho : (o == 3) with
  | true =>
    obtain rfl : o = 3 := by simpa using ho
    exact chk_call d A n c B m c2 us ts last b1 b2 F Bn w ha h1 h2
  | false => exact chk_other o d A n c B m c2 us ts last b1 b2 F Bn w ha h1 h2 ho
/-- The map and the index came back. -/
def RetC (w : World) (ns : List ByteArray) (e : Ending) (w' : World) : Prop :=
  ∃ b : Nat, e = .returned (.tuple #[.map (some b), .int .i64 (dupI ns)]) ∧ Below w.heap.size w w' ∧ (dupI ns = -1 → NS w' b ns)
theorem retC_mk {w w' : World} {ns : List ByteArray} {b : Nat} {v : Int} (h : dupI ns = v) (hb : Below w.heap.size w w') (hn : v = -1 → NS w' b ns) : RetC w ns (.returned (.tuple #[.map (some b), .int .i64 v])) w' :=
  ⟨b, by rw [h], hb, fun e => hn (h ▸ e)⟩
theorem funcName_any (nm : ByteArray) (A : Option Addr) (n c : Nat) (w : World) : Calls Tryz.prog 133 #[.agg #[.string nm, .slice A n c]] w fun e w' => e = .returned (.string nm) ∧ Below w.heap.size w w' := by
  have HB := hid ((Below.refl w.heap.size w).alloc (Nat.le_refl _) (.cells #[.string nm, .slice A n c] 62))
  go_enter Tryz.func133, Tryz.ntmps133
  go_wp2
  go_ret
  exact ⟨rfl, HB.out⟩
set_option maxHeartbeats 3200000 in
theorem collectF_any (x : PH) (ex : List (Option Nat)) (w : World) (h : PHok w ex x) :
    Calls Tryz.prog 132 #[.slice x.A x.n x.c, .func (Fn.func 133) #[] #[]] w (RetC w (x.l.map fun y => y.name)) := by
  have HX := hid h
  have hn := h.few
  have HL := hid h.len
  obtain ⟨A, n, c, l⟩ := x
  simp only at hn HL
  have HB0 := hid ((Below.refl w.heap.size w).alloc (Nat.le_refl _) (.map #[] 0))
  have HN0 := hid (NS.made w)
  have HLn := hid (show (l.map fun y => y.name).length = n by rw [List.length_map]; exact HL.out)
  clear h
  have hmm := @run_makeMap Tryz.prog
  go_enter Tryz.func132, Tryz.ntmps132
  go_wp2_with fail
  clear hmm
  generalize w.alloc (.map #[] 0) = w0 at HN0 HB0 ⊢
  go_loopw [7, 8, 12] (fun _ _ iv wr => ∃ k : Nat, k ≤ n ∧ iv = .int .i64 k ∧ Hid ((List.range k).findSome? (dupAt (l.map fun y => y.name)) = none) ∧ Hid (NS wr w.heap.size ((l.map fun y => y.name).take k)) ∧ Hid (Below w.heap.size w wr)) (fun _ _ iv _ => n - (intOf iv).toNat)
  case atStart => exact ⟨0, by omega, rfl, hid rfl, HN0.out, HB0.out⟩
  case round =>
    clear HN0 HB0
    obtain ⟨k, hk, rfl, hX, hN, hB⟩ := hrel
    by_cases hlt : k < n
    · obtain ⟨y, hy, hym⟩ := get_at HL.out hlt
      have HPr := hid (HX.out.go (Go2.below hB.out))
      obtain ⟨ad, hA, had, hc1, hc2⟩ := FH.cells HPr.out.lies hy
      have hys := hid (show y.name.size ≤ maxLen by have := (HPr.out.all y hym).small; unfold maxLen; omega)
      have Hget := hid (show (l.map fun y => y.name)[k]? = some y.name by rw [List.getElem?_map, hy]; rfl)
      simp only at hA
      subst hA
      have hb2 := (Below.refl wr.heap.size wr).alloc (Nat.le_refl _) (.cells #[.string y.name, .slice y.A y.n y.c] 62)
      have HN2 := hid (hN.out.below hb2)
      have HB2 := hid (below_step hB.out hb2)
      have Hf2 := hid (Fb.new wr #[.string y.name, .slice y.A y.n y.c] 62)
      clear hy hym HPr hb2 hN hB
      go_wp2_with fail
      refine (funcName_any y.name y.A y.n y.c _).mono ?_
      rintro e w2 ⟨rfl, hb3⟩
      have HN3 := hid (HN2.out.below hb3)
      have HB3 := hid (below_step HB2.out hb3)
      have Hf3 := hid (Hf2.out.below hb3 Hf2.out.lt)
      have hlook := NS.look HN3.out hys.out
      have hlt3 := Hf3.out.lt
      obtain ⟨f0, f1⟩ := Hf3.out.twoc
      clear hb3 HN2 HB2 Hf2 hc1 hc2 had
      cases hv : inB y.name ((l.map fun y => y.name).take k) with
      | true =>
        as_aux_lemma =>
          rw [hv] at hlook
          have Hr := hid (dup_hit hX.out (by rw [HLn.out]; exact hlt) Hget.out hv)
          clear hv
          go_wp2_with fail
          go_ret2
          exact retC_mk Hr.out HB3.out (fun h => by omega)
      | false =>
        rw [hv] at hlook
        have Hr := hid (some_step hX.out (dup_no Hget.out hv))
        have Htk := hid (take_one Hget.out)
        have Hlk := hid (show ((l.map fun y => y.name).take k).length ≤ 40 by have := List.length_take_le k (l.map fun y => y.name); omega)
        clear hv
        go_wp2_with fail
        refine (funcName_any y.name y.A y.n y.c _).mono ?_
        rintro e w4 ⟨rfl, hb4⟩
        have HN4 := hid (HN3.out.below hb4)
        have HB4 := hid (below_step HB3.out hb4)
        clear hb4 HN3 HB3 Hf3 f0 f1 hlook
        as_aux_lemma =>
          go_wp2_with (at_mapUpdate; refine wp_put rfl _ _ _ rfl w.heap.size _ rfl HN4.out (by have := Hlk.out; unfold maxLen; omega) y.name hys.out rfl rfl ?_; intro w5 hn5 hg5)
          have HN5 := hid (hn5.congr (S' := (l.map fun y => y.name).take (k + 1)) (by rw [Htk.out]; simp) (fun q => by rw [Htk.out]; simp [or_comm]))
          have HB5 := hid (after_app HB4.out hg5 (Nat.le_refl _))
          clear hn5 hg5
          go_wp2_with fail
          go_roundw
          case rel => exact ⟨k + 1, by omega, by go_num, Hr, HN5, HB5⟩
          case measure => simp [intOf]; omega
    · as_aux_lemma =>
        obtain rfl : k = n := by omega
        have Hr := hid (dup_end hX.out HLn.out.symm)
        have HN1 := hid (show NS wr w.heap.size (l.map fun y => y.name) by have := hN.out; rwa [← HLn.out, List.take_length] at this)
        go_wp2_with fail
        go_ret2
        exact retC_mk Hr.out hB.out (fun _ => HN1.out)
theorem blockName_any (nm : ByteArray) (A : Option Addr) (n c : Nat) (w : World) : Calls Tryz.prog 160 #[.agg #[.string nm, .slice A n c]] w fun e w' => e = .returned (.string nm) ∧ Below w.heap.size w w' := by
  have HB := hid ((Below.refl w.heap.size w).alloc (Nat.le_refl _) (.cells #[.string nm, .slice A n c] 65))
  go_enter Tryz.func160, Tryz.ntmps160
  go_wp2
  go_ret
  exact ⟨rfl, HB.out⟩
set_option maxHeartbeats 3200000 in
theorem collectB_any (x : FH) (ex : List (Option Nat)) (w : World) (h : FHok w ex x) :
    Calls Tryz.prog 159 #[.slice x.A x.n x.c, .func (Fn.func 160) #[] #[]] w (RetC w (x.l.map fun y => y.name)) := by
  have HX := hid h
  have hn := h.few
  have HL := hid h.len
  obtain ⟨nm, A, n, c, l⟩ := x
  simp only at hn HL
  have HB0 := hid ((Below.refl w.heap.size w).alloc (Nat.le_refl _) (.map #[] 0))
  have HN0 := hid (NS.made w)
  have HLn := hid (show (l.map fun y => y.name).length = n by rw [List.length_map]; exact HL.out)
  clear h
  have hmm := @run_makeMap Tryz.prog
  go_enter Tryz.func159, Tryz.ntmps159
  go_wp2_with fail
  clear hmm
  generalize w.alloc (.map #[] 0) = w0 at HN0 HB0 ⊢
  go_loopw [7, 8, 12] (fun _ _ iv wr => ∃ k : Nat, k ≤ n ∧ iv = .int .i64 k ∧ Hid ((List.range k).findSome? (dupAt (l.map fun y => y.name)) = none) ∧ Hid (NS wr w.heap.size ((l.map fun y => y.name).take k)) ∧ Hid (Below w.heap.size w wr)) (fun _ _ iv _ => n - (intOf iv).toNat)
  case atStart => exact ⟨0, by omega, rfl, hid rfl, HN0.out, HB0.out⟩
  case round =>
    clear HN0 HB0
    obtain ⟨k, hk, rfl, hX, hN, hB⟩ := hrel
    by_cases hlt : k < n
    · obtain ⟨y, hy, hym⟩ := get_at HL.out hlt
      have HPr := hid (HX.out.go (Go2.below hB.out))
      obtain ⟨ad, hA, had, hc1, hc2⟩ := BH.cells HPr.out.lies hy
      have hys := hid (show y.name.size ≤ maxLen by have := (HPr.out.all y hym).small; unfold maxLen; omega)
      have Hget := hid (show (l.map fun y => y.name)[k]? = some y.name by rw [List.getElem?_map, hy]; rfl)
      simp only at hA
      subst hA
      have hb2 := (Below.refl wr.heap.size wr).alloc (Nat.le_refl _) (.cells #[.string y.name, .slice y.A y.n y.c] 65)
      have HN2 := hid (hN.out.below hb2)
      have HB2 := hid (below_step hB.out hb2)
      have Hf2 := hid (Fb.new wr #[.string y.name, .slice y.A y.n y.c] 65)
      clear hy hym HPr hb2 hN hB
      go_wp2_with fail
      refine (blockName_any y.name y.A y.n y.c _).mono ?_
      rintro e w2 ⟨rfl, hb3⟩
      have HN3 := hid (HN2.out.below hb3)
      have HB3 := hid (below_step HB2.out hb3)
      have Hf3 := hid (Hf2.out.below hb3 Hf2.out.lt)
      have hlook := NS.look HN3.out hys.out
      have hlt3 := Hf3.out.lt
      obtain ⟨f0, f1⟩ := Hf3.out.twoc
      clear hb3 HN2 HB2 Hf2 hc1 hc2 had
      cases hv : inB y.name ((l.map fun y => y.name).take k) with
      | true =>
        as_aux_lemma =>
          rw [hv] at hlook
          have Hr := hid (dup_hit hX.out (by rw [HLn.out]; exact hlt) Hget.out hv)
          clear hv
          go_wp2_with fail
          go_ret2
          exact retC_mk Hr.out HB3.out (fun h => by omega)
      | false =>
        rw [hv] at hlook
        have Hr := hid (some_step hX.out (dup_no Hget.out hv))
        have Htk := hid (take_one Hget.out)
        have Hlk := hid (show ((l.map fun y => y.name).take k).length ≤ 40 by have := List.length_take_le k (l.map fun y => y.name); omega)
        clear hv
        go_wp2_with fail
        refine (blockName_any y.name y.A y.n y.c _).mono ?_
        rintro e w4 ⟨rfl, hb4⟩
        have HN4 := hid (HN3.out.below hb4)
        have HB4 := hid (below_step HB3.out hb4)
        clear hb4 HN3 HB3 Hf3 f0 f1 hlook
        as_aux_lemma =>
          go_wp2_with (at_mapUpdate; refine wp_put rfl _ _ _ rfl w.heap.size _ rfl HN4.out (by have := Hlk.out; unfold maxLen; omega) y.name hys.out rfl rfl ?_; intro w5 hn5 hg5)
          have HN5 := hid (hn5.congr (S' := (l.map fun y => y.name).take (k + 1)) (by rw [Htk.out]; simp) (fun q => by rw [Htk.out]; simp [or_comm]))
          have HB5 := hid (after_app HB4.out hg5 (Nat.le_refl _))
          clear hn5 hg5
          go_wp2_with fail
          go_roundw
          case rel => exact ⟨k + 1, by omega, by go_num, Hr, HN5, HB5⟩
          case measure => simp [intOf]; omega
    · as_aux_lemma =>
        obtain rfl : k = n := by omega
        have Hr := hid (dup_end hX.out HLn.out.symm)
        have HN1 := hid (show NS wr w.heap.size (l.map fun y => y.name) by have := hN.out; rwa [← HLn.out, List.take_length] at this)
        go_wp2_with fail
        go_ret2
        exact retC_mk Hr.out hB.out (fun _ => HN1.out)
end Go.Proofs.YtfapgnbnfhpicaaGreatDoor
