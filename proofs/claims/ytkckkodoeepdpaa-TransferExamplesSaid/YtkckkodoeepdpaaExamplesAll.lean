/- TransferExamples: the chapter's examples come out as it says: the law, which takes no parameter, returns true. No condition narrows it. -/
import Derived.Test.YtkckkodoeepdpaaSan3
import Derived.Test.YtkckkodoeepdpaaSmb
import Derived.Deep.AppendLies
import Derived.Test.YtkckkodoeepdpaaJow
import Derived.Test.YtkckkodoeepdpaaTeq
import Derived.Test.YtkckkodoeepdpaaDaT
import Derived.Test.YtkckkodoeepdpaaDvT
import Derived.Test.YtkckkodoeepdpaaDEq
import Derived.Test.YtkckkodoeepdpaaMembers
import Derived.Lib.SmallJoins
import Derived.ShutString
import Derived.ChangeOld
namespace Go.Proofs.Ytkckkodoeepdpaa
set_option maxRecDepth 20000
open Go.ChangeShapes Go.WideShapes Go.ChangeAt Go.RowKit

theorem new_any (A : Option Addr) (n c : Nat) (w : World) :
    Calls Try.prog 19 #[.slice A n c] w fun e w' => e = .returned (.pointer (some ⟨w.heap.size, 0, none⟩)) ∧ w.alloc (.cells #[.slice A n c, .int .i64 0] 70) = w' := by
  go_enter Try.func19, Try.ntmps19
  go_wp2
  go_ret
  exact ⟨rfl, rfl⟩
theorem tape_new {w : World} {A : Option Addr} {n c : Nat} {zs : List Int} (h : IArg w A n zs) (hn : n ≤ maxLen) : Tape (w.alloc (.cells #[.slice A n c, .int .i64 0] 70)) w.heap.size :=
  ⟨A, n, c, 0, zs, heap_alloc_new w _, h.len, hn, Nat.zero_le _, h.lies.keep (fun p hp => World.cell?_alloc_lt w _ p hp) (Nat.le_refl _)⟩

/-- The statement's tape stands, and nothing old has changed. -/
def Going (w : World) (T : Nat) (wr : World) : Prop := Tape wr T ∧ Below w.heap.size w wr ∧ w.heap.size ≤ T
theorem Going.step {w wr w' : World} {T : Nat} (h : Going w T wr) (ht : Tape w' T) (hg : wr.grownBy w' (some T)) : Going w T w' :=
  ⟨ht, after_app h.2.1 hg h.2.2, h.2.2⟩
theorem Going.below {w wr w' : World} {T : Nat} (h : Going w T wr) (hb : Below wr.heap.size wr w') : Going w T w' :=
  h.step (h.1.below hb h.1.lt) (grown_of_below hb _)
theorem Going.alloc {w wr : World} {T : Nat} (h : Going w T wr) (o : Obj) : Going w T (wr.alloc o) := h.below ((Below.refl _ _).alloc (Nat.le_refl _) o)

/-- Copies do not lie in a tape: there two numbers never lie side by side. -/
theorem ArgC.tape {w w' : World} {T : Nat} {A : Option Addr} {n : Nat} {cs : List (Int × Int)} (h : ArgC w A n cs) (ht : Tape w T) (hg : w.grownBy w' (some T)) : ArgC w' A n cs := by
  refine ⟨?_, h.len⟩
  rcases h.lies with h0 | ⟨ad, e, hb, hc⟩
  · exact .inl h0
  · cases cs with
    | nil => exact .inl rfl
    | cons p cs =>
      have hne : ad.block ≠ T := by
        intro he
        have c0 := hc 0 (.int .i64 p.1) rfl
        have c1 := hc 1 (.int .i64 p.2) rfl
        obtain ⟨A', n', c', k', zs, h1, _⟩ := ht
        have ha : ad.add 0 = ad := by unfold Addr.add; simp
        rw [ha] at c0
        unfold World.cell? at c0 c1
        rw [he, h1] at c0
        rw [show (ad.add 1).block = T from by rw [add_block]; exact he, h1] at c1
        have e1 : (ad.add 1).off = ad.off + 1 := by unfold Addr.add; simp
        have e2 : (ad.add 1).spot = none := by unfold Addr.add; simp
        simp only [e1, e2] at c1
        simp only at c0
        split at c0
        · cases c0
        · match hoff : ad.off, c0 with
          | 0, c0 => simp at c0
          | 1, c0 => rw [hoff] at c1; simp at c1
          | n + 2, c0 => simp at c0
      refine .inr ⟨ad, e, by have := hg.size; omega, fun j u hu => hg.cell (hc j u hu) (by rw [add_block]; intro h; injection h with h; exact hne h)⟩
end Go.Proofs.Ytkckkodoeepdpaa

namespace Go.Proofs.Ytkckkodoeepdpaa
set_option maxRecDepth 20000
open Go.ChangeShapes Go.WideShapes Go.ChangeAt Go.RowKit

/-- The copies that copy p of the first function makes: itself, if its end is kept, and those that the first i copies of the second continue. -/
def chnP (V : Int) (kg : List Nat) (csg : List (Int × Int)) (p : Int × Int) (i : Nat) : List (Int × Int) :=
  (if Bs.hasB V kg p.2 then [] else [p]) ++ ((csg.take i).filter fun d => decide (p.2 = d.1)).map fun d => (p.1, d.2)
def chnF (V : Int) (kg : List Nat) (csf csg : List (Int × Int)) (j : Nat) : List (Int × Int) := (csf.take j).flatMap fun p => chnP V kg csg p csg.length
/-- All of them. -/
def chnL (V : Int) (kf : List Nat) (V' : Int) (kg : List Nat) (csf csg : List (Int × Int)) : List (Int × Int) :=
  chnF V' kg csf csg csf.length ++ csg.filter fun d => !Bs.hasB V kf d.1
theorem chnP_zero (V : Int) (kg : List Nat) (csg : List (Int × Int)) (p : Int × Int) : chnP V kg csg p 0 = if Bs.hasB V kg p.2 then [] else [p] := by unfold chnP; simp
theorem chnP_yes {V : Int} {kg : List Nat} {csg : List (Int × Int)} {p d : Int × Int} {i : Nat} (h : csg.take (i + 1) = csg.take i ++ [d]) (hd : p.2 = d.1) : chnP V kg csg p (i + 1) = chnP V kg csg p i ++ [(p.1, d.2)] := by
  unfold chnP; rw [h, List.filter_append, List.map_append, List.append_assoc]; simp [hd]
theorem chnP_no {V : Int} {kg : List Nat} {csg : List (Int × Int)} {p d : Int × Int} {i : Nat} (h : csg.take (i + 1) = csg.take i ++ [d]) (hd : p.2 ≠ d.1) : chnP V kg csg p (i + 1) = chnP V kg csg p i := by
  unfold chnP; rw [h, List.filter_append, List.map_append]; simp [hd]
theorem chnP_len (V : Int) (kg : List Nat) (csg : List (Int × Int)) (p : Int × Int) (i : Nat) : (chnP V kg csg p i).length ≤ csg.length + 1 := by
  unfold chnP
  rw [List.length_append, List.length_map]
  have h1 := List.length_filter_le (fun d => decide (p.2 = d.1)) (csg.take i)
  rw [List.length_take] at h1
  split <;> simp <;> omega
theorem chnF_snoc {V : Int} {kg : List Nat} {csf csg : List (Int × Int)} {p : Int × Int} {j : Nat} (h : csf.take (j + 1) = csf.take j ++ [p]) : chnF V kg csf csg (j + 1) = chnF V kg csf csg j ++ chnP V kg csg p csg.length := by
  unfold chnF; rw [h, List.flatMap_append]; simp
theorem chnF_len (V : Int) (kg : List Nat) (csf csg : List (Int × Int)) (j : Nat) : (chnF V kg csf csg j).length ≤ j * (csg.length + 1) := by
  induction j with
  | zero => simp [chnF]
  | succ j ih =>
    by_cases h : j < csf.length
    · rw [chnF_snoc (take_snoc csf j h), List.length_append, Nat.succ_mul]
      have := chnP_len V kg csg csf[j] csg.length
      omega
    · have e : chnF V kg csf csg (j + 1) = chnF V kg csf csg j := by
        unfold chnF
        rw [List.take_of_length_le (by omega), List.take_of_length_le (by omega)]
      rw [e, Nat.succ_mul]; omega

/-- While the copies are gathered. -/
def Chaining (w : World) (W V : Int) (A B C : Option Addr) (n c m d k q : Nat) (W' V' : Int) (A' B' C' : Option Addr) (n' c' m' d' k' q' : Nat) (v : Value) (rs : List (Int × Int)) (wr : World) : Prop :=
  TwoT w W V A B C n c m d k q W' V' A' B' C' n' c' m' d' k' q' wr ∧ Cops wr (w.heap.size + 2) v rs ∧ w.heap.size + 2 ≤ wr.heap.size
section
variable {w : World} {W V : Int} {A B C : Option Addr} {n c m d k q : Nat} {W' V' : Int} {A' B' C' : Option Addr} {n' c' m' d' k' q' : Nat} {v : Value} {rs : List (Int × Int)} {wr w' : World}
theorem Chaining.below (h : Chaining w W V A B C n c m d k q W' V' A' B' C' n' c' m' d' k' q' v rs wr) (hb : Below wr.heap.size wr w') : Chaining w W V A B C n c m d k q W' V' A' B' C' n' c' m' d' k' q' v rs w' :=
  ⟨h.1.below hb, own_below h.2.1 hb, by have := hb.size; have := h.2.2; omega⟩
theorem Chaining.row {v' : Value} {rs' : List (Int × Int)} (h : Chaining w W V A B C n c m d k q W' V' A' B' C' n' c' m' d' k' q' v rs wr) (hg : wr.grownBy w' v.ownBlock) (hc : Cops w' (w.heap.size + 2) v' rs') :
    Chaining w W V A B C n c m d k q W' V' A' B' C' n' c' m' d' k' q' v' rs' w' := by
  have ne : ∀ b, b < w.heap.size + 2 → some b ≠ v.ownBlock := fun b hb e => by have := own_base h.2.1 b e.symm; omega
  exact ⟨⟨h.1.1.grown hg (ne _ (by omega)), h.1.2.1.grown hg (ne _ (by omega)), h.1.2.2.grown hg h.1.2.2.size (fun b e => by have := own_base h.2.1 b e; omega)⟩, hc, by have := hg.size; have := h.2.2; omega⟩
end
theorem Chaining.push {w : World} {W V : Int} {A B C : Option Addr} {n c m d k q : Nat} {W' V' : Int} {A' B' C' : Option Addr} {n' c' m' d' k' q' : Nat} {v : Value} {rs : List (Int × Int)} {wr w' : World} {o : Obj} {g cap : Nat} {x y : Int}
    (h : Chaining w W V A B C n c m d k q W' V' A' B' C' n' c' m' d' k' q' v rs wr) (hown : w'.ownsRow (w.heap.size + 2) 35 2 (.slice (some ⟨g, 0, none⟩) (rs.length + 1) cap) (rs.length + 1) (pairs rs ++ [.int .i64 x, .int .i64 y])) (hg : (wr.alloc o).grownBy w' v.ownBlock) :
    Chaining w W V A B C n c m d k q W' V' A' B' C' n' c' m' d' k' q' (.slice (some ⟨g, 0, none⟩) (rs.length + 1) cap) (rs ++ [(x, y)]) w' :=
  (h.below ((Below.refl _ _).alloc (Nat.le_refl _) o)).row hg (by unfold Cops; rw [pairs_snoc, List.length_append]; exact hown)
theorem one_pair (a b : Int) : ∀ u ∈ [Value.int .i64 a, Value.int .i64 b], u.oneCell' = true := by
  intro u hu; simp at hu; rcases hu with rfl | rfl <;> rfl

set_option maxHeartbeats 3200000 in
theorem chain_any (W V : Int) (A B C : Option Addr) (n c m d k q : Nat) (gs ks : List Nat) (cs : List (Int × Int)) (W' V' : Int) (A' B' C' : Option Addr) (n' c' m' d' k' q' : Nat) (gs' ks' : List Nat) (cs' : List (Int × Int)) (w : World)
    (hF : FArg w A n B m C k gs ks cs) (hG : FArg w A' n' B' m' C' k' gs' ks' cs') (hk : k ≤ 64) (hk' : k' ≤ 64) :
    Calls Try.prog 47 #[.agg #[.int .i64 W, .slice A n c, .int .i64 V, .slice B m d, .slice C k q], .agg #[.int .i64 W', .slice A' n' c', .int .i64 V', .slice B' m' d', .slice C' k' q']] w
      fun e w' => ∃ Co qo, e = .returned (.slice Co (chnL V ks V' ks' cs cs').length qo) ∧ ArgC w' Co (chnL V ks V' ks' cs cs').length (chnL V ks V' ks' cs cs') ∧ Below w.heap.size w w' := by
  obtain ⟨i0, hi, hz0, hz1, hz2⟩ := info_parts info35
  have Hi := hid hi; have Hz0 := hid hz0; have Hz1 := hid hz1; have Hz2 := hid hz2
  have HF := hid hF; have HG := hid hG
  have hst := TwoT.start w W V A B C n c m d k q W' V' A' B' C' n' c' m' d' k' q'
  have Hst := hid (show Chaining w W V A B C n c m d k q W' V' A' B' C' n' c' m' d' k' q' (.slice none 0 0) (chnF V' ks' cs cs' 0) _ from ⟨hst, World.ownsRow_nil _ _ _ _, by simp⟩)
  clear hi hz0 hz1 hz2 hF hG hst
  go_enter Try.func47, Try.ntmps47
  go_wp2_with fail
  generalize (w.alloc (.cells #[.int .i64 W, .slice A n c, .int .i64 V, .slice B m d, .slice C k q] 29)).alloc (.cells #[.int .i64 W', .slice A' n' c', .int .i64 V', .slice B' m' d', .slice C' k' q'] 29) = w1 at *
  go_loopw [5, 7, 9, 15, 32] (fun v _ _ i _ wr => ∃ j : Nat, j ≤ k ∧ i = .int .i64 j ∧ Hid (Chaining w W V A B C n c m d k q W' V' A' B' C' n' c' m' d' k' q' v (chnF V' ks' cs cs' j) wr)) (fun _ _ _ i _ _ => k - (intOf i).toNat)
  case atStart => exact ⟨0, by omega, rfl, Hst.out⟩
  case round =>
    obtain ⟨j, hj, rfl, hG1⟩ := hrel
    clear Hst
    by_cases hlt : j < k
    · have hjl : j < cs.length := by rw [HF.out.cops.len]; exact hlt
      have hget : cs[j]? = some cs[j] := List.getElem?_eq_getElem _
      have hsn := take_snoc cs j hjl
      generalize cs[j] = p at hget hsn
      obtain ⟨p1, p2⟩ := p
      obtain ⟨ad, rfl, had, g1, g2⟩ := (HF.out.cops.below hG1.out.1.2.2).cell hget
      have Hsn := hid hsn
      clear hget hsn
      have hlF : (chnF V' ks' cs cs' j).length ≤ 4160 := by
        have h1 := chnF_len V' ks' cs cs' j
        have h2 : j * (cs'.length + 1) ≤ 64 * 65 := Nat.mul_le_mul (by omega) (by have := HG.out.cops.len; omega)
        omega
      have hlP : ∀ i, (chnP V' ks' cs' (p1, p2) i).length ≤ 65 := fun i => by have h1 := chnP_len V' ks' cs' (p1, p2) i; have := HG.out.cops.len; omega
      have HlF := hid hlF; have HlP := hid hlP
      have hob : ∀ b, u5.ownBlock = some b → b < wr.heap.size := fun b hb => (World.ownsRow.lt hG1.out.2.1 b hb).2
      have Hob := hid hob
      have H5 := hid (hG1.out.below ((Below.refl _ _).alloc (Nat.le_refl _) (.cells #[.int .i64 p1, .int .i64 p2] 35)))
      have Hbx := hid (Fb.new wr #[.int .i64 p1, .int .i64 p2] 35)
      obtain ⟨b0, b1⟩ := Hbx.out.two
      obtain ⟨s0, s1, s2, s3, s4⟩ := H5.out.1.2.1.five
      clear hlF hlP hob
      go_wp2_with fail
      clear g1 g2
      generalize hgv : wr.heap.size = gv at *
      generalize wr.alloc (.cells #[.int .i64 p1, .int .i64 p2] 35) = wv at *
      have Hgv := hid hgv
      clear hgv
      refine (devHas_any V' B' m' d' ks' p2 _ (HG.out.kill.below H5.out.1.2.2)).mono ?_
      rintro e w6 ⟨rfl, hb6⟩
      have H6 := hid (H5.out.below hb6)
      have HB := hid (Hbx.out.below hb6 Hbx.out.lt)
      clear s0 s1 s2 s3 s4 b0 b1 hb6 Hbx H5
      obtain ⟨b0, b1⟩ := HB.out.two
      have hBl := HB.out.lt
      obtain ⟨r, hr⟩ : ∃ r, Bs.hasB V' ks' p2 = r := ⟨_, rfl⟩
      rw [hr]
      cases r with
      | true =>
        have hz0 : chnP V' ks' cs' (p1, p2) 0 = [] := by rw [chnP_zero]; simp [hr]
        have HJ := hid (show Chaining w W V A B (some ad) n c m d k q W' V' A' B' C' n' c' m' d' k' q' u5 (chnF V' ks' cs cs' j ++ chnP V' ks' cs' (p1, p2) 0) w6 from by rw [hz0, List.append_nil]; exact H6.out)
        have HN := hid (show u5.ownBlock ≠ some gv from fun e => by have := Hob.out gv e; omega)
        clear hz0 hr
        obtain ⟨s0, s1, s2, s3, s4⟩ := H6.out.1.2.1.five
        go_wp2_with fail
        clear s0 s1 s2 s3 s4 b0 b1 H6
        go_loopw [5, 9, 32] (fun v _ i wr => ∃ l : Nat, l ≤ k' ∧ i = .int .i64 l ∧ Hid (Chaining w W V A B (some ad) n c m d k q W' V' A' B' C' n' c' m' d' k' q' v (chnF V' ks' cs cs' j ++ chnP V' ks' cs' (p1, p2) l) wr ∧ Fb wr gv #[.int .i64 p1, .int .i64 p2] 35 ∧ v.ownBlock ≠ some gv)) (fun _ _ i _ => k' - (intOf i).toNat)
        case atStart => exact ⟨0, by omega, rfl, HJ.out, HB.out, HN.out⟩
        case round =>
          clear HJ HB HN
          obtain ⟨l, hl, rfl, hK⟩ := hrel
          by_cases hll : l < k'
          · have hll2 : l < cs'.length := by rw [HG.out.cops.len]; exact hll
            have hget2 : cs'[l]? = some cs'[l] := List.getElem?_eq_getElem _
            have hsn2 := take_snoc cs' l hll2
            generalize cs'[l] = dd at hget2 hsn2
            obtain ⟨d1, d2⟩ := dd
            obtain ⟨ad2, rfl, had2, g1, g2⟩ := (HG.out.cops.below hK.out.1.1.2.2).cell hget2
            have Hsn2 := hid hsn2
            have hlen : (chnF V' ks' cs cs' j ++ chnP V' ks' cs' (p1, p2) l).length ≤ 4300 := by
              rw [List.length_append]; have := HlF.out; have := HlP.out l; omega
            clear hget2 hsn2
            have HK := hid (hK.out.1.below ((Below.refl _ _).alloc (Nat.le_refl _) (.cells #[.int .i64 d1, .int .i64 d2] 35)))
            have HB2 := hid (hK.out.2.1.alloc (.cells #[.int .i64 d1, .int .i64 d2] 35))
            have HN2 := hid hK.out.2.2
            have HD := hid (Fb.new wr #[.int .i64 d1, .int .i64 d2] 35)
            obtain ⟨b0, b1⟩ := HB2.out.two
            obtain ⟨e0, e1⟩ := HD.out.two
            have hBl2 := HB2.out.lt
            by_cases he : p2 = d1
            · have tt : (p2 == d1) = true := by simp [he]
              have Hst2 := hid (show chnF V' ks' cs cs' j ++ chnP V' ks' cs' (p1, p2) (l + 1) = (chnF V' ks' cs cs' j ++ chnP V' ks' cs' (p1, p2) l) ++ [(p1, d2)] by rw [chnP_yes Hsn2.out he, List.append_assoc])
              clear he
              generalize chnF V' ks' cs cs' j ++ chnP V' ks' cs' (p1, p2) l = rs at *
              go_upto_region 10 with fail
              clear g1 g2
              generalize hgw : wr.heap.size = gw at *
              generalize wr.alloc (.cells #[.int .i64 d1, .int .i64 d2] 35) = wv2 at *
              clear hgw
              go_wp2_with ((
                at_builtin
                refine wpList_append_lies _ rfl _ _ 27 rfl (w.heap.size + 2) 35 i0 _ 2 16 Try.underlying27 Hi.out Hz0.out Hz1.out Hz2.out rfl (by decide) u5 rs.length (pairs rs) rfl (World.ownsRow.alloc HK.out.2.1 _) ⟨wv2.heap.size, 0, none⟩ 1 1 [.int .i64 p1, .int .i64 d2] rfl rfl (two_new _ _ _ _) (one_pair _ _) (by omega) (by unfold maxLen; omega) (by omega) (by have := HK.out.2.2; rw [World.size_alloc]; omega) _ rfl ?_
                intro g7 cap7 w7 hown7 hgr7 hat7 hlt7
                have H7 := hid (HK.out.push hown7 hgr7)
                have HB7 := hid ((HB2.out.alloc (.cells #[.int .i64 p1, .int .i64 d2] 35)).grown hgr7 (Ne.symm HN2.out))
                have HN7 := hid (show (Value.slice (some ⟨g7, 0, none⟩) (rs.length + 1) cap7).ownBlock ≠ some gv from fun e => by
                  have e' : g7 = gv := by simpa [Value.ownBlock] using e
                  rcases hat7 with h | h
                  · exact HN2.out (by rw [h, e'])
                  · rw [World.size_alloc] at h; omega)
                clear hown7 hgr7 hat7 hlt7))
              go_roundw
              case rel => exact ⟨l + 1, by omega, by go_num, by rw [Hst2.out]; exact hid ⟨H7.out, HB7.out, HN7.out⟩⟩
              case measure => simp [intOf]; omega
            · have tt : (p2 == d1) = false := by simp [he]
              have Hst2 := hid (show chnF V' ks' cs cs' j ++ chnP V' ks' cs' (p1, p2) (l + 1) = chnF V' ks' cs cs' j ++ chnP V' ks' cs' (p1, p2) l by rw [chnP_no Hsn2.out he])
              clear he
              go_wp2_with fail
              go_roundw
              case rel => exact ⟨l + 1, by omega, by go_num, by rw [Hst2.out]; exact hid ⟨HK.out, HB2.out, HN2.out⟩⟩
              case measure => simp [intOf]; omega
          · have hlk : k' = l := by omega
            subst hlk
            have Hst3 := hid (show chnF V' ks' cs cs' (j + 1) = chnF V' ks' cs cs' j ++ chnP V' ks' cs' (p1, p2) k' by rw [chnF_snoc Hsn.out, HG.out.cops.len])
            have HK := hid hK.out.1
            clear hK
            go_wp2_with fail
            go_roundw
            case rel => exact ⟨j + 1, by omega, by go_num, by rw [Hst3.out]; exact HK⟩
            case measure => simp [intOf]; omega
      | false =>
        have hz0 : chnP V' ks' cs' (p1, p2) 0 = [(p1, p2)] := by rw [chnP_zero]; simp [hr]
        have hlF := HlF.out
        have Hz := hid hz0
        clear hz0 hr
        obtain ⟨s0, s1, s2, s3, s4⟩ := H6.out.1.2.1.five
        generalize hFj : chnF V' ks' cs cs' j = rs at H6 hlF
        have HFj := hid hFj
        clear hFj
        go_upto_region 7 with (
          at_builtin
          refine wpList_append_lies _ rfl _ _ 27 rfl (w.heap.size + 2) 35 i0 _ 2 16 Try.underlying27 Hi.out Hz0.out Hz1.out Hz2.out rfl (by decide) u5 rs.length (pairs rs) rfl (World.ownsRow.alloc H6.out.2.1 _) ⟨w6.heap.size, 0, none⟩ 1 1 [.int .i64 p1, .int .i64 p2] rfl rfl (two_new _ _ _ _) (one_pair _ _) (by omega) (by unfold maxLen; omega) (by omega) (by have := H6.out.2.2; rw [World.size_alloc]; omega) _ rfl ?_
          intro g7 cap7 w7 hown7 hgr7 hat7 hlt7
          have HJ := hid (show Chaining w W V A B (some ad) n c m d k q W' V' A' B' C' n' c' m' d' k' q' (.slice (some ⟨g7, 0, none⟩) (rs.length + 1) cap7) (chnF V' ks' cs cs' j ++ chnP V' ks' cs' (p1, p2) 0) w7 from by rw [Hz.out, HFj.out]; exact H6.out.push hown7 hgr7)
          have HB := hid ((HB.out.alloc (.cells #[.int .i64 p1, .int .i64 p2] 35)).grown hgr7 (fun e => by have := Hob.out gv e.symm; omega))
          have HN := hid (show (Value.slice (some ⟨g7, 0, none⟩) (rs.length + 1) cap7).ownBlock ≠ some gv from fun e => by
            have e' : g7 = gv := by simpa [Value.ownBlock] using e
            rcases hat7 with h | h
            · have := Hob.out gv (by rw [h, e']); omega
            · rw [World.size_alloc] at h; omega)
          clear hown7 hgr7 hat7 hlt7)
        obtain ⟨x0, x1, x2, x3, x4⟩ := HJ.out.1.2.1.five
        go_wp2_with fail
        clear s0 s1 s2 s3 s4 b0 b1 H6 x0 x1 x2 x3 x4
        go_loopw [5, 9, 32] (fun v _ i wr => ∃ l : Nat, l ≤ k' ∧ i = .int .i64 l ∧ Hid (Chaining w W V A B (some ad) n c m d k q W' V' A' B' C' n' c' m' d' k' q' v (chnF V' ks' cs cs' j ++ chnP V' ks' cs' (p1, p2) l) wr ∧ Fb wr gv #[.int .i64 p1, .int .i64 p2] 35 ∧ v.ownBlock ≠ some gv)) (fun _ _ i _ => k' - (intOf i).toNat)
        case atStart => exact ⟨0, by omega, rfl, HJ.out, HB.out, HN.out⟩
        case round =>
          clear HJ HB HN
          obtain ⟨l, hl, rfl, hK⟩ := hrel
          by_cases hll : l < k'
          · have hll2 : l < cs'.length := by rw [HG.out.cops.len]; exact hll
            have hget2 : cs'[l]? = some cs'[l] := List.getElem?_eq_getElem _
            have hsn2 := take_snoc cs' l hll2
            generalize cs'[l] = dd at hget2 hsn2
            obtain ⟨d1, d2⟩ := dd
            obtain ⟨ad2, rfl, had2, g1, g2⟩ := (HG.out.cops.below hK.out.1.1.2.2).cell hget2
            have Hsn2 := hid hsn2
            have hlen : (chnF V' ks' cs cs' j ++ chnP V' ks' cs' (p1, p2) l).length ≤ 4300 := by
              rw [List.length_append]; have := HlF.out; have := HlP.out l; omega
            clear hget2 hsn2
            have HK := hid (hK.out.1.below ((Below.refl _ _).alloc (Nat.le_refl _) (.cells #[.int .i64 d1, .int .i64 d2] 35)))
            have HB2 := hid (hK.out.2.1.alloc (.cells #[.int .i64 d1, .int .i64 d2] 35))
            have HN2 := hid hK.out.2.2
            have HD := hid (Fb.new wr #[.int .i64 d1, .int .i64 d2] 35)
            obtain ⟨b0, b1⟩ := HB2.out.two
            obtain ⟨e0, e1⟩ := HD.out.two
            have hBl2 := HB2.out.lt
            by_cases he : p2 = d1
            · have tt : (p2 == d1) = true := by simp [he]
              have Hst2 := hid (show chnF V' ks' cs cs' j ++ chnP V' ks' cs' (p1, p2) (l + 1) = (chnF V' ks' cs cs' j ++ chnP V' ks' cs' (p1, p2) l) ++ [(p1, d2)] by rw [chnP_yes Hsn2.out he, List.append_assoc])
              clear he
              generalize chnF V' ks' cs cs' j ++ chnP V' ks' cs' (p1, p2) l = rs at *
              go_upto_region 10 with fail
              clear g1 g2
              generalize hgw : wr.heap.size = gw at *
              generalize wr.alloc (.cells #[.int .i64 d1, .int .i64 d2] 35) = wv2 at *
              clear hgw
              go_wp2_with ((
                at_builtin
                refine wpList_append_lies _ rfl _ _ 27 rfl (w.heap.size + 2) 35 i0 _ 2 16 Try.underlying27 Hi.out Hz0.out Hz1.out Hz2.out rfl (by decide) u5 rs.length (pairs rs) rfl (World.ownsRow.alloc HK.out.2.1 _) ⟨wv2.heap.size, 0, none⟩ 1 1 [.int .i64 p1, .int .i64 d2] rfl rfl (two_new _ _ _ _) (one_pair _ _) (by omega) (by unfold maxLen; omega) (by omega) (by have := HK.out.2.2; rw [World.size_alloc]; omega) _ rfl ?_
                intro g7 cap7 w7 hown7 hgr7 hat7 hlt7
                have H7 := hid (HK.out.push hown7 hgr7)
                have HB7 := hid ((HB2.out.alloc (.cells #[.int .i64 p1, .int .i64 d2] 35)).grown hgr7 (Ne.symm HN2.out))
                have HN7 := hid (show (Value.slice (some ⟨g7, 0, none⟩) (rs.length + 1) cap7).ownBlock ≠ some gv from fun e => by
                  have e' : g7 = gv := by simpa [Value.ownBlock] using e
                  rcases hat7 with h | h
                  · exact HN2.out (by rw [h, e'])
                  · rw [World.size_alloc] at h; omega)
                clear hown7 hgr7 hat7 hlt7))
              go_roundw
              case rel => exact ⟨l + 1, by omega, by go_num, by rw [Hst2.out]; exact hid ⟨H7.out, HB7.out, HN7.out⟩⟩
              case measure => simp [intOf]; omega
            · have tt : (p2 == d1) = false := by simp [he]
              have Hst2 := hid (show chnF V' ks' cs cs' j ++ chnP V' ks' cs' (p1, p2) (l + 1) = chnF V' ks' cs cs' j ++ chnP V' ks' cs' (p1, p2) l by rw [chnP_no Hsn2.out he])
              clear he
              go_wp2_with fail
              go_roundw
              case rel => exact ⟨l + 1, by omega, by go_num, by rw [Hst2.out]; exact hid ⟨HK.out, HB2.out, HN2.out⟩⟩
              case measure => simp [intOf]; omega
          · have hlk : k' = l := by omega
            subst hlk
            have Hst3 := hid (show chnF V' ks' cs cs' (j + 1) = chnF V' ks' cs cs' j ++ chnP V' ks' cs' (p1, p2) k' by rw [chnF_snoc Hsn.out, HG.out.cops.len])
            have HK := hid hK.out.1
            clear hK
            go_wp2_with fail
            go_roundw
            case rel => exact ⟨j + 1, by omega, by go_num, by rw [Hst3.out]; exact HK⟩
            case measure => simp [intOf]; omega
    · have hjk : k = j := by omega
      subst hjk
      have hall : chnF V' ks' cs cs' k = chnF V' ks' cs cs' cs.length := by rw [HF.out.cops.len]
      rw [hall] at hG1
      clear hall
      have hlF : (chnF V' ks' cs cs' cs.length).length ≤ 4160 := by
        have h1 := chnF_len V' ks' cs cs' cs.length
        have h2 : cs.length * (cs'.length + 1) ≤ 64 * 65 := Nat.mul_le_mul (by have := HF.out.cops.len; omega) (by have := HG.out.cops.len; omega)
        omega
      have hLL : chnL V ks V' ks' cs cs' = chnF V' ks' cs cs' cs.length ++ cs'.filter fun d => !Bs.hasB V ks d.1 := rfl
      have HLL := hid hLL
      clear hLL
      generalize chnF V' ks' cs cs' cs.length = rs0 at *
      obtain ⟨s0, s1, s2, s3, s4⟩ := hG1.out.1.2.1.five
      have HL := hid (show Chaining w W V A B C n c m d k q W' V' A' B' C' n' c' m' d' k' q' u5 (rs0 ++ (cs'.take 0).filter fun d => !Bs.hasB V ks d.1) wr from by simpa using hG1.out)
      clear hG1
      go_wp2_with fail
      clear s0 s1 s2 s3 s4
      go_loopw [5, 11, 54] (fun v _ i wr => ∃ l : Nat, l ≤ k' ∧ i = .int .i64 l ∧ Hid (Chaining w W V A B C n c m d k q W' V' A' B' C' n' c' m' d' k' q' v (rs0 ++ (cs'.take l).filter fun d => !Bs.hasB V ks d.1) wr)) (fun _ _ i _ => k' - (intOf i).toNat)
      case atStart => exact ⟨0, by omega, rfl, HL.out⟩
      case round =>
        clear HL
        obtain ⟨l, hl, rfl, hK⟩ := hrel
        by_cases hll : l < k'
        · have hll2 : l < cs'.length := by rw [HG.out.cops.len]; exact hll
          have hget2 : cs'[l]? = some cs'[l] := List.getElem?_eq_getElem _
          have hsn2 := take_snoc cs' l hll2
          generalize cs'[l] = dd at hget2 hsn2
          obtain ⟨d1, d2⟩ := dd
          obtain ⟨ad2, rfl, had2, g1, g2⟩ := (HG.out.cops.below hK.out.1.2.2).cell hget2
          have Hsn2 := hid hsn2
          have hlen : (rs0 ++ (cs'.take l).filter fun d => !Bs.hasB V ks d.1).length ≤ 4300 := by
            rw [List.length_append]
            have h1 := List.length_filter_le (fun d => !Bs.hasB V ks d.1) (cs'.take l)
            rw [List.length_take] at h1; omega
          clear hget2 hsn2
          have HK := hid (hK.out.below ((Below.refl _ _).alloc (Nat.le_refl _) (.cells #[.int .i64 d1, .int .i64 d2] 35)))
          have HD := hid (Fb.new wr #[.int .i64 d1, .int .i64 d2] 35)
          obtain ⟨e0, e1⟩ := HD.out.two
          obtain ⟨t0, t1, t2, t3, t4⟩ := HK.out.1.1.five
          go_wp2_with fail
          clear g1 g2
          generalize wr.heap.size = gw at *
          generalize wr.alloc (.cells #[.int .i64 d1, .int .i64 d2] 35) = wv2 at *
          refine (devHas_any V B m d ks d1 _ (HF.out.kill.below HK.out.1.2.2)).mono ?_
          rintro e w6 ⟨rfl, hb6⟩
          have H6 := hid (HK.out.below hb6)
          have HD6 := hid (HD.out.below hb6 HD.out.lt)
          clear e0 e1 t0 t1 t2 t3 t4 hb6
          obtain ⟨e0, e1⟩ := HD6.out.two
          obtain ⟨r, hr⟩ : ∃ r, Bs.hasB V ks d1 = r := ⟨_, rfl⟩
          rw [hr]
          cases r with
          | true =>
            have Hst2 := hid (show (rs0 ++ (cs'.take (l + 1)).filter fun d => !Bs.hasB V ks d.1) = rs0 ++ (cs'.take l).filter fun d => !Bs.hasB V ks d.1 by rw [Hsn2.out, List.filter_append]; simp [hr])
            clear hr
            go_wp2_with fail
            go_roundw
            case rel => exact ⟨l + 1, by omega, by go_num, by rw [Hst2.out]; exact H6⟩
            case measure => simp [intOf]; omega
          | false =>
            have Hst2 := hid (show (rs0 ++ (cs'.take (l + 1)).filter fun d => !Bs.hasB V ks d.1) = (rs0 ++ (cs'.take l).filter fun d => !Bs.hasB V ks d.1) ++ [(d1, d2)] by rw [Hsn2.out, List.filter_append, List.append_assoc]; simp [hr])
            clear hr
            generalize (rs0 ++ (cs'.take l).filter fun d => !Bs.hasB V ks d.1) = rs at *
            go_wp2_with ((
              at_builtin
              refine wpList_append_lies _ rfl _ _ 27 rfl (w.heap.size + 2) 35 i0 _ 2 16 Try.underlying27 Hi.out Hz0.out Hz1.out Hz2.out rfl (by decide) u5 rs.length (pairs rs) rfl (World.ownsRow.alloc H6.out.2.1 _) ⟨w6.heap.size, 0, none⟩ 1 1 [.int .i64 d1, .int .i64 d2] rfl rfl (two_new _ _ _ _) (one_pair _ _) (by omega) (by unfold maxLen; omega) (by omega) (by have := H6.out.2.2; rw [World.size_alloc]; omega) _ rfl ?_
              intro g7 cap7 w7 hown7 hgr7 hat7 hlt7
              have H7 := hid (H6.out.push hown7 hgr7)
              clear hown7 hgr7 hat7 hlt7))
            go_roundw
            case rel => exact ⟨l + 1, by omega, by go_num, by rw [Hst2.out]; exact H7⟩
            case measure => simp [intOf]; omega
        · have hlk : k' = l := by omega
          subst hlk
          have hall : cs'.take k' = cs' := List.take_of_length_le (by rw [HG.out.cops.len]; omega)
          rw [hall, ← HLL.out] at hK
          obtain ⟨Co, qo, rfl⟩ : ∃ Co qo, u5 = .slice Co (chnL V ks V' ks' cs cs').length qo := by
            rcases hK.out.2.1.2 with ⟨e1, e2⟩ | ⟨g, cap, cur, e1, _⟩
            · exact ⟨none, 0, by rw [e1, e2]⟩
            · exact ⟨_, cap, e1⟩
          have HK := hid hK.out
          clear hK hall
          go_wp2_with fail
          go_ret
          exact ⟨Co, qo, rfl, ⟨own_at HK.out.2.1, rfl⟩, HK.out.1.2.2⟩
end Go.Proofs.Ytkckkodoeepdpaa

namespace Go.Proofs.Ytkckkodoeepdpaa
set_option maxRecDepth 20000
open Go.ChangeShapes Go.WideShapes Go.ChangeAt Go.RowKit

theorem FArg.skip {w w' : World} {A B C : Option Addr} {n m k R : Nat} {gs ks : List Nat} {cs : List (Int × Int)} (h : FArg w A n B m C k gs ks cs) (h1 : gs = [] ∨ ∃ ad, A = some ad ∧ ad.block ≠ R) (h2 : ks = [] ∨ ∃ ad, B = some ad ∧ ad.block ≠ R) (h3 : cs = [] ∨ ∃ ad, C = some ad ∧ ad.block ≠ R) (hg : w.grownBy w' (some R)) : FArg w' A n B m C k gs ks cs :=
  ⟨h.gen.skip h1 hg, h.kill.skip h2 hg, h.cops.skip h3 hg⟩
theorem inW_pair {W : Int} {p : Int × Int} : inW W p = true ↔ (0 ≤ p.1 ∧ p.1 < W) ∧ 0 ≤ p.2 ∧ p.2 < W := by
  unfold inW; simp only [Bool.and_eq_true, decide_eq_true_eq]; omega
theorem chnL_inW {W V V' : Int} {ks ks' : List Nat} {cs cs' : List (Int × Int)} (h : ∀ p ∈ cs, inW W p = true) (h' : ∀ p ∈ cs', inW W p = true) : ∀ p ∈ chnL V ks V' ks' cs cs', inW W p = true := by
  intro p hp
  unfold chnL at hp
  rcases List.mem_append.1 hp with hp | hp
  · unfold chnF at hp
    obtain ⟨q, hq, hp⟩ := List.mem_flatMap.1 hp
    have hq' := inW_pair.1 (h q (List.mem_of_mem_take hq))
    unfold chnP at hp
    rcases List.mem_append.1 hp with hp | hp
    · split at hp
      · cases hp
      · rw [List.mem_singleton.1 hp]; exact inW_pair.2 hq'
    · obtain ⟨d, hd, rfl⟩ := List.mem_map.1 hp
      have hd' := inW_pair.1 (h' d (List.mem_of_mem_take (List.mem_filter.1 hd).1))
      exact inW_pair.2 ⟨hq'.1, hd'.2⟩
  · exact h' p (List.mem_filter.1 hp).1
theorem chnL_len {V V' : Int} {ks ks' : List Nat} {cs cs' : List (Int × Int)} (h : cs.length ≤ 64) (h' : cs'.length ≤ 64) : (chnL V ks V' ks' cs cs').length ≤ 5000 := by
  unfold chnL
  rw [List.length_append]
  have h1 := chnF_len V' ks' cs cs' cs.length
  have h2 : cs.length * (cs'.length + 1) ≤ 64 * 65 := Nat.mul_le_mul h (by omega)
  have h3 := List.length_filter_le (fun d : Int × Int => !Bs.hasB V ks d.1) cs'
  omega

/-- P3.5. -/
def composeR (W : Int) (gs : List Nat) (V : Int) (ks : List Nat) (cs : List (Int × Int)) (W' : Int) (gs' : List Nat) (V' : Int) (ks' : List Nat) (cs' : List (Int × Int)) : Int × List Nat × List Nat × List (Int × Int) × Int :=
  if validT W gs V ks cs = false ∨ validT W' gs' V' ks' cs' = false then (0, [], [], [], 1)
  else if W ≠ W' then (0, [], [], [], 2)
  else cnR W.toNat (valR gs' gs (folB W ks' cs') W.toNat) (orR W.toNat ks ks') (chnL V ks V' ks' cs cs')

set_option maxHeartbeats 1600000 in
theorem devCompose_any (W V : Int) (A B C : Option Addr) (n c m d k q : Nat) (gs ks : List Nat) (cs : List (Int × Int)) (W' V' : Int) (A' B' C' : Option Addr) (n' c' m' d' k' q' : Nat) (gs' ks' : List Nat) (cs' : List (Int × Int)) (w : World)
    (hF : FArg w A n B m C k gs ks cs) (hG : FArg w A' n' B' m' C' k' gs' ks' cs') :
    Calls Try.prog 15 #[.agg #[.int .i64 W, .slice A n c, .int .i64 V, .slice B m d, .slice C k q], .agg #[.int .i64 W', .slice A' n' c', .int .i64 V', .slice B' m' d', .slice C' k' q']] w
      (RetR w (composeR W gs V ks cs W' gs' V' ks' cs')) := by
  have HF := hid hF; have HG := hid hG
  have H0 := hid (Three.start w W V A B C n c m d k q W' V' A' B' C' n' c' m' d' k' q')
  clear hF hG
  go_enter Try.func15, Try.ntmps15
  go_wp2_with fail
  refine (devCheck_any W V A B C n c m d k q gs ks cs W' V' A' B' C' n' c' m' d' k' q' gs' ks' cs' _ (HF.out.below H0.out.2.2.2) (HG.out.below H0.out.2.2.2)).mono ?_
  by_cases hbad : checkR (validT W gs V ks cs) (validT W' gs' V' ks' cs') W W' ≠ 0
  · have Hr := hid (show composeR W gs V ks cs W' gs' V' ks' cs' = (0, [], [], [], checkR (validT W gs V ks cs) (validT W' gs' V' ks' cs') W W') by
      unfold composeR checkR
      unfold checkR at hbad
      by_cases h1 : validT W gs V ks cs = false ∨ validT W' gs' V' ks' cs' = false
      · rw [if_pos h1, if_pos h1]
      · rw [if_neg h1, if_neg h1]
        rw [if_neg h1] at hbad
        by_cases h2 : W ≠ W'
        · rw [if_pos h2, if_pos h2]
        · rw [if_neg h2] at hbad; exact absurd rfl hbad)
    generalize checkR (validT W gs V ks cs) (validT W' gs' V' ks' cs') W W' = er at *
    have tt : (er != 0) = true := by simpa using hbad
    clear hbad
    rintro e w1 ⟨rfl, hb1⟩
    have H1 := hid (H0.out.below hb1)
    clear hb1
    obtain ⟨r0, r1, r2, r3, r4⟩ := H1.out.2.2.1.five
    have f0 := H1.out.2.2.1.frozen 0
    have f1 := H1.out.2.2.1.frozen 1
    have f2 := H1.out.2.2.1.frozen 2
    have f3 := H1.out.2.2.1.frozen 3
    have f4 := H1.out.2.2.1.frozen 4
    have hlR := H1.out.2.2.1.lt
    have Fin := hid (RetT.stored (err := er) (c := 0) (d := 0) (q := 0) (cs := []) (C := none) (Arg.nil w1 none) (Arg.nil w1 none) ⟨.inl rfl, rfl⟩ H1.out.2.2.2 (by omega) H1.out.2.2.1 (W := 0))
    unfold stored5 at Fin
    go_wp2_with fail
    refine bodyPost_ret (v := .tuple #[.agg #[.int .i64 0, .slice none 0 0, .int .i64 0, .slice none 0 0, .slice none 0 0], .int .i64 er]) (by simp [results, Try.results15, go_sem, r0, r1, r2, r3, r4]) rfl ?_
    rw [Hr.out]
    exact Fin.out
  · have hok : checkR (validT W gs V ks cs) (validT W' gs' V' ks' cs') W W' = 0 := by simpa using hbad
    rw [hok]
    have hv1 : validT W gs V ks cs = true := by
      unfold checkR at hok
      cases h : validT W gs V ks cs with
      | true => rfl
      | false => rw [h] at hok; simp at hok
    have hv2 : validT W' gs' V' ks' cs' = true := by
      unfold checkR at hok
      cases h : validT W' gs' V' ks' cs' with
      | true => rfl
      | false => rw [h] at hok; simp at hok
    have hWW : W = W' := by
      unfold checkR at hok
      rw [hv1, hv2] at hok
      by_cases h : W = W'
      · exact h
      · simp [h] at hok
    clear hok hbad
    subst hWW
    obtain ⟨h1, h2, h3, h4, h5⟩ := validT_iff hv1
    obtain ⟨g1, g2, g3, g4, g5⟩ := validT_iff hv2
    subst h3
    subst g3
    have hin1 := inW_of_ok h5
    have hin2 := inW_of_ok g5
    have Hr := hid (show composeR W gs W ks cs W gs' W ks' cs' = cnR W.toNat (valR gs' gs (folB W ks' cs') W.toNat) (orR W.toNat ks ks') (chnL W ks W ks' cs cs') by unfold composeR; rw [if_neg (by simp [hv1, hv2]), if_neg (by simp)])
    obtain ⟨v, rfl⟩ := Int.eq_ofNat_of_zero_le (Bs.validB_iff.1 h1).1
    have hv256 : v ≤ 256 := by have := (Bs.validB_iff.1 h1).2.1; omega
    have hfg := fit_of_valid' h1 HF.out.gen
    have hfk := fit_of_valid' h2 HF.out.kill
    have hfg' := fit_of_valid' g1 HG.out.gen
    have hfk' := fit_of_valid' g2 HG.out.kill
    have hk4 : k ≤ 64 := by rw [HF.out.cops.len] at h4; exact h4
    have hk4' : k' ≤ 64 := by rw [HG.out.cops.len] at g4; exact g4
    rw [Int.toNat_natCast] at Hr
    have Hin := hid (show ∀ p ∈ chnL v ks v ks' cs cs', inW v p = true from chnL_inW hin1 hin2)
    have Hlen := hid (show (chnL v ks v ks' cs cs').length ≤ 5000 from chnL_len (by rw [HF.out.cops.len]; exact hk4) (by rw [HG.out.cops.len]; exact hk4'))
    have Happ := hid (show applyR v gs' v ks' cs' v gs = ((v : Int), valR gs' gs (folB v ks' cs') v, 0) by unfold applyR; rw [if_neg (by simp [hv2, h1]), if_neg (by simp), Int.toNat_natCast])
    have Hfg := hid hfg; have Hfk := hid hfk; have Hfg' := hid hfg'; have Hfk' := hid hfk'
    clear h1 h2 h4 h5 g1 g2 g4 g5 hin1 hin2 hfg hfk hfg' hfk' hv1 hv2
    rintro e w1 ⟨rfl, hb1⟩
    have H1 := hid (H0.out.below hb1)
    clear hb1
    obtain ⟨t0, t1, t2, t3, t4⟩ := H1.out.1.five
    obtain ⟨s0, s1, s2, s3, s4⟩ := H1.out.2.1.five
    go_wp2_with fail
    refine (devApply_any v v v A' B' C' A n' c' m' d' k' q' n c gs' ks' gs cs' _ (HG.out.gen.below H1.out.2.2.2) (HG.out.kill.below H1.out.2.2.2) (HG.out.cops.below H1.out.2.2.2) (HF.out.gen.below H1.out.2.2.2)).mono ?_
    rw [Happ.out]
    rintro e w2 ⟨A2, n2, c2, rfl, ha2, hb2⟩
    have hb2' := hb2.alloc hb2.size (.cells #[.int .i64 v, .slice A2 n2 c2] 24)
    have H2 := hid (H1.out.below hb2')
    have HA2 := hid (ha2.alloc (.cells #[.int .i64 v, .slice A2 n2 c2] 24))
    have HB2 := hid (Box.new w2 v A2 n2 c2)
    clear ha2 hb2 hb2' t0 t1 t2 t3 t4 s0 s1 s2 s3 s4
    obtain ⟨t0, t1, t2, t3, t4⟩ := H2.out.1.five
    obtain ⟨s0, s1, s2, s3, s4⟩ := H2.out.2.1.five
    go_wp2_with fail
    generalize w2.alloc (.cells #[.int .i64 v, .slice A2 n2 c2] 24) = w3 at *
    generalize w2.heap.size = b3 at *
    refine (devUnion_any v v B B' m d m' d' ks ks' _ (HF.out.kill.below H2.out.2.2.2) (HG.out.kill.below H2.out.2.2.2)).mono ?_
    rw [mixR_or hv256 Hfk.out Hfk'.out]
    rintro e w4 ⟨A4, n4, c4, rfl, ha4, hb4⟩
    have hb4' := hb4.alloc hb4.size (.cells #[.int .i64 v, .slice A4 n4 c4] 24)
    have H5 := hid (H2.out.below hb4')
    have HA5 := hid (HA2.out.below hb4')
    have HB5 := hid (HB2.out.below hb4' HB2.out.lt)
    have HK5 := hid (ha4.alloc (.cells #[.int .i64 v, .slice A4 n4 c4] 24))
    have HC5 := hid (Box.new w4 v A4 n4 c4)
    have hne3 : b3 ≠ w.heap.size + 2 := by
      intro e
      have x1 := HB2.out
      have x2 := H2.out.2.2.1
      rw [e] at x1
      unfold Box at x1
      unfold Fb at x2
      rw [x1] at x2
      cases x2
    have hne4 : w4.heap.size ≠ w.heap.size + 2 := by
      intro e
      have x1 := HC5.out
      have x2 := H5.out.2.2.1
      rw [e] at x1
      unfold Box at x1
      unfold Fb at x2
      rw [x1] at x2
      cases x2
    clear ha4 hb4 hb4' t0 t1 t2 t3 t4 s0 s1 s2 s3 s4 H1 H2 HA2 HB2
    go_upto_region 6 with fail
    generalize w4.alloc (.cells #[.int .i64 v, .slice A4 n4 c4] 24) = w5 at *
    generalize w4.heap.size = b4 at *
    generalize hR : w.heap.size + 1 + 1 = R
    have hR2 : w.heap.size + 2 = R := hR
    have HZ := hid (show Fb w5 R _ 29 from by rw [← hR2]; exact H5.out.2.2.1)
    rw [hR2] at hne3 hne4
    have hRle : w.heap.size ≤ R := by omega
    have hn0 : w.heap.size ≠ R := by omega
    have hn1 : w.heap.size + 1 ≠ R := by omega
    have HnR := hid (And.intro hn0 hn1)
    have hA0 := HA5.out.apart HZ.out zero5
    have hK0 := HK5.out.apart HZ.out zero5
    have hF5 := HF.out.below H5.out.2.2.2
    have hG5 := HG.out.below H5.out.2.2.2
    have hFS := fun (w' : World) (hg : w5.grownBy w' (some R)) => hF5.skip (hF5.gen.apart HZ.out zero5) (hF5.kill.apart HZ.out zero5) (hF5.cops.apart HZ.out zero5c) hg
    have hGS := fun (w' : World) (hg : w5.grownBy w' (some R)) => hG5.skip (hG5.gen.apart HZ.out zero5) (hG5.kill.apart HZ.out zero5) (hG5.cops.apart HZ.out zero5c) hg
    have hK : ∀ w', w5.grownBy w' (some R) → ((fun w' => w5.grownBy w' (some R) ∧ (w'.cell? ⟨b3, 0, none⟩ = some (.int .i64 v) ∧ w'.cell? ⟨b3, 1, none⟩ = some (.slice A2 n2 c2)) ∧ (w'.cell? ⟨b4, 0, none⟩ = some (.int .i64 v) ∧ w'.cell? ⟨b4, 1, none⟩ = some (.slice A4 n4 c4)) ∧ (w'.cell? ⟨w.heap.size, 0, none⟩ = some (.int .i64 v) ∧ w'.cell? ⟨w.heap.size, 1, none⟩ = some (.slice A n c) ∧ w'.cell? ⟨w.heap.size, 2, none⟩ = some (.int .i64 v) ∧ w'.cell? ⟨w.heap.size, 3, none⟩ = some (.slice B m d) ∧ w'.cell? ⟨w.heap.size, 4, none⟩ = some (.slice C k q)) ∧ (w'.cell? ⟨w.heap.size + 1, 0, none⟩ = some (.int .i64 v) ∧ w'.cell? ⟨w.heap.size + 1, 1, none⟩ = some (.slice A' n' c') ∧ w'.cell? ⟨w.heap.size + 1, 2, none⟩ = some (.int .i64 v) ∧ w'.cell? ⟨w.heap.size + 1, 3, none⟩ = some (.slice B' m' d') ∧ w'.cell? ⟨w.heap.size + 1, 4, none⟩ = some (.slice C' k' q'))) w') := fun w' hg =>
      ⟨hg, ⟨(HB5.out.grown hg (some_ne hne3)).c0, (HB5.out.grown hg (some_ne hne3)).c1⟩, ⟨(HC5.out.grown hg (some_ne hne4)).c0, (HC5.out.grown hg (some_ne hne4)).c1⟩, (H5.out.1.grown hg (some_ne hn0)).five, (H5.out.2.1.grown hg (some_ne hn1)).five⟩
    have HK := hid hK
    have HA0 := hid hA0; have HK0 := hid hK0; have HFS := hid hFS; have HGS := hid hGS
    obtain ⟨r, hr⟩ : ∃ r, cnR v (valR gs' gs (folB v ks' cs') v) (orR v ks ks') (chnL v ks v ks' cs cs') = r := ⟨_, rfl⟩
    obtain ⟨W9, gs9, ks9, cs9, er9⟩ := r
    have Hcn := hid hr
    have hz1 : b3 < w5.heap.size := HB5.out.lt
    have hz2 : b4 < w5.heap.size := HC5.out.lt
    have hz3 := HZ.out.lt
    have hz4 : w.heap.size < w5.heap.size := H5.out.1.lt
    have hz5 : w.heap.size + 1 < w5.heap.size := H5.out.2.1.lt
    obtain ⟨p0, p1⟩ := And.intro HB5.out.c0 HB5.out.c1
    obtain ⟨q0, q1⟩ := And.intro HC5.out.c0 HC5.out.c1
    obtain ⟨t0, t1, t2, t3, t4⟩ := H5.out.1.five
    obtain ⟨s0, s1, s2, s3, s4⟩ := H5.out.2.1.five
    clear hR hR2 hn0 hn1 hK hA0 hK0 hF5 hG5 hFS hGS hr
    go_region_held3 (fun w' => w5.grownBy w' (some R) ∧ (w'.cell? ⟨b3, 0, none⟩ = some (.int .i64 v) ∧ w'.cell? ⟨b3, 1, none⟩ = some (.slice A2 n2 c2)) ∧ (w'.cell? ⟨b4, 0, none⟩ = some (.int .i64 v) ∧ w'.cell? ⟨b4, 1, none⟩ = some (.slice A4 n4 c4)) ∧ (w'.cell? ⟨w.heap.size, 0, none⟩ = some (.int .i64 v) ∧ w'.cell? ⟨w.heap.size, 1, none⟩ = some (.slice A n c) ∧ w'.cell? ⟨w.heap.size, 2, none⟩ = some (.int .i64 v) ∧ w'.cell? ⟨w.heap.size, 3, none⟩ = some (.slice B m d) ∧ w'.cell? ⟨w.heap.size, 4, none⟩ = some (.slice C k q)) ∧ (w'.cell? ⟨w.heap.size + 1, 0, none⟩ = some (.int .i64 v) ∧ w'.cell? ⟨w.heap.size + 1, 1, none⟩ = some (.slice A' n' c') ∧ w'.cell? ⟨w.heap.size + 1, 2, none⟩ = some (.int .i64 v) ∧ w'.cell? ⟨w.heap.size + 1, 3, none⟩ = some (.slice B' m' d') ∧ w'.cell? ⟨w.heap.size + 1, 4, none⟩ = some (.slice C' k' q')))
      (first
        | (with_reducible exact HK.out _ (grown_drew _ _))
        | (with_reducible exact HK.out _ (grown_set5 Hcur.out _ _ _ _ _))
        | assumption)
      (first
        | (go_at_call 47
           go_must (
           go_split_ands
           refine (chain_any v v A B C n c m d k q gs ks cs v v A' B' C' n' c' m' d' k' q' gs' ks' cs' _ (HFS.out _ (by assumption)) (HGS.out _ (by assumption)) hk4 hk4').mono ?_
           rintro e wn ⟨Cc, qc, rfl, hcc, hbk⟩
           have hbl := below_step (W := w5) (by first | exact (Below.refl _ _).drew | exact Below.refl _ _) hbk
           have Hbl := hid hbl
           have hcur := grown_of_below hbl (some R)
           have hS := HK.out _ hcur
           have Hcur := hid hcur
           have Hcc := hid hcc
           clear hbk hcc hbl))
        | (go_at_call 46
           go_must (
           go_split_ands
           refine (devCanonical_any v A2 A4 Cc n2 c2 n4 c4 (chnL v ks v ks' cs cs').length qc (valR gs' gs (folB v ks' cs') v) (orR v ks ks') (chnL v ks v ks' cs cs') _ (HA5.out.skip HA0.out (by assumption)) (HK5.out.skip HK0.out (by assumption)) Hcc.out hv256 (fit_valR _ _ _ _) (fit_orR _ _ _) Hin.out Hlen.out).mono ?_
           rintro e wn2 hcan
           have hval := hcan.val
           rw [Hcn.out] at hval
           obtain ⟨A9, n9, c9, B9, m9, d9, C9, q9, rfl, hA9, hB9, hC9, hbk⟩ := hval
           have hbl := below_step (W := w5) Hbl.out hbk
           have hcur := grown_of_below hbl (some R)
           have hS := HK.out _ hcur
           have Hcur := hid hcur
           have Hz9 := hid (HZ.out.below hbl HZ.out.lt)
           obtain ⟨r0, r1, r2, r3, r4⟩ := Hz9.out.five
           have f0 := Hz9.out.frozen 0
           have f1 := Hz9.out.frozen 1
           have f2 := Hz9.out.frozen 2
           have f3 := Hz9.out.frozen 3
           have f4 := Hz9.out.frozen 4
           have hlR := Hz9.out.lt
           have Fin := hid (RetT.stored (w := w) (err := er9) (c := c9) (d := d9) (q := q9) (W := W9) hA9 hB9 hC9 (H5.out.2.2.2.trans (hbl.mono H5.out.2.2.2.size)) hRle Hz9.out)
           unfold stored5 at Fin
           clear hbk hA9 hB9 hC9 hcan)))
    all_goals go_wp2_with fail
    all_goals refine bodyPost_ret (v := .tuple #[.agg #[.int .i64 W9, .slice A9 n9 c9, .int .i64 W9, .slice B9 m9 d9, .slice C9 cs9.length q9], .int .i64 er9]) (by simp [results, Try.results15, go_sem, r0, r1, r2, r3, r4]) rfl ?_
    all_goals rw [Hr.out, Hcn.out]
    all_goals exact Fin.out
end Go.Proofs.Ytkckkodoeepdpaa

namespace Go.Proofs.Ytkckkodoeepdpaa
set_option maxRecDepth 20000
open Go.ChangeShapes Go.WideShapes Go.ChangeAt Go.RowKit

/-- P3.1. -/
def idR (W : Int) : Int × List Nat × List Nat × List (Int × Int) × Int :=
  if W < 0 ∨ 256 < W then (0, [], [], [], 3) else cnR W.toNat (Bs.emp W.toNat) (Bs.emp W.toNat) []

set_option maxHeartbeats 1600000 in
theorem devIdentity_any (W : Int) (w : World) : Calls Try.prog 41 #[.int .i64 W] w (RetR w (idR W)) := by
  have HZ := hid (Fb.new w #[.int .i64 0, .slice none 0 0, .int .i64 0, .slice none 0 0, .slice none 0 0] 29)
  have HB := hid (show Below w.heap.size w (w.alloc (.cells #[.int .i64 0, .slice none 0 0, .int .i64 0, .slice none 0 0, .slice none 0 0] 29)) from (Below.refl _ _).alloc (Nat.le_refl _) _)
  go_enter Try.func41, Try.ntmps41
  go_wp2_with fail
  generalize w.alloc (.cells #[.int .i64 0, .slice none 0 0, .int .i64 0, .slice none 0 0, .slice none 0 0] 29) = w1 at *
  refine (devEmpty_any W _).mono ?_
  by_cases hbad : W < 0 ∨ 256 < W
  · have hr : emptyR W = (0, [], 3) := by unfold emptyR; rw [if_pos hbad]
    have Hr := hid (show idR W = (0, [], [], [], 3) by unfold idR; rw [if_pos hbad])
    rw [hr]
    clear hr hbad
    rintro e w2 ⟨A2, n2, c2, rfl, ha2, hb2⟩
    have hb2' := hb2.alloc hb2.size (.cells #[.int .i64 0, .slice A2 n2 c2] 24)
    have hx := HB.out.trans (hb2'.mono HB.out.size)
    have Hx := hid hx
    have HZ2 := hid (HZ.out.below hb2' HZ.out.lt)
    have HN := hid (Box.new w2 0 A2 n2 c2)
    clear hb2 hb2' hx ha2
    obtain ⟨r0, r1, r2, r3, r4⟩ := HZ2.out.five
    have f0 := HZ2.out.frozen 0
    have f1 := HZ2.out.frozen 1
    have f2 := HZ2.out.frozen 2
    have f3 := HZ2.out.frozen 3
    have f4 := HZ2.out.frozen 4
    have hlR := HZ2.out.lt
    have Fin := hid (RetT.stored (w := w) (err := 3) (c := 0) (d := 0) (q := 0) (cs := []) (C := none) (Arg.nil _ none) (Arg.nil _ none) ⟨.inl rfl, rfl⟩ Hx.out (Nat.le_refl _) HZ2.out (W := 0))
    unfold stored5 at Fin
    go_wp2_with fail
    refine bodyPost_ret (v := .tuple #[.agg #[.int .i64 0, .slice none 0 0, .int .i64 0, .slice none 0 0, .slice none 0 0], .int .i64 3]) (by simp [results, Try.results41, go_sem, r0, r1, r2, r3, r4]) rfl ?_
    rw [Hr.out]
    exact Fin.out
  · have hr : emptyR W = (W, Bs.emp W.toNat, 0) := by unfold emptyR; rw [if_neg hbad]
    have hr2 : idR W = cnR W.toNat (Bs.emp W.toNat) (Bs.emp W.toNat) [] := by unfold idR; rw [if_neg hbad]
    rw [hr]
    clear hr
    obtain ⟨v, rfl⟩ := Int.eq_ofNat_of_zero_le (show 0 ≤ W by omega)
    have hv : v ≤ 256 := by omega
    rw [Int.toNat_natCast] at hr2 ⊢
    have Hr := hid hr2
    clear hr2 hbad
    rintro e w2 ⟨A2, n2, c2, rfl, ha2, hb2⟩
    have hb2' := hb2.alloc hb2.size (.cells #[.int .i64 v, .slice A2 n2 c2] 24)
    have hx := HB.out.trans (hb2'.mono HB.out.size)
    have Hx := hid hx
    have HZ2 := hid (HZ.out.below hb2' HZ.out.lt)
    have HA2 := hid (ha2.alloc (.cells #[.int .i64 v, .slice A2 n2 c2] 24))
    have HN := hid (Box.new w2 v A2 n2 c2)
    have hz1 := HN.out.lt
    obtain ⟨p0, p1⟩ := And.intro HN.out.c0 HN.out.c1
    clear hb2 hb2' hx ha2
    go_wp2_with fail
    generalize w2.alloc (.cells #[.int .i64 v, .slice A2 n2 c2] 24) = w3 at *
    clear p0 p1 hz1
    refine (devCanonical_any v A2 A2 none n2 c2 n2 c2 0 0 (Bs.emp v) (Bs.emp v) [] _ HA2.out HA2.out ⟨.inl rfl, rfl⟩ hv (Bs.fit_emp v) (Bs.fit_emp v) (by simp) (by omega)).mono ?_
    rintro e w4 hcan
    have hval := hcan.val
    obtain ⟨r, hrr⟩ : ∃ r, cnR v (Bs.emp v) (Bs.emp v) [] = r := ⟨_, rfl⟩
    obtain ⟨W9, gs9, ks9, cs9, er9⟩ := r
    rw [hrr] at hval
    have Hrr := hid hrr
    obtain ⟨A9, n9, c9, B9, m9, d9, C9, q9, rfl, hA9, hB9, hC9, hbk⟩ := hval
    have HZ4 := hid (HZ2.out.below hbk HZ2.out.lt)
    obtain ⟨r0, r1, r2, r3, r4⟩ := HZ4.out.five
    have f0 := HZ4.out.frozen 0
    have f1 := HZ4.out.frozen 1
    have f2 := HZ4.out.frozen 2
    have f3 := HZ4.out.frozen 3
    have f4 := HZ4.out.frozen 4
    have hlR := HZ4.out.lt
    have Fin := hid (RetT.stored (w := w) (err := er9) (c := c9) (d := d9) (q := q9) (W := W9) hA9 hB9 hC9 (Hx.out.trans (hbk.mono Hx.out.size)) (Nat.le_refl _) HZ4.out)
    unfold stored5 at Fin
    clear hbk hA9 hB9 hC9 hcan hrr
    go_wp2_with fail
    refine bodyPost_ret (v := .tuple #[.agg #[.int .i64 W9, .slice A9 n9 c9, .int .i64 W9, .slice B9 m9 d9, .slice C9 cs9.length q9], .int .i64 er9]) (by simp [results, Try.results41, go_sem, r0, r1, r2, r3, r4]) rfl ?_
    rw [Hr.out, Hrr.out]
    exact Fin.out
end Go.Proofs.Ytkckkodoeepdpaa

namespace Go.Proofs.Ytkckkodoeepdpaa
set_option maxRecDepth 20000
open Go.ChangeShapes Go.WideShapes Go.ChangeAt Go.RowKit

/-- The values that are reached from Gen. -/
def lstI (W : Nat) (gs : List Nat) (f : Int → Int → Bool) : Nat → List Nat
  | 0 => gs
  | j + 1 => valR gs (lstI W gs f j) f W
def lst (W : Nat) (gs : List Nat) (f : Int → Int → Bool) : List Nat := lstI W gs f W
def cnt (W : Nat) (ws : List Nat) : Nat := ((List.range W).filter (Bs.bit ws)).length
theorem cnt_le (W : Nat) (ws : List Nat) : cnt W ws ≤ W := by
  unfold cnt
  have := List.length_filter_le (Bs.bit ws) (List.range W)
  rwa [List.length_range] at this
theorem filter_le {α : Type} {p q : α → Bool} (h : ∀ x, p x = true → q x = true) (l : List α) : (l.filter p).length ≤ (l.filter q).length := by
  induction l with
  | nil => simp
  | cons a l ih =>
    cases hp : p a with
    | true => simp [hp, h a hp, ih]
    | false => cases hq : q a <;> simp [hp, hq] <;> omega
theorem filter_lt {α : Type} {p q : α → Bool} (h : ∀ x, p x = true → q x = true) {x : α} (hq : q x = true) (hp : p x = false) {l : List α} (hx : x ∈ l) : (l.filter p).length < (l.filter q).length := by
  induction l with
  | nil => cases hx
  | cons a l ih =>
    rcases List.mem_cons.1 hx with rfl | hx
    · have := filter_le h l
      simp [hp, hq]; omega
    · have := ih hx
      cases hpa : p a with
      | true => simp [hpa, h a hpa, this]
      | false => cases hqa : q a <;> simp [hpa, hqa] <;> omega
theorem cnt_lt {W : Nat} {a b : List Nat} (ha : Bs.Fit W a) (hb : Bs.Fit W b) (h : ∀ i, Bs.bit a i = true → Bs.bit b i = true) (hne : b ≠ a) : cnt W a < cnt W b := by
  have : ∃ i, i < W ∧ Bs.bit a i ≠ Bs.bit b i := by
    refine Classical.byContradiction fun hn => hne (Bs.ext hb ha fun i hi => ?_)
    exact Classical.byContradiction fun h2 => hn ⟨i, hi, fun e => h2 e.symm⟩
  obtain ⟨i, hi, hd⟩ := this
  have h1 : Bs.bit a i = false := by
    cases e : Bs.bit a i with
    | false => rfl
    | true => exact absurd (e.trans (h i e).symm) hd
  have h2 : Bs.bit b i = true := by
    cases e : Bs.bit b i with
    | true => rfl
    | false => exact absurd (h1.trans e.symm) hd
  exact filter_lt h h2 h1 (List.mem_range.2 hi)
theorem bit_valR (gs ss : List Nat) (f : Int → Int → Bool) (W i : Nat) : Bs.bit (valR gs ss f W) i = (decide (i < W) && (Bs.bit gs i || (List.range W).any fun x => Bs.bit ss x && f x i)) := by
  unfold valR; rw [Bs.bit_ofP _ _ _ (Nat.le_refl _)]
theorem valR_mono {gs ss ts : List Nat} {f : Int → Int → Bool} {W : Nat} (h : ∀ i, Bs.bit ss i = true → Bs.bit ts i = true) (i : Nat) (hi : Bs.bit (valR gs ss f W) i = true) : Bs.bit (valR gs ts f W) i = true := by
  rw [bit_valR] at hi ⊢
  simp only [Bool.and_eq_true, Bool.or_eq_true, List.any_eq_true, decide_eq_true_eq] at hi ⊢
  obtain ⟨h1, h2⟩ := hi
  refine ⟨h1, h2.imp id ?_⟩
  rintro ⟨x, hx, h3, h4⟩
  exact ⟨x, hx, h x h3, h4⟩
theorem fit_lstI {W : Nat} {gs : List Nat} (hg : Bs.Fit W gs) (f : Int → Int → Bool) : ∀ j, Bs.Fit W (lstI W gs f j)
  | 0 => hg
  | _ + 1 => fit_valR _ _ _ _
theorem lstI_mono {W : Nat} {gs : List Nat} (hg : Bs.Fit W gs) (f : Int → Int → Bool) (j : Nat) : ∀ i, Bs.bit (lstI W gs f j) i = true → Bs.bit (lstI W gs f (j + 1)) i = true := by
  induction j with
  | zero =>
    intro i hi
    show Bs.bit (valR gs gs f W) i = true
    rw [bit_valR]
    have hlt : i < W := by
      refine Classical.byContradiction fun hn => ?_
      have := hg.hi i (by omega)
      rw [show Bs.bit gs i = true from hi] at this
      cases this
    simp [hlt, show Bs.bit gs i = true from hi]
  | succ j ih => intro i hi; exact valR_mono ih i hi
theorem lstI_grow {W : Nat} {gs : List Nat} (hg : Bs.Fit W gs) (f : Int → Int → Bool) {j : Nat} (h : ∀ i, i < j → lstI W gs f (i + 1) ≠ lstI W gs f i) : j ≤ cnt W (lstI W gs f j) := by
  induction j with
  | zero => omega
  | succ j ih =>
    have h1 := ih fun i hi => h i (by omega)
    have h2 := cnt_lt (fit_lstI hg f j) (fit_lstI hg f (j + 1)) (lstI_mono hg f j) (h j (by omega))
    omega
theorem lstI_stay {W : Nat} {gs : List Nat} {f : Int → Int → Bool} {j : Nat} (h : lstI W gs f (j + 1) = lstI W gs f j) (n : Nat) : lstI W gs f (j + n) = lstI W gs f j := by
  induction n with
  | zero => rfl
  | succ n ih =>
    show valR gs (lstI W gs f (j + n)) f W = _
    rw [ih]; exact h
theorem lst_of {W : Nat} {gs : List Nat} (hg : Bs.Fit W gs) {f : Int → Int → Bool} {j : Nat} (h : ∀ i, i < j → lstI W gs f (i + 1) ≠ lstI W gs f i) (he : lstI W gs f (j + 1) = lstI W gs f j) : lstI W gs f j = lst W gs f := by
  have h1 := lstI_grow hg f h
  have h2 := cnt_le W (lstI W gs f j)
  have h3 := lstI_stay he (W - j)
  rw [show j + (W - j) = W by omega] at h3
  exact h3.symm
/-- The set is closed. -/
theorem lst_fix {W : Nat} {gs : List Nat} (hg : Bs.Fit W gs) (f : Int → Int → Bool) : valR gs (lst W gs f) f W = lst W gs f := by
  have : ∃ j, j ≤ W ∧ lstI W gs f (j + 1) = lstI W gs f j := by
    refine Classical.byContradiction fun hn => ?_
    have h1 := lstI_grow hg f (j := W + 1) fun i hi e => hn ⟨i, by omega, e⟩
    have h2 := cnt_le W (lstI W gs f (W + 1))
    omega
  obtain ⟨j, hj, he⟩ := this
  have h3 := lstI_stay he (W - j)
  rw [show j + (W - j) = W by omega] at h3
  show valR gs (lstI W gs f W) f W = lstI W gs f W
  rw [h3]; exact he
/-- And the least such. -/
theorem lst_least {W : Nat} {gs : List Nat} {f : Int → Int → Bool} {ss : List Nat} (h0 : ∀ i, Bs.bit gs i = true → Bs.bit ss i = true) (h : ∀ i, Bs.bit (valR gs ss f W) i = true → Bs.bit ss i = true) : ∀ i, Bs.bit (lst W gs f) i = true → Bs.bit ss i = true := by
  have key : ∀ j i, Bs.bit (lstI W gs f j) i = true → Bs.bit ss i = true := by
    intro j
    induction j with
    | zero => exact h0
    | succ j ih => intro i hi; exact h i (valR_mono ih i hi)
  exact key W
theorem fit_lst {W : Nat} {gs : List Nat} (hg : Bs.Fit W gs) (f : Int → Int → Bool) : Bs.Fit W (lst W gs f) := fit_lstI hg f W

/-- The least number with a property, as a measure. -/
noncomputable def leastN (P : Nat → Prop) : Nat := Classical.epsilon fun m => P m ∧ ∀ k, P k → m ≤ k
theorem leastN_spec {P : Nat → Prop} (h : ∃ m, P m) : P (leastN P) ∧ ∀ k, P k → leastN P ≤ k := by
  have : ∃ m, P m ∧ ∀ k, P k → m ≤ k := by
    obtain ⟨m, hm⟩ := h
    induction m using Nat.strongRecOn with
    | ind m ih =>
      by_cases hk : ∃ k, P k ∧ k < m
      · obtain ⟨k, h1, h2⟩ := hk; exact ih k h2 h1
      · exact ⟨m, hm, fun k h1 => Nat.le_of_not_lt fun h2 => hk ⟨k, h1, h2⟩⟩
  exact Classical.epsilon_spec this
theorem leastN_lt {P Q : Nat → Prop} {m : Nat} (hq : Q m) (h : ∀ k, P k → m < k) (hp : ∃ k, P k) : leastN Q < leastN P :=
  Nat.lt_of_le_of_lt ((leastN_spec ⟨m, hq⟩).2 m hq) (h _ (leastN_spec hp).1)

/-- While the set grows. -/
def Least (w : World) (v : Nat) (A B C : Option Addr) (n c m d k q : Nat) (ls : List Nat) (wr : World) : Prop :=
  Fb wr w.heap.size #[.int .i64 v, .slice A n c, .int .i64 v, .slice B m d, .slice C k q] 29 ∧ Box wr (w.heap.size + 1) 0 none 0 0 ∧ (∃ D x y, Box wr (w.heap.size + 2) v D x y ∧ Arg wr D x ls) ∧ Below w.heap.size w wr
theorem Least.start (w : World) (v : Nat) (A B C : Option Addr) (n c m d k q : Nat) {gs : List Nat} (h : Arg w A n gs) :
    Least w v A B C n c m d k q gs (((w.alloc (.cells #[.int .i64 v, .slice A n c, .int .i64 v, .slice B m d, .slice C k q] 29)).alloc (.cells #[.int .i64 0, .slice none 0 0] 24)).alloc (.cells #[.int .i64 v, .slice A n c] 24)) := by
  have h1 := Fb.new w #[.int .i64 v, .slice A n c, .int .i64 v, .slice B m d, .slice C k q] 29
  have h2 := Box.new (w.alloc (.cells #[.int .i64 v, .slice A n c, .int .i64 v, .slice B m d, .slice C k q] 29)) 0 none 0 0
  have h3 := Box.new ((w.alloc (.cells #[.int .i64 v, .slice A n c, .int .i64 v, .slice B m d, .slice C k q] 29)).alloc (.cells #[.int .i64 0, .slice none 0 0] 24)) v A n c
  simp only [World.size_alloc] at h2 h3
  refine ⟨(h1.alloc _).alloc _, h2.alloc _, ⟨A, n, c, h3, ((h.alloc _).alloc _).alloc _⟩, ?_⟩
  exact (((Below.refl _ _).alloc (Nat.le_refl _) _).alloc (by simp) _).alloc (by simp; omega) _
theorem Least.below {w : World} {v : Nat} {A B C : Option Addr} {n c m d k q : Nat} {ls : List Nat} {wr w' : World} (h : Least w v A B C n c m d k q ls wr) (hb : Below wr.heap.size wr w') : Least w v A B C n c m d k q ls w' := by
  obtain ⟨h1, h2, ⟨D, x, y, h3, h4⟩, h5⟩ := h
  exact ⟨h1.below hb h1.lt, h2.below hb h2.lt, ⟨D, x, y, h3.below hb h3.lt, h4.below hb⟩, h5.trans (hb.mono h5.size)⟩
theorem Least.store {w : World} {v : Nat} {A B C : Option Addr} {n c m d k q : Nat} {ls ns : List Nat} {wr : World} {E : Option Addr} {x y : Nat} (h : Least w v A B C n c m d k q ls wr) (ha : Arg wr E x ns) :
    Least w v A B C n c m d k q ns ((wr.setCell ⟨w.heap.size + 2, 0, none⟩ (.int .i64 v)).setCell ⟨w.heap.size + 2, 1, none⟩ (.slice E x y)) := by
  obtain ⟨h1, h2, ⟨D, x', y', h3, h4⟩, h5⟩ := h
  refine ⟨(h1.far (p := ⟨w.heap.size + 2, 0, none⟩) (by simp) _).far (p := ⟨w.heap.size + 2, 1, none⟩) (by simp) _, (h2.far (p := ⟨w.heap.size + 2, 0, none⟩) (by simp) _).far (p := ⟨w.heap.size + 2, 1, none⟩) (by simp) _, ⟨E, x, y, h3.set _ _ _ _, h3.store ha _ _⟩, ?_⟩
  exact (h5.setCell (by simp) _).setCell (by simp) _

def LInv (w : World) (v : Nat) (A B C : Option Addr) (n c m d k q : Nat) (gs : List Nat) (f : Int → Int → Bool) (wr : World) (j : Nat) : Prop :=
  (∀ i, i < j → lstI v gs f (i + 1) ≠ lstI v gs f i) ∧ Least w v A B C n c m d k q (lstI v gs f j) wr
noncomputable def lm (w : World) (v : Nat) (A B C : Option Addr) (n c m d k q : Nat) (gs : List Nat) (f : Int → Int → Bool) (wr : World) : Nat :=
  leastN fun l => ∃ j, l + j = v ∧ LInv w v A B C n c m d k q gs f wr j
section
variable {w : World} {v : Nat} {A B C : Option Addr} {n c m d k q : Nat} {gs : List Nat} {f : Int → Int → Bool} {wr : World} {j : Nat}
theorem LInv.le (hg : Bs.Fit v gs) (h : LInv w v A B C n c m d k q gs f wr j) : j ≤ v := Nat.le_trans (lstI_grow hg f h.1) (cnt_le _ _)
theorem LInv.pick (hg : Bs.Fit v gs) (h : LInv w v A B C n c m d k q gs f wr j) : ∃ j, LInv w v A B C n c m d k q gs f wr j ∧ lm w v A B C n c m d k q gs f wr + j = v := by
  obtain ⟨j', h1, h2⟩ := (leastN_spec (P := fun l => ∃ j, l + j = v ∧ LInv w v A B C n c m d k q gs f wr j) ⟨v - j, j, by have := h.le hg; omega, h⟩).1
  exact ⟨j', h2, h1⟩
theorem LInv.lm_le (hg : Bs.Fit v gs) (h : LInv w v A B C n c m d k q gs f wr j) : lm w v A B C n c m d k q gs f wr + j ≤ v := by
  have hj := h.le hg
  have := (leastN_spec (P := fun l => ∃ j, l + j = v ∧ LInv w v A B C n c m d k q gs f wr j) ⟨v - j, j, by omega, h⟩).2 (v - j) ⟨j, by omega, h⟩
  have e : lm w v A B C n c m d k q gs f wr ≤ v - j := this
  omega
end

set_option maxHeartbeats 1600000 in
theorem devLeast_any (v : Nat) (A B C : Option Addr) (n c m d k q : Nat) (gs ks : List Nat) (cs : List (Int × Int)) (w : World) (hF : FArg w A n B m C k gs ks cs) (hv : validT v gs v ks cs = true) :
    Calls Try.prog 50 #[.agg #[.int .i64 v, .slice A n c, .int .i64 v, .slice B m d, .slice C k q]] w
      fun e w' => ∃ Ao no co, e = .returned (.agg #[.int .i64 v, .slice Ao no co]) ∧ Arg w' Ao no (lst v gs (folB v ks cs)) ∧ Below w.heap.size w w' := by
  obtain ⟨h1, h2, h3, h4, h5⟩ := validT_iff hv
  have hfg := fit_of_valid' h1 hF.gen
  have hv256 : v ≤ 256 := by have := (Bs.validB_iff.1 h1).2.1; omega
  have HF := hid hF; have Hfg := hid hfg
  have Hval := hid (fun ss (hs : Bs.Fit v ss) => show applyR v gs v ks cs v ss = ((v : Int), valR gs ss (folB v ks cs) v, 0) by unfold applyR; rw [if_neg (by simp [hv, Bs.valid_of_fit hs hv256]), if_neg (by simp), Int.toNat_natCast])
  have Heq := hid (fun xs ss (hx : Bs.Fit v xs) (hs : Bs.Fit v ss) => show equalB v xs v ss = decide (xs = ss) by unfold equalB sameB; rw [Bs.valid_of_fit hx hv256, Bs.valid_of_fit hs hv256]; simp)
  have Hst := hid (Least.start w v A B C n c m d k q hF.gen)
  clear h1 h2 h3 h4 h5 hfg hF
  generalize folB v ks cs = f at *
  go_enter Try.func50, Try.ntmps50
  go_wp2_with fail
  generalize ((w.alloc (.cells #[.int .i64 v, .slice A n c, .int .i64 v, .slice B m d, .slice C k q] 29)).alloc (.cells #[.int .i64 0, .slice none 0 0] 24)).alloc (.cells #[.int .i64 v, .slice A n c] 24) = w1 at *
  go_loopw [4, 5] (fun _ _ wr => ∃ j : Nat, Hid (LInv w v A B C n c m d k q gs f wr j)) (fun _ _ wr => lm w v A B C n c m d k q gs f wr)
  case atStart => exact ⟨0, hid ⟨fun i hi => by omega, Hst.out⟩⟩
  case round =>
    obtain ⟨j0, hG0⟩ := hrel
    obtain ⟨j, hG, hm⟩ := hG0.out.pick Hfg.out
    have Hm := hid hm; have Hne := hid hG.1
    have hL := hG.2
    clear hG0 hG hm Hst
    obtain ⟨D, x, y, hBx, hD⟩ := hL.2.2.1
    have HL := hid hL; have HBx := hid hBx; have HD := hid hD
    obtain ⟨t0, t1, t2, t3, t4⟩ := HL.out.1.five
    obtain ⟨s0, s1⟩ := And.intro HBx.out.c0 HBx.out.c1
    clear hL hBx hD
    go_wp2_with fail
    refine (devApply_any v v v A B C D n c m d k q x y gs ks (lstI v gs f j) cs _ (HF.out.gen.below HL.out.2.2.2) (HF.out.kill.below HL.out.2.2.2) (HF.out.cops.below HL.out.2.2.2) HD.out).mono ?_
    rw [Hval.out _ (fit_lstI Hfg.out f j)]
    rintro e w2 ⟨A2, n2, c2, rfl, ha2, hb2⟩
    have ha2' : Arg w2 A2 n2 (lstI v gs f (j + 1)) := ha2
    have hb2' := (Below.mono hb2 (Nat.le_refl _)).alloc hb2.size (.cells #[.int .i64 v, .slice A2 n2 c2] 24)
    have H2 := hid (HL.out.below hb2')
    have HBx2 := hid (HBx.out.below hb2' HBx.out.lt)
    have HD2 := hid (HD.out.below hb2')
    have HA2 := hid (ha2'.alloc (.cells #[.int .i64 v, .slice A2 n2 c2] 24))
    have HN := hid (Box.new w2 v A2 n2 c2)
    clear ha2 ha2' hb2 hb2' t0 t1 t2 t3 t4 s0 s1
    obtain ⟨s0, s1⟩ := And.intro HBx2.out.c0 HBx2.out.c1
    obtain ⟨p0, p1⟩ := And.intro HN.out.c0 HN.out.c1
    have hz1 := HN.out.lt
    have hn2 : n2 ≤ maxLen := by
      have e1 := HA2.out.len
      have e2 := (fit_lstI Hfg.out f (j + 1)).len
      have e3 : Bs.nw v ≤ v + 63 := by unfold Bs.nw; omega
      unfold maxLen; omega
    go_wp2_with fail
    generalize w2.alloc (.cells #[.int .i64 v, .slice A2 n2 c2] 24) = w3 at *
    generalize w2.heap.size = b3 at *
    refine (devEqual_any v v A2 D n2 c2 x y (lstI v gs f (j + 1)) (lstI v gs f j) _ HA2.out HD2.out hn2).mono ?_
    rw [Heq.out _ _ (fit_lstI Hfg.out f (j + 1)) (fit_lstI Hfg.out f j)]
    rintro e w4 ⟨rfl, hb4⟩
    have H4 := hid (H2.out.below hb4)
    have HBx4 := hid (HBx2.out.below hb4 HBx2.out.lt)
    have HD4 := hid (HD2.out.below hb4)
    have HA4 := hid (HA2.out.below hb4)
    have HN4 := hid (HN.out.below hb4 HN.out.lt)
    clear s0 s1 p0 p1 hz1 hb4 hn2 H2 HBx2 HD2 HA2 HN HL HBx HD
    obtain ⟨s0, s1⟩ := And.intro HBx4.out.c0 HBx4.out.c1
    obtain ⟨p0, p1⟩ := And.intro HN4.out.c0 HN4.out.c1
    by_cases he : lstI v gs f (j + 1) = lstI v gs f j
    · have hres := lst_of Hfg.out Hne.out he
      rw [decide_eq_true he]
      rw [hres] at HD4
      clear he hres
      obtain ⟨r0, r1⟩ := And.intro H4.out.2.1.c0 H4.out.2.1.c1
      have f0 := H4.out.2.1.f 0
      have f1 := H4.out.2.1.f 1
      have hlR := H4.out.2.1.lt
      have Fin := hid (And.intro (H4.out.2.1.store HD4.out (.int .i64 v) (.slice D x y)) ((H4.out.2.2.2.setCell (p := ⟨w.heap.size + 1, 0, none⟩) (by simp) (.int .i64 v)).setCell (p := ⟨w.heap.size + 1, 1, none⟩) (by simp) (.slice D x y)))
      go_wp2_with fail
      refine bodyPost_ret (v := .agg #[.int .i64 v, .slice D x y]) (by simp [results, Try.results50, go_sem, r0, r1]) rfl ?_
      exact ⟨D, x, y, rfl, Fin.out.1, Fin.out.2⟩
    · rw [decide_eq_false he]
      have f0 := HBx4.out.f 0
      have f1 := HBx4.out.f 1
      have hlR := HBx4.out.lt
      have Hnew := hid (show LInv w v A B C n c m d k q gs f ((w4.setCell ⟨w.heap.size + 2, 0, none⟩ (.int .i64 v)).setCell ⟨w.heap.size + 2, 1, none⟩ (.slice A2 n2 c2)) (j + 1) from
        ⟨fun i hi => (Nat.lt_succ_iff_lt_or_eq.1 hi).elim (Hne.out i) (fun e => by subst e; exact he), H4.out.store HA4.out⟩)
      clear he
      go_wp2_with fail
      go_roundw
      case rel => exact ⟨j + 1, Hnew⟩
      case measure =>
        have e1 := Hnew.out.lm_le Hfg.out
        have e2 := Hm.out
        have key : lm w v A B C n c m d k q gs f ((w4.setCell ⟨w.heap.size + 2, 0, none⟩ (.int .i64 v)).setCell ⟨w.heap.size + 2, 1, none⟩ (.slice A2 n2 c2)) < lm w v A B C n c m d k q gs f wr := by omega
        exact key
end Go.Proofs.Ytkckkodoeepdpaa

namespace Go.Proofs.Ytkckkodoeepdpaa
set_option maxRecDepth 20000
open Go.ChangeShapes Go.WideShapes Go.ChangeAt Go.RowKit

/-- Generates and kills G, which no copy touches. -/
structure SqI (v : Nat) (G : List Nat) (cs : List (Int × Int)) : Prop where
  fit : Bs.Fit v G
  wid : v ≤ 256
  asc : Asc cs
  inw : ∀ p ∈ cs, inW v p = true
  out : ∀ p ∈ cs, Bs.hasB v G p.1 = false ∧ Bs.hasB v G p.2 = false ∧ p.1 ≠ p.2
/-- The copies of the function after itself. -/
def sqC (v : Nat) (G : List Nat) (cs : List (Int × Int)) : List (Int × Int) := ord ((chnL v G v G cs cs).filter (restB v G))
theorem mem_sqC {v : Nat} {G : List Nat} {cs : List (Int × Int)} {x : Int × Int} : x ∈ sqC v G cs ↔ x ∈ chnL v G v G cs cs ∧ restB v G x = true := by
  unfold sqC; rw [(ord_spec _).1, List.mem_filter]
theorem chnL_ends {V V' : Int} {ks ks' : List Nat} {cs : List (Int × Int)} {x : Int × Int} (h : x ∈ chnL V ks V' ks' cs cs) : ∃ p ∈ cs, ∃ d ∈ cs, x.1 = p.1 ∧ x.2 = d.2 := by
  unfold chnL at h
  rcases List.mem_append.1 h with h | h
  · unfold chnF at h
    obtain ⟨p, hp, h⟩ := List.mem_flatMap.1 h
    have hp' := List.mem_of_mem_take hp
    unfold chnP at h
    rcases List.mem_append.1 h with h | h
    · split at h
      · cases h
      · rw [List.mem_singleton.1 h]; exact ⟨p, hp', p, hp', rfl, rfl⟩
    · obtain ⟨d, hd, rfl⟩ := List.mem_map.1 h
      exact ⟨p, hp', d, List.mem_of_mem_take (List.mem_filter.1 hd).1, rfl, rfl⟩
  · have := (List.mem_filter.1 h).1
    exact ⟨x, this, x, this, rfl, rfl⟩
section
variable {v : Nat} {G : List Nat} {cs : List (Int × Int)}
theorem SqI.sub (h : SqI v G cs) : ∀ p ∈ cs, p ∈ sqC v G cs := by
  intro p hp
  obtain ⟨h1, h2, h3⟩ := h.out p hp
  refine mem_sqC.2 ⟨?_, by unfold restB; simp [h2, h3]⟩
  unfold chnL
  exact List.mem_append.2 (.inr (List.mem_filter.2 ⟨hp, by simp [h1]⟩))
theorem SqI.next (h : SqI v G cs) : SqI v G (sqC v G cs) := by
  refine ⟨h.fit, h.wid, (ord_spec _).2, fun p hp => chnL_inW h.inw h.inw p (mem_sqC.1 hp).1, fun p hp => ?_⟩
  obtain ⟨h1, h2⟩ := mem_sqC.1 hp
  obtain ⟨a, ha, d, hd, e1, e2⟩ := chnL_ends h1
  unfold restB at h2
  simp only [Bool.and_eq_true, decide_eq_true_eq] at h2
  exact ⟨by rw [e1]; exact (h.out a ha).1, by rw [e2]; exact (h.out d hd).2.1, h2.1⟩
theorem SqI.more (h : SqI v G cs) (hne : sqC v G cs ≠ cs) : cs.length < (sqC v G cs).length := by
  have hasc := h.next.asc
  have e1 : cs = (sqC v G cs).filter fun x => decide (x ∈ cs) := by
    refine asc_unique h.asc (hasc.filter _) fun x => ?_
    rw [List.mem_filter]
    exact ⟨fun hx => ⟨h.sub x hx, by simpa using hx⟩, fun hx => by simpa using hx.2⟩
  have : ∃ x, x ∈ sqC v G cs ∧ x ∉ cs := by
    refine Classical.byContradiction fun hn => hne (asc_unique hasc h.asc fun x => ⟨fun hx => Classical.byContradiction fun h2 => hn ⟨x, hx, h2⟩, h.sub x⟩)
  obtain ⟨x, hx, hnx⟩ := this
  have h2 := filter_lt (p := fun x => decide (x ∈ cs)) (q := fun _ => true) (fun _ _ => rfl) (x := x) rfl (by simpa using hnx) hx
  rw [← e1, List.filter_eq_self.2 (fun _ _ => rfl)] at h2
  exact h2
theorem SqI.valid (h : SqI v G cs) (hl : cs.length ≤ 64) : validT v G v G cs = true := by
  unfold validT
  simp only [Bool.and_eq_true, decide_eq_true_eq, List.all_eq_true, List.mem_range]
  refine ⟨⟨⟨⟨Bs.valid_of_fit h.fit h.wid, Bs.valid_of_fit h.fit h.wid⟩, trivial⟩, hl⟩, fun i hi => ?_⟩
  unfold okAt
  have g : ∀ j, (hj : j < cs.length) → cs.getD j (0, 0) = cs[j] := fun j hj => by rw [List.getD_eq_getElem?_getD, List.getElem?_eq_getElem hj]; rfl
  rw [g i hi, h.inw _ (List.getElem_mem hi)]
  by_cases h0 : i = 0
  · simp [h0]
  · have hj : i - 1 < cs.length := by omega
    rw [g (i - 1) hj]
    have := List.pairwise_iff_getElem.1 h.asc (i - 1) i hj hi (by omega)
    simp [this]
theorem SqI.gen (h : SqI v G cs) : valR G G (folB v G cs) v = G := by
  refine Bs.ext (fit_valR _ _ _ _) h.fit fun i hi => ?_
  rw [bit_valR]
  have : (List.range v).any (fun x => Bs.bit G x && folB v G cs x i) = false := by
    rw [List.any_eq_false]
    intro x _ hx
    simp only [Bool.and_eq_true] at hx
    have hb := Bs.hasB_nat h.fit h.wid (b := x)
    rw [hx.1] at hb
    have hf := hx.2
    unfold folB at hf
    rw [hb] at hf
    simp at hf
    have := (h.out _ hf).1
    rw [hb] at this; cases this
  rw [this]; simp [hi]
theorem SqI.kill (h : SqI v G cs) : orR v G G = G := by
  refine Bs.ext (fit_orR _ _ _) h.fit fun i hi => ?_
  unfold orR
  rw [Bs.bit_ofP _ _ _ (Nat.le_refl _)]; simp [hi]
theorem killC_self {v : Nat} {G : List Nat} (h : Bs.Fit v G) (ks : List Nat) (hk : ∀ i, Bs.bit ks i = true → Bs.bit G i = true) (L : List (Int × Int)) : killC v G ks L = G := by
  unfold killC
  refine Bs.ext (Bs.fit_ofP _ _ _ (Nat.le_refl _)) h fun i hi => ?_
  rw [Bs.bit_ofP _ _ _ (Nat.le_refl _)]
  simp only [hi, decide_true, Bool.true_and]
  cases hb : Bs.bit ks i with
  | false => simp
  | true => simp [hk i hb]
theorem SqI.compose (h : SqI v G cs) (hl : cs.length ≤ 64) : composeR v G v G cs v G v G cs = if (sqC v G cs).length ≤ 64 then ((v : Int), G, G, sqC v G cs, 0) else (0, [], [], [], 7) := by
  unfold composeR
  rw [if_neg (by simp [h.valid hl]), if_neg (by simp), Int.toNat_natCast, h.gen, h.kill]
  unfold cnR
  rw [killC_self h.fit G (fun _ x => x)]
  rfl
end
/-- The function composed with itself until nothing is added. -/
def sqN (v : Nat) (G : List Nat) : Nat → List (Int × Int) → Int × List Nat × List Nat × List (Int × Int) × Int
  | 0, cs => (v, G, G, cs, 0)
  | N + 1, cs => if 64 < (sqC v G cs).length then (0, [], [], [], 7) else if sqC v G cs = cs then (v, G, G, cs, 0) else sqN v G N (sqC v G cs)
end Go.Proofs.Ytkckkodoeepdpaa

namespace Go.Proofs.Ytkckkodoeepdpaa
set_option maxRecDepth 20000

theorem fit_killC (v : Nat) (gs ks : List Nat) (cs : List (Int × Int)) : Bs.Fit v (killC v gs ks cs) := Bs.fit_ofP _ _ _ (Nat.le_refl _)
theorem mem_rest {v : Nat} {gs : List Nat} {cs : List (Int × Int)} {x : Int × Int} : x ∈ ord (cs.filter (restB v gs)) ↔ x ∈ cs ∧ restB v gs x = true := by
  rw [(ord_spec _).1, List.mem_filter]
/-- To a bit that is not generated the same follows. -/
theorem can_follows {v : Nat} (hv : v ≤ 256) {gs ks : List Nat} (hg : Bs.Fit v gs) (hk : Bs.Fit v ks) (cs : List (Int × Int)) {x i : Nat} (hi : i < v) (hn : Bs.bit gs i = false) :
    folB v (killC v gs ks cs) (ord (cs.filter (restB v gs))) x i = folB v ks cs x i := by
  have e1 := Bs.hasB_nat hg hv (b := i)
  unfold folB
  by_cases hx : x = i
  · subst hx
    have e2 := Bs.hasB_nat (fit_killC v gs ks cs) hv (b := x)
    have e3 := Bs.hasB_nat hk hv (b := x)
    have e4 : decide (((x : Int), (x : Int)) ∈ ord (cs.filter (restB v gs))) = false := by
      simp only [decide_eq_false_iff_not]
      intro h
      have := (mem_rest.1 h).2
      unfold restB at this
      simp at this
    rw [e2, e3, e4]
    unfold killC
    rw [Bs.bit_ofP _ _ _ (Nat.le_refl _), hn]
    simp only [hi, decide_true, Bool.true_and, Bool.or_false]
    cases Bs.bit ks x <;> cases decide (((x : Int), (x : Int)) ∈ cs) <;> rfl
  · have hx' : (x : Int) ≠ (i : Int) := by omega
    have e4 : decide (((x : Int), (i : Int)) ∈ ord (cs.filter (restB v gs))) = decide (((x : Int), (i : Int)) ∈ cs) := by
      apply Bool.eq_iff_iff.2
      simp only [decide_eq_true_eq]
      rw [mem_rest]
      refine ⟨fun h => h.1, fun h => ⟨h, ?_⟩⟩
      unfold restB
      simp [e1, hn]; omega
    rw [e4]
    simp [hx']
theorem can_value {v : Nat} (hv : v ≤ 256) {gs ks : List Nat} (hg : Bs.Fit v gs) (hk : Bs.Fit v ks) (cs : List (Int × Int)) (ss : List Nat) :
    valR gs ss (folB v (killC v gs ks cs) (ord (cs.filter (restB v gs)))) v = valR gs ss (folB v ks cs) v := by
  refine Bs.ext (fit_valR _ _ _ _) (fit_valR _ _ _ _) fun i hi => ?_
  rw [bit_valR, bit_valR]
  cases hb : Bs.bit gs i with
  | true => simp
  | false =>
    congr 2
    apply congrArg
    funext x
    rw [can_follows hv hg hk cs hi hb]
/-- The canonical form is valid. -/
theorem can_valid {v : Nat} (hv : v ≤ 256) {gs : List Nat} (hg : Bs.Fit v gs) (ks : List Nat) {cs : List (Int × Int)} (hin : ∀ p ∈ cs, inW v p = true) (hl : (ord (cs.filter (restB v gs))).length ≤ 64) :
    validT v gs v (killC v gs ks cs) (ord (cs.filter (restB v gs))) = true := by
  unfold validT
  simp only [Bool.and_eq_true, decide_eq_true_eq, List.all_eq_true, List.mem_range]
  refine ⟨⟨⟨⟨Bs.valid_of_fit hg hv, Bs.valid_of_fit (fit_killC _ _ _ _) hv⟩, trivial⟩, hl⟩, fun i hi => ?_⟩
  have hasc := (ord_spec (cs.filter (restB v gs))).2
  have hin2 : ∀ p ∈ ord (cs.filter (restB v gs)), inW v p = true := fun p hp => hin p (mem_rest.1 hp).1
  generalize ord (cs.filter (restB v gs)) = ds at *
  unfold okAt
  have g : ∀ j, (hj : j < ds.length) → ds.getD j (0, 0) = ds[j] := fun j hj => by rw [List.getD_eq_getElem?_getD, List.getElem?_eq_getElem hj]; rfl
  rw [g i hi, hin2 _ (List.getElem_mem hi)]
  by_cases h0 : i = 0
  · simp [h0]
  · have hj : i - 1 < ds.length := by omega
    rw [g (i - 1) hj]
    have := List.pairwise_iff_getElem.1 hasc (i - 1) i hj hi (by omega)
    simp [this]
/-- The canonical form of the canonical form is the canonical form. -/
theorem can_twice {v : Nat} {gs ks : List Nat} (cs : List (Int × Int)) :
    ord ((ord (cs.filter (restB v gs))).filter (restB v gs)) = ord (cs.filter (restB v gs)) ∧ killC v gs (killC v gs ks cs) (ord (cs.filter (restB v gs))) = killC v gs ks cs := by
  constructor
  · refine asc_unique (ord_spec _).2 (ord_spec _).2 fun x => ?_
    rw [mem_rest, mem_rest]
    exact ⟨fun h => h.1, fun h => ⟨h, h.2⟩⟩
  · refine Bs.ext (fit_killC _ _ _ _) (fit_killC _ _ _ _) fun i hi => ?_
    have e : ((i : Int), (i : Int)) ∉ ord (cs.filter (restB v gs)) := fun h => by
      have := (mem_rest.1 h).2
      unfold restB at this
      simp at this
    have e' : decide (((i : Int), (i : Int)) ∈ ord (cs.filter (restB v gs))) = false := by simpa using e
    unfold killC at e' ⊢
    rw [Bs.bit_ofP _ _ _ (Nat.le_refl _), Bs.bit_ofP _ _ _ (Nat.le_refl _)]
    simp only [hi, decide_true, Bool.true_and, e', Bool.not_false, Bool.and_true]
    cases Bs.bit gs i <;> simp
end Go.Proofs.Ytkckkodoeepdpaa

namespace Go.Proofs.Ytkckkodoeepdpaa
set_option maxRecDepth 20000

theorem bit_valR_iff {gs ss : List Nat} {f : Int → Int → Bool} {W i : Nat} (hi : i < W) : Bs.bit (valR gs ss f W) i = true ↔ (Bs.bit gs i = true ∨ ∃ x, x < W ∧ Bs.bit ss x = true ∧ f x i = true) := by
  rw [bit_valR]
  simp only [hi, decide_true, Bool.true_and, Bool.or_eq_true, List.any_eq_true, List.mem_range, Bool.and_eq_true]
theorem bit_orR_iff {ws xs : List Nat} {W i : Nat} (hi : i < W) : Bs.bit (orR W ws xs) i = true ↔ (Bs.bit ws i = true ∨ Bs.bit xs i = true) := by
  unfold orR
  rw [Bs.bit_ofP _ _ _ (Nat.le_refl _)]
  simp only [hi, decide_true, Bool.true_and, Bool.or_eq_true]
theorem folB_iff {V : Int} {ks : List Nat} {cs : List (Int × Int)} {a b : Int} : folB V ks cs a b = true ↔ ((a = b ∧ Bs.hasB V ks a = false) ∨ (a, b) ∈ cs) := by
  unfold folB
  simp only [Bool.or_eq_true, Bool.and_eq_true, decide_eq_true_eq, Bool.not_eq_true']
theorem join_follows {v : Nat} (hv : v ≤ 256) {ks ks' : List Nat} (hk : Bs.Fit v ks) (hk' : Bs.Fit v ks') {cs cs' : List (Int × Int)} {x : Nat} {i : Int} (hx : x < v) :
    folB v (andR v ks ks') (cs ++ cs') x i = true ↔ (folB v ks cs x i = true ∨ folB v ks' cs' x i = true) := by
  rw [folB_iff, folB_iff, folB_iff, List.mem_append, Bs.hasB_nat hk hv, Bs.hasB_nat hk' hv, Bs.hasB_nat (fit_andR _ _ _) hv]
  have e : Bs.bit (andR v ks ks') x = (Bs.bit ks x && Bs.bit ks' x) := by
    unfold andR; rw [Bs.bit_ofP _ _ _ (Nat.le_refl _)]; simp [hx]
  rw [e]
  cases Bs.bit ks x <;> cases Bs.bit ks' x <;> simp <;> grind
theorem join_value {v : Nat} (hv : v ≤ 256) {gs gs' ks ks' : List Nat} (hk : Bs.Fit v ks) (hk' : Bs.Fit v ks') (cs cs' : List (Int × Int)) (ss : List Nat) :
    valR (orR v gs gs') ss (folB v (andR v ks ks') (cs ++ cs')) v = orR v (valR gs ss (folB v ks cs) v) (valR gs' ss (folB v ks' cs') v) := by
  refine Bs.ext (fit_valR _ _ _ _) (fit_orR _ _ _) fun i hi => ?_
  apply Bool.eq_iff_iff.2
  rw [bit_valR_iff hi, bit_orR_iff hi, bit_orR_iff hi, bit_valR_iff hi, bit_valR_iff hi]
  constructor
  · rintro ((h | h) | ⟨x, hx, h1, h2⟩)
    · exact .inl (.inl h)
    · exact .inr (.inl h)
    · rcases (join_follows hv hk hk' hx).1 h2 with h3 | h3
      · exact .inl (.inr ⟨x, hx, h1, h3⟩)
      · exact .inr (.inr ⟨x, hx, h1, h3⟩)
  · rintro ((h | ⟨x, hx, h1, h2⟩) | (h | ⟨x, hx, h1, h2⟩))
    · exact .inl (.inl h)
    · exact .inr ⟨x, hx, h1, (join_follows hv hk hk' hx).2 (.inl h2)⟩
    · exact .inl (.inr h)
    · exact .inr ⟨x, hx, h1, (join_follows hv hk hk' hx).2 (.inr h2)⟩
theorem mem_chnL {V V' : Int} {ks ks' : List Nat} {cs cs' : List (Int × Int)} {a b : Int} : (a, b) ∈ chnL V ks V' ks' cs cs' ↔
    (((a, b) ∈ cs ∧ Bs.hasB V' ks' b = false) ∨ (∃ y, (a, y) ∈ cs ∧ (y, b) ∈ cs') ∨ ((a, b) ∈ cs' ∧ Bs.hasB V ks a = false)) := by
  unfold chnL chnF
  rw [List.mem_append, List.mem_flatMap, List.mem_filter, List.take_length]
  constructor
  · rintro (⟨p, hp, h⟩ | ⟨h1, h2⟩)
    · unfold chnP at h
      rw [List.take_length] at h
      rcases List.mem_append.1 h with h | h
      · by_cases hb : Bs.hasB V' ks' p.2 = true
        · rw [if_pos hb] at h; cases h
        · rw [if_neg hb] at h
          have e := List.mem_singleton.1 h
          subst e
          exact .inl ⟨hp, by simpa using hb⟩
      · obtain ⟨d, hd, e⟩ := List.mem_map.1 h
        obtain ⟨hd1, hd2⟩ := List.mem_filter.1 hd
        have hd3 : p.2 = d.1 := by simpa using hd2
        have e1 : p.1 = a := congrArg Prod.fst e
        have e2 : d.2 = b := congrArg Prod.snd e
        subst e1; subst e2
        exact .inr (.inl ⟨p.2, hp, by rw [hd3]; exact hd1⟩)
    · exact .inr (.inr ⟨h1, by simpa using h2⟩)
  · rintro (⟨h1, h2⟩ | ⟨y, h1, h2⟩ | ⟨h1, h2⟩)
    · refine .inl ⟨(a, b), h1, ?_⟩
      unfold chnP
      exact List.mem_append.2 (.inl (by simp [h2]))
    · refine .inl ⟨(a, y), h1, ?_⟩
      unfold chnP
      rw [List.take_length]
      exact List.mem_append.2 (.inr (List.mem_map.2 ⟨(y, b), List.mem_filter.2 ⟨h2, by simp⟩, rfl⟩))
    · exact .inr ⟨h1, by simp [h2]⟩
theorem chain_follows {v : Nat} (hv : v ≤ 256) {ks ks' : List Nat} (hk : Bs.Fit v ks) (hk' : Bs.Fit v ks') {cs cs' : List (Int × Int)} (hin : ∀ p ∈ cs, inW v p = true) {x i : Nat} (hx : x < v) (hi : i < v) :
    folB v (orR v ks ks') (chnL v ks v ks' cs cs') x i = true ↔ ∃ y, y < v ∧ folB v ks cs x y = true ∧ folB v ks' cs' y i = true := by
  rw [folB_iff, mem_chnL]
  have e : Bs.hasB v (orR v ks ks') x = (Bs.bit ks x || Bs.bit ks' x) := by
    rw [Bs.hasB_nat (fit_orR _ _ _) hv]
    unfold orR; rw [Bs.bit_ofP _ _ _ (Nat.le_refl _)]; simp [hx]
  rw [e]
  constructor
  · rintro (⟨h1, h2⟩ | ⟨h1, h2⟩ | ⟨y, h1, h2⟩ | ⟨h1, h2⟩)
    · have hxi : x = i := by omega
      subst hxi
      simp only [Bool.or_eq_false_iff] at h2
      exact ⟨x, hx, folB_iff.2 (.inl ⟨rfl, by rw [Bs.hasB_nat hk hv]; exact h2.1⟩), folB_iff.2 (.inl ⟨rfl, by rw [Bs.hasB_nat hk' hv]; exact h2.2⟩)⟩
    · exact ⟨i, hi, folB_iff.2 (.inr h1), folB_iff.2 (.inl ⟨rfl, h2⟩)⟩
    · have hw := inW_pair.1 (hin _ h1)
      simp only at hw
      obtain ⟨z, rfl⟩ := Int.eq_ofNat_of_zero_le hw.2.1
      exact ⟨z, by omega, folB_iff.2 (.inr h1), folB_iff.2 (.inr h2)⟩
    · exact ⟨x, hx, folB_iff.2 (.inl ⟨rfl, h2⟩), folB_iff.2 (.inr h1)⟩
  · rintro ⟨y, hy, h1, h2⟩
    rcases folB_iff.1 h1 with ⟨h3, h4⟩ | h3 <;> rcases folB_iff.1 h2 with ⟨h5, h6⟩ | h5
    · have e1 : x = y := by omega
      have e2 : y = i := by omega
      subst e1; subst e2
      rw [Bs.hasB_nat hk hv] at h4
      rw [Bs.hasB_nat hk' hv] at h6
      exact .inl ⟨rfl, by rw [h4, h6]; rfl⟩
    · have e1 : x = y := by omega
      subst e1
      exact .inr (.inr (.inr ⟨h5, h4⟩))
    · have e2 : y = i := by omega
      subst e2
      exact .inr (.inl ⟨h3, h6⟩)
    · exact .inr (.inr (.inl ⟨y, h3, h5⟩))
theorem compose_value {v : Nat} (hv : v ≤ 256) {gs gs' ks ks' : List Nat} (hk : Bs.Fit v ks) (hk' : Bs.Fit v ks') {cs cs' : List (Int × Int)} (hin : ∀ p ∈ cs, inW v p = true) (ss : List Nat) :
    valR (valR gs' gs (folB v ks' cs') v) ss (folB v (orR v ks ks') (chnL v ks v ks' cs cs')) v = valR gs' (valR gs ss (folB v ks cs) v) (folB v ks' cs') v := by
  refine Bs.ext (fit_valR _ _ _ _) (fit_valR _ _ _ _) fun i hi => ?_
  apply Bool.eq_iff_iff.2
  rw [bit_valR_iff hi, bit_valR_iff hi, bit_valR_iff hi]
  constructor
  · rintro ((h | ⟨y, hy, h1, h2⟩) | ⟨x, hx, h1, h2⟩)
    · exact .inl h
    · exact .inr ⟨y, hy, (bit_valR_iff hy).2 (.inl h1), h2⟩
    · obtain ⟨y, hy, h3, h4⟩ := (chain_follows hv hk hk' hin hx hi).1 h2
      exact .inr ⟨y, hy, (bit_valR_iff hy).2 (.inr ⟨x, hx, h1, h3⟩), h4⟩
  · rintro (h | ⟨y, hy, h1, h2⟩)
    · exact .inl (.inl h)
    · rcases (bit_valR_iff hy).1 h1 with h3 | ⟨x, hx, h3, h4⟩
      · exact .inl (.inr ⟨y, hy, h3, h2⟩)
      · exact .inr ⟨x, hx, h3, (chain_follows hv hk hk' hin hx hi).2 ⟨y, hy, h4, h2⟩⟩
end Go.Proofs.Ytkckkodoeepdpaa

namespace Go.Proofs.Ytkckkodoeepdpaa
set_option maxRecDepth 20000
open Go.ChangeShapes Go.WideShapes Go.ChangeAt Go.RowKit

theorem fit_max {v : Nat} {ws : List Nat} {n : Nat} (h : Bs.Fit v ws) (hv : v ≤ 256) (hl : ws.length = n) : n ≤ maxLen := by
  have e2 := h.len
  have e3 : Bs.nw v ≤ v + 63 := by unfold Bs.nw; omega
  unfold maxLen; omega

theorem sqN_succ (v : Nat) (G : List Nat) (N : Nat) (cs : List (Int × Int)) : sqN v G (N + 1) cs = if 64 < (sqC v G cs).length then (0, [], [], [], 7) else if sqC v G cs = cs then ((v : Int), G, G, cs, 0) else sqN v G N (sqC v G cs) := rfl

set_option maxHeartbeats 1600000 in
theorem devSquare_any (v : Nat) (G : List Nat) : ∀ (N : Nat) (cs : List (Int × Int)) (_ : SqI v G cs) (_ : cs.length ≤ 64) (_ : 65 ≤ cs.length + N) (A B C : Option Addr) (n c m d k q : Nat) (w : World) (_ : FArg w A n B m C k G G cs),
    Calls Try.prog 51 #[.agg #[.int .i64 v, .slice A n c, .int .i64 v, .slice B m d, .slice C k q]] w (RetR w (sqN v G N cs)) := by
  intro N
  induction N with
  | zero => intro cs hI hl hN; omega
  | succ N ih =>
    intro cs hI hl hN A B C n c m d k q w hF
    have HI := hid hI; have HF := hid hF; have IH := hid ih; have HN := hid hN
    have Hc := hid (hI.compose hl)
    have H0 := hid (TwoT.start w v v A B C n c m d k q 0 0 none none none 0 0 0 0 0 0)
    clear hI hl hN hF ih
    go_enter Try.func51, Try.ntmps51
    go_wp2_with fail
    generalize (w.alloc (.cells #[.int .i64 v, .slice A n c, .int .i64 v, .slice B m d, .slice C k q] 29)).alloc (.cells #[.int .i64 0, .slice none 0 0, .int .i64 0, .slice none 0 0, .slice none 0 0] 29) = w1 at *
    refine (devCompose_any v v A B C n c m d k q G G cs v v A B C n c m d k q G G cs _ (HF.out.below H0.out.2.2) (HF.out.below H0.out.2.2)).mono ?_
    rw [Hc.out]
    by_cases h64 : (sqC v G cs).length ≤ 64
    · rw [if_pos h64]
      have Hs := hid (show sqN v G (N + 1) cs = if sqC v G cs = cs then ((v : Int), G, G, cs, 0) else sqN v G N (sqC v G cs) by rw [sqN_succ, if_neg (by omega)])
      rintro e w2 ⟨A2, n2, c2, B2, m2, d2, C2, q2, rfl, hA2, hB2, hC2, hb2⟩
      have ha2 : Arg w2 A2 n2 G := hA2
      have ha3 : Arg w2 B2 m2 G := hB2
      have ha4 : ArgC w2 C2 (sqC v G cs).length (sqC v G cs) := hC2
      have hb2' := hb2.alloc hb2.size (.cells #[.int .i64 v, .slice A2 n2 c2, .int .i64 v, .slice B2 m2 d2, .slice C2 (sqC v G cs).length q2] 29)
      have H2 := hid (H0.out.below hb2')
      have HF2 := hid (FArg.alloc ⟨ha2, ha3, ha4⟩ (.cells #[.int .i64 v, .slice A2 n2 c2, .int .i64 v, .slice B2 m2 d2, .slice C2 (sqC v G cs).length q2] 29))
      have HF1 := hid (HF.out.below H2.out.2.2)
      have HB := hid (Fb.new w2 #[.int .i64 v, .slice A2 n2 c2, .int .i64 v, .slice B2 m2 d2, .slice C2 (sqC v G cs).length q2] 29)
      have HI2 := hid HI.out.next
      have Hm := hid HI.out.more
      have H64 := hid h64
      generalize sqC v G cs = ds at *
      generalize hk2 : ds.length = k2 at *
      have Hk2 := hid hk2
      clear hA2 hB2 hC2 ha2 ha3 ha4 hb2 hb2' H0 Hc h64 hk2
      obtain ⟨t0, t1, t2, t3, t4⟩ := HB.out.five
      obtain ⟨s0, s1, s2, s3, s4⟩ := H2.out.1.five
      have hlb := HB.out.lt
      have Heq := hid (show equal2 v G v G ds v G v G cs = decide (ds = cs) by unfold equal2 equalB sameB; rw [Bs.valid_of_fit HI.out.fit HI.out.wid]; simp)
      have HM := hid (And.intro (fit_max HI.out.fit HI.out.wid HF2.out.gen.len) (fit_max HI.out.fit HI.out.wid HF2.out.kill.len))
      go_upto_region 2 with fail
      generalize w2.alloc (.cells #[.int .i64 v, .slice A2 n2 c2, .int .i64 v, .slice B2 m2 d2, .slice C2 k2 q2] 29) = w3 at *
      generalize w2.heap.size = b3 at *
      go_wp2_with fail
      refine (devEqual2_any v v A2 B2 C2 n2 c2 m2 d2 k2 q2 G G ds v v A B C n c m d k q G G cs _ HF2.out HF1.out HM.out.1 HM.out.2 (by have := H64.out; omega)).mono ?_
      rw [Heq.out]
      rintro e w4 ⟨rfl, hb4⟩
      have H4 := hid (H2.out.below hb4)
      have HF4 := hid (HF2.out.below hb4)
      have HB4 := hid (HB.out.below hb4 HB.out.lt)
      clear t0 t1 t2 t3 t4 s0 s1 s2 s3 s4 hlb hb4 H2 HF2 HF1 HB
      obtain ⟨t0, t1, t2, t3, t4⟩ := HB4.out.five
      have hlb := HB4.out.lt
      obtain ⟨r0, r1, r2, r3, r4⟩ := H4.out.2.1.five
      have f0 := H4.out.2.1.frozen 0
      have f1 := H4.out.2.1.frozen 1
      have f2 := H4.out.2.1.frozen 2
      have f3 := H4.out.2.1.frozen 3
      have f4 := H4.out.2.1.frozen 4
      have hlR := H4.out.2.1.lt
      by_cases he : ds = cs
      · rw [decide_eq_true he]
        have Hr := hid (show sqN v G (N + 1) cs = ((v : Int), G, G, ds, 0) by rw [Hs.out, if_pos he, he])
        have hk2 := Hk2.out
        subst hk2
        have Fin := hid (RetT.stored (w := w) (err := 0) (c := c2) (d := d2) (q := q2) (W := v) HF4.out.gen HF4.out.kill HF4.out.cops H4.out.2.2 (by omega) H4.out.2.1)
        unfold stored5 at Fin
        clear he
        go_wp2_with fail
        refine bodyPost_ret (v := .tuple #[.agg #[.int .i64 v, .slice A2 n2 c2, .int .i64 v, .slice B2 m2 d2, .slice C2 ds.length q2], .int .i64 0]) (by simp [results, Try.results51, go_sem, r0, r1, r2, r3, r4]) rfl ?_
        rw [Hr.out]
        exact Fin.out
      · rw [decide_eq_false he]
        have Hr := hid (show sqN v G (N + 1) cs = sqN v G N ds by rw [Hs.out, if_neg he])
        have hlen := Hm.out he
        clear f0 f1 f2 f3 f4 r0 r1 r2 r3 r4
        go_wp2_with fail
        refine (IH.out ds HI2.out (by have := H64.out; have := Hk2.out; omega) (by have := HN.out; have := Hk2.out; omega) A2 B2 C2 n2 c2 m2 d2 k2 q2 _ HF4.out).mono ?_
        obtain ⟨r, hrr⟩ : ∃ r, sqN v G N ds = r := ⟨_, rfl⟩
        obtain ⟨W9, gs9, ks9, cs9, er9⟩ := r
        rw [hrr]
        have Hrr := hid hrr
        rintro e w5 ⟨A9, n9, c9, B9, m9, d9, C9, q9, rfl, hA9, hB9, hC9, hbk⟩
        have H5 := hid (H4.out.below hbk)
        obtain ⟨r0, r1, r2, r3, r4⟩ := H5.out.2.1.five
        have f0 := H5.out.2.1.frozen 0
        have f1 := H5.out.2.1.frozen 1
        have f2 := H5.out.2.1.frozen 2
        have f3 := H5.out.2.1.frozen 3
        have f4 := H5.out.2.1.frozen 4
        have hlR := H5.out.2.1.lt
        have Fin := hid (RetT.stored (w := w) (err := er9) (c := c9) (d := d9) (q := q9) (W := W9) hA9 hB9 hC9 H5.out.2.2 (by omega) H5.out.2.1)
        unfold stored5 at Fin
        clear hbk hA9 hB9 hC9 hrr t0 t1 t2 t3 t4 he hlen
        go_wp2_with fail
        refine bodyPost_ret (v := .tuple #[.agg #[.int .i64 W9, .slice A9 n9 c9, .int .i64 W9, .slice B9 m9 d9, .slice C9 cs9.length q9], .int .i64 er9]) (by simp [results, Try.results51, go_sem, r0, r1, r2, r3, r4]) rfl ?_
        rw [Hr.out, Hrr.out]
        exact Fin.out
    · rw [if_neg h64]
      have Hr := hid (show sqN v G (N + 1) cs = (0, [], [], [], 7) by rw [sqN_succ, if_pos (by omega)])
      rintro e w2 ⟨A2, n2, c2, B2, m2, d2, C2, q2, rfl, hA2, hB2, hC2, hb2⟩
      have hb2' := hb2.alloc hb2.size (.cells #[.int .i64 0, .slice A2 n2 c2, .int .i64 0, .slice B2 m2 d2, .slice C2 0 q2] 29)
      have H2 := hid (H0.out.below hb2')
      have HF2 := hid (FArg.alloc ⟨hA2, hB2, hC2⟩ (.cells #[.int .i64 0, .slice A2 n2 c2, .int .i64 0, .slice B2 m2 d2, .slice C2 0 q2] 29))
      have HB := hid (Fb.new w2 #[.int .i64 0, .slice A2 n2 c2, .int .i64 0, .slice B2 m2 d2, .slice C2 0 q2] 29)
      clear hA2 hB2 hC2 hb2 hb2' H0 Hc h64
      obtain ⟨t0, t1, t2, t3, t4⟩ := HB.out.five
      have hlb := HB.out.lt
      obtain ⟨r0, r1, r2, r3, r4⟩ := H2.out.2.1.five
      have f0 := H2.out.2.1.frozen 0
      have f1 := H2.out.2.1.frozen 1
      have f2 := H2.out.2.1.frozen 2
      have f3 := H2.out.2.1.frozen 3
      have f4 := H2.out.2.1.frozen 4
      have hlR := H2.out.2.1.lt
      have Fin := hid (RetT.stored (w := w) (err := 7) (c := c2) (d := d2) (q := q2) (W := 0) HF2.out.gen HF2.out.kill HF2.out.cops H2.out.2.2 (by omega) H2.out.2.1)
      unfold stored5 at Fin
      go_wp2_with fail
      refine bodyPost_ret (v := .tuple #[.agg #[.int .i64 0, .slice A2 n2 c2, .int .i64 0, .slice B2 m2 d2, .slice C2 0 q2], .int .i64 7]) (by simp [results, Try.results51, go_sem, r0, r1, r2, r3, r4]) rfl ?_
      rw [Hr.out]
      exact Fin.out
end Go.Proofs.Ytkckkodoeepdpaa

namespace Go.Proofs.Ytkckkodoeepdpaa
set_option maxRecDepth 20000
open Go.ChangeShapes Go.WideShapes Go.ChangeAt Go.RowKit

/-- The set that a star generates, and the copies with which it starts. -/
def strG (v : Nat) (gs ks : List Nat) (cs : List (Int × Int)) : List Nat := lst v gs (folB v ks cs)
def strC (v : Nat) (gs ks : List Nat) (cs : List (Int × Int)) : List (Int × Int) := ord (cs.filter (restB v (strG v gs ks cs)))
/-- P3.6. -/
def starR (W : Int) (gs : List Nat) (V : Int) (ks : List Nat) (cs : List (Int × Int)) : Int × List Nat × List Nat × List (Int × Int) × Int :=
  if validT W gs V ks cs = false then (0, [], [], [], 1) else sqN W.toNat (strG W.toNat gs ks cs) 65 (strC W.toNat gs ks cs)
theorem ord_len (cs : List (Int × Int)) : (ord cs).length ≤ cs.length := by
  have h1 := cpt_len (srt cs)
  rw [srt_len] at h1; exact h1
section
variable {v : Nat} {gs ks : List Nat} {cs : List (Int × Int)}
theorem str_start (hg : Bs.Fit v gs) (hv : v ≤ 256) (hin : ∀ p ∈ cs, inW v p = true) : SqI v (strG v gs ks cs) (strC v gs ks cs) := by
  have hf : Bs.Fit v (strG v gs ks cs) := fit_lst hg _
  refine ⟨hf, hv, (ord_spec _).2, fun p hp => hin p (List.mem_filter.1 ((ord_spec _).1 p |>.1 hp)).1, fun p hp => ?_⟩
  obtain ⟨h1, h2⟩ := List.mem_filter.1 ((ord_spec _).1 p |>.1 hp)
  unfold restB at h2
  simp only [Bool.and_eq_true, decide_eq_true_eq, Bool.not_eq_true'] at h2
  refine ⟨?_, h2.2, h2.1⟩
  obtain ⟨a, b⟩ := p
  have hw := inW_pair.1 (hin _ h1)
  simp only at hw h2 ⊢
  obtain ⟨x, rfl⟩ := Int.eq_ofNat_of_zero_le hw.1.1
  obtain ⟨y, rfl⟩ := Int.eq_ofNat_of_zero_le hw.2.1
  have e1 := Bs.hasB_nat hf hv (b := x)
  have e2 := Bs.hasB_nat hf hv (b := y)
  rw [e1]
  cases hb : Bs.bit (strG v gs ks cs) x with
  | false => rfl
  | true =>
    have h3 := h2.2
    rw [e2] at h3
    have h4 : Bs.bit (valR gs (strG v gs ks cs) (folB v ks cs) v) y = true := by
      rw [bit_valR]
      have hy : y < v := by omega
      have hx : x < v := by omega
      simp only [hy, decide_true, Bool.true_and, Bool.or_eq_true, List.any_eq_true, List.mem_range, Bool.and_eq_true]
      exact .inr ⟨x, hx, hb, by unfold folB; simp [h1]⟩
    have h5 : valR gs (strG v gs ks cs) (folB v ks cs) v = strG v gs ks cs := lst_fix hg _
    rw [h5, h3] at h4
    cases h4
theorem str_canon (hg : Bs.Fit v gs) (hl : cs.length ≤ 64) : cnR v (strG v gs ks cs) (Bs.emp v) cs = ((v : Int), strG v gs ks cs, strG v gs ks cs, strC v gs ks cs, 0) := by
  have h1 : (strC v gs ks cs).length ≤ 64 := by
    have h2 := ord_len (cs.filter (restB v (strG v gs ks cs)))
    have h3 := List.length_filter_le (restB v (strG v gs ks cs)) cs
    unfold strC; omega
  unfold cnR
  rw [if_pos (show (ord (cs.filter (restB v (strG v gs ks cs)))).length ≤ 64 from h1), killC_self (show Bs.Fit v (strG v gs ks cs) from fit_lst hg _) (Bs.emp v) (fun i hi => by rw [Bs.bit_emp] at hi; cases hi)]
  rfl
theorem str_len (hl : cs.length ≤ 64) : (strC v gs ks cs).length ≤ 64 := by
  have h2 := ord_len (cs.filter (restB v (strG v gs ks cs)))
  have h3 := List.length_filter_le (restB v (strG v gs ks cs)) cs
  unfold strC; omega
end

/-- A function's variable that is made before a call. -/
def Fresh5 (W w : World) (b : Nat) : Prop := Fb w b #[.int .i64 0, .slice none 0 0, .int .i64 0, .slice none 0 0, .slice none 0 0] 29 ∧ W.heap.size ≤ b
theorem Fresh5.mk {W w0 w1 : World} (h0 : Below W.heap.size W w0) (hb : Below (w0.alloc (.cells #[.int .i64 0, .slice none 0 0, .int .i64 0, .slice none 0 0, .slice none 0 0] 29)).heap.size (w0.alloc (.cells #[.int .i64 0, .slice none 0 0, .int .i64 0, .slice none 0 0, .slice none 0 0] 29)) w1) : Fresh5 W w1 w0.heap.size :=
  ⟨(Fb.new w0 _ 29).below hb (by simp), h0.size⟩
theorem Fresh5.mkD {w0 w1 : World} (hb : Below (w0.alloc (.cells #[.int .i64 0, .slice none 0 0, .int .i64 0, .slice none 0 0, .slice none 0 0] 29)).drew.heap.size (w0.alloc (.cells #[.int .i64 0, .slice none 0 0, .int .i64 0, .slice none 0 0, .slice none 0 0] 29)).drew w1) : Fresh5 w0 w1 w0.heap.size :=
  ⟨(show Fb (w0.alloc (.cells #[.int .i64 0, .slice none 0 0, .int .i64 0, .slice none 0 0, .slice none 0 0] 29)).drew w0.heap.size _ 29 from Fb.new w0 _ 29).below hb (by show w0.heap.size < (w0.alloc _).heap.size; simp), Nat.le_refl _⟩
theorem Fresh5.below {W w w1 : World} {b : Nat} (h : Fresh5 W w b) (hb : Below w.heap.size w w1) : Fresh5 W w1 b := ⟨h.1.below hb h.1.lt, h.2⟩
theorem Fresh5.stored {W w : World} {b : Nat} (h : Fresh5 W w b) (hb : Below W.heap.size W w) (a c d e f : Value) : Below W.heap.size W (((((w.setCell ⟨b, 0, none⟩ a).setCell ⟨b, 1, none⟩ c).setCell ⟨b, 2, none⟩ d).setCell ⟨b, 3, none⟩ e).setCell ⟨b, 4, none⟩ f) :=
  below_stored5 hb h.2 _ _ _ _ _
theorem Fb.set5 {w : World} {g t : Nat} {a b c d e : Value} (h : Fb w g #[a, b, c, d, e] t) (a' b' c' d' e' : Value) : Fb (((((w.setCell ⟨g, 0, none⟩ a').setCell ⟨g, 1, none⟩ b').setCell ⟨g, 2, none⟩ c').setCell ⟨g, 3, none⟩ d').setCell ⟨g, 4, none⟩ e') g #[a', b', c', d', e'] t := by
  unfold Fb at h ⊢
  simp [World.setCell, h, Array.getElem?_modify]
/-- A function in its variable, after the stores. -/
def StarAt (w5 : World) (v : Nat) (gs ks : List Nat) (cs : List (Int × Int)) (wc : World) (b : Nat) (A : Option Addr) (n c : Nat) (B : Option Addr) (m d : Nat) (C : Option Addr) (q : Nat) : Prop :=
  Fb wc b #[.int .i64 v, .slice A n c, .int .i64 v, .slice B m d, .slice C cs.length q] 29 ∧ FArg wc A n B m C cs.length gs ks cs ∧ Below w5.heap.size w5 wc
section
variable {w5 : World} {v : Nat} {gs ks : List Nat} {cs : List (Int × Int)} {wn : World} {A : Option Addr} {n c : Nat} {B : Option Addr} {m d : Nat} {C : Option Addr} {q : Nat}
theorem StarAt.fresh {b : Nat} (hx : Fresh5 w5 wn b) (hA : Arg wn A n gs) (hB : Arg wn B m ks) (hC : ArgC wn C cs.length cs) (hb : Below w5.heap.size w5 wn) :
    StarAt w5 v gs ks cs (((((wn.setCell ⟨b, 0, none⟩ (.int .i64 v)).setCell ⟨b, 1, none⟩ (.slice A n c)).setCell ⟨b, 2, none⟩ (.int .i64 v)).setCell ⟨b, 3, none⟩ (.slice B m d)).setCell ⟨b, 4, none⟩ (.slice C cs.length q)) b A n c B m d C q :=
  ⟨hx.1.set5 _ _ _ _ _, ⟨hA.stored5 (hA.apart hx.1 zero5) _ _ _ _ _, hB.stored5 (hB.apart hx.1 zero5) _ _ _ _ _, hC.stored5 (hC.apart hx.1 zero5c) _ _ _ _ _⟩, hx.stored hb _ _ _ _ _⟩
theorem StarAt.new (hA : Arg wn A n gs) (hB : Arg wn B m ks) (hC : ArgC wn C cs.length cs) (hb : Below w5.heap.size w5 wn) :
    StarAt w5 v gs ks cs (wn.alloc (.cells #[.int .i64 v, .slice A n c, .int .i64 v, .slice B m d, .slice C cs.length q] 29)) wn.heap.size A n c B m d C q :=
  ⟨Fb.new _ _ _, FArg.alloc ⟨hA, hB, hC⟩ _, hb.alloc hb.size _⟩
end
end Go.Proofs.Ytkckkodoeepdpaa

namespace Go.Proofs.Ytkckkodoeepdpaa
set_option maxRecDepth 20000

theorem sqC_keeps {v : Nat} {G : List Nat} {cs : List (Int × Int)} (T : Int → Prop) (h : ∀ p ∈ cs, T p.1 → T p.2) : ∀ p ∈ sqC v G cs, T p.1 → T p.2 := by
  rintro ⟨a, b⟩ hp ha
  rcases mem_chnL.1 (mem_sqC.1 hp).1 with ⟨h1, _⟩ | ⟨y, h1, h2⟩ | ⟨h1, _⟩
  · exact h _ h1 ha
  · exact h (y, b) h2 (h (a, y) h1 ha)
  · exact h _ h1 ha
/-- The end of the composing: full, or closed. -/
theorem sqN_spec {v : Nat} {G : List Nat} : ∀ (N : Nat) (cs : List (Int × Int)), SqI v G cs → cs.length ≤ 64 → 65 ≤ cs.length + N →
    sqN v G N cs = (0, [], [], [], 7) ∨ ∃ ds, sqN v G N cs = ((v : Int), G, G, ds, 0) ∧ SqI v G ds ∧ ds.length ≤ 64 ∧ sqC v G ds = ds ∧ (∀ p ∈ cs, p ∈ ds) ∧ ∀ T : Int → Prop, (∀ p ∈ cs, T p.1 → T p.2) → ∀ p ∈ ds, T p.1 → T p.2 := by
  intro N
  induction N with
  | zero => intro cs _ h1 h2; omega
  | succ N ih =>
    intro cs hI hl hN
    rw [sqN_succ]
    by_cases h64 : 64 < (sqC v G cs).length
    · rw [if_pos h64]; exact .inl rfl
    · rw [if_neg h64]
      by_cases he : sqC v G cs = cs
      · rw [if_pos he]
        exact .inr ⟨cs, rfl, hI, hl, he, fun _ h => h, fun _ h => h⟩
      · rw [if_neg he]
        have hm := hI.more he
        rcases ih (sqC v G cs) hI.next (by omega) (by omega) with h | ⟨ds, h1, h2, h3, h4, h5, h6⟩
        · exact .inl h
        · exact .inr ⟨ds, h1, h2, h3, h4, fun p hp => h5 p (hI.sub p hp), fun T hT => h6 T (sqC_keeps T hT)⟩
/-- A closed list of copies is transitive. -/
theorem sqC_trans {v : Nat} {G : List Nat} {ds : List (Int × Int)} (hI : SqI v G ds) (hf : sqC v G ds = ds) {a b c : Int} (h1 : (a, b) ∈ ds) (h2 : (b, c) ∈ ds) : a = c ∨ (a, c) ∈ ds := by
  by_cases e : a = c
  · exact .inl e
  · refine .inr ?_
    rw [← hf]
    refine mem_sqC.2 ⟨mem_chnL.2 (.inr (.inl ⟨b, h1, h2⟩)), ?_⟩
    unfold restB
    have := (hI.out _ h2).2.1
    simp only at this
    simp [e, this]
section
variable {v : Nat} {gs ks : List Nat} {cs ds : List (Int × Int)}
theorem star_follows (hI : SqI v (strG v gs ks cs) ds) {x i : Nat} : folB v (strG v gs ks cs) ds x i = true ↔ ((x = i ∧ Bs.bit (strG v gs ks cs) x = false) ∨ ((x : Int), (i : Int)) ∈ ds) := by
  rw [folB_iff, Bs.hasB_nat hI.fit hI.wid]
  have : ((x : Int) = (i : Int)) ↔ x = i := by omega
  rw [this]
/-- The star's value contains the argument. -/
theorem star_above (hI : SqI v (strG v gs ks cs) ds) (ss : List Nat) {i : Nat} (hi : i < v) (hs : Bs.bit ss i = true) : Bs.bit (valR (strG v gs ks cs) ss (folB v (strG v gs ks cs) ds) v) i = true := by
  rw [bit_valR_iff hi]
  cases hb : Bs.bit (strG v gs ks cs) i with
  | true => exact .inl rfl
  | false => exact .inr ⟨i, hi, hs, (star_follows hI).2 (.inl ⟨rfl, hb⟩)⟩
/-- It contains the function's value of itself. -/
theorem star_closed (hg : Bs.Fit v gs) (hI : SqI v (strG v gs ks cs) ds) (hf : sqC v (strG v gs ks cs) ds = ds) (hsub : ∀ p ∈ strC v gs ks cs, p ∈ ds) (ss : List Nat) {i : Nat} (hi : i < v)
    (h : Bs.bit (valR gs (valR (strG v gs ks cs) ss (folB v (strG v gs ks cs) ds) v) (folB v ks cs) v) i = true) : Bs.bit (valR (strG v gs ks cs) ss (folB v (strG v gs ks cs) ds) v) i = true := by
  have hfix : valR gs (strG v gs ks cs) (folB v ks cs) v = strG v gs ks cs := lst_fix hg _
  have hclosed : ∀ x, x < v → Bs.bit (strG v gs ks cs) x = true → folB v ks cs x i = true → Bs.bit (strG v gs ks cs) i = true := fun x hx h1 h2 => by
    have := (bit_valR_iff (gs := gs) (ss := strG v gs ks cs) (f := folB v ks cs) hi).2 (.inr ⟨x, hx, h1, h2⟩)
    rwa [hfix] at this
  have hgen : Bs.bit gs i = true → Bs.bit (strG v gs ks cs) i = true := fun h1 => by
    have := (bit_valR_iff (gs := gs) (ss := strG v gs ks cs) (f := folB v ks cs) hi).2 (.inl h1)
    rwa [hfix] at this
  cases hb : Bs.bit (strG v gs ks cs) i with
  | true => exact (bit_valR_iff hi).2 (.inl hb)
  | false =>
    rcases (bit_valR_iff hi).1 h with h1 | ⟨y, hy, h1, h2⟩
    · rw [hgen h1] at hb; cases hb
    · rcases (bit_valR_iff hy).1 h1 with h3 | ⟨x, hx, h3, h4⟩
      · rw [hclosed y hy h3 h2] at hb; cases hb
      · rcases folB_iff.1 h2 with ⟨h5, _⟩ | h5
        · have e : y = i := by omega
          subst e; exact h1
        · by_cases hyi : y = i
          · subst hyi; exact h1
          · have hd : ((y : Int), (i : Int)) ∈ ds := by
              refine hsub _ (mem_rest.2 ⟨h5, ?_⟩)
              unfold restB
              rw [Bs.hasB_nat hI.fit hI.wid]
              simp [hb]; omega
            refine (bit_valR_iff hi).2 (.inr ⟨x, hx, h3, (star_follows hI).2 ?_⟩)
            rcases (star_follows hI).1 h4 with ⟨e, _⟩ | h6
            · subst e; exact .inr hd
            · rcases sqC_trans hI hf h6 hd with e | h7
              · have e' : x = i := by omega
                subst e'; exact .inl ⟨rfl, hb⟩
              · exact .inr h7
/-- It is the least such set. -/
theorem star_least (hI : SqI v (strG v gs ks cs) ds) (hin : ∀ p ∈ cs, inW v p = true) (hway : ∀ T : Int → Prop, (∀ p ∈ strC v gs ks cs, T p.1 → T p.2) → ∀ p ∈ ds, T p.1 → T p.2) (ss ts : List Nat)
    (hs : ∀ i, i < v → Bs.bit ss i = true → Bs.bit ts i = true) (hfit : Bs.Fit v gs) (ht : ∀ i, i < v → Bs.bit (valR gs ts (folB v ks cs) v) i = true → Bs.bit ts i = true) {i : Nat} (hi : i < v)
    (h : Bs.bit (valR (strG v gs ks cs) ss (folB v (strG v gs ks cs) ds) v) i = true) : Bs.bit ts i = true := by
  have hG : ∀ j, Bs.bit (strG v gs ks cs) j = true → Bs.bit ts j = true := by
    have hlt : ∀ (xs : List Nat), Bs.Fit v xs → ∀ j, Bs.bit xs j = true → j < v := fun xs hx j hj => by
      refine Classical.byContradiction fun hn => ?_
      rw [hx.hi j (by omega)] at hj; cases hj
    refine lst_least (W := v) (f := folB v ks cs) (fun j hj => ?_) (fun j hj => ?_)
    · have := hlt gs hfit j hj
      exact ht j this ((bit_valR_iff this).2 (.inl hj))
    · exact ht j (hlt _ (fit_valR _ _ _ _) j hj) hj
  rcases (bit_valR_iff hi).1 h with h1 | ⟨x, hx, h1, h2⟩
  · exact hG i h1
  · rcases (star_follows hI).1 h2 with ⟨e, _⟩ | h3
    · subst e; exact hs x hx h1
    · have key := hway (fun a => ∃ j : Nat, a = (j : Int) ∧ j < v ∧ Bs.bit ts j = true) (fun p hp => ?_) _ h3 ⟨x, rfl, hx, hs x hx h1⟩
      · obtain ⟨j, hj, _, h4⟩ := key
        have e : i = j := by simp only at hj; omega
        rw [e]; exact h4
      · rintro ⟨j, hj, hjv, h4⟩
        have hpc := (mem_rest.1 hp).1
        have hw := inW_pair.1 (hin p hpc)
        obtain ⟨a, b⟩ := p
        simp only at hj hw ⊢
        obtain ⟨z, rfl⟩ := Int.eq_ofNat_of_zero_le hw.2.1
        have hz : z < v := by omega
        subst hj
        exact ⟨z, rfl, hz, ht z hz ((bit_valR_iff hz).2 (.inr ⟨j, hjv, h4, folB_iff.2 (.inr hpc)⟩))⟩
end
end Go.Proofs.Ytkckkodoeepdpaa

namespace Go.Proofs.Ytkckkodoeepdpaa
set_option maxRecDepth 20000

/-- All copies between two different bits. -/
def allP (v : Nat) : List (Int × Int) := ((List.range v).flatMap fun a : Nat => (List.range v).map fun b : Nat => ((a : Int), (b : Int))).filter fun p => decide (p.1 ≠ p.2)
theorem mem_allP {v : Nat} {p : Int × Int} (h : inW v p = true) (hne : p.1 ≠ p.2) : p ∈ allP v := by
  obtain ⟨a, b⟩ := p
  have hw := inW_pair.1 h
  simp only at hw hne
  obtain ⟨x, rfl⟩ := Int.eq_ofNat_of_zero_le hw.1.1
  obtain ⟨y, rfl⟩ := Int.eq_ofNat_of_zero_le hw.2.1
  unfold allP
  refine List.mem_filter.2 ⟨List.mem_flatMap.2 ⟨x, List.mem_range.2 (by omega), List.mem_map.2 ⟨y, List.mem_range.2 (by omega), rfl⟩⟩, by simpa using hne⟩
theorem asc_row (a v : Nat) : Asc ((List.range v).map fun b : Nat => ((a : Int), (b : Int))) := by
  unfold Asc
  rw [List.pairwise_map]
  refine List.Pairwise.imp ?_ (List.pairwise_lt_range (n := v))
  intro x y h
  unfold beforeB; simp; omega
theorem asc_rows (v : Nat) : ∀ n, Asc ((List.range n).flatMap fun a : Nat => (List.range v).map fun b : Nat => ((a : Int), (b : Int)))
  | 0 => by simp [Asc]
  | n + 1 => by
    rw [List.range_succ, List.flatMap_append]
    refine List.pairwise_append.2 ⟨asc_rows v n, by have h := asc_row n v; unfold Asc at h; simpa using h, fun x hx y hy => ?_⟩
    obtain ⟨a, ha, hx⟩ := List.mem_flatMap.1 hx
    obtain ⟨b, _, rfl⟩ := List.mem_map.1 hx
    obtain ⟨c, hc, hy⟩ := List.mem_flatMap.1 hy
    obtain ⟨d, _, rfl⟩ := List.mem_map.1 hy
    have h1 := List.mem_range.1 ha
    have h2 := List.mem_singleton.1 hc
    unfold beforeB; simp; omega
theorem few_copies {v : Nat} (hv : v ≤ 8) {ds : List (Int × Int)} (ha : Asc ds) (hin : ∀ p ∈ ds, inW v p = true) (hne : ∀ p ∈ ds, p.1 ≠ p.2) : ds.length ≤ 56 := by
  have e : ds = (allP v).filter fun x => decide (x ∈ ds) := by
    refine asc_unique ha (((asc_rows v v).filter _).filter _) fun x => ?_
    rw [List.mem_filter]
    exact ⟨fun hx => ⟨mem_allP (hin x hx) (hne x hx), by simpa using hx⟩, fun hx => by simpa using hx.2⟩
  have h1 := List.length_filter_le (fun x => decide (x ∈ ds)) (allP v)
  rw [← e] at h1
  have h2 : (allP v).length ≤ 56 := by
    have : v = 0 ∨ v = 1 ∨ v = 2 ∨ v = 3 ∨ v = 4 ∨ v = 5 ∨ v = 6 ∨ v = 7 ∨ v = 8 := by omega
    rcases this with rfl | rfl | rfl | rfl | rfl | rfl | rfl | rfl | rfl <;> decide
  omega
/-- The star of a star is the star. -/
theorem star_again {v : Nat} {G : List Nat} {ds : List (Int × Int)} (hI : SqI v G ds) (hf : sqC v G ds = ds) (hl : ds.length ≤ 64) : starR v G v G ds = ((v : Int), G, G, ds, 0) := by
  have hG : strG v G G ds = G := by
    have h := lstI_stay (W := v) (gs := G) (f := folB v G ds) (j := 0) hI.gen v
    rw [Nat.zero_add] at h
    exact h
  have hC : strC v G G ds = ds := by
    unfold strC
    rw [hG]
    refine asc_unique (ord_spec _).2 hI.asc fun x => ?_
    rw [mem_rest]
    refine ⟨fun h => h.1, fun h => ⟨h, ?_⟩⟩
    obtain ⟨_, h2, h3⟩ := hI.out x h
    unfold restB
    simp [h2, h3]
  unfold starR
  rw [if_neg (by simp [hI.valid hl]), Int.toNat_natCast, hG, hC, sqN_succ, if_neg (by rw [hf]; omega), if_pos hf]
end Go.Proofs.Ytkckkodoeepdpaa

namespace Go.Proofs.Ytkckkodoeepdpaa
set_option maxRecDepth 20000
set_option linter.unusedVariables false

/-- The value of a function. -/
def vl (v : Nat) (gs ks : List Nat) (cs : List (Int × Int)) (ss : List Nat) : List Nat := valR gs ss (folB v ks cs) v
theorem fit_vl (v : Nat) (gs ks : List Nat) (cs : List (Int × Int)) (ss : List Nat) : Bs.Fit v (vl v gs ks cs ss) := fit_valR _ _ _ _
/-- A valid function of width v. -/
structure Okf (v : Nat) (gs ks : List Nat) (cs : List (Int × Int)) : Prop where
  valid : validT v gs v ks cs = true
  gen : Bs.Fit v gs
  kill : Bs.Fit v ks
  inw : ∀ p ∈ cs, inW v p = true
/-- A canonical one. -/
structure Cnf (v : Nat) (gs ks : List Nat) (cs : List (Int × Int)) : Prop where
  ok : Okf v gs ks cs
  few : cs.length ≤ 56
  cops : ord (cs.filter (restB v gs)) = cs
  kills : killC v gs ks cs = ks

/-- The canonical form of what is given. -/
theorem cn_ok {v : Nat} (hv : v ≤ 8) {gs ks : List Nat} {cs : List (Int × Int)} (hg : Bs.Fit v gs) (hk : Bs.Fit v ks) (hin : ∀ p ∈ cs, inW v p = true) :
    cnR v gs ks cs = ((v : Int), gs, killC v gs ks cs, ord (cs.filter (restB v gs)), 0) ∧ Cnf v gs (killC v gs ks cs) (ord (cs.filter (restB v gs))) ∧ ∀ ss, vl v gs (killC v gs ks cs) (ord (cs.filter (restB v gs))) ss = vl v gs ks cs ss := by
  have hin2 : ∀ p ∈ ord (cs.filter (restB v gs)), inW v p = true := fun p hp => hin p (mem_rest.1 hp).1
  have hfew := few_copies hv (ord_spec (cs.filter (restB v gs))).2 hin2 (fun p hp => by
    have := (mem_rest.1 hp).2
    unfold restB at this
    simp only [Bool.and_eq_true, decide_eq_true_eq] at this
    exact this.1)
  refine ⟨by unfold cnR; rw [if_pos (by omega)], ⟨⟨can_valid (by omega) hg ks hin (by omega), hg, fit_killC _ _ _ _, hin2⟩, hfew, (can_twice cs (ks := ks)).1, (can_twice cs).2⟩, fun ss => can_value (by omega) hg hk cs ss⟩
/-- The value for the empty set is what is generated. -/
theorem vl_emp {v : Nat} {gs ks : List Nat} {cs : List (Int × Int)} (hg : Bs.Fit v gs) : vl v gs ks cs (Bs.emp v) = gs := by
  refine Bs.ext (fit_vl _ _ _ _ _) hg fun i hi => ?_
  unfold vl
  apply Bool.eq_iff_iff.2
  rw [bit_valR_iff hi]
  constructor
  · rintro (h | ⟨x, _, h, _⟩)
    · exact h
    · rw [Bs.bit_emp] at h; cases h
  · exact .inl
/-- The value for one bit. -/
theorem vl_one {v : Nat} {gs ks : List Nat} {cs : List (Int × Int)} {x i : Nat} (hx : x < v) (hi : i < v) : Bs.bit (vl v gs ks cs (Bs.put (Bs.emp v) x)) i = true ↔ (Bs.bit gs i = true ∨ folB v ks cs x i = true) := by
  unfold vl
  rw [bit_valR_iff hi]
  have e : ∀ y, Bs.bit (Bs.put (Bs.emp v) x) y = decide (y = x) := fun y => by
    rw [Bs.bit_put _ _ _ (by rw [len_emp]; exact Bs.lt_nw hx), Bs.bit_emp]; simp
  constructor
  · rintro (h | ⟨y, hy, h1, h2⟩)
    · exact .inl h
    · rw [e] at h1
      have : y = x := by simpa using h1
      subst this; exact .inr h2
  · rintro (h | h)
    · exact .inl h
    · exact .inr ⟨x, hx, by rw [e]; simp, h⟩
/-- A canonical form is determined by the values. -/
theorem cnf_eq {v : Nat} (hv : v ≤ 8) {gs ks : List Nat} {cs : List (Int × Int)} {gs' ks' : List Nat} {cs' : List (Int × Int)} (h : Cnf v gs ks cs) (h' : Cnf v gs' ks' cs')
    (he : ∀ ss, Bs.Fit v ss → vl v gs ks cs ss = vl v gs' ks' cs' ss) : gs = gs' ∧ ks = ks' ∧ cs = cs' := by
  have h1 : gs = gs' := by
    have := he (Bs.emp v) (Bs.fit_emp v)
    rwa [vl_emp h.ok.gen, vl_emp h'.ok.gen] at this
  subst h1
  have hf : ∀ x i, x < v → i < v → Bs.bit gs i = false → (folB v ks cs x i = true ↔ folB v ks' cs' x i = true) := fun x i hx hi hb => by
    have e := congrArg (fun l => Bs.bit l i = true) (he (Bs.put (Bs.emp v) x) (Bs.fit_put (Bs.fit_emp v) hx))
    simp only [eq_iff_iff] at e
    rw [vl_one hx hi, vl_one hx hi, hb] at e
    simpa using e
  have hc : cs = cs' := by
    rw [← h.cops, ← h'.cops]
    refine asc_unique (ord_spec _).2 (ord_spec _).2 fun p => ?_
    rw [mem_rest, mem_rest]
    obtain ⟨a, b⟩ := p
    have key : ∀ {ks cs ks' cs'}, (∀ x i, x < v → i < v → Bs.bit gs i = false → (folB v ks cs x i = true ↔ folB v ks' cs' x i = true)) → (∀ p ∈ cs, inW v p = true) → (a, b) ∈ cs ∧ restB v gs (a, b) = true → (a, b) ∈ cs' ∧ restB v gs (a, b) = true := by
      intro ks cs ks' cs' hf hin ⟨hm, hr⟩
      refine ⟨?_, hr⟩
      have hw := inW_pair.1 (hin _ hm)
      simp only at hw
      obtain ⟨x, rfl⟩ := Int.eq_ofNat_of_zero_le hw.1.1
      obtain ⟨i, rfl⟩ := Int.eq_ofNat_of_zero_le hw.2.1
      unfold restB at hr
      simp only [Bool.and_eq_true, decide_eq_true_eq, Bool.not_eq_true'] at hr
      rw [Bs.hasB_nat h.ok.gen (by omega)] at hr
      rcases folB_iff.1 ((hf x i (by omega) (by omega) hr.2).1 (folB_iff.2 (.inr hm))) with ⟨h3, _⟩ | h3
      · exact absurd h3 hr.1
      · exact h3
    exact ⟨key hf h.ok.inw, key (fun x i hx hi hb => (hf x i hx hi hb).symm) h'.ok.inw⟩
  subst hc
  refine ⟨rfl, ?_, rfl⟩
  rw [← h.kills, ← h'.kills]
  refine Bs.ext (fit_killC _ _ _ _) (fit_killC _ _ _ _) fun i hi => ?_
  unfold killC
  rw [Bs.bit_ofP _ _ _ (Nat.le_refl _), Bs.bit_ofP _ _ _ (Nat.le_refl _)]
  simp only [hi, decide_true, Bool.true_and]
  cases hb : Bs.bit gs i with
  | true => simp
  | false =>
    have := hf i i hi hi hb
    rw [folB_iff, folB_iff, Bs.hasB_nat h.ok.kill (by omega), Bs.hasB_nat h'.ok.kill (by omega)] at this
    by_cases hm : ((i : Int), (i : Int)) ∈ cs
    · simp [hm]
    · simp only [hm, or_false, true_and] at this
      have e : Bs.bit ks i = Bs.bit ks' i := by
        cases h1 : Bs.bit ks i <;> cases h2 : Bs.bit ks' i <;> simp_all
      rw [e]

/-- Composition. -/
theorem comp_ok {v : Nat} (hv : v ≤ 8) {gs ks : List Nat} {cs : List (Int × Int)} {gs' ks' : List Nat} {cs' : List (Int × Int)} (h : Okf v gs ks cs) (h' : Okf v gs' ks' cs') :
    ∃ G K C, composeR v gs v ks cs v gs' v ks' cs' = ((v : Int), G, K, C, 0) ∧ Cnf v G K C ∧ ∀ ss, vl v G K C ss = vl v gs' ks' cs' (vl v gs ks cs ss) := by
  have hin : ∀ p ∈ chnL v ks v ks' cs cs', inW v p = true := by
    rintro ⟨a, b⟩ hp
    rcases mem_chnL.1 hp with ⟨h1, _⟩ | ⟨y, h1, h2⟩ | ⟨h1, _⟩
    · exact h.inw _ h1
    · have w1 := inW_pair.1 (h.inw _ h1)
      have w2 := inW_pair.1 (h'.inw _ h2)
      exact inW_pair.2 ⟨w1.1, w2.2⟩
    · exact h'.inw _ h1
  obtain ⟨e1, e2, e3⟩ := cn_ok hv (fit_valR gs' gs (folB v ks' cs') v) (fit_orR v ks ks') hin
  refine ⟨_, _, _, ?_, e2, fun ss => ?_⟩
  · unfold composeR
    rw [if_neg (by simp [h.valid, h'.valid]), if_neg (by simp), Int.toNat_natCast]
    exact e1
  · rw [e3]
    exact compose_value (by omega) h.kill h'.kill h.inw ss
/-- Joins. -/
theorem join_ok {v : Nat} (hv : v ≤ 8) {gs ks : List Nat} {cs : List (Int × Int)} {gs' ks' : List Nat} {cs' : List (Int × Int)} (h : Okf v gs ks cs) (h' : Okf v gs' ks' cs') :
    ∃ G K C, joinR v gs v ks cs v gs' v ks' cs' = ((v : Int), G, K, C, 0) ∧ Cnf v G K C ∧ ∀ ss, vl v G K C ss = orR v (vl v gs ks cs ss) (vl v gs' ks' cs' ss) := by
  have hin : ∀ p ∈ cs ++ cs', inW v p = true := by
    intro p hp
    rcases List.mem_append.1 hp with h1 | h1
    · exact h.inw _ h1
    · exact h'.inw _ h1
  obtain ⟨e1, e2, e3⟩ := cn_ok hv (fit_orR v gs gs') (fit_andR v ks ks') hin
  refine ⟨_, _, _, ?_, e2, fun ss => ?_⟩
  · unfold joinR
    rw [if_neg (by simp [h.valid, h'.valid]), if_neg (by simp), Int.toNat_natCast]
    exact e1
  · rw [e3]
    exact join_value (by omega) h.kill h'.kill cs cs' ss
/-- Canonical forms. -/
theorem canon_ok {v : Nat} (hv : v ≤ 8) {gs ks : List Nat} {cs : List (Int × Int)} (h : Okf v gs ks cs) :
    ∃ G K C, canR v gs v ks cs = ((v : Int), G, K, C, 0) ∧ Cnf v G K C ∧ ∀ ss, vl v G K C ss = vl v gs ks cs ss := by
  obtain ⟨e1, e2, e3⟩ := cn_ok hv h.gen h.kill h.inw
  refine ⟨_, _, _, ?_, e2, e3⟩
  unfold canR
  rw [if_neg (by simp [h.valid]), Int.toNat_natCast, canon_kill (by omega) h.kill, canon_cops (ks := ks) (by omega) h.gen h.inw]
/-- The canonical form of a canonical function. -/
theorem canon_stay {v : Nat} (hv : v ≤ 8) {gs ks : List Nat} {cs : List (Int × Int)} (h : Cnf v gs ks cs) : canR v gs v ks cs = ((v : Int), gs, ks, cs, 0) := by
  have hk : killTo gs (oneR gs (folB v ks cs) v) v v = ks := by
    have := canon_kill (gs := gs) (cs := cs) (by omega : v ≤ 256) h.ok.kill
    rw [← this]; exact h.kills
  have hc : copsTo gs (oneR gs (folB v ks cs) v) v v = cs := by
    rw [← canon_cops (ks := ks) (by omega) h.ok.gen h.ok.inw]; exact h.cops
  unfold canR
  rw [if_neg (by simp [h.ok.valid]), Int.toNat_natCast, hk, hc]
/-- The identity. -/
theorem ident_ok {v : Nat} (hv : v ≤ 8) : ∃ G K C, idR v = ((v : Int), G, K, C, 0) ∧ Cnf v G K C ∧ ∀ ss, Bs.Fit v ss → vl v G K C ss = ss := by
  obtain ⟨e1, e2, e3⟩ := cn_ok hv (Bs.fit_emp v) (Bs.fit_emp v) (cs := []) (fun p hp => by cases hp)
  refine ⟨_, _, _, ?_, e2, fun ss hs => ?_⟩
  · unfold idR
    rw [if_neg (by omega), Int.toNat_natCast]
    exact e1
  · rw [e3]
    refine Bs.ext (fit_vl _ _ _ _ _) hs fun i hi => ?_
    unfold vl
    apply Bool.eq_iff_iff.2
    rw [bit_valR_iff hi, Bs.bit_emp]
    constructor
    · rintro (h | ⟨x, hx, h1, h2⟩)
      · cases h
      · rcases folB_iff.1 h2 with ⟨h3, _⟩ | h3
        · have : x = i := by omega
          subst this; exact h1
        · cases h3
    · intro h
      exact .inr ⟨i, hi, h, folB_iff.2 (.inl ⟨rfl, by rw [Bs.hasB_nat (Bs.fit_emp v) (by omega), Bs.bit_emp]⟩)⟩
/-- Functions distribute over unions. -/
theorem vl_or {v : Nat} (gs ks : List Nat) (cs : List (Int × Int)) (a b : List Nat) : vl v gs ks cs (orR v a b) = orR v (vl v gs ks cs a) (vl v gs ks cs b) := by
  refine Bs.ext (fit_vl _ _ _ _ _) (fit_orR _ _ _) fun i hi => ?_
  unfold vl
  apply Bool.eq_iff_iff.2
  rw [bit_valR_iff hi, bit_orR_iff hi, bit_valR_iff hi, bit_valR_iff hi]
  constructor
  · rintro (h | ⟨x, hx, h1, h2⟩)
    · exact .inl (.inl h)
    · rcases (bit_orR_iff hx).1 h1 with h3 | h3
      · exact .inl (.inr ⟨x, hx, h3, h2⟩)
      · exact .inr (.inr ⟨x, hx, h3, h2⟩)
  · rintro ((h | ⟨x, hx, h1, h2⟩) | (h | ⟨x, hx, h1, h2⟩))
    · exact .inl h
    · exact .inr ⟨x, hx, (bit_orR_iff hx).2 (.inl h1), h2⟩
    · exact .inl h
    · exact .inr ⟨x, hx, (bit_orR_iff hx).2 (.inr h1), h2⟩
end Go.Proofs.Ytkckkodoeepdpaa

namespace Go.Proofs.Ytkckkodoeepdpaa
set_option maxRecDepth 20000
set_option linter.unusedVariables false
open Go.ChangeShapes Go.WideShapes Go.ChangeAt Go.RowKit

/-- A variable that holds a function. -/
structure Vrec where
  b : Nat
  gs : List Nat
  ks : List Nat
  cs : List (Int × Int)
  A : Option Addr
  n : Nat
  c : Nat
  B : Option Addr
  m : Nat
  d : Nat
  C : Option Addr
  k : Nat
  q : Nat
/-- The variables stand. -/
def Stand (v : Nat) (l : List Vrec) (w : World) : Prop := ∀ r ∈ l, VarT w r.b v r.gs r.ks r.cs r.A r.n r.c r.B r.m r.d r.C r.k r.q
theorem Stand.below {v : Nat} {l : List Vrec} {w w' : World} (h : Stand v l w) (hb : Below w.heap.size w w') : Stand v l w' := fun r hr => (h r hr).below hb
theorem Stand.push {v : Nat} {l : List Vrec} {w w' : World} (h : Stand v l w) (hb : Below w.heap.size w w') {gs ks : List Nat} {cs : List (Int × Int)} {A : Option Addr} {n c : Nat} {B : Option Addr} {m d : Nat} {C : Option Addr} {k q : Nat}
    (hA : Arg w' A n gs) (hB : Arg w' B m ks) (hC : ArgC w' C k cs) : Stand v (⟨w'.heap.size, gs, ks, cs, A, n, c, B, m, d, C, k, q⟩ :: l) (w'.alloc (.cells #[.int .i64 v, .slice A n c, .int .i64 v, .slice B m d, .slice C k q] 29)) := by
  intro r hr
  rcases List.mem_cons.1 hr with rfl | hr
  · exact ⟨Fb.new _ _ _, hA.alloc _, hB.alloc _, hC.alloc _⟩
  · exact (h r hr).below (hb.trans (((Below.refl w'.heap.size w').alloc (Nat.le_refl _) _).mono hb.size))
theorem Stand.nil (v : Nat) (w : World) : Stand v [] w := fun r hr => by cases hr
theorem VarT.arg {w : World} {b : Nat} {W : Int} {gs ks : List Nat} {cs : List (Int × Int)} {A : Option Addr} {n c : Nat} {B : Option Addr} {m d : Nat} {C : Option Addr} {k q : Nat} (h : VarT w b W gs ks cs A n c B m d C k q) : FArg w A n B m C k gs ks cs := ⟨h.gen, h.kill, h.cops⟩
theorem okf_of {v : Nat} {gs ks : List Nat} {cs : List (Int × Int)} {w : World} {A : Option Addr} {n : Nat} {B : Option Addr} {m : Nat} (hv : validT v gs v ks cs = true) (hA : Arg w A n gs) (hB : Arg w B m ks) : Okf v gs ks cs :=
  ⟨hv, fit_of_valid' (validT_iff hv).1 hA, fit_of_valid' (validT_iff hv).2.1 hB, fun p hp => by
    obtain ⟨i, hi, e⟩ := List.getElem_of_mem hp
    have := (validT_iff hv).2.2.2.2 i hi
    unfold okAt at this
    rw [List.getD_eq_getElem?_getD, List.getElem?_eq_getElem hi] at this
    simp only [Bool.and_eq_true, Option.getD_some] at this
    rw [← e]; exact this.1⟩
theorem equalsT_refl (W : Int) (gs : List Nat) (V : Int) (ks : List Nat) (cs : List (Int × Int)) : equalsT W gs V ks cs W gs V ks cs = true := by unfold equalsT sameB; simp
end Go.Proofs.Ytkckkodoeepdpaa

namespace Go.Proofs.Ytkckkodoeepdpaa
set_option maxRecDepth 20000
set_option linter.unusedVariables false

theorem sqN_ok {v : Nat} (hv : v ≤ 8) {G : List Nat} : ∀ (N : Nat) (cs : List (Int × Int)), SqI v G cs → sqN v G N cs ≠ (0, [], [], [], 7) := by
  intro N
  induction N with
  | zero => intro cs _ h; unfold sqN at h; simp at h
  | succ N ih =>
    intro cs hI
    have hn := hI.next
    have hl : (sqC v G cs).length ≤ 56 := few_copies hv hn.asc hn.inw (fun p hp => (hn.out p hp).2.2)
    rw [sqN_succ, if_neg (by omega)]
    split
    · simp
    · exact ih _ hn
/-- The star of a valid function of a small width. -/
theorem star_ok {v : Nat} (hv : v ≤ 8) {gs ks : List Nat} {cs : List (Int × Int)} (h : Okf v gs ks cs) :
    ∃ G C, starR v gs v ks cs = ((v : Int), G, G, C, 0) ∧ Okf v G G C ∧ C.length ≤ 64 ∧ starR v G v G C = ((v : Int), G, G, C, 0) ∧
      (∀ ss i, i < v → Bs.bit ss i = true → Bs.bit (vl v G G C ss) i = true) ∧
      (∀ ss i, i < v → Bs.bit (vl v gs ks cs (vl v G G C ss)) i = true → Bs.bit (vl v G G C ss) i = true) ∧
      (∀ ss ts, (∀ i, i < v → Bs.bit ss i = true → Bs.bit ts i = true) → (∀ i, i < v → Bs.bit (vl v gs ks cs ts) i = true → Bs.bit ts i = true) → ∀ i, i < v → Bs.bit (vl v G G C ss) i = true → Bs.bit ts i = true) := by
  have hI := str_start (ks := ks) h.gen (by omega) h.inw
  have hfew : (strC v gs ks cs).length ≤ 56 := few_copies hv hI.asc hI.inw (fun p hp => (hI.out p hp).2.2)
  have hR : starR v gs v ks cs = sqN v (strG v gs ks cs) 65 (strC v gs ks cs) := by
    unfold starR
    rw [if_neg (by simp [h.valid]), Int.toNat_natCast]
  rcases sqN_spec 65 _ hI (by omega) (by omega) with he | ⟨ds, h1, h2, h3, h4, h5, h6⟩
  · exact absurd he (sqN_ok hv _ _ hI)
  · refine ⟨strG v gs ks cs, ds, by rw [hR, h1], ⟨h2.valid h3, h2.fit, h2.fit, h2.inw⟩, h3, star_again h2 h4 h3, fun ss i hi hs => star_above h2 ss hi hs, fun ss i hi hs => star_closed h.gen h2 h4 h5 ss hi hs,
      fun ss ts hs ht i hi hb => star_least h2 h.inw h6 ss ts hs h.gen ht hi hb⟩
theorem memsTo_nil {ws : List Nat} : ∀ k, (∀ i, i < k → Bs.bit ws i = false) → memsTo ws k = [] := by
  intro k
  induction k with
  | zero => intro _; rfl
  | succ k ih =>
    intro h
    unfold memsTo
    rw [if_neg (by simp [h k (by omega)])]
    exact ih fun i hi => h i (by omega)
theorem subset_of {v : Nat} (hv : v ≤ 256) {a b : List Nat} (ha : Bs.Fit v a) (hb : Bs.Fit v b) (h : ∀ i, i < v → Bs.bit a i = true → Bs.bit b i = true) : subsetB v a v b = true := by
  unfold subsetB
  rw [mixR_ok _ hv ha hb]
  have hn : memsTo (Bs.ofP v (fun i => flag true false false (Bs.bit a i) (Bs.bit b i)) v) v = [] := memsTo_nil v fun i hi => by
    rw [Bs.bit_ofP _ _ _ (Nat.le_refl _)]
    simp only [hi, decide_true, Bool.true_and]
    cases h1 : Bs.bit a i with
    | false => cases Bs.bit b i <;> rfl
    | true => rw [h i hi h1]; rfl
  unfold memsB
  simp only [Int.toNat_natCast, hn]
  split <;> simp
theorem sameB_refl (W : Int) (a : List Nat) : sameB W a W a = true := by unfold sameB; simp
end Go.Proofs.Ytkckkodoeepdpaa

namespace Go.Proofs.Ytkckkodoeepdpaa
set_option maxRecDepth 20000
open Go.ChangeShapes Go.WideShapes Go.ChangeAt Go.RowKit

/-- A set is returned. -/
def RetOne (w : World) (W : Int) (ws : List Nat) (e : Ending) (w' : World) : Prop :=
  ∃ (A : Option Addr) (n c : Nat), e = .returned (.agg #[.int .i64 W, .slice A n c]) ∧ Arg w' A n ws ∧ Below w.heap.size w w'
def Apl (w : World) (W V X : Int) (A B C D : Option Addr) (n c m d k q x y : Nat) (wr : World) : Prop :=
  Fb wr w.heap.size #[.int .i64 W, .slice A n c, .int .i64 V, .slice B m d, .slice C k q] 29 ∧ Box wr (w.heap.size + 1) X D x y ∧ Box wr (w.heap.size + 2) 0 none 0 0 ∧ Below w.heap.size w wr
theorem Apl.start (w : World) (W V X : Int) (A B C D : Option Addr) (n c m d k q x y : Nat) :
    Apl w W V X A B C D n c m d k q x y (((w.alloc (.cells #[.int .i64 W, .slice A n c, .int .i64 V, .slice B m d, .slice C k q] 29)).alloc (.cells #[.int .i64 X, .slice D x y] 24)).alloc (.cells #[.int .i64 0, .slice none 0 0] 24)) := by
  have h1 := Fb.new w #[.int .i64 W, .slice A n c, .int .i64 V, .slice B m d, .slice C k q] 29
  have h2 := Box.new (w.alloc (.cells #[.int .i64 W, .slice A n c, .int .i64 V, .slice B m d, .slice C k q] 29)) X D x y
  have h3 := Box.new ((w.alloc (.cells #[.int .i64 W, .slice A n c, .int .i64 V, .slice B m d, .slice C k q] 29)).alloc (.cells #[.int .i64 X, .slice D x y] 24)) 0 none 0 0
  simp only [World.size_alloc] at h2 h3
  exact ⟨(h1.alloc _).alloc _, h2.alloc _, h3, (((Below.refl _ _).alloc (Nat.le_refl _) _).alloc (by simp) _).alloc (by simp; omega) _⟩
theorem Apl.below {w : World} {W V X : Int} {A B C D : Option Addr} {n c m d k q x y : Nat} {wr w' : World} (h : Apl w W V X A B C D n c m d k q x y wr) (hb : Below wr.heap.size wr w') : Apl w W V X A B C D n c m d k q x y w' :=
  ⟨h.1.below hb h.1.lt, h.2.1.below hb h.2.1.lt, h.2.2.1.below hb h.2.2.1.lt, h.2.2.2.trans (hb.mono h.2.2.2.size)⟩

set_option maxHeartbeats 1600000 in
theorem lawApply_any (W V X : Int) (A B C D : Option Addr) (n c m d k q x y : Nat) (gs ks ss : List Nat) (cs : List (Int × Int)) (w : World)
    (hF : FArg w A n B m C k gs ks cs) (hD : Arg w D x ss) :
    Calls Try.prog 33 #[.agg #[.int .i64 W, .slice A n c, .int .i64 V, .slice B m d, .slice C k q], .agg #[.int .i64 X, .slice D x y]] w
      (RetOne w (applyR W gs V ks cs X ss).1 (applyR W gs V ks cs X ss).2.1) := by
  have HF := hid hF; have HD := hid hD
  have H0 := hid (Apl.start w W V X A B C D n c m d k q x y)
  clear hF hD
  go_enter Try.func33, Try.ntmps33
  go_wp2_with fail
  generalize ((w.alloc (.cells #[.int .i64 W, .slice A n c, .int .i64 V, .slice B m d, .slice C k q] 29)).alloc (.cells #[.int .i64 X, .slice D x y] 24)).alloc (.cells #[.int .i64 0, .slice none 0 0] 24) = w1 at *
  refine (devApply_any W V X A B C D n c m d k q x y gs ks ss cs _ (HF.out.gen.below H0.out.2.2.2) (HF.out.kill.below H0.out.2.2.2) (HF.out.cops.below H0.out.2.2.2) (HD.out.below H0.out.2.2.2)).mono ?_
  obtain ⟨r, hr⟩ : ∃ r, applyR W gs V ks cs X ss = r := ⟨_, rfl⟩
  obtain ⟨W9, ws9, er9⟩ := r
  rw [hr]
  have Hr := hid hr
  rintro e w2 ⟨A2, n2, c2, rfl, ha2, hb2⟩
  have hb2' := hb2.alloc hb2.size (.cells #[.int .i64 W9, .slice A2 n2 c2] 24)
  have H2 := hid (H0.out.below hb2')
  have HA2 := hid (show Arg _ A2 n2 ws9 from ha2.alloc (.cells #[.int .i64 W9, .slice A2 n2 c2] 24))
  have HB2 := hid (Box.new w2 W9 A2 n2 c2)
  clear ha2 hb2 hb2' H0 hr
  obtain ⟨p0, p1⟩ := And.intro HB2.out.c0 HB2.out.c1
  obtain ⟨r0, r1⟩ := And.intro H2.out.2.2.1.c0 H2.out.2.2.1.c1
  have hlb := HB2.out.lt
  have f0 := H2.out.2.2.1.f 0
  have f1 := H2.out.2.2.1.f 1
  have hlR := H2.out.2.2.1.lt
  have Fin := hid (And.intro (H2.out.2.2.1.store HA2.out (.int .i64 W9) (.slice A2 n2 c2)) ((H2.out.2.2.2.setCell (p := ⟨w.heap.size + 2, 0, none⟩) (by simp) (.int .i64 W9)).setCell (p := ⟨w.heap.size + 2, 1, none⟩) (by simp) (.slice A2 n2 c2)))
  go_wp2_with fail
  refine bodyPost_ret (v := .agg #[.int .i64 W9, .slice A2 n2 c2]) (by simp [results, Try.results33, go_sem, r0, r1]) rfl ?_
  rw [Hr.out]
  exact ⟨A2, n2, c2, rfl, Fin.out.1, Fin.out.2⟩
end Go.Proofs.Ytkckkodoeepdpaa

namespace Go.Proofs.Ytkckkodoeepdpaa
set_option maxRecDepth 20000
open Go.ChangeShapes Go.WideShapes Go.ChangeAt Go.RowKit

set_option maxHeartbeats 1600000 in
theorem devFollowsT_any (W V : Int) (A B C : Option Addr) (n c m d k q : Nat) (gs ks : List Nat) (cs : List (Int × Int)) (a b : Int) (w : World) (hA : Arg w A n gs) (hB : Arg w B m ks) (hC : ArgC w C k cs) :
    Calls Try.prog 44 #[.agg #[.int .i64 W, .slice A n c, .int .i64 V, .slice B m d, .slice C k q], .int .i64 a, .int .i64 b] w fun e w' => e = .returned (.bool (followsB W gs V ks cs a b)) ∧ Below w.heap.size w w' := by
  have HA := hid hA; have HB := hid hB; have HC := hid hC
  have HT := hid (Fb.new w #[.int .i64 W, .slice A n c, .int .i64 V, .slice B m d, .slice C k q] 29)
  have H1 := hid ((Below.refl w.heap.size w).alloc (Nat.le_refl _) (.cells #[.int .i64 W, .slice A n c, .int .i64 V, .slice B m d, .slice C k q] 29))
  clear hA hB hC
  cases hv : validT W gs V ks cs with
  | false =>
    have Hr := hid (show followsB W gs V ks cs a b = false by unfold followsB; rw [hv]; rfl)
    go_enter Try.func44, Try.ntmps44
    go_wp2_with fail
    refine (devValidT_any W V A B C n c m d k q gs ks cs _ (HA.out.below H1.out) (HB.out.below H1.out) (HC.out.below H1.out)).mono ?_
    rw [hv]
    rintro e w1 ⟨rfl, hb1⟩
    have Hb1 := hid (H1.out.trans (hb1.mono (by simp)))
    clear hb1 hv
    go_wp2
    go_ret
    exact ⟨ret_bool Hr.out.symm, Hb1.out⟩
  | true =>
    obtain ⟨h1, h2, h3, h4, h5⟩ := validT_iff hv
    have hk64 : k ≤ 64 := by rw [HC.out.len] at h4; exact h4
    have Hr := hid (show followsB W gs V ks cs a b = (decide (0 ≤ a) && decide (a < W) && decide (0 ≤ b) && decide (b < W) && folB V ks cs a b) by unfold followsB; rw [hv]; rfl)
    clear h1 h2 h3 h4 h5
    go_enter Try.func44, Try.ntmps44
    go_wp2_with fail
    refine (devValidT_any W V A B C n c m d k q gs ks cs _ (HA.out.below H1.out) (HB.out.below H1.out) (HC.out.below H1.out)).mono ?_
    rw [hv]
    rintro e w1 ⟨rfl, hb1⟩
    have HF := hid (HT.out.below hb1 (by simp))
    have Hb1 := hid (H1.out.trans (hb1.mono (by simp)))
    clear hb1 hv
    obtain ⟨t0, t1, t2, t3, t4⟩ := HF.out.five
    go_wp2_with fail
    refine (tin_any W V A B C n c m d k q a _).mono ?_
    cases hi : inB W a with
    | false =>
      have E := hid (show followsB W gs V ks cs a b = false by
        rw [Hr.out]; unfold inB at hi; rw [hi]; rfl)
      rintro e w2 ⟨rfl, hb2⟩
      have Hb2 := hid (Hb1.out.trans (hb2.mono Hb1.out.size))
      clear hb2 hi t0 t1 t2 t3 t4
      go_wp2
      go_ret
      exact ⟨ret_bool E.out.symm, Hb2.out⟩
    | true =>
      rintro e w2 ⟨rfl, hb2⟩
      have HF2 := hid (HF.out.below hb2 HF.out.lt)
      have Hb2 := hid (Hb1.out.trans (hb2.mono Hb1.out.size))
      clear hb2 t0 t1 t2 t3 t4
      obtain ⟨t0, t1, t2, t3, t4⟩ := HF2.out.five
      go_wp2_with fail
      refine (tin_any W V A B C n c m d k q b _).mono ?_
      cases hj : inB W b with
      | false =>
        have E := hid (show followsB W gs V ks cs a b = false by
          rw [Hr.out]; unfold inB at hj; rw [Bool.and_assoc (decide (0 ≤ a) && decide (a < W)), hj]; simp)
        rintro e w3 ⟨rfl, hb3⟩
        have Hb3 := hid (Hb2.out.trans (hb3.mono Hb2.out.size))
        clear hb3 hi hj t0 t1 t2 t3 t4
        go_wp2
        go_ret
        exact ⟨ret_bool E.out.symm, Hb3.out⟩
      | true =>
        have Hr2 := hid (show followsB W gs V ks cs a b = folB V ks cs a b by
          rw [Hr.out]; unfold inB at hi hj; rw [Bool.and_assoc (decide (0 ≤ a) && decide (a < W)), hi, hj]; rfl)
        rintro e w3 ⟨rfl, hb3⟩
        have HF3 := hid (HF2.out.below hb3 HF2.out.lt)
        have Hb3 := hid (Hb2.out.trans (hb3.mono Hb2.out.size))
        clear hb3 hi hj t0 t1 t2 t3 t4
        obtain ⟨t0, t1, t2, t3, t4⟩ := HF3.out.five
        by_cases hab : a = b
        · subst hab
          have tt : (a == a) = true := by simp
          go_wp2_with fail
          refine (devHas_any V B m d ks a _ (HB.out.below Hb3.out)).mono ?_
          generalize hh : Bs.hasB V ks a = r
          rintro e w4 ⟨rfl, hb4⟩
          have HF4 := hid (HF3.out.below hb4 HF3.out.lt)
          have Hb4 := hid (Hb3.out.trans (hb4.mono Hb3.out.size))
          clear hb4 t0 t1 t2 t3 t4
          cases r with
          | false =>
            have Hres := hid (show folB V ks cs a a = true by unfold folB; simp [hh])
            clear hh tt
            go_wp2
            go_ret
            exact ⟨ret_bool (by rw [Hr2.out, Hres.out]), Hb4.out⟩
          | true =>
            have Hres := hid (show folB V ks cs a a = decide ((a, a) ∈ cs) by unfold folB; simp [hh])
            clear hh
            obtain ⟨t0, t1, t2, t3, t4⟩ := HF4.out.five
            go_wp2_with fail
            clear t0 t1 t2 t3 t4 tt
            go_loopw [8, 37] (fun _ i wr => ∃ j : Nat, j ≤ k ∧ i = .int .i64 j ∧ Hid (∀ x, x < j → cs[x]? ≠ some (a, a)) ∧ Hid (Below w.heap.size w wr)) (fun _ i _ => k - (intOf i).toNat)
            case atStart => exact ⟨0, by omega, rfl, fun x h => by omega, Hb4.out⟩
            case round =>
              obtain ⟨j, hj, rfl, hb, hI⟩ := hrel
              by_cases hlt : j < k
              · have hget : cs[j]? = some (cs[j]'(by rw [HC.out.len]; exact hlt)) := List.getElem?_eq_getElem _
                generalize (cs[j]'(by rw [HC.out.len]; exact hlt)) = p at hget
                obtain ⟨p1, p2⟩ := p
                obtain ⟨ad, rfl, had, g1, g2⟩ := (HC.out.below hI.out).cell hget
                have Hget := hid hget
                clear hget
                have one : ∀ x, x < j + 1 → ¬(p1 = a ∧ p2 = a) → cs[x]? ≠ some (a, a) := by
                  intro x hx hne he
                  by_cases e : x = j
                  · rw [e, Hget.out] at he; simp only [Option.some.injEq, Prod.mk.injEq] at he; exact hne he
                  · exact hb.out x (by omega) he
                have One := hid one
                clear one
                have Hb5 := fun (x y : Int) => hid (hI.out.alloc hI.out.size (.cells #[.int .i64 x, .int .i64 y] 35))
                by_cases e1 : p1 = a
                · have u1 : (p1 == a) = true := by simp [e1]
                  by_cases e2 : p2 = a
                  · have u2 : (p2 == a) = true := by simp [e2]
                    have E := hid (show (a, a) ∈ cs by have q := List.mem_of_getElem? Hget.out; rw [e1, e2] at q; exact q)
                    clear e1 e2
                    go_wp2
                    go_ret
                    exact ⟨ret_bool (by rw [Hr2.out, Hres.out]; simp [E.out]), (Hb5 _ _).out⟩
                  · have u2 : (p2 == a) = false := by simp [e2]
                    have E := hid (show ¬(p1 = a ∧ p2 = a) by simp [e2])
                    clear e1 e2
                    go_wp2
                    go_roundw
                    case rel => exact ⟨j + 1, by omega, by go_num, fun x hx => One.out x hx E.out, (Hb5 _ _).out⟩
                    case measure => simp [intOf]; omega
                · have u1 : (p1 == a) = false := by simp [e1]
                  have E := hid (show ¬(p1 = a ∧ p2 = a) by simp [e1])
                  clear e1
                  go_wp2
                  go_roundw
                  case rel => exact ⟨j + 1, by omega, by go_num, fun x hx => One.out x hx E.out, (Hb5 _ _).out⟩
                  case measure => simp [intOf]; omega
              · have HI := hid hI.out
                go_wp2
                go_ret
                refine ⟨ret_bool ?_, HI.out⟩
                have : (a, a) ∉ cs := by
                  intro h
                  obtain ⟨x, hx, e⟩ := List.getElem_of_mem h
                  have := HC.out.len
                  exact hb.out x (by omega) (by rw [List.getElem?_eq_getElem hx, e])
                rw [Hr2.out, Hres.out]; simp [this]
        · have tt : (a == b) = false := by simp [hab]
          have Hres := hid (show folB V ks cs a b = decide ((a, b) ∈ cs) by unfold folB; simp [hab])
          clear hab
          go_wp2_with fail
          clear t0 t1 t2 t3 t4 tt
          go_loopw [8, 37] (fun _ i wr => ∃ j : Nat, j ≤ k ∧ i = .int .i64 j ∧ Hid (∀ x, x < j → cs[x]? ≠ some (a, b)) ∧ Hid (Below w.heap.size w wr)) (fun _ i _ => k - (intOf i).toNat)
          case atStart => exact ⟨0, by omega, rfl, fun x h => by omega, Hb3.out⟩
          case round =>
            obtain ⟨j, hj, rfl, hb, hI⟩ := hrel
            by_cases hlt : j < k
            · have hget : cs[j]? = some (cs[j]'(by rw [HC.out.len]; exact hlt)) := List.getElem?_eq_getElem _
              generalize (cs[j]'(by rw [HC.out.len]; exact hlt)) = p at hget
              obtain ⟨p1, p2⟩ := p
              obtain ⟨ad, rfl, had, g1, g2⟩ := (HC.out.below hI.out).cell hget
              have Hget := hid hget
              clear hget
              have one : ∀ x, x < j + 1 → ¬(p1 = a ∧ p2 = b) → cs[x]? ≠ some (a, b) := by
                intro x hx hne he
                by_cases e : x = j
                · rw [e, Hget.out] at he; simp only [Option.some.injEq, Prod.mk.injEq] at he; exact hne he
                · exact hb.out x (by omega) he
              have One := hid one
              clear one
              have Hb5 := fun (x y : Int) => hid (hI.out.alloc hI.out.size (.cells #[.int .i64 x, .int .i64 y] 35))
              by_cases e1 : p1 = a
              · have u1 : (p1 == a) = true := by simp [e1]
                by_cases e2 : p2 = b
                · have u2 : (p2 == b) = true := by simp [e2]
                  have E := hid (show (a, b) ∈ cs by have q := List.mem_of_getElem? Hget.out; rw [e1, e2] at q; exact q)
                  clear e1 e2
                  go_wp2
                  go_ret
                  exact ⟨ret_bool (by rw [Hr2.out, Hres.out]; simp [E.out]), (Hb5 _ _).out⟩
                · have u2 : (p2 == b) = false := by simp [e2]
                  have E := hid (show ¬(p1 = a ∧ p2 = b) by simp [e2])
                  clear e1 e2
                  go_wp2
                  go_roundw
                  case rel => exact ⟨j + 1, by omega, by go_num, fun x hx => One.out x hx E.out, (Hb5 _ _).out⟩
                  case measure => simp [intOf]; omega
              · have u1 : (p1 == a) = false := by simp [e1]
                have E := hid (show ¬(p1 = a ∧ p2 = b) by simp [e1])
                clear e1
                go_wp2
                go_roundw
                case rel => exact ⟨j + 1, by omega, by go_num, fun x hx => One.out x hx E.out, (Hb5 _ _).out⟩
                case measure => simp [intOf]; omega
            · have HI := hid hI.out
              go_wp2
              go_ret
              refine ⟨ret_bool ?_, HI.out⟩
              have : (a, b) ∉ cs := by
                intro h
                obtain ⟨x, hx, e⟩ := List.getElem_of_mem h
                have := HC.out.len
                exact hb.out x (by omega) (by rw [List.getElem?_eq_getElem hx, e])
              rw [Hr2.out, Hres.out]; simp [this]
end Go.Proofs.Ytkckkodoeepdpaa

namespace Go.Proofs.Ytkckkodoeepdpaa
set_option maxRecDepth 20000
open Go.ChangeShapes Go.WideShapes Go.ChangeAt Go.RowKit

/-- A bit is in the value of a function exactly if it is generated or follows from a member. -/
theorem value_has {W : Nat} (hW : W ≤ 256) {gs ks ss : List Nat} {cs : List (Int × Int)} (hv : validT W gs W ks cs = true) (hg : Bs.Fit W gs) (hs : Bs.Fit W ss) {b : Nat} (hb : b < W) :
    Bs.hasB W (valR gs ss (folB W ks cs) W) b = (Bs.hasB W gs b || (List.range W).any (fun x => Bs.hasB W ss x && followsB W gs W ks cs x b)) := by
  rw [Bs.hasB_nat (fit_valR _ _ _ _) hW, Bs.hasB_nat hg hW]
  unfold valR
  rw [Bs.bit_ofP _ _ _ (Nat.le_refl _)]
  simp only [hb, decide_true, Bool.true_and]
  congr 1
  apply Bool.eq_iff_iff.2
  simp only [List.any_eq_true, List.mem_range]
  constructor
  · rintro ⟨x, hx, h⟩
    refine ⟨x, hx, ?_⟩
    rw [Bs.hasB_nat hs hW]
    unfold followsB
    rw [hv]
    simp only [Bool.and_eq_true] at h ⊢
    refine ⟨h.1, ⟨trivial, ?_⟩, h.2⟩
    simp; omega
  · rintro ⟨x, hx, h⟩
    refine ⟨x, hx, ?_⟩
    rw [Bs.hasB_nat hs hW] at h
    unfold followsB at h
    simp only [Bool.and_eq_true] at h ⊢
    exact ⟨h.1, h.2.2⟩
theorem apply_ok {W : Nat} {gs ks ss : List Nat} {cs : List (Int × Int)} (hW : W ≤ 256) (hv : validT W gs W ks cs = true) (hs : Bs.Fit W ss) : applyR W gs W ks cs W ss = ((W : Int), valR gs ss (folB W ks cs) W, 0) := by
  unfold applyR
  rw [if_neg (by simp [hv, Bs.valid_of_fit hs hW]), if_neg (by simp), Int.toNat_natCast]
theorem fit_of_arg {W : Nat} {w : World} {A : Option Addr} {n : Nat} {ws : List Nat} (h : Bs.validB W ws = true) (ha : Arg w A n ws) : Bs.Fit W ws := by
  have := Bs.fit_of_valid h ha.ok; rwa [Int.toNat_natCast] at this

set_option maxHeartbeats 3200000 in
theorem lawFollows (At : Option Addr) (nt ct : Nat) (zs : List Int) (w : World) (ht : IArg w At nt zs) (hnt : nt ≤ maxLen) :
    Calls Try.prog 12 #[.slice At nt ct] w fun e w' => e = .returned (.bool true) ∧ Below w.heap.size w w' := by
  have Hinv := hid (show Going w w.heap.size (w.alloc (.cells #[.slice At nt ct, .int .i64 0] 70)) from ⟨tape_new ht hnt, (Below.refl _ _).alloc (Nat.le_refl _) _, Nat.le_refl _⟩)
  clear ht
  go_enter Try.func12, Try.ntmps12
  go_wp2_with (go_at_call 19; refine (new_any At nt ct _).mono ?_; rintro e w1 ⟨rfl, rfl⟩)
  generalize hT : w.heap.size = T at *
  have HT := hid hT
  clear hT
  refine (width_any T _ Hinv.out.1).mono ?_
  rintro e w2 ⟨W, rfl, hW, ht2, hg2⟩
  have H2 := hid (Hinv.out.step ht2 hg2)
  clear ht2 hg2 Hinv
  go_wp2_with fail
  refine (transfer_any T W _ H2.out.1 (by omega)).mono ?_
  rintro e w3 ⟨A, n, c, B, m, d, C, k, q, gs, ks, cs, rfl, hA, hB, hC, hv, h12, ht3, hg3⟩
  have H3 := hid (H2.out.step ht3 hg3)
  have HA := hid hA; have HB := hid hB; have HC := hid hC; have Hv := hid hv
  clear hA hB hC hv h12 ht3 hg3 H2
  go_wp2_with fail
  refine (set_any T W _ H3.out.1 (by omega)).mono ?_
  rintro e w4 ⟨ad, ns, cc, ss, rfl, hfs, hS, ht4, hg4⟩
  have H4 := hid (H3.out.step ht4 hg4)
  have HA4 := hid (HA.out.tape H3.out.1 hg4)
  have HB4 := hid (HB.out.tape H3.out.1 hg4)
  have HC4 := hid (HC.out.tape H3.out.1 hg4)
  have HS := hid hS; have Hfs := hid hfs
  clear hS hfs ht4 hg4 H3 HA HB HC
  have Hb5 := hid ((H4.out.2.1.alloc H4.out.2.1.size (.cells #[.int .i64 W, .slice A n c, .int .i64 W, .slice B m d, .slice C k q] 29)).alloc (by have := H4.out.2.1.size; simp; omega) (.cells #[.int .i64 W, .slice (some ad) ns cc] 24))
  have Hf5 := hid (show VarT _ w4.heap.size W gs ks cs A n c B m d C k q from ⟨(Fb.new w4 #[.int .i64 W, .slice A n c, .int .i64 W, .slice B m d, .slice C k q] 29).alloc (.cells #[.int .i64 W, .slice (some ad) ns cc] 24), (HA4.out.alloc _).alloc _, (HB4.out.alloc _).alloc _, (HC4.out.alloc _).alloc _⟩)
  have Hs5 := hid (show Box _ (w4.heap.size + 1) W (some ad) ns cc from by
    have := Box.new (w4.alloc (.cells #[.int .i64 W, .slice A n c, .int .i64 W, .slice B m d, .slice C k q] 29)) W (some ad) ns cc
    rw [World.size_alloc] at this; exact this)
  have Ha5 := hid ((HS.out.alloc (.cells #[.int .i64 W, .slice A n c, .int .i64 W, .slice B m d, .slice C k q] 29)).alloc (.cells #[.int .i64 W, .slice (some ad) ns cc] 24))
  obtain ⟨t0, t1, t2, t3, t4⟩ := Hf5.out.box.five
  obtain ⟨s0, s1⟩ := And.intro Hs5.out.c0 Hs5.out.c1
  go_wp2_with fail
  generalize (w4.alloc (.cells #[.int .i64 W, .slice A n c, .int .i64 W, .slice B m d, .slice C k q] 29)).alloc (.cells #[.int .i64 W, .slice (some ad) ns cc] 24) = w5 at *
  generalize w4.heap.size = b1 at *
  have Hfg := hid (fit_of_arg (validT_iff Hv.out).1 HA4.out)
  clear HA4 HB4 HC4 HS H4
  refine (devApply_any W W W A B C (some ad) n c m d k q ns cc gs ks ss cs _ Hf5.out.gen Hf5.out.kill Hf5.out.cops Ha5.out).mono ?_
  rw [apply_ok (by omega) Hv.out Hfs.out]
  rintro e w6 ⟨A6, n6, c6, rfl, ha6, hb6⟩
  have hb7 := hb6.alloc hb6.size (.cells #[.int .i64 W, .slice A6 n6 c6] 24)
  have Hf7 := hid (Hf5.out.below hb7)
  have Hs7 := hid (Hs5.out.below hb7 Hs5.out.lt)
  have Ha7 := hid (Ha5.out.below hb7)
  have Hx7 := hid (Box.new w6 W A6 n6 c6)
  have Hax7 := hid (ha6.alloc (.cells #[.int .i64 W, .slice A6 n6 c6] 24))
  have Hb7 := hid (Hb5.out.trans (hb7.mono Hb5.out.size))
  clear ha6 hb6 hb7 Hf5 Hs5 Ha5 Hb5 t0 t1 t2 t3 t4 s0 s1
  go_wp2_with fail
  generalize w6.alloc (.cells #[.int .i64 W, .slice A6 n6 c6] 24) = w7 at *
  generalize w6.heap.size = b2 at *
  go_loopw [9, 10, 11] (fun i _ _ wr => ∃ b : Nat, b ≤ W ∧ i = .int .i64 b ∧ Hid (Below w7.heap.size w7 wr)) (fun i _ _ _ => W - (intOf i).toNat)
  case atStart => exact ⟨0, by omega, rfl, Below.refl _ _⟩
  case round =>
    obtain ⟨b, hb, rfl, hI⟩ := hrel
    by_cases hlt : b < W
    · obtain ⟨t0, t1, t2, t3, t4⟩ := (Hf7.out.box.below hI.out Hf7.out.box.lt).five
      go_wp2_with fail
      refine (devHas_any W A n c gs b _ (Hf7.out.gen.below hI.out)).mono ?_
      rintro e w8 ⟨rfl, hb8⟩
      have H8 := hid (below_step hI.out hb8)
      clear hb8 t0 t1 t2 t3 t4 hI
      have Hfin := hid (value_has (by omega) Hv.out Hfg.out Hfs.out hlt)
      generalize hin0 : Bs.hasB W gs b = in0 at Hfin
      have Hin0 := hid hin0
      clear hin0
      go_wp2_with fail
      go_loopw [10, 11] (fun u i wr => ∃ a : Nat, a ≤ W ∧ i = .int .i64 a ∧ u = .bool (in0 || (List.range a).any (fun x => Bs.hasB W ss x && followsB W gs W ks cs x b)) ∧ Hid (Below w7.heap.size w7 wr)) (fun _ i _ => W - (intOf i).toNat)
      case atStart => exact ⟨0, by omega, rfl, by simp, H8.out⟩
      case round =>
        obtain ⟨a, ha, rfl, rfl, hI⟩ := hrel
        clear H8
        by_cases hla : a < W
        · have hnext : (in0 || (List.range (a + 1)).any (fun x => Bs.hasB W ss x && followsB W gs W ks cs x b)) = ((in0 || (List.range a).any (fun x => Bs.hasB W ss x && followsB W gs W ks cs x b)) || (Bs.hasB W ss a && followsB W gs W ks cs a b)) := by
            rw [any_succ, Bool.or_assoc]
          generalize (in0 || (List.range a).any (fun x => Bs.hasB W ss x && followsB W gs W ks cs x b)) = cur at hnext
          have Hn := hid hnext
          clear hnext
          cases cur with
          | true =>
            go_wp2_with fail
            go_roundw
            case rel => exact ⟨a + 1, by omega, by go_num, by rw [Hn.out]; rfl, hI⟩
            case measure => simp [intOf]; omega
          | false =>
            obtain ⟨s0, s1⟩ := And.intro (Hs7.out.below hI.out Hs7.out.lt).c0 (Hs7.out.below hI.out Hs7.out.lt).c1
            go_wp2_with fail
            refine (devHas_any W (some ad) ns cc ss a _ (Ha7.out.below hI.out)).mono ?_
            cases hh : Bs.hasB W ss a with
            | false =>
              rintro e w9 ⟨rfl, hb9⟩
              have H9 := hid (below_step hI.out hb9)
              have Hn2 := hid (show (in0 || (List.range (a + 1)).any (fun x => Bs.hasB W ss x && followsB W gs W ks cs x b)) = false from Hn.out.trans (by rw [hh]; rfl))
              clear hb9 hh s0 s1
              go_wp2_with fail
              go_roundw
              case rel => exact ⟨a + 1, by omega, by go_num, by rw [Hn2.out], H9.out⟩
              case measure => simp [intOf]; omega
            | true =>
              rintro e w9 ⟨rfl, hb9⟩
              have H9 := hid (below_step hI.out hb9)
              have Hn2 := hid (show (in0 || (List.range (a + 1)).any (fun x => Bs.hasB W ss x && followsB W gs W ks cs x b)) = followsB W gs W ks cs a b from Hn.out.trans (by rw [hh]; rfl))
              clear hb9 hh s0 s1
              obtain ⟨t0, t1, t2, t3, t4⟩ := (Hf7.out.box.below H9.out Hf7.out.box.lt).five
              have hf := Hf7.out.below H9.out
              have Hf := hid hf
              clear hf
              go_wp2_with fail
              refine (devFollowsT_any W W A B C n c m d k q gs ks cs a b _ Hf.out.gen Hf.out.kill Hf.out.cops).mono ?_
              rintro e w10 ⟨rfl, hb10⟩
              have H10 := hid (below_step H9.out hb10)
              clear hb10 t0 t1 t2 t3 t4
              generalize followsB W gs W ks cs a b = r at *
              go_wp2_with fail
              go_roundw
              case rel => exact ⟨a + 1, by omega, by go_num, by rw [Hn2.out], H10.out⟩
              case measure => simp [intOf]; omega
        · have haW : W = a := by omega
          subst haW
          rw [← Hfin.out]
          generalize hr : Bs.hasB W (valR gs ss (folB W ks cs) W) b = r
          have Hr := hid hr
          clear hr ha
          obtain ⟨x0, x1⟩ := And.intro (Hx7.out.below hI.out Hx7.out.lt).c0 (Hx7.out.below hI.out Hx7.out.lt).c1
          go_wp2_with fail
          refine (devHas_any W A6 n6 c6 (valR gs ss (folB W ks cs) W) b _ (Hax7.out.below hI.out)).mono ?_
          rw [Hr.out]
          rintro e w8 ⟨rfl, hb8⟩
          have H8 := hid (below_step hI.out hb8)
          have t : (r != r) = false := by simp
          clear hb8 x0 x1
          go_wp2_with fail
          go_roundw
          case rel => exact ⟨b + 1, by omega, by go_num, H8⟩
          case measure => simp [intOf]; omega
    · have hbW : W = b := by omega
      subst hbW
      go_wp2_with fail
      refine (sane_any _).mono ?_
      rintro e w8 ⟨rfl, hb8⟩
      have H8 := hid (Hb7.out.trans ((below_step hI.out hb8).mono Hb7.out.size))
      clear hb8
      go_wp2
      go_ret
      exact ⟨rfl, H8.out⟩
end Go.Proofs.Ytkckkodoeepdpaa

namespace Go.Proofs.Ytkckkodoeepdpaa
set_option maxRecDepth 20000
set_option linter.unusedVariables false
open Go.ChangeShapes Go.WideShapes Go.ChangeAt Go.RowKit

/-- A variable that holds a set. -/
def Sv (w : World) (b : Nat) (W : Int) (ws : List Nat) (A : Option Addr) (n c : Nat) : Prop := Box w b W A n c ∧ Arg w A n ws
theorem Sv.below {w w' : World} {b : Nat} {W : Int} {ws : List Nat} {A : Option Addr} {n c : Nat} (h : Sv w b W ws A n c) (hb : Below w.heap.size w w') : Sv w' b W ws A n c := ⟨h.1.below hb h.1.lt, h.2.below hb⟩
theorem Sv.two {w : World} {b : Nat} {W : Int} {ws : List Nat} {A : Option Addr} {n c : Nat} (h : Sv w b W ws A n c) : w.cell? ⟨b, 0, none⟩ = some (.int .i64 W) ∧ w.cell? ⟨b, 1, none⟩ = some (.slice A n c) := ⟨h.1.c0, h.1.c1⟩
theorem Sv.new {w : World} {W : Int} {ws : List Nat} {A : Option Addr} {n : Nat} (c : Nat) (h : Arg w A n ws) : Sv (w.alloc (.cells #[.int .i64 W, .slice A n c] 24)) w.heap.size W ws A n c := ⟨Box.new _ _ _ _ _, h.alloc _⟩
theorem Sv.put {w : World} {b : Nat} {W V : Int} {ws : List Nat} {A A' : Option Addr} {n n' c' : Nat} (hx : Box w b V A' n' c') (h : Arg w A n ws) (c : Nat) : Sv ((w.setCell ⟨b, 0, none⟩ (.int .i64 W)).setCell ⟨b, 1, none⟩ (.slice A n c)) b W ws A n c :=
  ⟨hx.set _ _ _ _, h.store hx _ _ _ _⟩
theorem small_of {v : Nat} (hv : v ≤ 8) {w : World} {A : Option Addr} {n : Nat} {ws : List Nat} (h : Arg w A n ws) (hf : Bs.Fit v ws) : n ≤ maxLen := by
  have h1 := h.len; have h2 := hf.len
  unfold Bs.nw at h2; unfold maxLen; omega
theorem ap_any {v : Nat} (hv : v ≤ 8) {gs ks ss : List Nat} {cs : List (Int × Int)} {A B C D : Option Addr} {n c m d k q x y : Nat} {w : World} (hO : Okf v gs ks cs) (hs : Bs.Fit v ss) (hF : FArg w A n B m C k gs ks cs) (hD : Arg w D x ss) :
    Calls Try.prog 33 #[.agg #[.int .i64 v, .slice A n c, .int .i64 v, .slice B m d, .slice C k q], .agg #[.int .i64 v, .slice D x y]] w (RetOne w v (vl v gs ks cs ss)) := by
  have h := lawApply_any v v v A B C D n c m d k q x y gs ks ss cs w hF hD
  rw [apply_ok (by omega) hO.valid hs] at h
  exact h
theorem un_any {v : Nat} (hv : v ≤ 8) {a b : List Nat} {A B : Option Addr} {n c m d : Nat} {w : World} (ha : Bs.Fit v a) (hb : Bs.Fit v b) (hA : Arg w A n a) (hB : Arg w B m b) :
    Calls Try.prog 34 #[.agg #[.int .i64 v, .slice A n c], .agg #[.int .i64 v, .slice B m d]] w (RetErr w ((v : Int), orR v a b, 0)) := by
  have h := devUnion_any v v A B n c m d a b w hA hB
  rw [mixR_or (by omega) ha hb] at h
  exact h
end Go.Proofs.Ytkckkodoeepdpaa

namespace Go.Proofs.Ytkckkodoeepdpaa
set_option maxRecDepth 20000
set_option linter.unusedVariables false

theorem ord_eq {xs ys : List (Int × Int)} (ha : Asc ys) (h1 : ∀ x ∈ xs, x ∈ ys) (h2 : ∀ y ∈ ys, y ∈ xs) : ord xs = ys :=
  asc_unique (ord_spec _).2 ha fun x => by rw [(ord_spec xs).1]; exact ⟨h1 x, h2 x⟩
theorem ord_nil : ord [] = [] := ord_eq (by unfold Asc; exact List.Pairwise.nil) (fun x h => by cases h) (fun x h => by cases h)
theorem ex2 : composeR 3 [0] 3 [1] [] 3 [1] 3 [0] [] = (3, [1], [1], [], 0) := by
  have h1 : validT 3 [0] 3 [1] [] = true := by decide +kernel
  have h2 : validT 3 [1] 3 [0] [] = true := by decide +kernel
  have h3 : chnL 3 [1] 3 [0] [] [] = [] := by decide +kernel
  have h4 : valR [1] [0] (folB 3 [0] []) 3 = [1] := by decide +kernel
  have h5 : orR 3 [1] [0] = [1] := by decide +kernel
  have h6 : killC 3 [1] [1] [] = [1] := by decide +kernel
  unfold composeR
  rw [if_neg (by simp [h1, h2]), if_neg (by simp)]
  show cnR 3 (valR [1] [0] (folB 3 [0] []) 3) (orR 3 [1] [0]) (chnL 3 [1] 3 [0] [] []) = _
  rw [h3, h4, h5]
  unfold cnR
  rw [List.filter_nil, ord_nil, h6]
  rfl
def exC : List (Int × Int) := [(0, 1), (1, 2)]
def exD : List (Int × Int) := [(0, 1), (0, 2), (1, 2)]
theorem ex3 : starR 3 [0] 3 [0] exC = (3, [0], [0], exD, 0) := by
  have h1 : validT 3 [0] 3 [0] exC = true := by decide +kernel
  have hG : strG 3 [0] [0] exC = [0] := by decide +kernel
  have hC : strC 3 [0] [0] exC = exC := by
    unfold strC
    rw [hG]
    exact ord_eq (by unfold Asc; decide +kernel) (by decide +kernel) (by decide +kernel)
  have s1 : sqC 3 [0] exC = exD := ord_eq (by unfold Asc; decide +kernel) (by decide +kernel) (by decide +kernel)
  have s2 : sqC 3 [0] exD = exD := ord_eq (by unfold Asc; decide +kernel) (by decide +kernel) (by decide +kernel)
  unfold starR
  rw [if_neg (by simp [h1])]
  show sqN 3 (strG 3 [0] [0] exC) 65 (strC 3 [0] [0] exC) = _
  rw [hG, hC, sqN_succ, s1, if_neg (by decide), if_neg (by decide), sqN_succ, s2, if_neg (by decide), if_pos rfl]
  rfl
end Go.Proofs.Ytkckkodoeepdpaa

namespace Go.Proofs.Ytkckkodoeepdpaa
set_option maxRecDepth 20000
open Go.ChangeShapes Go.WideShapes Go.ChangeAt Go.RowKit

set_option maxHeartbeats 3200000 in
theorem devStar_any (W V : Int) (A B C : Option Addr) (n c m d k q : Nat) (gs ks : List Nat) (cs : List (Int × Int)) (w : World) (hF : FArg w A n B m C k gs ks cs) :
    Calls Try.prog 16 #[.agg #[.int .i64 W, .slice A n c, .int .i64 V, .slice B m d, .slice C k q]] w (RetR w (starR W gs V ks cs)) := by
  have HF := hid hF
  have H0 := hid (TwoT.start w W V A B C n c m d k q 0 0 none none none 0 0 0 0 0 0)
  clear hF
  go_enter Try.func16, Try.ntmps16
  go_wp2_with fail
  generalize (w.alloc (.cells #[.int .i64 W, .slice A n c, .int .i64 V, .slice B m d, .slice C k q] 29)).alloc (.cells #[.int .i64 0, .slice none 0 0, .int .i64 0, .slice none 0 0, .slice none 0 0] 29) = w1 at *
  refine (devValidT_any W V A B C n c m d k q gs ks cs _ (HF.out.gen.below H0.out.2.2) (HF.out.kill.below H0.out.2.2) (HF.out.cops.below H0.out.2.2)).mono ?_
  cases hv : validT W gs V ks cs with
  | false =>
    have Hr := hid (show starR W gs V ks cs = (0, [], [], [], 1) by unfold starR; rw [if_pos hv])
    clear hv
    rintro e w2 ⟨rfl, hb2⟩
    have H2 := hid (H0.out.below hb2)
    clear hb2 H0
    obtain ⟨r0, r1, r2, r3, r4⟩ := H2.out.2.1.five
    have f0 := H2.out.2.1.frozen 0
    have f1 := H2.out.2.1.frozen 1
    have f2 := H2.out.2.1.frozen 2
    have f3 := H2.out.2.1.frozen 3
    have f4 := H2.out.2.1.frozen 4
    have hlR := H2.out.2.1.lt
    have Fin := hid (RetT.stored (w := w) (err := 1) (c := 0) (d := 0) (q := 0) (cs := []) (C := none) (Arg.nil w2 none) (Arg.nil w2 none) ⟨.inl rfl, rfl⟩ H2.out.2.2 (by omega) H2.out.2.1 (W := 0))
    unfold stored5 at Fin
    go_wp2_with fail
    refine bodyPost_ret (v := .tuple #[.agg #[.int .i64 0, .slice none 0 0, .int .i64 0, .slice none 0 0, .slice none 0 0], .int .i64 1]) (by simp [results, Try.results16, go_sem, r0, r1, r2, r3, r4]) rfl ?_
    rw [Hr.out]
    exact Fin.out
  | true =>
    obtain ⟨h1, h2, h3, h4, h5⟩ := validT_iff hv
    subst h3
    have hin := inW_of_ok h5
    have Hr := hid (show starR W gs W ks cs = sqN W.toNat (strG W.toNat gs ks cs) 65 (strC W.toNat gs ks cs) by unfold starR; rw [if_neg (by simp [hv])])
    obtain ⟨v, rfl⟩ := Int.eq_ofNat_of_zero_le (Bs.validB_iff.1 h1).1
    have hv256 : v ≤ 256 := by have := (Bs.validB_iff.1 h1).2.1; omega
    have hfg := fit_of_valid' h1 HF.out.gen
    rw [Int.toNat_natCast] at Hr
    have Hstart := hid (str_start (ks := ks) hfg hv256 hin)
    have Hcan := hid (str_canon (ks := ks) hfg h4)
    have HG := hid (show lst v gs (folB v ks cs) = strG v gs ks cs from rfl)
    have Hlen := hid (str_len (v := v) (gs := gs) (ks := ks) h4)
    have Hin := hid hin
    have Hv := hid hv
    have Hk := hid (show k ≤ 5000 by have := HF.out.cops.len; omega)
    have Hfe := hid (show emptyR v = ((v : Int), Bs.emp v, 0) by unfold emptyR; rw [if_neg (by omega), Int.toNat_natCast])
    clear h1 h2 h4 h5 hin hfg hv
    rintro e w2 ⟨rfl, hb2⟩
    have H2 := hid (H0.out.below hb2)
    clear hb2 H0
    obtain ⟨t0, t1, t2, t3, t4⟩ := H2.out.1.five
    go_wp2_with fail
    refine (devEmpty_any v _).mono ?_
    rw [Hfe.out]
    rintro e w3 ⟨A2, n2, c2, rfl, ha2, hb2⟩
    have hb2' := hb2.alloc hb2.size (.cells #[.int .i64 v, .slice A2 n2 c2] 24)
    have H5 := hid (H2.out.below hb2')
    have HA5 := hid (show Arg _ A2 n2 (Bs.emp v) from ha2.alloc (.cells #[.int .i64 v, .slice A2 n2 c2] 24))
    have HB5 := hid (Box.new w3 v A2 n2 c2)
    clear ha2 hb2 hb2' t0 t1 t2 t3 t4 H2
    go_upto_region 4 with fail
    generalize w3.alloc (.cells #[.int .i64 v, .slice A2 n2 c2] 24) = w5 at *
    generalize w3.heap.size = b3 at *
    generalize hG : strG v gs ks cs = G at *
    generalize hD : strC v gs ks cs = ds at *
    have HF5 := hid (HF.out.below H5.out.2.2)
    have hK : ∀ w', Below w5.heap.size w5 w' → ((fun w' => Below w5.heap.size w5 w' ∧ (w'.cell? ⟨b3, 0, none⟩ = some (.int .i64 v) ∧ w'.cell? ⟨b3, 1, none⟩ = some (.slice A2 n2 c2)) ∧ (w'.cell? ⟨w.heap.size, 0, none⟩ = some (.int .i64 v) ∧ w'.cell? ⟨w.heap.size, 1, none⟩ = some (.slice A n c) ∧ w'.cell? ⟨w.heap.size, 2, none⟩ = some (.int .i64 v) ∧ w'.cell? ⟨w.heap.size, 3, none⟩ = some (.slice B m d) ∧ w'.cell? ⟨w.heap.size, 4, none⟩ = some (.slice C k q))) w') := fun w' hb' =>
      ⟨hb', ⟨(HB5.out.below hb' HB5.out.lt).c0, (HB5.out.below hb' HB5.out.lt).c1⟩, (H5.out.1.below hb' H5.out.1.lt).five⟩
    have HK := hid hK
    have hz1 : b3 < w5.heap.size := HB5.out.lt
    have hz4 : w.heap.size < w5.heap.size := H5.out.1.lt
    obtain ⟨p0, p1⟩ := And.intro HB5.out.c0 HB5.out.c1
    obtain ⟨t0, t1, t2, t3, t4⟩ := H5.out.1.five
    clear hK hG hD
    go_cut [6, 7] (fun sa sb wc => ∃ (b : Nat) (A9 : Option Addr) (n9 c9 : Nat) (B9 : Option Addr) (m9 d9 : Nat) (C9 : Option Addr) (q9 : Nat), sa = .pointer (some ⟨b, 0, none⟩) ∧ sb = .int .i64 0 ∧ Hid (StarAt w5 v G G ds wc b A9 n9 c9 B9 m9 d9 C9 q9))
    case first =>
      go_region_held3 (fun w' => Below w5.heap.size w5 w' ∧ (w'.cell? ⟨b3, 0, none⟩ = some (.int .i64 v) ∧ w'.cell? ⟨b3, 1, none⟩ = some (.slice A2 n2 c2)) ∧ (w'.cell? ⟨w.heap.size, 0, none⟩ = some (.int .i64 v) ∧ w'.cell? ⟨w.heap.size, 1, none⟩ = some (.slice A n c) ∧ w'.cell? ⟨w.heap.size, 2, none⟩ = some (.int .i64 v) ∧ w'.cell? ⟨w.heap.size, 3, none⟩ = some (.slice B m d) ∧ w'.cell? ⟨w.heap.size, 4, none⟩ = some (.slice C k q)))
        (first | (with_reducible exact HK.out _ (Below.refl _ _).drew) | (with_reducible exact HK.out _ (((Below.refl _ _).alloc (Nat.le_refl _) _).drew)) | (with_reducible exact HK.out _ ((‹Below w5.heap.size w5 _›).alloc (‹Below w5.heap.size w5 _›).size _)) | (with_reducible exact HK.out _ (Hcur.out.alloc Hcur.out.size _)) | (with_reducible exact HK.out _ (HX.out.stored Hcur.out _ _ _ _ _)) | assumption)
        (first
          | (go_at_call 50
             go_must (
             go_split_ands
             refine (devLeast_any v A B C n c m d k q gs ks cs _ (HF5.out.below (by assumption)) Hv.out).mono ?_
             rw [HG.out]
             rintro e wn ⟨Al, nl, cl, rfl, hAl, hbk⟩
             have hcur := below_step (W := w5) (by assumption) hbk
             have hS := HK.out _ hcur
             try (first | (have HX := (by with_reducible exact hid (Fresh5.mkD hbk))) | (have HX := (by with_reducible exact hid (Fresh5.mk (by assumption) hbk))))
             clear hbk))
          | (go_at_call 46
             go_must (
             go_split_ands
             refine (devCanonical_any v Al A2 C nl cl n2 c2 k q G (Bs.emp v) cs _ (by first | exact hAl | exact hAl.alloc _) (HA5.out.below (by assumption)) (HF5.out.cops.below (by assumption)) hv256 Hstart.out.fit (Bs.fit_emp v) Hin.out Hk.out).mono ?_
             rintro e wn2 hcan
             have hval := hcan.val
             rw [Hcan.out] at hval
             obtain ⟨A9, n9, c9, B9, m9, d9, C9, q9, rfl, hA9, hB9, hC9, hbk⟩ := hval
             have hcur := below_step (W := w5) (by assumption) hbk
             have hS := HK.out _ hcur
             have Hcur := hid hcur
             have HA9 := hid (show Arg wn2 A9 n9 G from hA9)
             have HB9 := hid (show Arg wn2 B9 m9 G from hB9)
             have HC9 := hid (show ArgC wn2 C9 ds.length ds from hC9)
             try (first
               | (have HX := hid (HX.out.below hbk)
                  obtain ⟨x0, x1, x2, x3, x4⟩ := HX.out.1.five
                  have y0 := HX.out.1.frozen 0
                  have y1 := HX.out.1.frozen 1
                  have y2 := HX.out.1.frozen 2
                  have y3 := HX.out.1.frozen 3
                  have y4 := HX.out.1.frozen 4)
               | (have HX := (by with_reducible exact hid (Fresh5.mk (by assumption) hbk))
                  obtain ⟨x0, x1, x2, x3, x4⟩ := HX.out.1.five
                  have y0 := HX.out.1.frozen 0
                  have y1 := HX.out.1.frozen 1
                  have y2 := HX.out.1.frozen 2
                  have y3 := HX.out.1.frozen 3
                  have y4 := HX.out.1.frozen 4))
             clear hbk hA9 hB9 hC9 hcan)))
      all_goals go_wp2_with fail
      all_goals go_meet
      all_goals first
        | (have Q := StarAt.fresh (v := v) (c := c9) (d := d9) (q := q9) HX.out HA9.out HB9.out HC9.out Hcur.out
           refine ⟨_, A9, n9, c9, B9, m9, d9, C9, q9, rfl, rfl, ?_⟩
           with_reducible exact hid Q)
        | (have Q := StarAt.new (v := v) (c := c9) (d := d9) (q := q9) HA9.out HB9.out HC9.out Hcur.out
           refine ⟨_, A9, n9, c9, B9, m9, d9, C9, q9, rfl, rfl, ?_⟩
           with_reducible exact hid Q)
    case rest =>
      obtain ⟨b, A9, n9, c9, B9, m9, d9, C9, q9, rfl, rfl, hSt⟩ := hcut
      have H7 := hid (H5.out.below hSt.out.2.2)
      have HS1 := hid hSt.out.1
      have HS2 := hid hSt.out.2.1
      clear t0 t1 t2 t3 t4 p0 p1 HK hSt H5 HF5 HA5 HB5 hz1 hz4
      obtain ⟨x0, x1, x2, x3, x4⟩ := HS1.out.five
      have hlb := HS1.out.lt
      go_wp2_with fail
      refine (devSquare_any v G 65 ds Hstart.out Hlen.out (by omega) A9 B9 C9 n9 c9 m9 d9 ds.length q9 _ HS2.out).mono ?_
      obtain ⟨r, hrr⟩ : ∃ r, sqN v G 65 ds = r := ⟨_, rfl⟩
      obtain ⟨W8, gs8, ks8, cs8, er8⟩ := r
      rw [hrr]
      have Hrr := hid hrr
      rintro e w8 ⟨A8, n8, c8, B8, m8, d8, C8, q8, rfl, hA8, hB8, hC8, hbk⟩
      have H8 := hid (H7.out.below hbk)
      obtain ⟨r0, r1, r2, r3, r4⟩ := H8.out.2.1.five
      have f0 := H8.out.2.1.frozen 0
      have f1 := H8.out.2.1.frozen 1
      have f2 := H8.out.2.1.frozen 2
      have f3 := H8.out.2.1.frozen 3
      have f4 := H8.out.2.1.frozen 4
      have hlR := H8.out.2.1.lt
      have Fin := hid (RetT.stored (w := w) (err := er8) (c := c8) (d := d8) (q := q8) (W := W8) hA8 hB8 hC8 H8.out.2.2 (by omega) H8.out.2.1)
      unfold stored5 at Fin
      clear hbk hA8 hB8 hC8 hrr x0 x1 x2 x3 x4
      go_wp2_with fail
      refine bodyPost_ret (v := .tuple #[.agg #[.int .i64 W8, .slice A8 n8 c8, .int .i64 W8, .slice B8 m8 d8, .slice C8 cs8.length q8], .int .i64 er8]) (by simp [results, Try.results16, go_sem, r0, r1, r2, r3, r4]) rfl ?_
      rw [Hr.out, Hrr.out]
      exact Fin.out
end Go.Proofs.Ytkckkodoeepdpaa

namespace Go.Proofs.Ytkckkodoeepdpaa
set_option maxRecDepth 20000
set_option linter.unusedVariables false
open Go.ChangeShapes Go.WideShapes Go.ChangeAt Go.RowKit

/-- A function was made in a new variable. -/
def Made (w5 : World) (W : Int) (gs ks : List Nat) (cs : List (Int × Int)) (wc : World) (b : Nat) (A : Option Addr) (n c : Nat) (B : Option Addr) (m d : Nat) (C : Option Addr) (k q : Nat) : Prop :=
  VarT wc b W gs ks cs A n c B m d C k q ∧ Below w5.heap.size w5 wc
theorem Made.fresh {w5 wn : World} {W : Int} {gs ks : List Nat} {cs : List (Int × Int)} {b : Nat} {A : Option Addr} {n c : Nat} {B : Option Addr} {m d : Nat} {C : Option Addr} {k q : Nat} (hx : Fresh5 w5 wn b) (hA : Arg wn A n gs) (hB : Arg wn B m ks) (hC : ArgC wn C k cs) (hb : Below w5.heap.size w5 wn) :
    Made w5 W gs ks cs (((((wn.setCell ⟨b, 0, none⟩ (.int .i64 W)).setCell ⟨b, 1, none⟩ (.slice A n c)).setCell ⟨b, 2, none⟩ (.int .i64 W)).setCell ⟨b, 3, none⟩ (.slice B m d)).setCell ⟨b, 4, none⟩ (.slice C k q)) b A n c B m d C k q :=
  ⟨⟨hx.1.set5 _ _ _ _ _, hA.stored5 (hA.apart hx.1 zero5) _ _ _ _ _, hB.stored5 (hB.apart hx.1 zero5) _ _ _ _ _, hC.stored5 (hC.apart hx.1 zero5c) _ _ _ _ _⟩, hx.stored hb _ _ _ _ _⟩
theorem Made.new {w5 wn : World} {W : Int} {gs ks : List Nat} {cs : List (Int × Int)} {A : Option Addr} {n c : Nat} {B : Option Addr} {m d : Nat} {C : Option Addr} {k q : Nat} (hA : Arg wn A n gs) (hB : Arg wn B m ks) (hC : ArgC wn C k cs) (hb : Below w5.heap.size w5 wn) :
    Made w5 W gs ks cs (wn.alloc (.cells #[.int .i64 W, .slice A n c, .int .i64 W, .slice B m d, .slice C k q] 29)) wn.heap.size A n c B m d C k q :=
  ⟨⟨Fb.new _ _ _, hA.alloc _, hB.alloc _, hC.alloc _⟩, hb.alloc hb.size _⟩
theorem ArgC.none (w : World) : ArgC w none 0 [] := ⟨.inl rfl, rfl⟩
theorem emp3 : Bs.emp 3 = [0] := rfl
theorem one_ok : ∀ x ∈ ([1] : List Nat), x < Bs.W64 := by decide
theorem nul_ok : ∀ x ∈ ([0] : List Nat), x < Bs.W64 := by decide

set_option maxHeartbeats 6400000 in
theorem lawExamples (w : World) : Calls Try.prog 3 #[] w fun e w' => e = .returned (.bool true) ∧ Below w.heap.size w w' := by
  go_enter Try.func3, Try.ntmps3
  go_wp2_with fail
  refine (refEmpty_any 3 _ (by omega)).mono ?_
  rw [emp3]
  rintro e w1 ⟨g1, rfl, hg1, hr1, hb1⟩
  have Hr1 := hid hr1; have Hb1 := hid hb1
  clear hr1 hb1
  go_wp2_with fail
  refine (refPut_any 3 _ _ _ [0] 0 _ (Row.arg Hr1.out nul_ok) (by omega) rfl (by omega)).mono ?_
  rw [show Bs.put [0] 0 = [1] from rfl]
  rintro e w2 ⟨g2, rfl, hg2, hr2, hb2⟩
  have Hz := hid (Sv.new (W := 3) 1 (show Arg w2 (some ⟨g2, 0, none⟩) 1 [1] from Row.arg hr2 one_ok))
  have hb2' := hb2.alloc hb2.size (.cells #[.int .i64 3, .slice (some ⟨g2, 0, none⟩) 1 1] 24)
  have Hb := hid (below_step Hb1.out hb2')
  clear hr2 hb2 hb2' Hr1 Hb1
  go_upto_region 2 with fail
  generalize hA : w2.alloc (.cells #[.int .i64 3, .slice (some ⟨g2, 0, none⟩) 1 1] 24) = w5 at *
  clear hA
  generalize w2.heap.size = b_z at *
  have HK := hid (show ∀ w', Below w5.heap.size w5 w' → ((fun w' => Below w5.heap.size w5 w' ∧ (w'.cell? ⟨b_z, 0, none⟩ = some (.int .i64 3) ∧ w'.cell? ⟨b_z, 1, none⟩ = some (.slice (some ⟨g2, 0, none⟩) 1 1))) w') from fun w' hb' => ⟨hb', (Hz.out.below hb').two⟩)
  obtain ⟨e0, e1⟩ := Hz.out.two
  have hz1 := Hz.out.1.lt
  go_cut [2] (fun sa wc => ∃ b g : Nat, sa = .pointer (some ⟨b, 0, none⟩) ∧ Hid (Made w5 3 [0] [1] [] wc b (some ⟨g, 0, none⟩) 1 1 (some ⟨g2, 0, none⟩) 1 1 none 0 0))
  case first =>
    go_region_held3 (fun w' => Below w5.heap.size w5 w' ∧ (w'.cell? ⟨b_z, 0, none⟩ = some (.int .i64 3) ∧ w'.cell? ⟨b_z, 1, none⟩ = some (.slice (some ⟨g2, 0, none⟩) 1 1)))
      (first | (with_reducible exact HK.out _ (Below.refl _ _).drew) | (with_reducible exact HK.out _ (((Below.refl _ _).alloc (Nat.le_refl _) _).drew)) | (with_reducible exact HK.out _ ((‹Below w5.heap.size w5 _›).alloc (‹Below w5.heap.size w5 _›).size _)) | (with_reducible exact HK.out _ (Hcur.out.alloc Hcur.out.size _)) | (with_reducible exact HK.out _ (HX.out.stored Hcur.out _ _ _ _ _)) | assumption)
      (first
        | (go_at_call 14
           go_must (
           go_split_ands
           refine (refEmpty_any 3 _ (by omega)).mono ?_
           rw [emp3]
           rintro e wn ⟨gE, rfl, hgE, hrE, hbk⟩
           have hcur := below_step (W := w5) (by assumption) hbk
           have hS := HK.out _ hcur
           have Hcur := hid hcur
           have HE := hid (show Arg wn (some ⟨gE, 0, none⟩) 1 [0] from Row.arg hrE nul_ok)
           have HZ := hid (Hz.out.below hcur).2
           try (first
             | (have HX := (by with_reducible exact hid (Fresh5.mkD hbk))
                obtain ⟨x0, x1, x2, x3, x4⟩ := HX.out.1.five
                have y0 := HX.out.1.frozen 0
                have y1 := HX.out.1.frozen 1
                have y2 := HX.out.1.frozen 2
                have y3 := HX.out.1.frozen 3
                have y4 := HX.out.1.frozen 4)
             | (have HX := (by with_reducible exact hid (Fresh5.mk (by assumption) hbk))
                obtain ⟨x0, x1, x2, x3, x4⟩ := HX.out.1.five
                have y0 := HX.out.1.frozen 0
                have y1 := HX.out.1.frozen 1
                have y2 := HX.out.1.frozen 2
                have y3 := HX.out.1.frozen 3
                have y4 := HX.out.1.frozen 4))
           clear hbk hrE)))
    all_goals go_wp2_with fail
    all_goals go_meet
    all_goals first
      | (have Q := Made.fresh (W := 3) (c := 1) (d := 1) (q := 0) HX.out HE.out HZ.out (ArgC.none _) Hcur.out
         refine ⟨_, gE, rfl, ?_⟩
         with_reducible exact hid Q)
      | (have Q := Made.new (W := 3) (c := 1) (d := 1) (q := 0) HE.out HZ.out (ArgC.none _) Hcur.out
         refine ⟨_, gE, rfl, ?_⟩
         with_reducible exact hid Q)
  case rest =>
    obtain ⟨b_k, g_k, rfl, HM⟩ := hcut
    have hbm := HM.out.2
    have Hk := hid HM.out.1
    have Hz := hid (Hz.out.below hbm)
    have Hb := hid (below_step Hb.out hbm)
    clear hbm HM HK e0 e1 hz1
    generalize hw6 : wc = w6 at *
    clear hw6
    go_upto_region 3 with fail
    have HK := hid (show ∀ w', Below w6.heap.size w6 w' → ((fun w' => Below w6.heap.size w6 w' ∧ (w'.cell? ⟨b_z, 0, none⟩ = some (.int .i64 3) ∧ w'.cell? ⟨b_z, 1, none⟩ = some (.slice (some ⟨g2, 0, none⟩) 1 1))) w') from fun w' hb' => ⟨hb', (Hz.out.below hb').two⟩)
    obtain ⟨e0, e1⟩ := Hz.out.two
    have hz1 := Hz.out.1.lt
    go_cut [3] (fun sa wc => ∃ b g : Nat, sa = .pointer (some ⟨b, 0, none⟩) ∧ Hid (Made w6 3 [1] [0] [] wc b (some ⟨g2, 0, none⟩) 1 1 (some ⟨g, 0, none⟩) 1 1 none 0 0))
    case first =>
      go_region_held3 (fun w' => Below w6.heap.size w6 w' ∧ (w'.cell? ⟨b_z, 0, none⟩ = some (.int .i64 3) ∧ w'.cell? ⟨b_z, 1, none⟩ = some (.slice (some ⟨g2, 0, none⟩) 1 1)))
        (first | (with_reducible exact HK.out _ (Below.refl _ _).drew) | (with_reducible exact HK.out _ (((Below.refl _ _).alloc (Nat.le_refl _) _).drew)) | (with_reducible exact HK.out _ ((‹Below w6.heap.size w6 _›).alloc (‹Below w6.heap.size w6 _›).size _)) | (with_reducible exact HK.out _ (Hcur.out.alloc Hcur.out.size _)) | (with_reducible exact HK.out _ (HX.out.stored Hcur.out _ _ _ _ _)) | assumption)
        (first
          | (go_at_call 14
             go_must (
             go_split_ands
             refine (refEmpty_any 3 _ (by omega)).mono ?_
             rw [emp3]
             rintro e wn ⟨gE, rfl, hgE, hrE, hbk⟩
             have hcur := below_step (W := w6) (by assumption) hbk
             have hS := HK.out _ hcur
             have Hcur := hid hcur
             have HE := hid (show Arg wn (some ⟨gE, 0, none⟩) 1 [0] from Row.arg hrE nul_ok)
             have HZ := hid (Hz.out.below hcur).2
             try (first
               | (have HX := (by with_reducible exact hid (Fresh5.mkD hbk))
                  obtain ⟨x0, x1, x2, x3, x4⟩ := HX.out.1.five
                  have y0 := HX.out.1.frozen 0
                  have y1 := HX.out.1.frozen 1
                  have y2 := HX.out.1.frozen 2
                  have y3 := HX.out.1.frozen 3
                  have y4 := HX.out.1.frozen 4)
               | (have HX := (by with_reducible exact hid (Fresh5.mk (by assumption) hbk))
                  obtain ⟨x0, x1, x2, x3, x4⟩ := HX.out.1.five
                  have y0 := HX.out.1.frozen 0
                  have y1 := HX.out.1.frozen 1
                  have y2 := HX.out.1.frozen 2
                  have y3 := HX.out.1.frozen 3
                  have y4 := HX.out.1.frozen 4))
             clear hbk hrE)))
      all_goals go_wp2_with fail
      all_goals go_meet
      all_goals first
        | (have Q := Made.fresh (W := 3) (c := 1) (d := 1) (q := 0) HX.out HZ.out HE.out (ArgC.none _) Hcur.out
           refine ⟨_, gE, rfl, ?_⟩
           with_reducible exact hid Q)
        | (have Q := Made.new (W := 3) (c := 1) (d := 1) (q := 0) HZ.out HE.out (ArgC.none _) Hcur.out
           refine ⟨_, gE, rfl, ?_⟩
           with_reducible exact hid Q)
    case rest =>
      obtain ⟨b_g, g_g, rfl, HM⟩ := hcut
      have hbm := HM.out.2
      have Hg := hid HM.out.1
      have Hk := hid (Hk.out.below hbm)
      have Hz := hid (Hz.out.below hbm)
      have Hb := hid (below_step Hb.out hbm)
      clear hbm HM HK e0 e1 hz1
      generalize hw7 : wc = w7 at *
      clear hw7
      obtain ⟨t0, t1, t2, t3, t4⟩ := Hk.out.box.five
      obtain ⟨u0, u1, u2, u3, u4⟩ := Hg.out.box.five
      go_wp2_with fail
      clear t0 t1 t2 t3 t4 u0 u1 u2 u3 u4
      refine (devCompose_any 3 3 (some ⟨g_k, 0, none⟩) (some ⟨g2, 0, none⟩) none 1 1 1 1 0 0 [0] [1] [] 3 3 (some ⟨g2, 0, none⟩) (some ⟨g_g, 0, none⟩) none 1 1 1 1 0 0 [1] [0] [] _ (VarT.arg Hk.out) (VarT.arg Hg.out)).mono ?_
      rw [ex2]
      rintro e w8 ⟨A_c, n_c, c_c, B_c, m_c, d_c, C_c, q_c, rfl, hA, hB, hC, hb⟩
      have hb2 := hb.alloc hb.size (.cells #[.int .i64 3, .slice A_c n_c c_c, .int .i64 3, .slice B_c m_c d_c, .slice C_c 0 q_c] 29)
      have Hc := hid (show VarT _ w8.heap.size 3 [1] [1] [] A_c n_c c_c B_c m_c d_c C_c 0 q_c from ⟨Fb.new w8 #[.int .i64 3, .slice A_c n_c c_c, .int .i64 3, .slice B_c m_c d_c, .slice C_c 0 q_c] 29, hA.alloc _, hB.alloc _, hC.alloc _⟩)
      have Hz := hid (Hz.out.below hb2)
      have Hb := hid (below_step Hb.out hb2)
      clear hA hB hC hb hb2 Hk Hg
      go_wp2_with fail
      generalize w8.alloc (.cells #[.int .i64 3, .slice A_c n_c c_c, .int .i64 3, .slice B_c m_c d_c, .slice C_c 0 q_c] 29) = w9 at *
      generalize w8.heap.size = b_c at *
      refine (refEmpty_any 3 _ (by omega)).mono ?_
      rw [emp3]
      rintro e w10 ⟨g3, rfl, hg3, hr3, hb3⟩
      have Hr3 := hid hr3
      have Hc := hid (Hc.out.below hb3)
      have Hz := hid (Hz.out.below hb3)
      have Hb := hid (below_step Hb.out hb3)
      clear hr3 hb3
      go_wp2_with fail
      refine (refEmpty_any 3 _ (by omega)).mono ?_
      rw [emp3]
      rintro e w11 ⟨g4, rfl, hg4, hr4, hb4⟩
      have Hr3 := hid (Hr3.out.below hb4 Hr3.out.lt)
      have Hr4 := hid hr4
      have Hp := hid (pairs_lit w11 exC #[.int .i64 0, .int .i64 1, .int .i64 1, .int .i64 2] rfl)
      have hb4' := hb4.alloc hb4.size (.cells #[.int .i64 0, .int .i64 1, .int .i64 1, .int .i64 2] 35)
      have Hc := hid (Hc.out.below hb4')
      have Hz := hid (Hz.out.below hb4')
      have Hb := hid (below_step Hb.out hb4')
      have Hr3 := hid (Hr3.out.alloc (.cells #[.int .i64 0, .int .i64 1, .int .i64 1, .int .i64 2] 35))
      have Hr4 := hid (Hr4.out.alloc (.cells #[.int .i64 0, .int .i64 1, .int .i64 1, .int .i64 2] 35))
      clear hr4 hb4 hb4'
      go_wp2_with fail
      generalize w11.alloc (.cells #[.int .i64 0, .int .i64 1, .int .i64 1, .int .i64 2] 35) = w12 at *
      generalize w11.heap.size = b_p at *
      refine (devStar_any 3 3 (some ⟨g3, 0, none⟩) (some ⟨g4, 0, none⟩) (some ⟨b_p, 0, none⟩) 1 1 1 1 2 2 [0] [0] exC _ ⟨Row.arg Hr3.out nul_ok, Row.arg Hr4.out nul_ok, Hp.out⟩).mono ?_
      rw [ex3]
      rintro e w13 ⟨A_s, n_s, c_s, B_s, m_s, d_s, C_s, q_s, rfl, hA, hB, hC, hb⟩
      have hb2 := hb.alloc hb.size (.cells #[.int .i64 3, .slice A_s n_s c_s, .int .i64 3, .slice B_s m_s d_s, .slice C_s 3 q_s] 29)
      have Hs := hid (show VarT _ w13.heap.size 3 [0] [0] exD A_s n_s c_s B_s m_s d_s C_s 3 q_s from ⟨Fb.new w13 #[.int .i64 3, .slice A_s n_s c_s, .int .i64 3, .slice B_s m_s d_s, .slice C_s 3 q_s] 29, hA.alloc _, hB.alloc _, hC.alloc _⟩)
      have Hc := hid (Hc.out.below hb2)
      have Hz := hid (Hz.out.below hb2)
      have Hb := hid (below_step Hb.out hb2)
      clear hA hB hC hb hb2 Hr3 Hr4 Hp
      have hdl : exD.length = 3 := rfl
      try rw [hdl]
      go_wp2_with fail
      generalize w13.alloc (.cells #[.int .i64 3, .slice A_s n_s c_s, .int .i64 3, .slice B_s m_s d_s, .slice C_s 3 q_s] 29) = w14 at *
      generalize w13.heap.size = b_s at *
      refine (refEmpty_any 3 _ (by omega)).mono ?_
      rw [emp3]
      rintro e w15 ⟨g5, rfl, hg5, hr5, hb5⟩
      have Hr5 := hid hr5
      have Hs := hid (Hs.out.below hb5)
      have Hc := hid (Hc.out.below hb5)
      have Hz := hid (Hz.out.below hb5)
      have Hb := hid (below_step Hb.out hb5)
      clear hr5 hb5
      go_wp2_with fail
      refine (refEmpty_any 3 _ (by omega)).mono ?_
      rw [emp3]
      rintro e w16 ⟨g6, rfl, hg6, hr6, hb6⟩
      have Hr5 := hid (Hr5.out.below hb6 Hr5.out.lt)
      have Hr6 := hid hr6
      have Hp := hid (pairs_lit w16 exD #[.int .i64 0, .int .i64 1, .int .i64 0, .int .i64 2, .int .i64 1, .int .i64 2] rfl)
      have hq := (hb6.alloc hb6.size (.cells #[.int .i64 0, .int .i64 1, .int .i64 0, .int .i64 2, .int .i64 1, .int .i64 2] 35))
      have hq2 := hq.alloc hq.size (.cells #[.int .i64 3, .slice (some ⟨g5, 0, none⟩) 1 1, .int .i64 3, .slice (some ⟨g6, 0, none⟩) 1 1, .slice (some ⟨w16.heap.size, 0, none⟩) 3 3] 29)
      have Hw := hid (show VarT _ (w16.heap.size + 1) 3 [0] [0] exD (some ⟨g5, 0, none⟩) 1 1 (some ⟨g6, 0, none⟩) 1 1 (some ⟨w16.heap.size, 0, none⟩) 3 3 from
        ⟨by have := Fb.new (w16.alloc (.cells #[.int .i64 0, .int .i64 1, .int .i64 0, .int .i64 2, .int .i64 1, .int .i64 2] 35)) #[.int .i64 3, .slice (some ⟨g5, 0, none⟩) 1 1, .int .i64 3, .slice (some ⟨g6, 0, none⟩) 1 1, .slice (some ⟨w16.heap.size, 0, none⟩) 3 3] 29; rw [World.size_alloc] at this; exact this,
         ((Hr5.out.alloc _).alloc _).arg nul_ok, ((Hr6.out.alloc _).alloc _).arg nul_ok, Hp.out.alloc _⟩)
      have Hs := hid (Hs.out.below hq2)
      have Hc := hid (Hc.out.below hq2)
      have Hz := hid (Hz.out.below hq2)
      have Hb := hid (below_step Hb.out hq2)
      clear hr6 hb6 hq hq2 Hr5 Hr6 Hp
      obtain ⟨t0, t1, t2, t3, t4⟩ := Hc.out.box.five
      obtain ⟨u0, u1⟩ := Hz.out.two
      have e1 := hid (equalsT_refl 3 [1] 3 [1] [])
      have e2 := hid (equalsT_refl 3 [0] 3 [0] exD)
      go_wp2_with fail
      clear t0 t1 t2 t3 t4 u0 u1
      generalize (w16.alloc (.cells #[.int .i64 0, .int .i64 1, .int .i64 0, .int .i64 2, .int .i64 1, .int .i64 2] 35)).alloc (.cells #[.int .i64 3, .slice (some ⟨g5, 0, none⟩) 1 1, .int .i64 3, .slice (some ⟨g6, 0, none⟩) 1 1, .slice (some ⟨w16.heap.size, 0, none⟩) 3 3] 29) = w17 at *
      generalize w16.heap.size = b_w at *
      refine (refEquals_any 3 3 A_c B_c C_c n_c c_c m_c d_c 0 q_c 3 3 (some ⟨g2, 0, none⟩) (some ⟨g2, 0, none⟩) none 1 1 1 1 0 0 [1] [1] [1] [1] [] [] _ Hc.out.gen Hc.out.kill Hc.out.cops Hz.out.2 Hz.out.2 (ArgC.none _)
        (by have h := Hc.out.gen.len; simp at h; unfold maxLen; omega) (by have h := Hc.out.kill.len; simp at h; unfold maxLen; omega) (by unfold maxLen; omega)).mono ?_
      rw [e1.out]
      rintro e w18 ⟨rfl, hb⟩
      have Hs := hid (Hs.out.below hb)
      have Hw := hid (Hw.out.below hb)
      have Hb := hid (below_step Hb.out hb)
      clear hb Hc Hz
      obtain ⟨t0, t1, t2, t3, t4⟩ := Hs.out.box.five
      obtain ⟨u0, u1, u2, u3, u4⟩ := Hw.out.box.five
      go_wp2_with fail
      clear t0 t1 t2 t3 t4 u0 u1 u2 u3 u4
      refine (refEquals_any 3 3 A_s B_s C_s n_s c_s m_s d_s 3 q_s 3 3 (some ⟨g5, 0, none⟩) (some ⟨g6, 0, none⟩) (some ⟨b_w, 0, none⟩) 1 1 1 1 3 3 [0] [0] [0] [0] exD exD _ Hs.out.gen Hs.out.kill Hs.out.cops Hw.out.gen Hw.out.kill Hw.out.cops
        (by have h := Hs.out.gen.len; simp at h; unfold maxLen; omega) (by have h := Hs.out.kill.len; simp at h; unfold maxLen; omega) (by unfold maxLen; omega)).mono ?_
      rw [e2.out]
      rintro e w19 ⟨rfl, hb⟩
      have Hb := hid (below_step Hb.out hb)
      clear hb
      go_wp2_with fail
      refine (sane_any _).mono ?_
      rintro e w20 ⟨rfl, hb⟩
      have Hb := hid (below_step Hb.out hb)
      clear hb
      go_wp2
      go_ret
      exact ⟨rfl, Hb.out⟩
end Go.Proofs.Ytkckkodoeepdpaa

namespace Go.Proofs.Ytkckkodoeepdpaa
set_option maxRecDepth 10000
open Go.ChangeShapes Go.WideShapes Go.ChangeAt Go.RowKit Go.Joins

theorem cells3 : Try.prog.cellsOf 3 = 1 := by kernel_rfl
theorem cells25 : Try.prog.cellsOf 24 = 2 := by kernel_rfl
theorem cells62 : Try.prog.cellsOf 62 = 1 := by kernel_rfl

theorem cell_in {w : World} {a : Addr} {v : Value} (h : w.cell? a = some v) : a.block < w.heap.size := by
  rcases Nat.lt_or_ge a.block w.heap.size with hlt | hge
  · exact hlt
  · unfold World.cell? at h; rw [Array.getElem?_eq_none hge] at h; cases h

theorem wf_u64 {z : Int} (h : (Lit.int .u64 z).wf = true) : 0 ≤ z ∧ z ≤ 18446744073709551615 := by
  have m0 : IntKind.u64.min = 0 := by decide
  have m1 : IntKind.u64.max = 18446744073709551615 := by decide
  simp [Lit.wf] at h
  omega
theorem open_list {H : Type} {enc : TypeId × Value → H} {W : World} {b0 base : Nat} {spare : Nat → Bool} {held : Bool} {v : Value} {d : DataW H} {p : List MemPlace}
    (hv : Value.okWide Try.prog W .any b0 38 v) (h : DataW.Trod enc Try.prog W base spare held 38 v d p) :
    ∃ (A : Option Addr) (n c : Nat) (l : List Int), v = .slice A n c ∧ IArg W A n l ∧ n ≤ maxLen := by
  obtain ⟨A, n, c, rfl⟩ := okWide_slice Try.underlying38 hv
  obtain ⟨fuel, hf⟩ := h
  rcases open_ints Try.underlying38 Try.underlying3 cells3 hf with ⟨hcs, _⟩ | ⟨x, l, c', zs, hcs, _, hl, hm, hz, _, hcell, hwz⟩
  · simp [Value.cells] at hcs
    obtain ⟨rfl, rfl, rfl⟩ := hcs
    exact ⟨none, 0, 0, [], rfl, ⟨.inl rfl, rfl⟩, by simp [maxLen]⟩
  · simp [Value.cells] at hcs
    obtain ⟨rfl, rfl, rfl⟩ := hcs
    have hle : n ≤ zs.length := by rw [hz]; split <;> omega
    refine ⟨some x, n, c, zs.take n, rfl, ⟨?_, by rw [List.length_take]; omega⟩, Nat.le_trans hl hm⟩
    by_cases h0 : n = 0
    · subst h0; exact .inl rfl
    · refine .inr ⟨x, rfl, ?_, fun j u hu => ?_⟩
      · have := cell_in (hcell 0 (by omega)); rwa [add_block] at this
      · unfold ints at hu
        rw [List.getElem?_map] at hu
        have hj : j < n := by
          rcases Nat.lt_or_ge j n with h | h
          · exact h
          · rw [List.getElem?_eq_none (by rw [List.length_take]; omega)] at hu; simp at hu
        rw [List.getElem?_take, if_pos hj, List.getElem?_eq_getElem (by omega)] at hu
        have := hcell j (by omega)
        rw [List.getD_eq_getElem?_getD, List.getElem?_eq_getElem (by omega)] at this
        rw [this]; simpa using hu

theorem open_set {H : Type} {enc : TypeId × Value → H} {W : World} {b0 base : Nat} {spare : Nat → Bool} {held : Bool} {v : Value} {d : DataW H} {p : List MemPlace}
    (hv : Value.okWide Try.prog W .any b0 24 v) (h : DataW.Trod enc Try.prog W base spare held 24 v d p) :
    ∃ (Wd : Int) (A : Option Addr) (n c : Nat) (ws : List Nat), v = .agg #[.int .i64 Wd, .slice A n c] ∧ Arg W A n ws ∧ n ≤ maxLen := by
  obtain ⟨c0, c1, y0, y1, m, rfl, rfl, rfl, hy0, hy1⟩ := open_agg2 Try.underlying24 (by kernel_rfl) cells25 hv h
  obtain ⟨a, e0, _, _⟩ := DataW.trod_int Try.underlying3 hy0
  simp at e0
  subst e0
  rcases open_ints Try.underlying22 Try.underlying62 cells62 hy1 with ⟨hcs, _⟩ | ⟨x, l, c', zs, hcs, _, hl, hm, hz, _, hcell, hwz⟩
  · simp at hcs
    subst hcs
    exact ⟨a, none, 0, 0, [], rfl, Arg.nil _ _, by simp [maxLen]⟩
  · simp at hcs
    subst hcs
    have hle : l ≤ zs.length := by rw [hz]; split <;> omega
    refine ⟨a, some x, l, c', (zs.take l).map Int.toNat, rfl, ⟨?_, by rw [List.length_map, List.length_take]; omega, ?_⟩, Nat.le_trans hl hm⟩
    · by_cases h0 : l = 0
      · subst h0; exact .inl rfl
      · refine .inr ⟨x, rfl, ?_, fun j u hu => ?_⟩
        · have := cell_in (hcell 0 (by omega)); rwa [add_block] at this
        · unfold words at hu
          rw [List.getElem?_map, List.getElem?_map] at hu
          have hj : j < l := by
            rcases Nat.lt_or_ge j l with h | h
            · exact h
            · rw [List.getElem?_eq_none (by rw [List.length_take]; omega)] at hu; simp at hu
          rw [List.getElem?_take, if_pos hj, List.getElem?_eq_getElem (by omega)] at hu
          have := hcell j (by omega)
          rw [List.getD_eq_getElem?_getD, List.getElem?_eq_getElem (by omega)] at this
          have hw := hwz zs[j] (List.getElem_mem _)
          rw [this]
          simp [u64] at hu ⊢
          rw [← hu]
          have h0 := wf_u64 hw
          simp; omega
    · intro y hy
      obtain ⟨z, hz1, rfl⟩ := List.mem_map.1 hy
      have hw := hwz z (List.mem_of_mem_take hz1)
      unfold Bs.W64
      have h0 := wf_u64 hw
      omega
end Go.Proofs.Ytkckkodoeepdpaa

namespace Go.Proofs.Ytkckkodoeepdpaa.transferExamples
open Go.ChangeShapes Go.WideShapes Go.ChangeAt Go.RowKit
set_option linter.unusedVariables false

theorem own : ownKnob Try.prog.godebug = none := by kernel_rfl
theorem laidOut : laidOutB Try.prog = true := by kernel_rfl

set_option maxRecDepth 100000 in
theorem lifted (os : Os) (started : os.Started) (H : Type) (enc : TypeId × Value → H) :
    ReturnsInHanded {} Try.checked os 3 .any (Rows.transferExamplesSpec.pre6 enc Try.prog Try.f3 Rows.transferExamplesRow.domain false) (Rows.transferExamplesSpec.post enc Try.prog Try.f3 false true false false) := by
  refine returnsInHanded_of_change (C := Try.checked) own started (by kernel_rfl) Try.func3
    (ChangeSpec.witness6 (enc := enc) (C := Try.checked) false ⟨#[], #[], []⟩ 8 (by kernel_rfl) (by kernel_rfl) (by kernel_rfl) (by kernel_rfl)) ?_
  intro W base args ds gs before hval0 hW hcnd _
  have hval : ∀ (j : Nat) t v, Try.f3.params[j]? = some t → args[j]? = some v → Value.okWide Try.prog W .any base t v := hval0
  have hW' := hW
  obtain ⟨p, q, hA0, hV, rfl, hfz, hnd⟩ := hW
  have hA : DataW.TrodAll enc Try.prog W 0 (fun _ => true) true Try.f3.params.toList args.toList ds p := hA0
  rw [Try.params3] at hA hval
  obtain ⟨rfl, rfl, rfl⟩ := trodAll_none hA
  obtain ⟨rfl, rfl⟩ := trodVars_none hV
  clear hA0 hval0
  refine (lawExamples W).mono fun e W' ⟨he, bel⟩ => ?_
  subst he
  exact ⟨_, rfl, _, _, _, [], _, [], hW', trodAll_mk1 (shut_bool Try.underlying4 _), trodAll_mk0, rfl, bel.frame _, fun h => by cases h⟩

theorem over : Rows.transferExamplesRow.holds Try.pinned (OpenSpec.ofChange Rows.transferExamplesSpec) :=
  OpenClaim.holds_of_wide 3 Try.f3 rfl rfl rfl rfl rfl rfl rfl ⟨rfl, rfl, rfl, rfl, rfl⟩ rfl rfl rfl rfl rfl (by kernel_rfl) Try.func3 (by kernel_rfl)
    (of_decide_eq_true (by kernel_rfl)) (by unfold Func.isWrapper; first | (rw [if_pos (by decide +kernel)]; kernel_rfl) | (rw [if_neg (by decide +kernel)]; exact ⟨rfl, rfl⟩))
    (fun os started H enc _ => lifted os started H enc)

theorem proved : Rows.TransferExamplesSaid := over
#print axioms proved
end Go.Proofs.Ytkckkodoeepdpaa.transferExamples
