/- For every number: a program with the greatest permitted number of nodes, or one or two fewer, is accepted, and one with one node more is rejected as full; and the sanity check holds: ValidateLimits returns true and leaves its argument as it was. The row's listed table of shapes holds what the program's text lays; the card ties it to it. No other condition. -/
import Derived.Test.YtlepcgncphikhaaDoorPg1
import Derived.Test.YtlepcgncphikhaaDoorKw
import Derived.Test.YtlepcgncphikhaaDoorDp1
import Derived.Test.YtlepcgncphikhaaDoorRp7
import Derived.Laws.OwnMore
import Derived.Deep.RegionLaw
import Derived.Deep.DrawnRows
import Derived.Deep.DeepCutAuto
import Derived.Test.YtlepcgncphikhaaDoorScF
import Derived.Test.YtlepcgncphikhaaDoorRp8
import Derived.Test.YtlepcgncphikhaaDoorRsc
import Derived.StillTailTactics
import Derived.Deep.RegionHeld3
import Derived.Test.YtlepcgncphikhaaDoorChp
import Derived.Test.YtlepcgncphikhaaDoorPms
import Derived.Deep.QuietTactic
import Derived.BigQuiet
import Derived.Test.YtlepcgncphikhaaDoorSup
import Derived.Lib.SmallJoins
import Derived.ShutString
import Derived.ChangeOld
import Derived.Test.YtlepcgncphikhaaDoorTie
import Derived.Test.YtlepcgncphikhaaDoorCards
import Derived.Deep.DeepHandedRow
import Derived.Deep.DeepWitnessRowRef
import Derived.LaidMore
import Derived.Lib.LaidTab
namespace Go.Proofs.YtlepcgncphikhaaDoor
set_option maxRecDepth 20000
set_option linter.unusedVariables false
open Go.ChangeShapes Go.WideShapes Go.ChangeAt Go.RowKit

def em2 (F : Nat) (u : Value) : List (Option Nat) := [some F, u.ownBlock]
def em3 (F B : Nat) (u s : Value) : List (Option Nat) := [some F, u.ownBlock, some B, s.ownBlock]
structure Lm2 (w : World) (F : Nat) (u : Value) (nf : ByteArray) (bs : List BH) (wr : World) : Prop where
  gr : Below w.heap.size w wr
  hF : w.heap.size ≤ F
  fF : Fb wr F #[.string nf, u] 58
  ou : wr.ownsRow w.heap.size 62 2 u bs.length (bs.flatMap bhc)
  okb : ∀ y ∈ bs, BHok wr (em2 F u) y
structure Lm3 (w : World) (F B : Nat) (u s : Value) (nf nb : ByteArray) (bs : List BH) (ss : List SH) (wr : World) : Prop where
  gr : Below w.heap.size w wr
  hF : w.heap.size ≤ F
  fF : Fb wr F #[.string nf, u] 58
  fB : Fb wr B #[.string nb, s] 62
  hB : w.heap.size ≤ B
  nFB : F ≠ B
  nB : some B ≠ u.ownBlock
  ou : wr.ownsRow w.heap.size 62 2 u bs.length (bs.flatMap bhc)
  os : wr.ownsRow w.heap.size 46 4 s ss.length (ss.flatMap shc)
  okb : ∀ y ∈ bs, BHok wr (em3 F B u s) y
  oks : ∀ y ∈ ss, SHok wr (em3 F B u s) y
section
variable {w wr w' : World} {F B : Nat} {u s : Value} {nf nb : ByteArray} {bs : List BH} {ss : List SH}
theorem Lm2.below (h : Lm2 w F u nf bs wr) (hb : Below wr.heap.size wr w') : Lm2 w F u nf bs w' :=
  ⟨below_step h.gr hb, h.hF, h.fF.below hb h.fF.lt, own_below h.ou hb, fun y hy => (h.okb y hy).go (Go2.below hb)⟩
theorem Lm3.below (h : Lm3 w F B u s nf nb bs ss wr) (hb : Below wr.heap.size wr w') : Lm3 w F B u s nf nb bs ss w' :=
  ⟨below_step h.gr hb, h.hF, h.fF.below hb h.fF.lt, h.fB.below hb h.fB.lt, h.hB, h.nFB, h.nB, own_below h.ou hb, own_below h.os hb, fun y hy => (h.okb y hy).go (Go2.below hb), fun y hy => (h.oks y hy).go (Go2.below hb)⟩
theorem Lm3.alloc (h : Lm3 w F B u s nf nb bs ss wr) (o : Obj) : Lm3 w F B u s nf nb bs ss (wr.alloc o) := h.below ((Below.refl _ _).alloc (Nat.le_refl _) o)
theorem Lm3.ex_lt (h : Lm3 w F B u s nf nb bs ss wr) : ∀ k, some k ∈ em3 F B u s → k < wr.heap.size := by
  intro k hk
  have h4 := h.fF.lt; have h5 := h.fB.lt
  simp only [em3, List.mem_cons, Option.some.injEq, List.not_mem_nil, or_false] at hk
  rcases hk with rfl | hk | rfl | hk
  · exact h4
  · exact (h.ou.lt k hk.symm).2
  · exact h5
  · exact (h.os.lt k hk.symm).2
/-- A block begins. -/
theorem Lm2.block (h : Lm2 w F u nf bs wr) (nb : ByteArray) : Lm3 w F wr.heap.size u (.slice none 0 0) nf nb bs [] (wr.alloc (.cells #[.string nb, .slice none 0 0] 62)) := by
  have h' := h.below ((Below.refl _ _).alloc (Nat.le_refl _) (.cells #[.string nb, .slice none 0 0] 62))
  have hz := h.gr.size
  have hfl := h.fF.lt
  have hG : Go2 wr (em2 F u) (wr.alloc (.cells #[.string nb, .slice none 0 0] 62)) (em3 F wr.heap.size u (.slice none 0 0)) := by
    refine Go2.grown (grown_of_below ((Below.refl _ _).alloc (Nat.le_refl _) _) none) (.inl rfl) fun k hk hin => ?_
    simp only [em3, em2, List.mem_cons, Value.ownBlock, reduceCtorEq, Option.some.injEq, List.not_mem_nil, or_false] at hin ⊢
    rcases hin with h' | h' | h'
    · exact .inl h'
    · exact .inr h'
    · omega
  exact ⟨h'.gr, h'.hF, h'.fF, Fb.new _ _ _, hz, by omega, fun e => by have := (h.ou.lt _ e.symm).2; omega, h'.ou, World.ownsRow_nil _ _ _ _, fun y hy => (h.okb y hy).go hG, by simp⟩
/-- A statement more. -/
theorem Lm3.push {x : SH} {g cap : Nat} (h : Lm3 w F B u s nf nb bs ss wr) (hx : SHok wr (em3 F B u s) x)
    (hown : w'.ownsRow w.heap.size 46 4 (.slice (some ⟨g, 0, none⟩) (ss.length + 1) cap) (ss.length + 1) (ss.flatMap shc ++ shc x)) (hg : wr.grownBy w' s.ownBlock) (hat : s.ownBlock = some g ∨ g = wr.heap.size) :
    (w'.cell? ⟨B, 1, none⟩ = some s ∧ w'.frozen? ⟨B, 1, none⟩ = false) ∧ Lm3 w F B u (.slice (some ⟨g, 0, none⟩) (ss.length + 1) cap) nf nb bs (ss ++ [x]) (w'.setCell ⟨B, 1, none⟩ (.slice (some ⟨g, 0, none⟩) (ss.length + 1) cap)) := by
  have hB := h.hB
  have hnFB := h.nFB
  have e3 := h.fF.grown hg (fb_ne_own h.fF h.os (by decide))
  have e4 := h.fB.grown hg (fb_ne_own h.fB h.os (by decide))
  have e6 := h.ou.kept hg (own_ne h.ou h.os (by decide))
  have eb : Below w.heap.size w w' := h.gr.grown hg h.gr.size (fun k hk => (h.os.lt k hk).1)
  have hG : Go2 wr (em3 F B u s) w' (em3 F B u (.slice (some ⟨g, 0, none⟩) (ss.length + 1) cap)) := by
    refine Go2.grown hg (.inr (by simp [em3])) fun k hk hin => ?_
    simp only [em3, List.mem_cons, List.not_mem_nil, or_false] at hin ⊢
    rcases hin with h' | h' | h' | h'
    · exact .inl h'
    · exact .inr (.inl h')
    · exact .inr (.inr (.inl h'))
    · refine .inr (.inr (.inr ?_))
      simp only [Value.ownBlock, Option.some.injEq] at h'
      rcases hat with ha | ha
      · rw [ha, h']
      · omega
  have hs := setCell_grown w' ⟨B, 1, none⟩ (.slice (some ⟨g, 0, none⟩) (ss.length + 1) cap)
  have hGG := hG.trans (Go2.same (ex := em3 F B u (.slice (some ⟨g, 0, none⟩) (ss.length + 1) cap)) hs (.inr (by simp [em3])))
  have efB : Fb (w'.setCell ⟨B, 1, none⟩ (.slice (some ⟨g, 0, none⟩) (ss.length + 1) cap)) B #[.string nb, .slice (some ⟨g, 0, none⟩) (ss.length + 1) cap] 62 := Fb.set e4 1 _
  refine ⟨⟨e4.cell 1, e4.frozen 1⟩, eb.setCell hB _, h.hF, e3.far (by show F ≠ B; omega) _, efB, hB, hnFB, h.nB, ?_, ?_, ?_, ?_⟩
  · exact e6.kept hs (own_far e6 h.nB)
  · rw [List.length_append, List.flatMap_append]
    have : (List.flatMap shc [x]) = shc x := by simp
    rw [this]
    exact hown.kept hs (own_far hown (fb_ne_own e4 hown (by decide)))
  · exact fun y hy => (h.okb y hy).go hGG
  · intro y hy
    rcases List.mem_append.1 hy with hy | hy
    · exact (h.oks y hy).go hGG
    · simp at hy; subst hy; exact hx.go hGG
/-- A block more: it has ended. -/
theorem Lm3.done {A : Option Addr} {c g cap : Nat} (h : Lm3 w F B u (.slice A ss.length c) nf nb bs ss wr) (hn : nb.size ≤ 1000) (hl : ss.length ≤ 40)
    (hown : w'.ownsRow w.heap.size 62 2 (.slice (some ⟨g, 0, none⟩) (bs.length + 1) cap) (bs.length + 1) (bs.flatMap bhc ++ [.string nb, .slice A ss.length c])) (hg : wr.grownBy w' u.ownBlock) (hat : u.ownBlock = some g ∨ g = wr.heap.size) :
    (w'.cell? ⟨F, 1, none⟩ = some u ∧ w'.frozen? ⟨F, 1, none⟩ = false) ∧ Lm2 w F (.slice (some ⟨g, 0, none⟩) (bs.length + 1) cap) nf (bs ++ [⟨nb, A, ss.length, c, ss⟩]) (w'.setCell ⟨F, 1, none⟩ (.slice (some ⟨g, 0, none⟩) (bs.length + 1) cap)) := by
  have hF := h.hF
  have e3 := h.fF.grown hg (fb_ne_own h.fF h.ou (by decide))
  have e7 := h.os.kept hg (own_ne h.os h.ou (by decide))
  have eb : Below w.heap.size w w' := h.gr.grown hg h.gr.size (fun k hk => (h.ou.lt k hk).1)
  have hG : Go2 wr (em3 F B u (.slice A ss.length c)) w' (em2 F (.slice (some ⟨g, 0, none⟩) (bs.length + 1) cap)) := by
    refine Go2.grown hg (.inr (by simp [em3])) fun k hk hin => ?_
    simp only [em3, em2, List.mem_cons, List.not_mem_nil, or_false] at hin ⊢
    rcases hin with h' | h'
    · exact .inl h'
    · refine .inr (.inl ?_)
      simp only [Value.ownBlock, Option.some.injEq] at h'
      rcases hat with ha | ha
      · rw [ha, h']
      · omega
  have hs := setCell_grown w' ⟨F, 1, none⟩ (.slice (some ⟨g, 0, none⟩) (bs.length + 1) cap)
  have hG2 : Go2 w' (em2 F (.slice (some ⟨g, 0, none⟩) (bs.length + 1) cap)) (w'.setCell ⟨F, 1, none⟩ (.slice (some ⟨g, 0, none⟩) (bs.length + 1) cap)) (em2 F (.slice (some ⟨g, 0, none⟩) (bs.length + 1) cap)) :=
    Go2.same hs (.inr (by simp [em2]))
  have hGG := hG.trans hG2
  have efF : Fb (w'.setCell ⟨F, 1, none⟩ (.slice (some ⟨g, 0, none⟩) (bs.length + 1) cap)) F #[.string nf, .slice (some ⟨g, 0, none⟩) (bs.length + 1) cap] 58 := Fb.set e3 1 _
  have hsx : EAt w' (em2 F (.slice (some ⟨g, 0, none⟩) (bs.length + 1) cap)) A (ss.flatMap shc) := EAt.own e7 fun j hj hin => by
    simp only [em2, List.mem_cons, Option.some.injEq, List.not_mem_nil, or_false] at hin
    rcases hin with h' | h'
    · exact fb_ne_own e3 e7 (by decide) (h' ▸ hj.symm)
    · rcases own_ne e7 hown (by decide) with h3 | h3
      · rw [h3] at hj; cases hj
      · exact h3 (hj.trans h')
  refine ⟨⟨e3.cell 1, e3.frozen 1⟩, eb.setCell hF _, h.hF, efF, ?_, ?_⟩
  · rw [List.length_append, List.flatMap_append]
    have : (List.flatMap bhc [⟨nb, A, ss.length, c, ss⟩]) = [.string nb, .slice A ss.length c] := by simp [bhc]
    rw [this]
    exact hown.kept hs (own_far hown (fb_ne_own e3 hown (by decide)))
  · intro y hy
    rcases List.mem_append.1 hy with hy | hy
    · exact (h.okb y hy).go hGG
    · simp at hy; subst hy
      exact ⟨hsx.go hG2, rfl, hl, hn, fun z hz => (h.oks z hz).go hGG⟩
end
end Go.Proofs.YtlepcgncphikhaaDoor

namespace Go.Proofs.YtlepcgncphikhaaDoor
set_option maxRecDepth 20000
open Go.ChangeShapes Go.WideShapes Go.ChangeAt Go.RowKit

/-- The decimal digits of a number, as bytes. -/
def dec (n : Nat) : List UInt8 := if h : n < 10 then [UInt8.ofNat (48 + n)] else dec (n / 10) ++ [UInt8.ofNat (48 + n % 10)]
termination_by n
decreasing_by omega

def str (l : List UInt8) : Value := .string ⟨l.toArray⟩
theorem add_str (a b : List UInt8) (h : a.length + b.length ≤ 4611686018427387904) (w : World) : (binOp BinOp.add 9 (str a) (str b)).run Tryd.prog w = .ok (str (a ++ b)) w := by
  unfold str
  simp [go_sem]
  rw [if_neg (by omega)]
  congr 3
theorem dec_len (n : Nat) : (dec n).length ≤ n + 1 := by
  induction n using Nat.strongRecOn with
  | ind n ih =>
    unfold dec
    split
    · simp
    · have := ih (n / 10) (by omega)
      rw [List.length_append]; simp; omega

theorem slice_digit (d : Int) (h0 : 0 ≤ d) (h1 : d < 10) (w : World) :
    (Instr.slice 9 (.string { data := #[48, 49, 50, 51, 52, 53, 54, 55, 56, 57] }) (some (.int .i64 d)) (some (.int .i64 (d + 1))) none).run Tryd.prog w = .ok (str [UInt8.ofNat (48 + d.toNat)]) w := by
  have : d = 0 ∨ d = 1 ∨ d = 2 ∨ d = 3 ∨ d = 4 ∨ d = 5 ∨ d = 6 ∨ d = 7 ∨ d = 8 ∨ d = 9 := by omega
  rcases this with rfl | rfl | rfl | rfl | rfl | rfl | rfl | rfl | rfl | rfl <;> rfl

theorem decimal_any (n : Nat) (w : World) (hn : n ≤ 1000000000) :
    Calls Tryd.prog 66 #[.int .i64 n] w fun e w' => e = .returned (str (dec n)) ∧ w = w' := by
  have hs := fun w => slice_digit ((n : Int) % 10) (by omega) (by omega) w
  have hd : ((n : Int) % 10).toNat = n % 10 := by omega
  generalize hl : [UInt8.ofNat (48 + ((n : Int) % 10).toNat)] = l0 at hs
  have Hl := hid hl
  have Hd := hid hd
  clear hl hd
  go_enter Tryd.func66, Tryd.ntmps66
  go_wp2_with fail
  clear hs
  go_loop [0, 3] (fun m s => ∃ (k : Nat) (l : List UInt8), k ≤ 1000000000 ∧ m = .int .i64 k ∧ s = str l ∧ Hid (dec n = (if k = 0 then [] else dec k) ++ l)) (fun m _ => (intOf m).toNat)
  case atStart =>
    refine ⟨n / 10, l0, by omega, by go_num, rfl, hid ?_⟩
    rw [← Hl.out, Hd.out]
    by_cases h : n < 10
    · have : n / 10 = 0 := by omega
      rw [if_pos this]; unfold dec; rw [dif_pos h]; simp; congr 2; omega
    · rw [if_neg (by omega)]; conv => lhs; unfold dec
      rw [dif_neg h]
  case round =>
    obtain ⟨k, l, hk, rfl, rfl, hD⟩ := hrel
    by_cases h0 : 0 < k
    · have hs := fun w => slice_digit ((k : Int) % 10) (by omega) (by omega) w
      have hd : ((k : Int) % 10).toNat = k % 10 := by omega
      have hlen := dec_len n
      have hll : (dec n).length = (if k = 0 then [] else dec k).length + l.length := by rw [hD.out, List.length_append]
      generalize hl : [UInt8.ofNat (48 + ((k : Int) % 10).toNat)] = l1 at hs
      have hl1 : l1.length = 1 := by rw [← hl]; rfl
      have ha := fun w => add_str l1 l (by omega) w
      have Hl := hid hl
      have Hd := hid hd
      clear hl hd hlen hll hl1
      go_wp2_with fail
      go_round
      case rel =>
        refine ⟨k / 10, l1 ++ l, by omega, by go_num, rfl, hid ?_⟩
        rw [hD.out, if_neg (by omega), ← Hl.out, Hd.out, ← List.append_assoc]
        congr 1
        by_cases h : k < 10
        · have : k / 10 = 0 := by omega
          rw [if_pos this]; unfold dec; rw [dif_pos h]; simp; congr 2; omega
        · rw [if_neg (by omega)]; conv => lhs; unfold dec
          rw [dif_neg h]
      case measure => simp [intOf]; omega
    · go_wp2_with fail
      go_ret
      refine ⟨?_, rfl⟩
      have h1 : k = 0 := by omega
      rw [hD.out, if_pos h1]; rfl
end Go.Proofs.YtlepcgncphikhaaDoor

namespace Go.Proofs.YtlepcgncphikhaaDoor
set_option maxRecDepth 20000
set_option linter.unusedVariables false
set_option linter.unusedSimpArgs false
open Go.ChangeShapes Go.WideShapes Go.ChangeAt Go.RowKit
attribute [local go_sem] fieldTok0 fieldTok1 fieldTok2 fieldTok3

theorem Dst.ne_of_text {w : World} {b : Nat} {σ : Ds} (h : Dst w b σ) {k : ByteArray} (hk : k ≠ noB) (he : eqB (nxt σ.l).text k = true) : σ.l ≠ [] := by
  intro e
  rw [e] at he
  rw [show (nxt []).text = noB from rfl, eqB_no2 hk] at he
  cases he
theorem ne_of_name {l : List Tok} (he : nameB (nxt l).text = true) : l ≠ [] := by
  rintro rfl
  rw [show (nxt []).text = noB from rfl, nameB_no] at he
  cases he
theorem ne_of_end {l : List Tok} (he : ((nxt l).kind == 3) = true) : l ≠ [] := by
  rintro rfl
  rw [show (nxt []).kind = 0 from rfl] at he
  cases he
theorem Dst.text16 {w : World} {b : Nat} {σ : Ds} (h : Dst w b σ) : (nxt σ.l).text.size ≤ 16 := by
  rcases h.toks.nxt with e | e
  · rw [e]; decide
  · exact tokOk_size e
theorem Dst.take16 {w : World} {b : Nat} {σ : Ds} (h : Dst w b σ) (bb : Bool) : (takeS bb σ).1.size ≤ 16 := by
  cases bb with
  | true => exact h.text16
  | false => show noB.size ≤ 16; decide
theorem Dst.name16 {w : World} {b : Nat} {σ : Ds} (h : Dst w b σ) : (nameS σ).1.size ≤ 16 := h.take16 _
set_option maxHeartbeats 1600000 in
theorem devWord_any (b : Nat) (σ : Ds) (k : ByteArray) (hk : k ≠ noB) (w : World) (h : Dst w b σ) :
    Calls Tryd.prog 107 #[.pointer (some ⟨b, 0, none⟩), .string k] w fun e w' => e = .returned (.tuple #[]) ∧ DTo w b (wordS k σ) w' := by
  have H := hid h
  have Hne := hid (fun he => h.ne_of_text hk he)
  clear h hk
  have Hr := hid (show wordS k σ = (takeS (eqB (nxt σ.l).text k) σ).2 from rfl)
  have hb : eqB (nxt σ.l).text k = ((nxt σ.l).text.toList == k.toList) := rfl
  go_enter Tryd.func107, Tryd.ntmps107
  go_wp2_with fail
  refine (devNext_any b σ _ H.out).mono ?_
  rintro e w1 ⟨rfl, hb1⟩
  have H1 := hid (H.out.below hb1 H.out.lt)
  have HB1 := hid hb1
  clear hb1
  unfold agT
  generalize (nxt σ.l).text = tx at *
  rw [hb] at Hr Hne
  clear hb
  cases he : (tx.toList == k.toList) with
  | true =>
    have Hn2 := hid (Hne.out he)
    rw [he] at Hr
    clear Hne
    go_wp2_with fail
    refine (devTake_any b σ true _ H1.out (fun _ => Hn2.out)).mono ?_
    rintro e w2 ⟨rfl, h2⟩
    have H2 := hid h2
    clear h2
    go_wp2_with fail
    refine bodyPost_end (v := .tuple #[]) (by simp [results, Tryd.results107]) rfl ⟨rfl, ?_⟩
    rw [Hr.out]; exact .belowl HB1.out H2.out
  | false =>
    rw [he] at Hr
    clear Hne
    go_wp2_with fail
    refine (devTake_any b σ false _ H1.out (fun h => by cases h)).mono ?_
    rintro e w2 ⟨rfl, h2⟩
    have H2 := hid h2
    clear h2
    go_wp2_with fail
    refine bodyPost_end (v := .tuple #[]) (by simp [results, Tryd.results107]) rfl ⟨rfl, ?_⟩
    rw [Hr.out]; exact .belowl HB1.out H2.out
set_option maxHeartbeats 1600000 in
theorem devEnd_any (b : Nat) (σ : Ds) (w : World) (h : Dst w b σ) :
    Calls Tryd.prog 109 #[.pointer (some ⟨b, 0, none⟩)] w fun e w' => e = .returned (.tuple #[]) ∧ DTo w b (endS σ) w' := by
  have H := hid h
  clear h
  have Hne := hid (fun he => @ne_of_end σ.l he)
  have Hr := hid (show endS σ = (takeS ((nxt σ.l).kind == 3) σ).2 from rfl)
  go_enter Tryd.func109, Tryd.ntmps109
  go_wp2_with fail
  refine (devNext_any b σ _ H.out).mono ?_
  rintro e w1 ⟨rfl, hb1⟩
  have H1 := hid (H.out.below hb1 H.out.lt)
  have HB1 := hid hb1
  clear hb1
  unfold agT
  generalize (nxt σ.l).kind = kd at *
  cases he : (kd == 3) with
  | true =>
    have Hn2 := hid (Hne.out he)
    rw [he] at Hr
    clear Hne
    go_wp2_with fail
    refine (devTake_any b σ true _ H1.out (fun _ => Hn2.out)).mono ?_
    rintro e w2 ⟨rfl, h2⟩
    have H2 := hid h2
    clear h2
    go_wp2_with fail
    refine bodyPost_end (v := .tuple #[]) (by simp [results, Tryd.results109]) rfl ⟨rfl, ?_⟩
    rw [Hr.out]; exact .belowl HB1.out H2.out
  | false =>
    rw [he] at Hr
    clear Hne
    go_wp2_with fail
    refine (devTake_any b σ false _ H1.out (fun h => by cases h)).mono ?_
    rintro e w2 ⟨rfl, h2⟩
    have H2 := hid h2
    clear h2
    go_wp2_with fail
    refine bodyPost_end (v := .tuple #[]) (by simp [results, Tryd.results109]) rfl ⟨rfl, ?_⟩
    rw [Hr.out]; exact .belowl HB1.out H2.out
set_option maxHeartbeats 1600000 in
theorem devName_any (b : Nat) (σ : Ds) (w : World) (h : Dst w b σ) :
    Calls Tryd.prog 108 #[.pointer (some ⟨b, 0, none⟩)] w fun e w' => e = .returned (.string (nameS σ).1) ∧ DTo w b (nameS σ).2 w' := by
  have H := hid h
  have h16 := h.text16
  clear h
  have Hne := hid (fun he => @ne_of_name σ.l he)
  have Hr := hid (show nameS σ = takeS (nameB (nxt σ.l).text) σ from rfl)
  go_enter Tryd.func108, Tryd.ntmps108
  go_wp2_with fail
  refine (devNext_any b σ _ H.out).mono ?_
  rintro e w1 ⟨rfl, hb1⟩
  have H1 := hid (H.out.below hb1 H.out.lt)
  have HB1 := hid hb1
  clear hb1
  unfold agT
  generalize (nxt σ.l).text = tx at *
  go_wp2_with fail
  refine (devIsName_any tx _ (by unfold maxLen; omega)).mono ?_
  rintro e w' ⟨rfl, rfl⟩
  cases he : nameB tx with
  | true =>
    have Hn2 := hid (Hne.out he)
    rw [he] at Hr
    clear Hne
    go_wp2_with fail
    refine (devTake_any b σ true _ H1.out (fun _ => Hn2.out)).mono ?_
    rintro e w2 ⟨rfl, h2⟩
    have H2 := hid h2
    clear h2
    go_wp2
    go_ret
    rw [Hr.out]; exact ⟨rfl, .belowl HB1.out H2.out⟩
  | false =>
    rw [he] at Hr
    clear Hne
    go_wp2_with fail
    refine (devTake_any b σ false _ H1.out (fun h => by cases h)).mono ?_
    rintro e w2 ⟨rfl, h2⟩
    have H2 := hid h2
    clear h2
    go_wp2
    go_ret
    rw [Hr.out]; exact ⟨rfl, .belowl HB1.out H2.out⟩

def kwOf : Nat → ByteArray
  | 2 => kwUse
  | 3 => kwCall
  | 4 => kwSource
  | 5 => kwSink
  | 6 => kwSanitize
  | 7 => kwGoto
  | 8 => kwBranch
  | 9 => kwReturn
  | _ => noB
theorem opW_hit {x : ByteArray} {k : Nat} (h2 : 2 ≤ k) (h9 : k ≤ 9) (hn : nameB x = false) (hb : ∀ j, 2 ≤ j → j < k → eqB (kwOf j) x = false) (hk : eqB (kwOf k) x = true) : opW x = (k : Int) := by
  unfold opW
  rw [hn]
  rcases (by omega : k = 2 ∨ k = 3 ∨ k = 4 ∨ k = 5 ∨ k = 6 ∨ k = 7 ∨ k = 8 ∨ k = 9) with rfl | rfl | rfl | rfl | rfl | rfl | rfl | rfl
  all_goals
    have e := fun j h1 h2 => hb j h1 h2
    have e2 := e 2 (by omega); have e3 := e 3 (by omega); have e4 := e 4 (by omega); have e5 := e 5 (by omega); have e6 := e 6 (by omega); have e7 := e 7 (by omega); have e8 := e 8 (by omega)
    simp [kwOf] at e2 e3 e4 e5 e6 e7 e8 hk
    simp [*]
theorem opW_miss {x : ByteArray} (hn : nameB x = false) (hb : ∀ j, 2 ≤ j → j < 10 → eqB (kwOf j) x = false) : opW x = 0 := by
  unfold opW
  rw [hn]
  have e2 := hb 2 (by omega) (by omega); have e3 := hb 3 (by omega) (by omega); have e4 := hb 4 (by omega) (by omega); have e5 := hb 5 (by omega) (by omega); have e6 := hb 6 (by omega) (by omega); have e7 := hb 7 (by omega) (by omega); have e8 := hb 8 (by omega) (by omega); have e9 := hb 9 (by omega) (by omega)
  simp [kwOf] at e2 e3 e4 e5 e6 e7 e8 e9
  simp [*]
theorem Shp.key {w : World} (h : Shp w) {k : Nat} (h2 : 2 ≤ k) (h9 : k ≤ 9) : w.cell? ⟨0, k * 5, none⟩ = some (.string (kwOf k)) := by
  refine h _ _ ?_
  rcases (by omega : k = 2 ∨ k = 3 ∨ k = 4 ∨ k = 5 ∨ k = 6 ∨ k = 7 ∨ k = 8 ∨ k = 9) with rfl | rfl | rfl | rfl | rfl | rfl | rfl | rfl <;> rfl
set_option maxHeartbeats 1600000 in
theorem devOperation_any (x : ByteArray) (w : World) (hx : x.size ≤ 16) (hs : Shp w) :
    Calls Tryd.prog 148 #[.string x] w fun e w' => e = .returned (.int .i64 (opW x)) ∧ w = w' := by
  have hn0 := hid (devIsName_any x w (by unfold maxLen; omega))
  have Hs := hid hs
  clear hs
  cases hn : nameB x with
  | true =>
    have Hr := hid (opW_name hn)
    have HN := hid hn
    clear hn
    go_enter Tryd.func148, Tryd.ntmps148
    go_wp2_with fail
    refine hn0.out.mono ?_
    rw [HN.out]
    rintro e w' ⟨rfl, rfl⟩
    go_wp2
    go_ret
    exact ⟨ret_int Hr.out.symm, rfl⟩
  | false =>
    have HN := hid hn
    clear hn
    go_enter Tryd.func148, Tryd.ntmps148
    go_wp2_with fail
    refine hn0.out.mono ?_
    rw [HN.out]
    rintro e w' ⟨rfl, rfl⟩
    go_wp2_with fail
    go_loop [3] (fun i => ∃ k : Nat, 2 ≤ k ∧ k ≤ 10 ∧ i = .int .i64 k ∧ Hid (∀ j, 2 ≤ j → j < k → eqB (kwOf j) x = false)) (fun i => 10 - (intOf i).toNat)
    case atStart => exact ⟨2, by omega, by omega, rfl, hid (fun j h1 h2 => by omega)⟩
    case round =>
      obtain ⟨k, hk2, hk10, rfl, hJ⟩ := hrel
      by_cases hlt : k ≤ 9
      · have hc := Hs.out.key hk2 hlt
        have heq : eqB (kwOf k) x = ((kwOf k).toList == x.toList) := rfl
        generalize hkw : kwOf k = kk at *
        have Hkw := hid hkw
        clear hkw
        cases he : (kk.toList == x.toList) with
        | true =>
          have Hr := hid (opW_hit hk2 hlt HN.out hJ.out (by rw [Hkw.out, heq, he]))
          clear heq
          go_wp2_with fail
          go_ret
          exact ⟨ret_int Hr.out.symm, rfl⟩
        | false =>
          have hJ2 := hid (show ∀ j, 2 ≤ j → j < k + 1 → eqB (kwOf j) x = false from fun j h1 h2 => by
            by_cases e : j = k
            · subst e; rw [Hkw.out, heq, he]
            · exact hJ.out j h1 (by omega))
          clear heq
          go_wp2_with fail
          go_round
          case rel => exact ⟨k + 1, by omega, by omega, by go_num, hJ2⟩
          case measure => simp [intOf]; omega
      · have hk : k = 10 := by omega
        subst hk
        have Hr := hid (opW_miss HN.out hJ.out)
        go_wp2_with fail
        go_ret
        exact ⟨ret_int Hr.out.symm, rfl⟩
theorem devBegF_any (x : ByteArray) (w : World) : Calls Tryd.prog 78 #[.string x] w fun e w' => e = .returned (.bool (begF x)) ∧ w = w' := by
  have hb : begF x = (x.toList == [102, 117, 110, 99]) := by unfold begF eqB; rw [toList_data kwFunc]; rfl
  have HB := hid hb
  clear hb
  go_enter Tryd.func78, Tryd.ntmps78
  go_wp2_with fail
  go_ret
  exact ⟨ret_bool HB.out.symm, rfl⟩
theorem devBegB_any (x : ByteArray) (w : World) : Calls Tryd.prog 111 #[.string x] w fun e w' => e = .returned (.bool (begB x)) ∧ w = w' := by
  have hb : begB x = (x.toList == [98, 108, 111, 99, 107]) := by unfold begB eqB; rw [toList_data kwBlock]; rfl
  have HB := hid hb
  clear hb
  go_enter Tryd.func111, Tryd.ntmps111
  go_wp2_with fail
  go_ret
  exact ⟨ret_bool HB.out.symm, rfl⟩
theorem devBegS_any (x : ByteArray) (w : World) (hx : x.size ≤ 16) (hs : Shp w) : Calls Tryd.prog 133 #[.string x] w fun e w' => e = .returned (.bool (begS x)) ∧ w = w' := by
  have hb : begS x = (opW x != 0) := rfl
  have HB := hid hb
  have HC := hid (devOperation_any x w hx hs)
  clear hb hs
  generalize opW x = o at *
  cases ho : (o != 0)
  all_goals
    rw [ho] at HB
    go_enter Tryd.func133, Tryd.ntmps133
    go_wp2_with fail
    refine HC.out.mono ?_
    rintro e w' ⟨rfl, rfl⟩
    go_wp2_with fail
    go_ret
    exact ⟨ret_bool HB.out.symm, rfl⟩
end Go.Proofs.YtlepcgncphikhaaDoor

namespace Go.Proofs.YtlepcgncphikhaaDoor
set_option maxRecDepth 20000
set_option linter.unusedVariables false
set_option linter.unusedSimpArgs false
open Go.ChangeShapes Go.WideShapes Go.ChangeAt Go.RowKit

structure Lg {α : Type} (K : Kind α) (w0 : World) (b : Nat) (σ : Ds) (v : Value) (l : List α) (w : World) : Prop where
  st : DTo w0 b σ w
  old : b < w0.heap.size
  own : w.ownsRow w0.heap.size K.te K.k v l.length (l.flatMap K.f)
  all : ∀ x ∈ l, FrV w0.heap.size v (K.P x) w
  none_ : l = [] → v = .slice none 0 0
theorem DTo.own {w w' : World} {b base k : Nat} {ty : TypeId} {σ : Ds} {v : Value} {n : Nat} {xs : List Value} (h : w.ownsRow base ty k v n xs) (hr : DTo w b σ w') (hb : b < base) : w'.ownsRow base ty k v n xs :=
  h.kept hr.2 (by
    cases e : v.ownBlock with
    | none => exact .inl rfl
    | some g => exact .inr (by intro e2; have := own_row h hb; rw [e] at this; exact this e2.symm))
section
variable {α : Type} {K : Kind α} {w0 w w' : World} {b : Nat} {σ σ' : Ds} {v : Value} {l : List α}
theorem Lg.start (h : Dst w0 b σ) : Lg K w0 b σ (.slice none 0 0) [] w0 := ⟨.refl h, h.lt, World.ownsRow_nil _ _ _ _, by simp, fun _ => rfl⟩
theorem Lg.call (h : Lg K w0 b σ v l w) (hr : DTo w b σ' w') : Lg K w0 b σ' v l w' :=
  ⟨h.st.trans hr, h.old, DTo.own h.own hr h.old, fun x hx => (h.all x hx).grown (K.go x) hr.2 (fun k hk => by injection hk with hk; have := h.old; omega), h.none_⟩
theorem Lg.below (h : Lg K w0 b σ v l w) (hb : Below w.heap.size w w') : Lg K w0 b σ v l w' := h.call ((DTo.refl h.st.1).belowr hb)
theorem Lg.push {o : Obj} {w9 : World} {g9 cap9 : Nat} {x : α} (h : Lg K w0 b σ v l w) (hx : FrV w0.heap.size v (K.P x) w) (hg : (w.alloc o).grownBy w9 v.ownBlock)
    (hown : w9.ownsRow w0.heap.size K.te K.k (.slice (some ⟨g9, 0, none⟩) (l.length + 1) cap9) (l.length + 1) (l.flatMap K.f ++ K.f x)) (hat : v.ownBlock = some g9 ∨ g9 = (w.alloc o).heap.size) :
    Lg K w0 b σ (.slice (some ⟨g9, 0, none⟩) (l.length + 1) cap9) (l ++ [x]) w9 := by
  have ha : Below w.heap.size w (w.alloc o) := (Below.refl _ _).alloc (Nat.le_refl _) o
  have h1 := h.below ha
  have ho := h.old
  have hlt : ∀ k, v.ownBlock = some k → w0.heap.size ≤ k := fun k hk => (h1.own.lt k hk).1
  have hne : ∀ k, k < w0.heap.size → some k ≠ v.ownBlock := fun k hk e => by have := hlt k e.symm; omega
  refine ⟨⟨h1.st.1.grown hg (fun k hk => by have := hlt k hk; omega), ?_⟩, ho, ?_, ?_, fun e => by simp at e⟩
  · have h2 := h1.st.2
    exact ⟨hg.os.trans h2.os, hg.tape.trans h2.tape, hg.output.trans h2.output, Nat.le_trans h2.size hg.size, fun i hi hne2 => (hg.block i (Nat.lt_of_lt_of_le hi h2.size) (hne i hi)).trans (h2.block i hi hne2)⟩
  · rw [List.flatMap_append, List.length_append]
    have e : [x].flatMap K.f = K.f x := by simp
    rw [e]
    exact hown
  · intro y hy
    have hyV : FrV w0.heap.size v (K.P y) (w.alloc o) := by
      rcases List.mem_append.1 hy with hy | hy
      · exact h1.all y hy
      · simp at hy; subst hy; exact hx.grown (K.go y) (grown_of_below ha none) (fun k hk => by cases hk)
    exact hyV.push (K.go y) hg (v' := .slice (some ⟨g9, 0, none⟩) (l.length + 1) cap9) (g := g9) rfl hat
theorem Lg.fresh {x : α} {wc : World} (h : Lg K w0 b σ v l wc) (hx : Fr wc.heap.size (K.P x) w) : FrV w0.heap.size v (K.P x) w := FrV.fresh hx h.st.2.size (fun k hk => (h.own.lt k hk).2)
end
def Drel {α : Type} (bb : ByteArray → Bool) (part : Ds → α × Ds) (N : Nat) (σ0 : Ds) (done : List α) (n : Nat) (σ : Ds) : Prop :=
  done.length + n = N ∧ listS bb part N σ0 = (done ++ (listS bb part n σ).1, (listS bb part n σ).2)
section
variable {α : Type} {bb : ByteArray → Bool} {part : Ds → α × Ds} {N n : Nat} {σ0 σ : Ds} {done : List α}
theorem Drel.start : Drel bb part N σ0 [] N σ0 := ⟨by simp, by simp⟩
theorem Drel.step (h : Drel bb part N σ0 done (n + 1) σ) (hb : bb (nxt σ.l).text = true) : Drel bb part N σ0 (done ++ [(part σ).1]) n (part σ).2 := by
  refine ⟨by have := h.1; simp; omega, ?_⟩
  rw [h.2]
  conv => lhs; unfold listS
  rw [hb]; simp
theorem Drel.step_as {γ : Type} {pr : γ → α} {l : List γ} {x : γ} (h : Drel bb part N σ0 (l.map pr) (n + 1) σ) (hb : bb (nxt σ.l).text = true) (hx : pr x = (part σ).1) : Drel bb part N σ0 ((l ++ [x]).map pr) n (part σ).2 := by
  have := h.step hb
  rw [List.map_append, List.map_singleton, hx]
  exact this
theorem Drel.stop (h : Drel bb part N σ0 done n σ) (hb : bb (nxt σ.l).text = false) : listS bb part N σ0 = (done, σ) := by
  rw [h.2]
  cases n <;> (unfold listS; rw [hb]; simp)
theorem Drel.full (h : Drel bb part N σ0 done 0 σ) (hb : bb (nxt σ.l).text = true) : listS bb part N σ0 = (done, failS 7 σ) := by
  rw [h.2]
  unfold listS
  rw [hb]; simp
end
/-- What a list returns. -/
def RetLs {α β : Type} (K : Kind α) (pr : α → β) (w : World) (b : Nat) (r : List β × Ds) (e : Ending) (w' : World) : Prop :=
  ∃ (B : Option Addr) (d : Nat) (l : List α), e = .returned (.slice B l.length d) ∧ l.map pr = r.1 ∧ w'.ownsRow w.heap.size K.te K.k (.slice B l.length d) l.length (l.flatMap K.f) ∧ (∀ x ∈ l, Fr w.heap.size (K.P x) w') ∧ DTo w b r.2 w'
theorem Lg.done {α β : Type} {K : Kind α} {pr : α → β} {w0 w : World} {b d : Nat} {B : Option Addr} {σ : Ds} {l : List α} (h : Lg K w0 b σ (.slice B l.length d) l w) {r : List β × Ds} (hr : r = (l.map pr, σ)) : RetLs K pr w0 b r (.returned (.slice B l.length d)) w := by
  subst hr
  exact ⟨B, d, l, rfl, rfl, h.own, fun x hx => (h.all x hx).fr, h.st⟩
theorem Lg.done2 {α β : Type} {K : Kind α} {pr : α → β} {w0 w : World} {b n m d : Nat} {B : Option Addr} {σ : Ds} {l : List α} (h : Lg K w0 b σ (.slice B n d) l w) (hn : n = l.length) (hm : m = l.length) {r : List β × Ds} (hr : r = (l.map pr, σ)) : RetLs K pr w0 b r (.returned (.slice B m d)) w := by
  subst hn
  subst hm
  exact h.done hr
def KStr : Kind ByteArray := ⟨fun x => [.string x], 1, 9, 0, fun x _ _ => x.size ≤ 16, fun _ _ _ _ _ h _ => h⟩
def KF : Kind FH := ⟨fhc, 2, 58, 34, FP, fun _ _ _ _ _ h hg => FHok.go h hg⟩
theorem flat_str (l : List ByteArray) : l.flatMap KStr.f = l.map Value.string := by
  show l.flatMap (fun x => [Value.string x]) = _
  induction l with
  | nil => rfl
  | cons x l ih => rw [List.flatMap_cons, ih]; rfl
/-- What the package's stmt, block and function return. -/
def RetDs (w : World) (b : Nat) (r : Stm × Ds) (e : Ending) (w' : World) : Prop := ∃ x : SH, e = .returned (agS x) ∧ x.t = r.1 ∧ Fr w.heap.size (TP x) w' ∧ DTo w b r.2 w'
def RetDb (w : World) (b : Nat) (r : Blk × Ds) (e : Ending) (w' : World) : Prop := ∃ x : BH, e = .returned (agB x) ∧ x.b = r.1 ∧ Fr w.heap.size (BP x) w' ∧ DTo w b r.2 w'
def RetDf (w : World) (b : Nat) (r : Fnc × Ds) (e : Ending) (w' : World) : Prop := ∃ x : FH, e = .returned (agF x) ∧ x.f = r.1 ∧ Fr w.heap.size (FP x) w' ∧ DTo w b r.2 w'
theorem Dst.shp {w : World} {b : Nat} {σ : Ds} (h : Dst w b σ) : Shp w := h.tab
end Go.Proofs.YtlepcgncphikhaaDoor

namespace Go.Proofs.YtlepcgncphikhaaDoor
set_option maxRecDepth 20000
set_option linter.unusedVariables false
set_option linter.unusedSimpArgs false
open Go.ChangeShapes Go.WideShapes Go.ChangeAt Go.RowKit
attribute [local go_sem] fieldTok0 fieldTok1 fieldTok2 fieldTok3

set_option maxHeartbeats 3200000 in
theorem devList_str (b : Nat) (σ : Ds) (w : World) (h : Dst w b σ) :
    Calls Tryd.prog 149 #[.pointer (some ⟨b, 0, none⟩), .int .i64 4, .func (Fn.func 117) #[] #[], .func (Fn.func 108) #[.pointer (some ⟨b, 0, none⟩)] #[]] w (RetLs KStr id w b (listS nameB nameS 4 σ)) := by
  have Hst := hid (Lg.start (K := KStr) h)
  clear h
  obtain ⟨i0, hi, hz0, hz1, hz2⟩ := info_parts info9
  have Hi := hid hi; have Hz0 := hid hz0; have Hz1 := hid hz1; have Hz2 := hid hz2
  clear hi hz0 hz1 hz2
  go_enter Tryd.func149, Tryd.ntmps149
  go_wp2_with fail
  go_loopw [9] (fun v wr => ∃ (l : List ByteArray) (n : Nat) (σ2 : Ds), Hid (Lg KStr w b σ2 v l wr) ∧ Hid (Drel nameB nameS 4 σ (l.map id) n σ2)) (fun v _ => 4 + 1 - (lenOf v))
  case atStart => exact ⟨[], 4, σ, Hst.out, Drel.start⟩
  case round =>
    clear Hst
    obtain ⟨l, n, σ2, H, HL⟩ := hrel
    obtain ⟨B, d, hv⟩ := own_any_slice H.out.own
    subst hv
    have hlen : l.length + n = 4 := by have := HL.out.1; simpa using this
    have Hm := hid (show lenOf (.slice B l.length d) = l.length from rfl)
    cases hb : nameB (nxt σ2.l).text with
    | false =>
      have HB := hid hb
      clear hb
      go_wp2_with fail
      refine (devNext_any b σ2 _ H.out.st.1).mono ?_
      rintro e w1 ⟨rfl, hb1⟩
      have H1 := hid (H.out.below hb1)
      clear hb1
      unfold agT
      go_wp2_with fail
      refine (devIsName_any (nxt σ2.l).text _ (by have := H1.out.st.1.text16; unfold maxLen; omega)).mono ?_
      rw [HB.out]
      rintro e w' ⟨rfl, rfl⟩
      go_wp2
      go_ret
      exact H1.out.done (HL.out.stop HB.out)
    | true =>
      have HB := hid hb
      clear hb
      cases n with
      | zero =>
        have tl : ((l.length : Int) == 4) = true := by simp; omega
        have Htl := hid tl
        clear tl
        go_wp2_with fail
        refine (devNext_any b σ2 _ H.out.st.1).mono ?_
        rintro e w1 ⟨rfl, hb1⟩
        have H1 := hid (H.out.below hb1)
        clear hb1
        unfold agT
        go_wp2_with fail
        refine (devIsName_any (nxt σ2.l).text _ (by have := H1.out.st.1.text16; unfold maxLen; omega)).mono ?_
        rw [HB.out]
        rintro e w' ⟨rfl, rfl⟩
        generalize hn0 : l.length = n0 at *
        have Hn0 := hid hn0
        clear hn0
        have tl := Htl.out
        go_wp2_with fail
        refine (devFail_any b σ2 7 _ H1.out.st.1).mono ?_
        rintro e w2 ⟨rfl, h2⟩
        have H2 := hid (H1.out.call h2)
        clear h2
        go_wp2
        go_ret
        exact Lg.done2 H2.out Hn0.out.symm (by first | exact Hn0.out.symm | (have := Hn0.out; omega)) (HL.out.full HB.out)
      | succ n =>
        have tl : ((l.length : Int) == 4) = false := by simp; omega
        have hl32 : l.length < 4 := by omega
        go_wp2_with fail
        refine (devNext_any b σ2 _ H.out.st.1).mono ?_
        rintro e w1 ⟨rfl, hb1⟩
        have H1 := hid (H.out.below hb1)
        clear hb1
        unfold agT
        go_wp2_with fail
        refine (devIsName_any (nxt σ2.l).text _ (by have := H1.out.st.1.text16; unfold maxLen; omega)).mono ?_
        rw [HB.out]
        rintro e w' ⟨rfl, rfl⟩
        go_wp2_with fail
        refine (devName_any b σ2 _ H1.out.st.1).mono ?_
        rintro e w2 ⟨rfl, h2⟩
        have H2 := hid (H1.out.call h2)
        have H16 := H1.out.st.1.name16
        clear h2
        have HxV := hid (show FrV w.heap.size (.slice B l.length d) (KStr.P (nameS σ2).1) w2 from fun ex he => H16)
        have Hxt := hid (rfl : (nameS σ2).1 = (nameS σ2).1)
        clear H16
        generalize hx : (nameS σ2).1 = x at *
        have Hx := hid hx
        clear hx
        have hbase := H2.out.st.2.size
        have Hp := hid (fun (g5 cap5 : Nat) (w5 : World) hown5 hgr5 hat5 => Lg.push (x := x) (g9 := g5) (cap9 := cap5) (w9 := w5) (o := .cells ([.string x]).toArray 9) H2.out HxV.out hgr5 hown5 hat5)
        go_wp2_with ((
          at_builtin
          refine wpList_append_lies _ rfl _ _ 42 rfl w.heap.size 9 i0 _ 1 16 Tryd.underlying42 Hi.out Hz0.out Hz1.out Hz2.out rfl (by decide) _ l.length (l.flatMap (Kind.f KStr)) rfl (World.ownsRow.alloc H2.out.own _) ⟨w2.heap.size, 0, none⟩ 1 1 ([.string x]) rfl rfl (one_str _ _ _) (one_strc _) (by omega) (by unfold maxLen; omega) (by omega) (by rw [World.size_alloc]; omega) _ rfl ?_
          intro g5 cap5 w5 hown5 hgr5 hat5 hlt5
          have H5 := hid (Hp.out g5 cap5 w5 hown5 hgr5 hat5)
          clear hown5 hgr5 hat5 hlt5))
        go_roundw
        case rel => exact ⟨_, n, _, H5.out, HL.out.step_as HB.out (Hx.out.symm)⟩
        case measure => show 4 + 1 - (l.length + 1) < 4 + 1 - lenOf (.slice B l.length d); rw [Hm.out]; omega
set_option maxHeartbeats 1600000 in
theorem devSome_str (b : Nat) (σ : Ds) (w : World) (h : Dst w b σ) :
    Calls Tryd.prog 150 #[.pointer (some ⟨b, 0, none⟩), .int .i64 4, .func (Fn.func 117) #[] #[], .func (Fn.func 108) #[.pointer (some ⟨b, 0, none⟩)] #[]] w (RetLs KStr id w b (someS nameB nameS 4 σ)) := by
  have H := hid h
  clear h
  go_enter Tryd.func150, Tryd.ntmps150
  go_wp2_with fail
  refine (devList_str b σ _ H.out).mono ?_
  rintro e w1 ⟨B, d, l, rfl, hl, hown, hfr, h1⟩
  have hR : someS nameB nameS 4 σ = ((listS nameB nameS 4 σ).1, if (listS nameB nameS 4 σ).1.isEmpty then failS 4 (listS nameB nameS 4 σ).2 else (listS nameB nameS 4 σ).2) := rfl
  have HR := hid hR
  have Hl := hid hl; have Hown := hid hown; have Hfr := hid hfr; have H1 := hid h1
  have Hlt := hid H.out.lt
  clear hR hl hown hfr h1
  generalize listS nameB nameS 4 σ = r at *
  obtain ⟨r1, σ1⟩ := r
  cases l with
  | nil =>
    have hr : r1 = [] := Hl.out.symm
    subst hr
    go_wp2_with fail
    refine (devFail_any b σ1 4 _ H1.out.1).mono ?_
    rintro e w2 ⟨rfl, h2⟩
    have H2 := hid h2
    clear h2
    go_wp2
    go_ret
    rw [HR.out]
    exact ⟨B, d, [], rfl, rfl, DTo.own Hown.out H2.out Hlt.out, by simp, H1.out.trans H2.out⟩
  | cons x l =>
    have hr : r1.isEmpty = false := by have h1 : List.map id (x :: l) = r1 := Hl.out; rw [← h1]; rfl
    rw [hr] at HR
    clear hr
    generalize hn0 : (x :: l).length = n0 at *
    have Hn0 := hid hn0
    have hpos : 0 < n0 := by rw [← hn0]; simp
    clear hn0
    go_wp2
    go_ret
    rw [HR.out]
    exact ⟨B, d, x :: l, by rw [Hn0.out]; rfl, Hl.out, by rw [Hn0.out]; exact Hown.out, Hfr.out, H1.out⟩
end Go.Proofs.YtlepcgncphikhaaDoor

namespace Go.Proofs.YtlepcgncphikhaaDoor
set_option maxRecDepth 20000
set_option linter.unusedVariables false
set_option linter.unusedSimpArgs false
open Go.ChangeShapes Go.WideShapes Go.ChangeAt Go.RowKit
attribute [local go_sem] fieldTok0 fieldTok1 fieldTok2 fieldTok3
attribute [local go_sem ↓] Go.wp_at_zero Go.wp_at_succ

structure Sd (w0 : World) (b g : Nat) (σ : Ds) (x : SH) (w : World) : Prop where
  st : DTo w0 b σ w
  old : b < w0.heap.size
  hi : w0.heap.size < g
  f2 : Fb w w0.heap.size #[.int .i64 0, .string ⟨#[]⟩, .slice none 0 0, .slice none 0 0] 46
  f3 : Fb w g #[.int .i64 x.t.op, .string x.t.d, .slice x.A x.n x.c, .slice x.B x.m x.c2] 46
  fr : Fr (g + 1) (TP x) w
section
variable {w0 w w' : World} {b g : Nat} {σ σ' : Ds} {A1 : Option Addr} {n1 c1 : Nat} {B1 : Option Addr} {m1 d1 : Nat} {op : Int} {d : ByteArray} {us ts : List ByteArray} {x : SH}
theorem Sd.start (h : DTo w0 b σ w) (ho : b < w0.heap.size) (hf : Fb w w0.heap.size #[.int .i64 0, .string ⟨#[]⟩, .slice none 0 0, .slice none 0 0] 46) (o : Int) :
    Sd w0 b w.heap.size σ ⟨none, 0, 0, none, 0, 0, ⟨o, ⟨#[]⟩, [], []⟩⟩ (w.alloc (.cells #[.int .i64 o, .string ⟨#[]⟩, .slice none 0 0, .slice none 0 0] 46)) :=
  ⟨h.belowr ((Below.refl _ _).alloc (Nat.le_refl _) _), ho, hf.lt, hf.alloc _, Fb.new w _ _, fun ex _ => ⟨SSafe.nil _ _ _, SSafe.nil _ _ _, by show (0 : Nat) ≤ 1000; omega⟩⟩
theorem Sd.call (h : Sd w0 b g σ x w) (hr : DTo w b σ' w') : Sd w0 b g σ' x w' :=
  ⟨h.st.trans hr, h.old, h.hi, h.f2.grown hr.2 (by have := h.old; simp; omega), h.f3.grown hr.2 (by have := h.old; have := h.hi; simp; omega), h.fr.grown TP.go hr.2 (fun k hk => by injection hk with hk; have := h.old; have := h.hi; omega)⟩
theorem Sd.below (h : Sd w0 b g σ x w) (hb : Below w.heap.size w w') : Sd w0 b g σ x w' := h.call ((DTo.refl h.st.1).belowr hb)
theorem Sd.alloc (h : Sd w0 b g σ x w) (o : Obj) : Sd w0 b g σ x (w.alloc o) := h.below ((Below.refl _ _).alloc (Nat.le_refl _) o)
theorem Sd.drewN (h : Sd w0 b g σ x w) (q : Nat) : Sd w0 b g σ x (w.drewN q) := h.below (below_drewN (Below.refl _ _) q)
theorem Sd.size (h : Sd w0 b g σ x w) : g + 1 ≤ w.heap.size := h.f3.lt
theorem Sd.put (h : Sd w0 b g σ x w) (j : Nat) (u : Value) (x' : SH)
    (hc : (#[.int .i64 x.t.op, .string x.t.d, .slice x.A x.n x.c, .slice x.B x.m x.c2] : Array Value).setIfInBounds j u = #[.int .i64 x'.t.op, .string x'.t.d, .slice x'.A x'.n x'.c, .slice x'.B x'.m x'.c2])
    (hf : Fr (g + 1) (TP x') w) : Sd w0 b g σ x' (w.setCell ⟨g, j, none⟩ u) := by
  have ho := h.old
  have hi := h.hi
  refine ⟨⟨h.st.1.far (by show b < g; omega) u, grown_set_new h.st.2 (by show w0.heap.size ≤ g; omega) u⟩, ho, hi, h.f2.far (by show w0.heap.size ≠ g; omega) u, ?_, hf.grown TP.go (setCell_grown w _ _) (fun k hk => by injection hk with hk; have : g = k := hk; omega)⟩
  have := h.f3.set j u
  rw [hc] at this
  exact this
theorem Sd.putD (h : Sd w0 b g σ ⟨A1, n1, c1, B1, m1, d1, ⟨op, d, us, ts⟩⟩ w) (y : ByteArray) (hy : y.size ≤ 16) : Sd w0 b g σ ⟨A1, n1, c1, B1, m1, d1, ⟨op, y, us, ts⟩⟩ (w.setCell ⟨g, 1, none⟩ (.string y)) :=
  h.put 1 _ _ rfl (fun ex he => ⟨(h.fr ex he).uses, (h.fr ex he).targets, by show y.size ≤ 1000; omega⟩)
theorem Sd.putU (h : Sd w0 b g σ ⟨A1, n1, c1, B1, m1, d1, ⟨op, d, us, ts⟩⟩ w) {A2 : Option Addr} {n2 c2 : Nat} {us2 : List ByteArray} (hf : Fr (g + 1) (SP A2 n2 us2) w) :
    Sd w0 b g σ ⟨A2, n2, c2, B1, m1, d1, ⟨op, d, us2, ts⟩⟩ (w.setCell ⟨g, 2, none⟩ (.slice A2 n2 c2)) :=
  h.put 2 _ _ rfl (fun ex he => ⟨hf ex he, (h.fr ex he).targets, (h.fr ex he).small⟩)
theorem Sd.putT (h : Sd w0 b g σ ⟨A1, n1, c1, B1, m1, d1, ⟨op, d, us, ts⟩⟩ w) {A2 : Option Addr} {n2 c2 : Nat} {ts2 : List ByteArray} (hf : Fr (g + 1) (SP A2 n2 ts2) w) :
    Sd w0 b g σ ⟨A1, n1, c1, A2, n2, c2, ⟨op, d, us, ts2⟩⟩ (w.setCell ⟨g, 3, none⟩ (.slice A2 n2 c2)) :=
  h.put 3 _ _ rfl (fun ex he => ⟨(h.fr ex he).uses, hf ex he, (h.fr ex he).small⟩)
theorem Sd.putU1 (h : Sd w0 b g σ ⟨A1, n1, c1, B1, m1, d1, ⟨op, d, us, ts⟩⟩ w) (y : ByteArray) (hy : y.size ≤ 16) :
    Sd w0 b g σ ⟨some ⟨w.heap.size, 0, none⟩, 1, 1, B1, m1, d1, ⟨op, d, [y], ts⟩⟩ ((w.setCell ⟨g, 2, none⟩ (.slice (some ⟨w.heap.size, 0, none⟩) 1 1)).alloc (.cells #[.string y] 9)) := by
  have hz := h.size
  have e : Sd w0 b g σ ⟨some ⟨w.heap.size, 0, none⟩, 1, 1, B1, m1, d1, ⟨op, d, [y], ts⟩⟩ ((w.alloc (.cells #[.string y] 9)).setCell ⟨g, 2, none⟩ (.slice (some ⟨w.heap.size, 0, none⟩) 1 1)) := (h.alloc _).putU (frs_one h.size (by omega))
  rw [World.setCell_alloc_past _ _ _ _ (by omega)] at e
  exact e
theorem Sd.putT1 (h : Sd w0 b g σ ⟨A1, n1, c1, B1, m1, d1, ⟨op, d, us, ts⟩⟩ w) (y : ByteArray) (hy : y.size ≤ 16) :
    Sd w0 b g σ ⟨A1, n1, c1, some ⟨w.heap.size, 0, none⟩, 1, 1, ⟨op, d, us, [y]⟩⟩ ((w.setCell ⟨g, 3, none⟩ (.slice (some ⟨w.heap.size, 0, none⟩) 1 1)).alloc (.cells #[.string y] 9)) := by
  have hz := h.size
  have e : Sd w0 b g σ ⟨A1, n1, c1, some ⟨w.heap.size, 0, none⟩, 1, 1, ⟨op, d, us, [y]⟩⟩ ((w.alloc (.cells #[.string y] 9)).setCell ⟨g, 3, none⟩ (.slice (some ⟨w.heap.size, 0, none⟩) 1 1)) := (h.alloc _).putT (frs_one h.size (by omega))
  rw [World.setCell_alloc_past _ _ _ _ (by omega)] at e
  exact e
theorem Sd.cells (h : Sd w0 b g σ ⟨A1, n1, c1, B1, m1, d1, ⟨op, d, us, ts⟩⟩ w) :
    (w.cell? ⟨g, 0, none⟩ = some (.int .i64 op) ∧ w.cell? ⟨g, 1, none⟩ = some (.string d) ∧ w.cell? ⟨g, 2, none⟩ = some (.slice A1 n1 c1) ∧ w.cell? ⟨g, 3, none⟩ = some (.slice B1 m1 d1)) ∧
    (w.frozen? ⟨g, 0, none⟩ = false ∧ w.frozen? ⟨g, 1, none⟩ = false ∧ w.frozen? ⟨g, 2, none⟩ = false ∧ w.frozen? ⟨g, 3, none⟩ = false) ∧
    (w.cell? ⟨w0.heap.size, 0, none⟩ = some (.int .i64 0) ∧ w.cell? ⟨w0.heap.size, 1, none⟩ = some (.string ⟨#[]⟩) ∧ w.cell? ⟨w0.heap.size, 2, none⟩ = some (.slice none 0 0) ∧ w.cell? ⟨w0.heap.size, 3, none⟩ = some (.slice none 0 0)) ∧
    (w.frozen? ⟨w0.heap.size, 0, none⟩ = false ∧ w.frozen? ⟨w0.heap.size, 1, none⟩ = false ∧ w.frozen? ⟨w0.heap.size, 2, none⟩ = false ∧ w.frozen? ⟨w0.heap.size, 3, none⟩ = false) ∧ g < w.heap.size ∧ w0.heap.size < w.heap.size ∧ w0.heap.size ≠ g :=
  ⟨h.f3.four, ⟨h.f3.frozen 0, h.f3.frozen 1, h.f3.frozen 2, h.f3.frozen 3⟩, h.f2.four, ⟨h.f2.frozen 0, h.f2.frozen 1, h.f2.frozen 2, h.f2.frozen 3⟩, h.f3.lt, h.f2.lt, by have := h.hi; omega⟩
theorem Sd.row {wa w9 : World} {k : Nat} (h : Sd w0 b g σ x w) (ha : Below w.heap.size w wa) {v : Value} (hg : wa.grownBy w9 v.ownBlock) (hge : ∀ k, v.ownBlock = some k → g + 1 ≤ k) (j : Nat) (u : Value) (x' : SH)
    (hc : (#[.int .i64 x.t.op, .string x.t.d, .slice x.A x.n x.c, .slice x.B x.m x.c2] : Array Value).setIfInBounds j u = #[.int .i64 x'.t.op, .string x'.t.d, .slice x'.A x'.n x'.c, .slice x'.B x'.m x'.c2])
    (hf : Fr (g + 1) (TP x') w9) : Sd w0 b g σ x' (w9.setCell ⟨g, j, none⟩ u) := by
  have h1 := h.below ha
  have ho := h.old
  have hi := h.hi
  have hz := h1.size
  have hne : ∀ i, i ≤ g → some i ≠ v.ownBlock := fun i hi2 e => by have := hge i e.symm; omega
  refine ⟨⟨(h1.st.1.grown hg (fun k hk => by have := hge k hk; omega)).far (by show b < g; omega) u, grown_set_new ?_ (by show w0.heap.size ≤ g; omega) u⟩, ho, hi, (h1.f2.grown hg (hne _ (by omega))).far (by show w0.heap.size ≠ g; omega) u, ?_, hf.grown TP.go (setCell_grown _ _ _) (fun k hk => by injection hk with hk; have : g = k := hk; omega)⟩
  · have h2 := h1.st.2
    exact ⟨hg.os.trans h2.os, hg.tape.trans h2.tape, hg.output.trans h2.output, Nat.le_trans h2.size hg.size, fun i hi2 hne2 => (hg.block i (Nat.lt_of_lt_of_le hi2 h2.size) (hne i (by omega))).trans (h2.block i hi2 hne2)⟩
  · have := (h1.f3.grown hg (hne _ (Nat.le_refl _))).set j u
    rw [hc] at this
    exact this
theorem Sd.done (h : Sd w0 b g σ x w) (p q r s : Value) {R : Stm × Ds} (hR : R = (x.t, σ)) :
    RetDs w0 b R (.returned (agS x)) ((((w.setCell ⟨w0.heap.size, 0, none⟩ p).setCell ⟨w0.heap.size, 1, none⟩ q).setCell ⟨w0.heap.size, 2, none⟩ r).setCell ⟨w0.heap.size, 3, none⟩ s) := by
  subst hR
  have hi := h.hi
  have hg : w.grownBy ((((w.setCell ⟨w0.heap.size, 0, none⟩ p).setCell ⟨w0.heap.size, 1, none⟩ q).setCell ⟨w0.heap.size, 2, none⟩ r).setCell ⟨w0.heap.size, 3, none⟩ s) (some w0.heap.size) :=
    grown_two (grown_two (grown_two (setCell_grown w ⟨w0.heap.size, 0, none⟩ p) (setCell_grown _ ⟨w0.heap.size, 1, none⟩ q)) (setCell_grown _ ⟨w0.heap.size, 2, none⟩ r)) (setCell_grown _ ⟨w0.heap.size, 3, none⟩ s)
  refine ⟨x, rfl, rfl, (h.fr.grown TP.go hg (fun k hk => by injection hk with hk; omega)).less (by omega), h.st.1.grown hg (fun k hk => by injection hk with hk; have := h.old; omega), ?_⟩
  have e := fun (w' : World) (g : w0.grownBy w' (some b)) (p : Addr) (hp : p.block = w0.heap.size) u => grown_set_new g (p := p) (by omega) u
  exact e _ (e _ (e _ (e _ h.st.2 _ rfl p) _ rfl q) _ rfl r) _ rfl s
end
theorem begS_ne {l : List Tok} (he : begS (nxt l).text = true) : l ≠ [] := by
  rintro rfl
  rw [show (nxt []).text = noB from rfl, begS_no] at he
  cases he
theorem opS1 (x : ByteArray) (σ : Ds) : opS 1 x σ = (⟨1, x, (listS nameB nameS 4 (wordS kwEq σ)).1, []⟩, (listS nameB nameS 4 (wordS kwEq σ)).2) := rfl
theorem opS2 (x : ByteArray) (σ : Ds) : opS 2 x σ = (⟨2, ⟨#[]⟩, (someS nameB nameS 4 σ).1, []⟩, (someS nameB nameS 4 σ).2) := rfl
theorem opS3 (x : ByteArray) (σ : Ds) : opS 3 x σ = (⟨3, ⟨#[]⟩, [], [(nameS σ).1]⟩, (nameS σ).2) := rfl
theorem opS4 (x : ByteArray) (σ : Ds) : opS 4 x σ = (⟨4, (nameS σ).1, [], []⟩, (nameS σ).2) := rfl
theorem opS5 (x : ByteArray) (σ : Ds) : opS 5 x σ = (⟨5, ⟨#[]⟩, [(nameS σ).1], []⟩, (nameS σ).2) := rfl
theorem opS6 (x : ByteArray) (σ : Ds) : opS 6 x σ = (⟨6, (nameS σ).1, [], []⟩, (nameS σ).2) := rfl
theorem opS7 (x : ByteArray) (σ : Ds) : opS 7 x σ = (⟨7, ⟨#[]⟩, [], [(nameS σ).1]⟩, (nameS σ).2) := rfl
theorem opS8 (x : ByteArray) (σ : Ds) : opS 8 x σ = (⟨8, ⟨#[]⟩, [(nameS σ).1], [(nameS (nameS σ).2).1, (nameS (nameS (nameS σ).2).2).1]⟩, (nameS (nameS (nameS σ).2).2).2) := rfl
theorem opS9 (x : ByteArray) (σ : Ds) : opS 9 x σ = (⟨9, ⟨#[]⟩, [], []⟩, σ) := rfl
theorem opS0 (x : ByteArray) (σ : Ds) : opS 0 x σ = (⟨0, ⟨#[]⟩, [], []⟩, σ) := rfl
theorem opW_range (x : ByteArray) : opW x = 0 ∨ opW x = 1 ∨ opW x = 2 ∨ opW x = 3 ∨ opW x = 4 ∨ opW x = 5 ∨ opW x = 6 ∨ opW x = 7 ∨ opW x = 8 ∨ opW x = 9 := by
  unfold opW
  repeat' split
  all_goals simp
set_option maxHeartbeats 3200000 in
theorem devStmt0 (b : Nat) (σ : Ds) (w : World) (h : Dst w b σ) (ho : opW (takeS (begS (nxt σ.l).text) σ).1 = 0) :
    Calls Tryd.prog 134 #[.pointer (some ⟨b, 0, none⟩)] w (RetDs w b (stmtS σ)) := by
  have H := hid h
  have Hlt := hid h.lt
  have H16 := hid (h.take16 (begS (nxt σ.l).text))
  have hR : stmtS σ = ((opS (opW (takeS (begS (nxt σ.l).text) σ).1) (takeS (begS (nxt σ.l).text) σ).1 (takeS (begS (nxt σ.l).text) σ).2).1, endS (opS (opW (takeS (begS (nxt σ.l).text) σ).1) (takeS (begS (nxt σ.l).text) σ).1 (takeS (begS (nxt σ.l).text) σ).2).2) := rfl
  rw [ho, opS0] at hR
  have HR := hid hR
  have Ho := hid ho
  have Hne := hid (@begS_ne σ.l)
  have h0 := hid (show Dst (w.alloc (.cells #[.int .i64 0, .string ⟨#[]⟩, .slice none 0 0, .slice none 0 0] 46)) b σ from h.below ((Below.refl _ _).alloc (Nat.le_refl _) _) h.lt)
  have hf0 := hid (Fb.new w #[.int .i64 0, .string ⟨#[]⟩, .slice none 0 0, .slice none 0 0] 46)
  have hb0 := hid ((Below.refl w.heap.size w).alloc (Nat.le_refl _) (.cells #[.int .i64 0, .string ⟨#[]⟩, .slice none 0 0, .slice none 0 0] 46))
  clear h hR ho
  go_enter Tryd.func134, Tryd.ntmps134
  go_wp2_with fail
  generalize w.alloc (.cells #[.int .i64 0, .string ⟨#[]⟩, .slice none 0 0, .slice none 0 0] 46) = wa at *
  refine (devNext_any b σ _ h0.out).mono ?_
  rintro e w1 ⟨rfl, hb1⟩
  have H1 := hid (h0.out.below hb1 h0.out.lt)
  have hf1 := hid (hf0.out.below hb1 hf0.out.lt)
  have hb2 := hid (below_step hb0.out hb1)
  clear hb1 h0 hf0 hb0
  unfold agT
  go_wp2_with fail
  refine (devBegS_any (nxt σ.l).text _ H1.out.text16 H1.out.tab).mono ?_
  rintro e w' ⟨rfl, rfl⟩
  generalize begS (nxt σ.l).text = bb at *
  go_wp2_with fail
  refine (devTake_any b σ bb _ H1.out Hne.out).mono ?_
  rintro e w2 ⟨rfl, h2⟩
  have H2 := hid (DTo.belowl hb2.out h2)
  have hf2 := hid (hf1.out.grown h2.2 (by have := Hlt.out; simp; omega))
  clear h2 H1 hf1 hb2 Hne
  generalize (takeS bb σ).1 = y at *
  generalize (takeS bb σ).2 = σ1 at *
  go_wp2_with fail
  refine (devOperation_any y _ H16.out H2.out.1.tab).mono ?_
  rw [Ho.out]
  rintro e w' ⟨rfl, rfl⟩
  have H3 := hid (Sd.start H2.out Hlt.out hf2.out 0)
  clear H2 hf2
  go_wp2_with fail
  generalize w2.alloc (.cells #[.int .i64 0, .string ⟨#[]⟩, .slice none 0 0, .slice none 0 0] 46) = w3 at *
  generalize w2.heap.size = g at *
  refine (devEnd_any b σ1 _ H3.out.st.1).mono ?_
  rintro e wz ⟨rfl, hz0⟩
  have HZ := hid (H3.out.call hz0)
  clear hz0
  obtain ⟨⟨p0, p1, p2, p3⟩, -, ⟨v0, v1, v2, v3⟩, ⟨s0, s1, s2, s3⟩, hsz, hsz2, hsz3⟩ := HZ.out.cells
  go_wp2_with fail
  refine bodyPost_ret (v := agS ⟨none, 0, 0, none, 0, 0, ⟨0, ⟨#[]⟩, [], []⟩⟩) (by simp [results, Tryd.results134, go_sem, p0, p1, p2, p3, s0, s1, s2, s3, v0, v1, v2, v3, hsz, hsz2, agS]) rfl ?_
  exact HZ.out.done _ _ _ _ HR.out
set_option maxHeartbeats 3200000 in
theorem devStmt9 (b : Nat) (σ : Ds) (w : World) (h : Dst w b σ) (ho : opW (takeS (begS (nxt σ.l).text) σ).1 = 9) :
    Calls Tryd.prog 134 #[.pointer (some ⟨b, 0, none⟩)] w (RetDs w b (stmtS σ)) := by
  have H := hid h
  have Hlt := hid h.lt
  have H16 := hid (h.take16 (begS (nxt σ.l).text))
  have hR : stmtS σ = ((opS (opW (takeS (begS (nxt σ.l).text) σ).1) (takeS (begS (nxt σ.l).text) σ).1 (takeS (begS (nxt σ.l).text) σ).2).1, endS (opS (opW (takeS (begS (nxt σ.l).text) σ).1) (takeS (begS (nxt σ.l).text) σ).1 (takeS (begS (nxt σ.l).text) σ).2).2) := rfl
  rw [ho, opS9] at hR
  have HR := hid hR
  have Ho := hid ho
  have Hne := hid (@begS_ne σ.l)
  have h0 := hid (show Dst (w.alloc (.cells #[.int .i64 0, .string ⟨#[]⟩, .slice none 0 0, .slice none 0 0] 46)) b σ from h.below ((Below.refl _ _).alloc (Nat.le_refl _) _) h.lt)
  have hf0 := hid (Fb.new w #[.int .i64 0, .string ⟨#[]⟩, .slice none 0 0, .slice none 0 0] 46)
  have hb0 := hid ((Below.refl w.heap.size w).alloc (Nat.le_refl _) (.cells #[.int .i64 0, .string ⟨#[]⟩, .slice none 0 0, .slice none 0 0] 46))
  clear h hR ho
  go_enter Tryd.func134, Tryd.ntmps134
  go_wp2_with fail
  generalize w.alloc (.cells #[.int .i64 0, .string ⟨#[]⟩, .slice none 0 0, .slice none 0 0] 46) = wa at *
  refine (devNext_any b σ _ h0.out).mono ?_
  rintro e w1 ⟨rfl, hb1⟩
  have H1 := hid (h0.out.below hb1 h0.out.lt)
  have hf1 := hid (hf0.out.below hb1 hf0.out.lt)
  have hb2 := hid (below_step hb0.out hb1)
  clear hb1 h0 hf0 hb0
  unfold agT
  go_wp2_with fail
  refine (devBegS_any (nxt σ.l).text _ H1.out.text16 H1.out.tab).mono ?_
  rintro e w' ⟨rfl, rfl⟩
  generalize begS (nxt σ.l).text = bb at *
  go_wp2_with fail
  refine (devTake_any b σ bb _ H1.out Hne.out).mono ?_
  rintro e w2 ⟨rfl, h2⟩
  have H2 := hid (DTo.belowl hb2.out h2)
  have hf2 := hid (hf1.out.grown h2.2 (by have := Hlt.out; simp; omega))
  clear h2 H1 hf1 hb2 Hne
  generalize (takeS bb σ).1 = y at *
  generalize (takeS bb σ).2 = σ1 at *
  go_wp2_with fail
  refine (devOperation_any y _ H16.out H2.out.1.tab).mono ?_
  rw [Ho.out]
  rintro e w' ⟨rfl, rfl⟩
  have H3 := hid (Sd.start H2.out Hlt.out hf2.out 9)
  clear H2 hf2
  go_wp2_with fail
  generalize w2.alloc (.cells #[.int .i64 9, .string ⟨#[]⟩, .slice none 0 0, .slice none 0 0] 46) = w3 at *
  generalize w2.heap.size = g at *
  refine (devEnd_any b σ1 _ H3.out.st.1).mono ?_
  rintro e wz ⟨rfl, hz0⟩
  have HZ := hid (H3.out.call hz0)
  clear hz0
  obtain ⟨⟨p0, p1, p2, p3⟩, -, ⟨v0, v1, v2, v3⟩, ⟨s0, s1, s2, s3⟩, hsz, hsz2, hsz3⟩ := HZ.out.cells
  go_wp2_with fail
  refine bodyPost_ret (v := agS ⟨none, 0, 0, none, 0, 0, ⟨9, ⟨#[]⟩, [], []⟩⟩) (by simp [results, Tryd.results134, go_sem, p0, p1, p2, p3, s0, s1, s2, s3, v0, v1, v2, v3, hsz, hsz2, agS]) rfl ?_
  exact HZ.out.done _ _ _ _ HR.out
set_option maxHeartbeats 3200000 in
theorem devStmt4 (b : Nat) (σ : Ds) (w : World) (h : Dst w b σ) (ho : opW (takeS (begS (nxt σ.l).text) σ).1 = 4) :
    Calls Tryd.prog 134 #[.pointer (some ⟨b, 0, none⟩)] w (RetDs w b (stmtS σ)) := by
  have H := hid h
  have Hlt := hid h.lt
  have H16 := hid (h.take16 (begS (nxt σ.l).text))
  have hR : stmtS σ = ((opS (opW (takeS (begS (nxt σ.l).text) σ).1) (takeS (begS (nxt σ.l).text) σ).1 (takeS (begS (nxt σ.l).text) σ).2).1, endS (opS (opW (takeS (begS (nxt σ.l).text) σ).1) (takeS (begS (nxt σ.l).text) σ).1 (takeS (begS (nxt σ.l).text) σ).2).2) := rfl
  rw [ho, opS4] at hR
  have HR := hid hR
  have Ho := hid ho
  have Hne := hid (@begS_ne σ.l)
  have h0 := hid (show Dst (w.alloc (.cells #[.int .i64 0, .string ⟨#[]⟩, .slice none 0 0, .slice none 0 0] 46)) b σ from h.below ((Below.refl _ _).alloc (Nat.le_refl _) _) h.lt)
  have hf0 := hid (Fb.new w #[.int .i64 0, .string ⟨#[]⟩, .slice none 0 0, .slice none 0 0] 46)
  have hb0 := hid ((Below.refl w.heap.size w).alloc (Nat.le_refl _) (.cells #[.int .i64 0, .string ⟨#[]⟩, .slice none 0 0, .slice none 0 0] 46))
  clear h hR ho
  go_enter Tryd.func134, Tryd.ntmps134
  go_wp2_with fail
  generalize w.alloc (.cells #[.int .i64 0, .string ⟨#[]⟩, .slice none 0 0, .slice none 0 0] 46) = wa at *
  refine (devNext_any b σ _ h0.out).mono ?_
  rintro e w1 ⟨rfl, hb1⟩
  have H1 := hid (h0.out.below hb1 h0.out.lt)
  have hf1 := hid (hf0.out.below hb1 hf0.out.lt)
  have hb2 := hid (below_step hb0.out hb1)
  clear hb1 h0 hf0 hb0
  unfold agT
  go_wp2_with fail
  refine (devBegS_any (nxt σ.l).text _ H1.out.text16 H1.out.tab).mono ?_
  rintro e w' ⟨rfl, rfl⟩
  generalize begS (nxt σ.l).text = bb at *
  go_wp2_with fail
  refine (devTake_any b σ bb _ H1.out Hne.out).mono ?_
  rintro e w2 ⟨rfl, h2⟩
  have H2 := hid (DTo.belowl hb2.out h2)
  have hf2 := hid (hf1.out.grown h2.2 (by have := Hlt.out; simp; omega))
  clear h2 H1 hf1 hb2 Hne
  generalize (takeS bb σ).1 = y at *
  generalize (takeS bb σ).2 = σ1 at *
  go_wp2_with fail
  refine (devOperation_any y _ H16.out H2.out.1.tab).mono ?_
  rw [Ho.out]
  rintro e w' ⟨rfl, rfl⟩
  have H3 := hid (Sd.start H2.out Hlt.out hf2.out 4)
  clear H2 hf2
  go_wp2_with fail
  generalize w2.alloc (.cells #[.int .i64 4, .string ⟨#[]⟩, .slice none 0 0, .slice none 0 0] 46) = w3 at *
  generalize w2.heap.size = g at *
  refine (devName_any b σ1 _ H3.out.st.1).mono ?_
  rintro e w4 ⟨rfl, h4⟩
  have H4 := hid (H3.out.call h4)
  have H16z := hid (H3.out.st.1.name16)
  clear h4
  generalize (nameS σ1).1 = z at *
  generalize (nameS σ1).2 = σ2 at *
  obtain ⟨⟨q0, q1, q2, q3⟩, ⟨r0, r1, r2, r3⟩, -, -, hz, -, -⟩ := H4.out.cells
  go_wp2_with fail
  have H5 := hid (H4.out.putD z H16z.out)
  clear q0 q1 q2 q3 r0 r1 r2 r3 hz
  refine (devEnd_any b σ2 _ H5.out.st.1).mono ?_
  rintro e wz ⟨rfl, hz0⟩
  have HZ := hid (H5.out.call hz0)
  clear hz0
  obtain ⟨⟨p0, p1, p2, p3⟩, -, ⟨v0, v1, v2, v3⟩, ⟨s0, s1, s2, s3⟩, hsz, hsz2, hsz3⟩ := HZ.out.cells
  go_wp2_with fail
  refine bodyPost_ret (v := agS ⟨none, 0, 0, none, 0, 0, ⟨4, z, [], []⟩⟩) (by simp [results, Tryd.results134, go_sem, p0, p1, p2, p3, s0, s1, s2, s3, v0, v1, v2, v3, hsz, hsz2, agS]) rfl ?_
  exact HZ.out.done _ _ _ _ HR.out
set_option maxHeartbeats 3200000 in
theorem devStmt6 (b : Nat) (σ : Ds) (w : World) (h : Dst w b σ) (ho : opW (takeS (begS (nxt σ.l).text) σ).1 = 6) :
    Calls Tryd.prog 134 #[.pointer (some ⟨b, 0, none⟩)] w (RetDs w b (stmtS σ)) := by
  have H := hid h
  have Hlt := hid h.lt
  have H16 := hid (h.take16 (begS (nxt σ.l).text))
  have hR : stmtS σ = ((opS (opW (takeS (begS (nxt σ.l).text) σ).1) (takeS (begS (nxt σ.l).text) σ).1 (takeS (begS (nxt σ.l).text) σ).2).1, endS (opS (opW (takeS (begS (nxt σ.l).text) σ).1) (takeS (begS (nxt σ.l).text) σ).1 (takeS (begS (nxt σ.l).text) σ).2).2) := rfl
  rw [ho, opS6] at hR
  have HR := hid hR
  have Ho := hid ho
  have Hne := hid (@begS_ne σ.l)
  have h0 := hid (show Dst (w.alloc (.cells #[.int .i64 0, .string ⟨#[]⟩, .slice none 0 0, .slice none 0 0] 46)) b σ from h.below ((Below.refl _ _).alloc (Nat.le_refl _) _) h.lt)
  have hf0 := hid (Fb.new w #[.int .i64 0, .string ⟨#[]⟩, .slice none 0 0, .slice none 0 0] 46)
  have hb0 := hid ((Below.refl w.heap.size w).alloc (Nat.le_refl _) (.cells #[.int .i64 0, .string ⟨#[]⟩, .slice none 0 0, .slice none 0 0] 46))
  clear h hR ho
  go_enter Tryd.func134, Tryd.ntmps134
  go_wp2_with fail
  generalize w.alloc (.cells #[.int .i64 0, .string ⟨#[]⟩, .slice none 0 0, .slice none 0 0] 46) = wa at *
  refine (devNext_any b σ _ h0.out).mono ?_
  rintro e w1 ⟨rfl, hb1⟩
  have H1 := hid (h0.out.below hb1 h0.out.lt)
  have hf1 := hid (hf0.out.below hb1 hf0.out.lt)
  have hb2 := hid (below_step hb0.out hb1)
  clear hb1 h0 hf0 hb0
  unfold agT
  go_wp2_with fail
  refine (devBegS_any (nxt σ.l).text _ H1.out.text16 H1.out.tab).mono ?_
  rintro e w' ⟨rfl, rfl⟩
  generalize begS (nxt σ.l).text = bb at *
  go_wp2_with fail
  refine (devTake_any b σ bb _ H1.out Hne.out).mono ?_
  rintro e w2 ⟨rfl, h2⟩
  have H2 := hid (DTo.belowl hb2.out h2)
  have hf2 := hid (hf1.out.grown h2.2 (by have := Hlt.out; simp; omega))
  clear h2 H1 hf1 hb2 Hne
  generalize (takeS bb σ).1 = y at *
  generalize (takeS bb σ).2 = σ1 at *
  go_wp2_with fail
  refine (devOperation_any y _ H16.out H2.out.1.tab).mono ?_
  rw [Ho.out]
  rintro e w' ⟨rfl, rfl⟩
  have H3 := hid (Sd.start H2.out Hlt.out hf2.out 6)
  clear H2 hf2
  go_wp2_with fail
  generalize w2.alloc (.cells #[.int .i64 6, .string ⟨#[]⟩, .slice none 0 0, .slice none 0 0] 46) = w3 at *
  generalize w2.heap.size = g at *
  refine (devName_any b σ1 _ H3.out.st.1).mono ?_
  rintro e w4 ⟨rfl, h4⟩
  have H4 := hid (H3.out.call h4)
  have H16z := hid (H3.out.st.1.name16)
  clear h4
  generalize (nameS σ1).1 = z at *
  generalize (nameS σ1).2 = σ2 at *
  obtain ⟨⟨q0, q1, q2, q3⟩, ⟨r0, r1, r2, r3⟩, -, -, hz, -, -⟩ := H4.out.cells
  go_wp2_with fail
  have H5 := hid (H4.out.putD z H16z.out)
  clear q0 q1 q2 q3 r0 r1 r2 r3 hz
  refine (devEnd_any b σ2 _ H5.out.st.1).mono ?_
  rintro e wz ⟨rfl, hz0⟩
  have HZ := hid (H5.out.call hz0)
  clear hz0
  obtain ⟨⟨p0, p1, p2, p3⟩, -, ⟨v0, v1, v2, v3⟩, ⟨s0, s1, s2, s3⟩, hsz, hsz2, hsz3⟩ := HZ.out.cells
  go_wp2_with fail
  refine bodyPost_ret (v := agS ⟨none, 0, 0, none, 0, 0, ⟨6, z, [], []⟩⟩) (by simp [results, Tryd.results134, go_sem, p0, p1, p2, p3, s0, s1, s2, s3, v0, v1, v2, v3, hsz, hsz2, agS]) rfl ?_
  exact HZ.out.done _ _ _ _ HR.out
set_option maxHeartbeats 3200000 in
theorem devStmt5 (b : Nat) (σ : Ds) (w : World) (h : Dst w b σ) (ho : opW (takeS (begS (nxt σ.l).text) σ).1 = 5) :
    Calls Tryd.prog 134 #[.pointer (some ⟨b, 0, none⟩)] w (RetDs w b (stmtS σ)) := by
  have H := hid h
  have Hlt := hid h.lt
  have H16 := hid (h.take16 (begS (nxt σ.l).text))
  have hR : stmtS σ = ((opS (opW (takeS (begS (nxt σ.l).text) σ).1) (takeS (begS (nxt σ.l).text) σ).1 (takeS (begS (nxt σ.l).text) σ).2).1, endS (opS (opW (takeS (begS (nxt σ.l).text) σ).1) (takeS (begS (nxt σ.l).text) σ).1 (takeS (begS (nxt σ.l).text) σ).2).2) := rfl
  rw [ho, opS5] at hR
  have HR := hid hR
  have Ho := hid ho
  have Hne := hid (@begS_ne σ.l)
  have h0 := hid (show Dst (w.alloc (.cells #[.int .i64 0, .string ⟨#[]⟩, .slice none 0 0, .slice none 0 0] 46)) b σ from h.below ((Below.refl _ _).alloc (Nat.le_refl _) _) h.lt)
  have hf0 := hid (Fb.new w #[.int .i64 0, .string ⟨#[]⟩, .slice none 0 0, .slice none 0 0] 46)
  have hb0 := hid ((Below.refl w.heap.size w).alloc (Nat.le_refl _) (.cells #[.int .i64 0, .string ⟨#[]⟩, .slice none 0 0, .slice none 0 0] 46))
  clear h hR ho
  go_enter Tryd.func134, Tryd.ntmps134
  go_wp2_with fail
  generalize w.alloc (.cells #[.int .i64 0, .string ⟨#[]⟩, .slice none 0 0, .slice none 0 0] 46) = wa at *
  refine (devNext_any b σ _ h0.out).mono ?_
  rintro e w1 ⟨rfl, hb1⟩
  have H1 := hid (h0.out.below hb1 h0.out.lt)
  have hf1 := hid (hf0.out.below hb1 hf0.out.lt)
  have hb2 := hid (below_step hb0.out hb1)
  clear hb1 h0 hf0 hb0
  unfold agT
  go_wp2_with fail
  refine (devBegS_any (nxt σ.l).text _ H1.out.text16 H1.out.tab).mono ?_
  rintro e w' ⟨rfl, rfl⟩
  generalize begS (nxt σ.l).text = bb at *
  go_wp2_with fail
  refine (devTake_any b σ bb _ H1.out Hne.out).mono ?_
  rintro e w2 ⟨rfl, h2⟩
  have H2 := hid (DTo.belowl hb2.out h2)
  have hf2 := hid (hf1.out.grown h2.2 (by have := Hlt.out; simp; omega))
  clear h2 H1 hf1 hb2 Hne
  generalize (takeS bb σ).1 = y at *
  generalize (takeS bb σ).2 = σ1 at *
  go_wp2_with fail
  refine (devOperation_any y _ H16.out H2.out.1.tab).mono ?_
  rw [Ho.out]
  rintro e w' ⟨rfl, rfl⟩
  have H3 := hid (Sd.start H2.out Hlt.out hf2.out 5)
  clear H2 hf2
  go_wp2_with fail
  generalize w2.alloc (.cells #[.int .i64 5, .string ⟨#[]⟩, .slice none 0 0, .slice none 0 0] 46) = w3 at *
  generalize w2.heap.size = g at *
  refine (devName_any b σ1 _ H3.out.st.1).mono ?_
  rintro e w4 ⟨rfl, h4⟩
  have H4 := hid (H3.out.call h4)
  have H16z := hid (H3.out.st.1.name16)
  clear h4
  generalize (nameS σ1).1 = z at *
  generalize (nameS σ1).2 = σ2 at *
  obtain ⟨⟨q0, q1, q2, q3⟩, ⟨r0, r1, r2, r3⟩, -, -, hz, -, -⟩ := H4.out.cells
  go_wp2_with fail
  have H5 := hid (H4.out.putU1 z H16z.out)
  clear q0 q1 q2 q3 r0 r1 r2 r3 hz
  refine (devEnd_any b σ2 _ H5.out.st.1).mono ?_
  rintro e wz ⟨rfl, hz0⟩
  have HZ := hid (H5.out.call hz0)
  clear hz0
  obtain ⟨⟨p0, p1, p2, p3⟩, -, ⟨v0, v1, v2, v3⟩, ⟨s0, s1, s2, s3⟩, hsz, hsz2, hsz3⟩ := HZ.out.cells
  go_wp2_with fail
  refine bodyPost_ret (v := agS ⟨some ⟨w4.heap.size, 0, none⟩, 1, 1, none, 0, 0, ⟨5, ⟨#[]⟩, [z], []⟩⟩) (by simp [results, Tryd.results134, go_sem, p0, p1, p2, p3, s0, s1, s2, s3, v0, v1, v2, v3, hsz, hsz2, agS]) rfl ?_
  exact HZ.out.done _ _ _ _ HR.out
end Go.Proofs.YtlepcgncphikhaaDoor

namespace Go.Proofs.YtlepcgncphikhaaDoor
set_option maxRecDepth 20000
set_option linter.unusedVariables false
set_option linter.unusedSimpArgs false
open Go.ChangeShapes Go.WideShapes Go.ChangeAt Go.RowKit
attribute [local go_sem] fieldTok0 fieldTok1 fieldTok2 fieldTok3
attribute [local go_sem ↓] Go.wp_at_zero Go.wp_at_succ

theorem Sd.startD {w0 w : World} {b : Nat} {σ : Ds} (h : DTo w0 b σ w) (ho : b < w0.heap.size) (hf : Fb w w0.heap.size #[.int .i64 0, .string ⟨#[]⟩, .slice none 0 0, .slice none 0 0] 46) (o : Int) (y : ByteArray) (hy : y.size ≤ 16) :
    Sd w0 b w.heap.size σ ⟨none, 0, 0, none, 0, 0, ⟨o, y, [], []⟩⟩ (w.alloc (.cells #[.int .i64 o, .string y, .slice none 0 0, .slice none 0 0] 46)) :=
  ⟨h.belowr ((Below.refl _ _).alloc (Nat.le_refl _) _), ho, hf.lt, hf.alloc _, Fb.new w _ _, fun ex _ => ⟨SSafe.nil _ _ _, SSafe.nil _ _ _, by show y.size ≤ 1000; omega⟩⟩
theorem listS_len {α : Type} (bb : ByteArray → Bool) (part : Ds → α × Ds) (N : Nat) : ∀ σ, (listS bb part N σ).1.length ≤ N := by
  induction N with
  | zero => intro σ; unfold listS; split <;> simp
  | succ n ih =>
    intro σ
    unfold listS
    split
    · have := ih (part σ).2; simp; omega
    · simp
set_option maxHeartbeats 3200000 in
theorem devStmt1 (b : Nat) (σ : Ds) (w : World) (h : Dst w b σ) (ho : opW (takeS (begS (nxt σ.l).text) σ).1 = 1) :
    Calls Tryd.prog 134 #[.pointer (some ⟨b, 0, none⟩)] w (RetDs w b (stmtS σ)) := by
  have H := hid h
  have Hlt := hid h.lt
  have H16 := hid (h.take16 (begS (nxt σ.l).text))
  have hR : stmtS σ = ((opS (opW (takeS (begS (nxt σ.l).text) σ).1) (takeS (begS (nxt σ.l).text) σ).1 (takeS (begS (nxt σ.l).text) σ).2).1, endS (opS (opW (takeS (begS (nxt σ.l).text) σ).1) (takeS (begS (nxt σ.l).text) σ).1 (takeS (begS (nxt σ.l).text) σ).2).2) := rfl
  rw [ho, opS1] at hR
  have HR := hid hR
  have Ho := hid ho
  have Hne := hid (@begS_ne σ.l)
  have h0 := hid (show Dst (w.alloc (.cells #[.int .i64 0, .string ⟨#[]⟩, .slice none 0 0, .slice none 0 0] 46)) b σ from h.below ((Below.refl _ _).alloc (Nat.le_refl _) _) h.lt)
  have hf0 := hid (Fb.new w #[.int .i64 0, .string ⟨#[]⟩, .slice none 0 0, .slice none 0 0] 46)
  have hb0 := hid ((Below.refl w.heap.size w).alloc (Nat.le_refl _) (.cells #[.int .i64 0, .string ⟨#[]⟩, .slice none 0 0, .slice none 0 0] 46))
  clear h hR ho
  go_enter Tryd.func134, Tryd.ntmps134
  go_wp2_with fail
  generalize w.alloc (.cells #[.int .i64 0, .string ⟨#[]⟩, .slice none 0 0, .slice none 0 0] 46) = wa at *
  refine (devNext_any b σ _ h0.out).mono ?_
  rintro e w1 ⟨rfl, hb1⟩
  have H1 := hid (h0.out.below hb1 h0.out.lt)
  have hf1 := hid (hf0.out.below hb1 hf0.out.lt)
  have hb2 := hid (below_step hb0.out hb1)
  clear hb1 h0 hf0 hb0
  unfold agT
  go_wp2_with fail
  refine (devBegS_any (nxt σ.l).text _ H1.out.text16 H1.out.tab).mono ?_
  rintro e w' ⟨rfl, rfl⟩
  generalize begS (nxt σ.l).text = bb at *
  go_wp2_with fail
  refine (devTake_any b σ bb _ H1.out Hne.out).mono ?_
  rintro e w2 ⟨rfl, h2⟩
  have H2 := hid (DTo.belowl hb2.out h2)
  have hf2 := hid (hf1.out.grown h2.2 (by have := Hlt.out; simp; omega))
  clear h2 H1 hf1 hb2 Hne
  generalize (takeS bb σ).1 = y at *
  generalize (takeS bb σ).2 = σ1 at *
  go_wp2_with fail
  refine (devOperation_any y _ H16.out H2.out.1.tab).mono ?_
  rw [Ho.out]
  rintro e w' ⟨rfl, rfl⟩
  have H3 := hid (Sd.startD H2.out Hlt.out hf2.out 1 y H16.out)
  clear H2 hf2
  go_wp2_with fail
  generalize w2.alloc (.cells #[.int .i64 1, .string y, .slice none 0 0, .slice none 0 0] 46) = w3 at *
  generalize w2.heap.size = g at *
  refine (devWord_any b σ1 kwEq (ne_of_data (by decide)) _ H3.out.st.1).mono ?_
  rintro e w4 ⟨rfl, h4⟩
  have H4 := hid (H3.out.call h4)
  clear h4 H3
  generalize wordS kwEq σ1 = σ2 at *
  go_wp2_with fail
  refine (devList_str b σ2 _ H4.out.st.1).mono ?_
  rintro e w5 ⟨B, d, l, rfl, hl, hown, hfr, h5⟩
  have H5 := hid (H4.out.call h5)
  have hl' : l = (listS nameB nameS 4 σ2).1 := by rw [← hl]; simp
  have hl4 : l.length ≤ 40 := by rw [hl']; have := listS_len nameB nameS 4 σ2; omega
  have Hsp := hid (frs_own2 (N := g + 1) (l := l) hown (flat_str l) rfl (by have := H4.out.size; omega) hl4 (fun x hx => by have : x.size ≤ 16 := hfr x hx [] (by simp); omega))
  rw [← hl'] at HR
  clear hl hl' hown hfr h5 hl4
  generalize (listS nameB nameS 4 σ2).2 = σ3 at *
  generalize hm : l.length = m at *
  have Hm := hid hm
  clear hm
  obtain ⟨⟨q0, q1, q2, q3⟩, ⟨r0, r1, r2, r3⟩, -, -, hz, -, -⟩ := H5.out.cells
  have H6 := hid (H5.out.putU (c2 := d) Hsp.out)
  go_wp2_with fail
  clear q0 q1 q2 q3 r0 r1 r2 r3 hz
  refine (devEnd_any b σ3 _ H6.out.st.1).mono ?_
  rintro e wz ⟨rfl, hz0⟩
  have HZ := hid (H6.out.call hz0)
  clear hz0
  obtain ⟨⟨p0, p1, p2, p3⟩, -, ⟨v0, v1, v2, v3⟩, ⟨s0, s1, s2, s3⟩, hsz, hsz2, hsz3⟩ := HZ.out.cells
  go_wp2_with fail
  refine bodyPost_ret (v := agS ⟨B, m, d, none, 0, 0, ⟨1, y, l, []⟩⟩) (by simp [results, Tryd.results134, go_sem, p0, p1, p2, p3, s0, s1, s2, s3, v0, v1, v2, v3, hsz, hsz2, agS]) rfl ?_
  exact HZ.out.done _ _ _ _ HR.out
set_option maxHeartbeats 3200000 in
theorem devStmt2 (b : Nat) (σ : Ds) (w : World) (h : Dst w b σ) (ho : opW (takeS (begS (nxt σ.l).text) σ).1 = 2) :
    Calls Tryd.prog 134 #[.pointer (some ⟨b, 0, none⟩)] w (RetDs w b (stmtS σ)) := by
  have H := hid h
  have Hlt := hid h.lt
  have H16 := hid (h.take16 (begS (nxt σ.l).text))
  have hR : stmtS σ = ((opS (opW (takeS (begS (nxt σ.l).text) σ).1) (takeS (begS (nxt σ.l).text) σ).1 (takeS (begS (nxt σ.l).text) σ).2).1, endS (opS (opW (takeS (begS (nxt σ.l).text) σ).1) (takeS (begS (nxt σ.l).text) σ).1 (takeS (begS (nxt σ.l).text) σ).2).2) := rfl
  rw [ho, opS2] at hR
  have HR := hid hR
  have Ho := hid ho
  have Hne := hid (@begS_ne σ.l)
  have h0 := hid (show Dst (w.alloc (.cells #[.int .i64 0, .string ⟨#[]⟩, .slice none 0 0, .slice none 0 0] 46)) b σ from h.below ((Below.refl _ _).alloc (Nat.le_refl _) _) h.lt)
  have hf0 := hid (Fb.new w #[.int .i64 0, .string ⟨#[]⟩, .slice none 0 0, .slice none 0 0] 46)
  have hb0 := hid ((Below.refl w.heap.size w).alloc (Nat.le_refl _) (.cells #[.int .i64 0, .string ⟨#[]⟩, .slice none 0 0, .slice none 0 0] 46))
  clear h hR ho
  go_enter Tryd.func134, Tryd.ntmps134
  go_wp2_with fail
  generalize w.alloc (.cells #[.int .i64 0, .string ⟨#[]⟩, .slice none 0 0, .slice none 0 0] 46) = wa at *
  refine (devNext_any b σ _ h0.out).mono ?_
  rintro e w1 ⟨rfl, hb1⟩
  have H1 := hid (h0.out.below hb1 h0.out.lt)
  have hf1 := hid (hf0.out.below hb1 hf0.out.lt)
  have hb2 := hid (below_step hb0.out hb1)
  clear hb1 h0 hf0 hb0
  unfold agT
  go_wp2_with fail
  refine (devBegS_any (nxt σ.l).text _ H1.out.text16 H1.out.tab).mono ?_
  rintro e w' ⟨rfl, rfl⟩
  generalize begS (nxt σ.l).text = bb at *
  go_wp2_with fail
  refine (devTake_any b σ bb _ H1.out Hne.out).mono ?_
  rintro e w2 ⟨rfl, h2⟩
  have H2 := hid (DTo.belowl hb2.out h2)
  have hf2 := hid (hf1.out.grown h2.2 (by have := Hlt.out; simp; omega))
  clear h2 H1 hf1 hb2 Hne
  generalize (takeS bb σ).1 = y at *
  generalize (takeS bb σ).2 = σ1 at *
  go_wp2_with fail
  refine (devOperation_any y _ H16.out H2.out.1.tab).mono ?_
  rw [Ho.out]
  rintro e w' ⟨rfl, rfl⟩
  have H3 := hid (Sd.start H2.out Hlt.out hf2.out 2)
  clear H2 hf2
  go_wp2_with fail
  generalize w2.alloc (.cells #[.int .i64 2, .string ⟨#[]⟩, .slice none 0 0, .slice none 0 0] 46) = w3 at *
  generalize w2.heap.size = g at *
  refine (devSome_str b σ1 _ H3.out.st.1).mono ?_
  rintro e w5 ⟨B, d, l, rfl, hl, hown, hfr, h5⟩
  have H5 := hid (H3.out.call h5)
  have hl' : l = (someS nameB nameS 4 σ1).1 := by rw [← hl]; simp
  have hl4 : l.length ≤ 40 := by rw [hl']; have : (someS nameB nameS 4 σ1).1.length ≤ 4 := listS_len nameB nameS 4 σ1; omega
  have Hsp := hid (frs_own2 (N := g + 1) (l := l) hown (flat_str l) rfl (by have := H3.out.size; omega) hl4 (fun x hx => by have : x.size ≤ 16 := hfr x hx [] (by simp); omega))
  rw [← hl'] at HR
  clear hl hl' hown hfr h5 hl4
  generalize (someS nameB nameS 4 σ1).2 = σ3 at *
  generalize hm : l.length = m at *
  have Hm := hid hm
  clear hm
  obtain ⟨⟨q0, q1, q2, q3⟩, ⟨r0, r1, r2, r3⟩, -, -, hz, -, -⟩ := H5.out.cells
  have H6 := hid (H5.out.putU (c2 := d) Hsp.out)
  go_wp2_with fail
  clear q0 q1 q2 q3 r0 r1 r2 r3 hz
  refine (devEnd_any b σ3 _ H6.out.st.1).mono ?_
  rintro e wz ⟨rfl, hz0⟩
  have HZ := hid (H6.out.call hz0)
  clear hz0
  obtain ⟨⟨p0, p1, p2, p3⟩, -, ⟨v0, v1, v2, v3⟩, ⟨s0, s1, s2, s3⟩, hsz, hsz2, hsz3⟩ := HZ.out.cells
  go_wp2_with fail
  refine bodyPost_ret (v := agS ⟨B, m, d, none, 0, 0, ⟨2, ⟨#[]⟩, l, []⟩⟩) (by simp [results, Tryd.results134, go_sem, p0, p1, p2, p3, s0, s1, s2, s3, v0, v1, v2, v3, hsz, hsz2, agS]) rfl ?_
  exact HZ.out.done _ _ _ _ HR.out
set_option maxHeartbeats 3200000 in
theorem devStmt3 (b : Nat) (σ : Ds) (w : World) (h : Dst w b σ) (ho : opW (takeS (begS (nxt σ.l).text) σ).1 = 3) :
    Calls Tryd.prog 134 #[.pointer (some ⟨b, 0, none⟩)] w (RetDs w b (stmtS σ)) := by
  have H := hid h
  have Hlt := hid h.lt
  have H16 := hid (h.take16 (begS (nxt σ.l).text))
  have hR : stmtS σ = ((opS (opW (takeS (begS (nxt σ.l).text) σ).1) (takeS (begS (nxt σ.l).text) σ).1 (takeS (begS (nxt σ.l).text) σ).2).1, endS (opS (opW (takeS (begS (nxt σ.l).text) σ).1) (takeS (begS (nxt σ.l).text) σ).1 (takeS (begS (nxt σ.l).text) σ).2).2) := rfl
  rw [ho, opS3] at hR
  have HR := hid hR
  have Ho := hid ho
  have Hne := hid (@begS_ne σ.l)
  have h0 := hid (show Dst (w.alloc (.cells #[.int .i64 0, .string ⟨#[]⟩, .slice none 0 0, .slice none 0 0] 46)) b σ from h.below ((Below.refl _ _).alloc (Nat.le_refl _) _) h.lt)
  have hf0 := hid (Fb.new w #[.int .i64 0, .string ⟨#[]⟩, .slice none 0 0, .slice none 0 0] 46)
  have hb0 := hid ((Below.refl w.heap.size w).alloc (Nat.le_refl _) (.cells #[.int .i64 0, .string ⟨#[]⟩, .slice none 0 0, .slice none 0 0] 46))
  clear h hR ho
  go_enter Tryd.func134, Tryd.ntmps134
  go_wp2_with fail
  generalize w.alloc (.cells #[.int .i64 0, .string ⟨#[]⟩, .slice none 0 0, .slice none 0 0] 46) = wa at *
  refine (devNext_any b σ _ h0.out).mono ?_
  rintro e w1 ⟨rfl, hb1⟩
  have H1 := hid (h0.out.below hb1 h0.out.lt)
  have hf1 := hid (hf0.out.below hb1 hf0.out.lt)
  have hb2 := hid (below_step hb0.out hb1)
  clear hb1 h0 hf0 hb0
  unfold agT
  go_wp2_with fail
  refine (devBegS_any (nxt σ.l).text _ H1.out.text16 H1.out.tab).mono ?_
  rintro e w' ⟨rfl, rfl⟩
  generalize begS (nxt σ.l).text = bb at *
  go_wp2_with fail
  refine (devTake_any b σ bb _ H1.out Hne.out).mono ?_
  rintro e w2 ⟨rfl, h2⟩
  have H2 := hid (DTo.belowl hb2.out h2)
  have hf2 := hid (hf1.out.grown h2.2 (by have := Hlt.out; simp; omega))
  clear h2 H1 hf1 hb2 Hne
  generalize (takeS bb σ).1 = y at *
  generalize (takeS bb σ).2 = σ1 at *
  go_wp2_with fail
  refine (devOperation_any y _ H16.out H2.out.1.tab).mono ?_
  rw [Ho.out]
  rintro e w' ⟨rfl, rfl⟩
  have H3 := hid (Sd.start H2.out Hlt.out hf2.out 3)
  clear H2 hf2
  go_wp2_with fail
  generalize w2.alloc (.cells #[.int .i64 3, .string ⟨#[]⟩, .slice none 0 0, .slice none 0 0] 46) = w6 at *
  generalize w2.heap.size = g at *
  have H6d : Hid (Sd w b g σ1 ⟨none, 0, 0, none, 0, 0, ⟨3, ⟨#[]⟩, [], []⟩⟩ w6.drew) := hid (H3.out.drewN 1)
  have HM := hid (fun w' h' => devName_any b σ1 w' h')
  have H16n := hid (H3.out.st.1.name16)
  generalize (nameS σ1).1 = yn at *
  generalize (nameS σ1).2 = σn at *
  obtain ⟨⟨q0, q1, q2, q3⟩, ⟨r0, r1, r2, r3⟩, -, -, hz, -, -⟩ := H3.out.cells
  obtain ⟨vt, hvt⟩ : ∃ v, v = Value.slice none 0 0 := ⟨_, rfl⟩
  have Hvt := hid hvt
  clear hvt
  have hgb := hid (show ∀ k, vt.ownBlock = some k → g + 1 ≤ k from fun k hk => by rw [Hvt.out] at hk; cases hk)
  have hnb := hid (show ∀ i, i ≤ g → some i ≠ vt.ownBlock from fun i hi e => by have := hgb.out i e.symm; omega)
  rw [← Hvt.out] at q3
  have Hown := hid (show w6.ownsRow (g + 1) 9 1 vt 0 [] from by rw [Hvt.out]; exact World.ownsRow_nil _ _ _ _)
  have hob := H6d.out.old
  have hhi := H6d.out.hi
  obtain ⟨i0, hi, hz0, hz1, hz2⟩ := info_parts info9
  have Hi := hid hi; have Hz0 := hid hz0; have Hz1 := hid hz1; have Hz2 := hid hz2
  clear hi hz0 hz1 hz2
  go_region_law (first
    | (go_simp
       go_at_call 108
       go_must (
       refine (HM.out _ H6d.out.st.1).mono ?_
       rintro e w7 ⟨rfl, h7⟩
       have H7 := hid (H6d.out.call h7)
       have Hown7 := hid (DTo.own (w := w6.drew) Hown.out.drew h7 (by omega))
       obtain ⟨⟨q0, q1, q2, q3⟩, ⟨r0, r1, r2, r3⟩, -, -, hz, -, -⟩ := H7.out.cells
       rw [← Hvt.out] at q3
       clear h7))
    | ((refine step_append_lies _ (by rfl) _ _ 42 (by rfl) (g + 1) 9 i0 _ 1 16 Tryd.underlying42 Hi.out Hz0.out Hz1.out Hz2.out (by rfl) (by decide) vt 0 [] (by rfl) (by exact Hown7.out.alloc _)
          ⟨_, 0, none⟩ 1 1 [.string yn] (by rfl) rfl (by exact one_str _ _ _) (one_strc _) (by decide) (by unfold maxLen; omega) (by omega) (by have := H7.out.size; rw [World.size_alloc]; omega) _ rfl ?_)
       intro g9 cap9 w9 hown9 hgr9 hat9 hlt9
       have Hown9 := hid hown9
       have Hgr9 := hid hgr9
       have k3 := hgr9.cell ((World.cell?_alloc_lt _ _ ⟨g, 3, none⟩ hz).trans q3) (hnb.out g (Nat.le_refl _))
       have j3 := (hgr9.frozen_far ⟨g, 3, none⟩ (by rw [World.size_alloc]; show g < _; omega) (hnb.out g (Nat.le_refl _))).trans ((World.frozen?_alloc_old _ _ ⟨g, 3, none⟩ (Nat.ne_of_lt hz)).trans r3)
       have hz9 : g < w9.heap.size := Nat.lt_of_lt_of_le hz (Nat.le_trans (by rw [World.size_alloc]; omega) hgr9.size)
       clear hown9 hgr9 hat9 hlt9))
  all_goals
    have H8 := hid (Sd.row (k := 0) H7.out ((Below.refl _ _).alloc (Nat.le_refl _) (.cells #[.string yn] 9)) Hgr9.out hgb.out 3 (.slice (some ⟨g9, 0, none⟩) (0 + 1) cap9) ⟨none, 0, 0, some ⟨g9, 0, none⟩, 0 + 1, cap9, ⟨3, ⟨#[]⟩, [], [yn]⟩⟩ rfl
      (fun ex he => ⟨SSafe.nil _ _ _, frs_own2 Hown9.out rfl rfl (Nat.le_refl _) (by simp) (fun x hx => by
        have h2 := H16n.out
        simp at hx; subst hx; omega) ex he, by show (0 : Nat) ≤ 1000; omega⟩))
    clear q0 q1 q2 q3 r0 r1 r2 r3 hz
    go_wp2_with fail
    clear k3 j3 hz9
    refine (devEnd_any b σn _ H8.out.st.1).mono ?_
    rintro e wz ⟨rfl, hz0⟩
    have HZ := hid (H8.out.call hz0)
    clear hz0
    obtain ⟨⟨p0, p1, p2, p3⟩, -, ⟨v0, v1, v2, v3⟩, ⟨s0, s1, s2, s3⟩, hsz, hsz2, hsz3⟩ := HZ.out.cells
    go_wp2_with fail
    refine bodyPost_ret (v := agS ⟨none, 0, 0, some ⟨g9, 0, none⟩, 0 + 1, cap9, ⟨3, ⟨#[]⟩, [], [yn]⟩⟩) (by simp [results, Tryd.results134, go_sem, p0, p1, p2, p3, s0, s1, s2, s3, v0, v1, v2, v3, hsz, hsz2, agS]) rfl ?_
    exact HZ.out.done _ _ _ _ HR.out
set_option maxHeartbeats 3200000 in
theorem devStmt7 (b : Nat) (σ : Ds) (w : World) (h : Dst w b σ) (ho : opW (takeS (begS (nxt σ.l).text) σ).1 = 7) :
    Calls Tryd.prog 134 #[.pointer (some ⟨b, 0, none⟩)] w (RetDs w b (stmtS σ)) := by
  have H := hid h
  have Hlt := hid h.lt
  have H16 := hid (h.take16 (begS (nxt σ.l).text))
  have hR : stmtS σ = ((opS (opW (takeS (begS (nxt σ.l).text) σ).1) (takeS (begS (nxt σ.l).text) σ).1 (takeS (begS (nxt σ.l).text) σ).2).1, endS (opS (opW (takeS (begS (nxt σ.l).text) σ).1) (takeS (begS (nxt σ.l).text) σ).1 (takeS (begS (nxt σ.l).text) σ).2).2) := rfl
  rw [ho, opS7] at hR
  have HR := hid hR
  have Ho := hid ho
  have Hne := hid (@begS_ne σ.l)
  have h0 := hid (show Dst (w.alloc (.cells #[.int .i64 0, .string ⟨#[]⟩, .slice none 0 0, .slice none 0 0] 46)) b σ from h.below ((Below.refl _ _).alloc (Nat.le_refl _) _) h.lt)
  have hf0 := hid (Fb.new w #[.int .i64 0, .string ⟨#[]⟩, .slice none 0 0, .slice none 0 0] 46)
  have hb0 := hid ((Below.refl w.heap.size w).alloc (Nat.le_refl _) (.cells #[.int .i64 0, .string ⟨#[]⟩, .slice none 0 0, .slice none 0 0] 46))
  clear h hR ho
  go_enter Tryd.func134, Tryd.ntmps134
  go_wp2_with fail
  generalize w.alloc (.cells #[.int .i64 0, .string ⟨#[]⟩, .slice none 0 0, .slice none 0 0] 46) = wa at *
  refine (devNext_any b σ _ h0.out).mono ?_
  rintro e w1 ⟨rfl, hb1⟩
  have H1 := hid (h0.out.below hb1 h0.out.lt)
  have hf1 := hid (hf0.out.below hb1 hf0.out.lt)
  have hb2 := hid (below_step hb0.out hb1)
  clear hb1 h0 hf0 hb0
  unfold agT
  go_wp2_with fail
  refine (devBegS_any (nxt σ.l).text _ H1.out.text16 H1.out.tab).mono ?_
  rintro e w' ⟨rfl, rfl⟩
  generalize begS (nxt σ.l).text = bb at *
  go_wp2_with fail
  refine (devTake_any b σ bb _ H1.out Hne.out).mono ?_
  rintro e w2 ⟨rfl, h2⟩
  have H2 := hid (DTo.belowl hb2.out h2)
  have hf2 := hid (hf1.out.grown h2.2 (by have := Hlt.out; simp; omega))
  clear h2 H1 hf1 hb2 Hne
  generalize (takeS bb σ).1 = y at *
  generalize (takeS bb σ).2 = σ1 at *
  go_wp2_with fail
  refine (devOperation_any y _ H16.out H2.out.1.tab).mono ?_
  rw [Ho.out]
  rintro e w' ⟨rfl, rfl⟩
  have H3 := hid (Sd.start H2.out Hlt.out hf2.out 7)
  clear H2 hf2
  go_wp2_with fail
  generalize w2.alloc (.cells #[.int .i64 7, .string ⟨#[]⟩, .slice none 0 0, .slice none 0 0] 46) = w6 at *
  generalize w2.heap.size = g at *
  have H6d : Hid (Sd w b g σ1 ⟨none, 0, 0, none, 0, 0, ⟨7, ⟨#[]⟩, [], []⟩⟩ w6.drew) := hid (H3.out.drewN 1)
  have HM := hid (fun w' h' => devName_any b σ1 w' h')
  have H16n := hid (H3.out.st.1.name16)
  generalize (nameS σ1).1 = yn at *
  generalize (nameS σ1).2 = σn at *
  obtain ⟨⟨q0, q1, q2, q3⟩, ⟨r0, r1, r2, r3⟩, -, -, hz, -, -⟩ := H3.out.cells
  obtain ⟨vt, hvt⟩ : ∃ v, v = Value.slice none 0 0 := ⟨_, rfl⟩
  have Hvt := hid hvt
  clear hvt
  have hgb := hid (show ∀ k, vt.ownBlock = some k → g + 1 ≤ k from fun k hk => by rw [Hvt.out] at hk; cases hk)
  have hnb := hid (show ∀ i, i ≤ g → some i ≠ vt.ownBlock from fun i hi e => by have := hgb.out i e.symm; omega)
  rw [← Hvt.out] at q3
  have Hown := hid (show w6.ownsRow (g + 1) 9 1 vt 0 [] from by rw [Hvt.out]; exact World.ownsRow_nil _ _ _ _)
  have hob := H6d.out.old
  have hhi := H6d.out.hi
  obtain ⟨i0, hi, hz0, hz1, hz2⟩ := info_parts info9
  have Hi := hid hi; have Hz0 := hid hz0; have Hz1 := hid hz1; have Hz2 := hid hz2
  clear hi hz0 hz1 hz2
  go_region_law (first
    | (go_simp
       go_at_call 108
       go_must (
       refine (HM.out _ H6d.out.st.1).mono ?_
       rintro e w7 ⟨rfl, h7⟩
       have H7 := hid (H6d.out.call h7)
       have Hown7 := hid (DTo.own (w := w6.drew) Hown.out.drew h7 (by omega))
       obtain ⟨⟨q0, q1, q2, q3⟩, ⟨r0, r1, r2, r3⟩, -, -, hz, -, -⟩ := H7.out.cells
       rw [← Hvt.out] at q3
       clear h7))
    | ((refine step_append_lies _ (by rfl) _ _ 42 (by rfl) (g + 1) 9 i0 _ 1 16 Tryd.underlying42 Hi.out Hz0.out Hz1.out Hz2.out (by rfl) (by decide) vt 0 [] (by rfl) (by exact Hown7.out.alloc _)
          ⟨_, 0, none⟩ 1 1 [.string yn] (by rfl) rfl (by exact one_str _ _ _) (one_strc _) (by decide) (by unfold maxLen; omega) (by omega) (by have := H7.out.size; rw [World.size_alloc]; omega) _ rfl ?_)
       intro g9 cap9 w9 hown9 hgr9 hat9 hlt9
       have Hown9 := hid hown9
       have Hgr9 := hid hgr9
       have k3 := hgr9.cell ((World.cell?_alloc_lt _ _ ⟨g, 3, none⟩ hz).trans q3) (hnb.out g (Nat.le_refl _))
       have j3 := (hgr9.frozen_far ⟨g, 3, none⟩ (by rw [World.size_alloc]; show g < _; omega) (hnb.out g (Nat.le_refl _))).trans ((World.frozen?_alloc_old _ _ ⟨g, 3, none⟩ (Nat.ne_of_lt hz)).trans r3)
       have hz9 : g < w9.heap.size := Nat.lt_of_lt_of_le hz (Nat.le_trans (by rw [World.size_alloc]; omega) hgr9.size)
       clear hown9 hgr9 hat9 hlt9))
  all_goals
    have H8 := hid (Sd.row (k := 0) H7.out ((Below.refl _ _).alloc (Nat.le_refl _) (.cells #[.string yn] 9)) Hgr9.out hgb.out 3 (.slice (some ⟨g9, 0, none⟩) (0 + 1) cap9) ⟨none, 0, 0, some ⟨g9, 0, none⟩, 0 + 1, cap9, ⟨7, ⟨#[]⟩, [], [yn]⟩⟩ rfl
      (fun ex he => ⟨SSafe.nil _ _ _, frs_own2 Hown9.out rfl rfl (Nat.le_refl _) (by simp) (fun x hx => by
        have h2 := H16n.out
        simp at hx; subst hx; omega) ex he, by show (0 : Nat) ≤ 1000; omega⟩))
    clear q0 q1 q2 q3 r0 r1 r2 r3 hz
    go_wp2_with fail
    clear k3 j3 hz9
    refine (devEnd_any b σn _ H8.out.st.1).mono ?_
    rintro e wz ⟨rfl, hz0⟩
    have HZ := hid (H8.out.call hz0)
    clear hz0
    obtain ⟨⟨p0, p1, p2, p3⟩, -, ⟨v0, v1, v2, v3⟩, ⟨s0, s1, s2, s3⟩, hsz, hsz2, hsz3⟩ := HZ.out.cells
    go_wp2_with fail
    refine bodyPost_ret (v := agS ⟨none, 0, 0, some ⟨g9, 0, none⟩, 0 + 1, cap9, ⟨7, ⟨#[]⟩, [], [yn]⟩⟩) (by simp [results, Tryd.results134, go_sem, p0, p1, p2, p3, s0, s1, s2, s3, v0, v1, v2, v3, hsz, hsz2, agS]) rfl ?_
    exact HZ.out.done _ _ _ _ HR.out
set_option maxHeartbeats 3200000 in
theorem devStmt8 (b : Nat) (σ : Ds) (w : World) (h : Dst w b σ) (ho : opW (takeS (begS (nxt σ.l).text) σ).1 = 8) :
    Calls Tryd.prog 134 #[.pointer (some ⟨b, 0, none⟩)] w (RetDs w b (stmtS σ)) := by
  have H := hid h
  have Hlt := hid h.lt
  have H16 := hid (h.take16 (begS (nxt σ.l).text))
  have hR : stmtS σ = ((opS (opW (takeS (begS (nxt σ.l).text) σ).1) (takeS (begS (nxt σ.l).text) σ).1 (takeS (begS (nxt σ.l).text) σ).2).1, endS (opS (opW (takeS (begS (nxt σ.l).text) σ).1) (takeS (begS (nxt σ.l).text) σ).1 (takeS (begS (nxt σ.l).text) σ).2).2) := rfl
  rw [ho, opS8] at hR
  have HR := hid hR
  have Ho := hid ho
  have Hne := hid (@begS_ne σ.l)
  have h0 := hid (show Dst (w.alloc (.cells #[.int .i64 0, .string ⟨#[]⟩, .slice none 0 0, .slice none 0 0] 46)) b σ from h.below ((Below.refl _ _).alloc (Nat.le_refl _) _) h.lt)
  have hf0 := hid (Fb.new w #[.int .i64 0, .string ⟨#[]⟩, .slice none 0 0, .slice none 0 0] 46)
  have hb0 := hid ((Below.refl w.heap.size w).alloc (Nat.le_refl _) (.cells #[.int .i64 0, .string ⟨#[]⟩, .slice none 0 0, .slice none 0 0] 46))
  clear h hR ho
  go_enter Tryd.func134, Tryd.ntmps134
  go_wp2_with fail
  generalize w.alloc (.cells #[.int .i64 0, .string ⟨#[]⟩, .slice none 0 0, .slice none 0 0] 46) = wa at *
  refine (devNext_any b σ _ h0.out).mono ?_
  rintro e w1 ⟨rfl, hb1⟩
  have H1 := hid (h0.out.below hb1 h0.out.lt)
  have hf1 := hid (hf0.out.below hb1 hf0.out.lt)
  have hb2 := hid (below_step hb0.out hb1)
  clear hb1 h0 hf0 hb0
  unfold agT
  go_wp2_with fail
  refine (devBegS_any (nxt σ.l).text _ H1.out.text16 H1.out.tab).mono ?_
  rintro e w' ⟨rfl, rfl⟩
  generalize begS (nxt σ.l).text = bb at *
  go_wp2_with fail
  refine (devTake_any b σ bb _ H1.out Hne.out).mono ?_
  rintro e w2 ⟨rfl, h2⟩
  have H2 := hid (DTo.belowl hb2.out h2)
  have hf2 := hid (hf1.out.grown h2.2 (by have := Hlt.out; simp; omega))
  clear h2 H1 hf1 hb2 Hne
  generalize (takeS bb σ).1 = y at *
  generalize (takeS bb σ).2 = σ1 at *
  go_wp2_with fail
  refine (devOperation_any y _ H16.out H2.out.1.tab).mono ?_
  rw [Ho.out]
  rintro e w' ⟨rfl, rfl⟩
  have H3 := hid (Sd.start H2.out Hlt.out hf2.out 8)
  clear H2 hf2
  go_wp2_with fail
  generalize w2.alloc (.cells #[.int .i64 8, .string ⟨#[]⟩, .slice none 0 0, .slice none 0 0] 46) = w3 at *
  generalize w2.heap.size = g at *
  refine (devName_any b σ1 _ H3.out.st.1).mono ?_
  rintro e w4 ⟨rfl, h4⟩
  have H4 := hid (H3.out.call h4)
  have H16z := hid (H3.out.st.1.name16)
  clear h4
  generalize (nameS σ1).1 = z at *
  generalize (nameS σ1).2 = σ2 at *
  obtain ⟨⟨q0, q1, q2, q3⟩, ⟨r0, r1, r2, r3⟩, -, -, hz, -, -⟩ := H4.out.cells
  have H5 := hid (H4.out.putU1 z H16z.out)
  have HFu := hid (show Fb _ _ (strC [z]) 9 from Fb.new (w4.setCell ⟨g, 2, none⟩ (.slice (some ⟨w4.heap.size, 0, none⟩) 1 1)) #[.string z] 9)
  rw [size_set1] at HFu
  have hgu := H4.out.size
  have hhi0 := H4.out.hi
  have hol0 := H4.out.old
  go_wp2_with fail
  generalize (w4.setCell ⟨g, 2, none⟩ (.slice (some ⟨w4.heap.size, 0, none⟩) 1 1)).alloc (.cells #[.string z] 9) = w4b at *
  generalize w4.heap.size = gu at *
  clear q0 q1 q2 q3 r0 r1 r2 r3 hz H4
  refine (devName_any b σ2 _ H5.out.st.1).mono ?_
  rintro e w5 ⟨rfl, h5⟩
  have H6 := hid (H5.out.call h5)
  have H16z2 := hid (H5.out.st.1.name16)
  have HFu5 := hid (HFu.out.grown h5.2 (by simp; omega))
  have hgt := HFu5.out.lt
  clear h5 H5 HFu
  generalize (nameS σ2).1 = z2 at *
  generalize (nameS σ2).2 = σ3 at *
  obtain ⟨⟨q0, q1, q2, q3⟩, ⟨r0, r1, r2, r3⟩, -, -, hz, -, -⟩ := H6.out.cells
  have H7 := hid (H6.out.putT1 z2 H16z2.out)
  have Hlit := hid (own_lit1 (w := w5.setCell ⟨g, 3, none⟩ (.slice (some ⟨w5.heap.size, 0, none⟩) 1 1)) (base := g + 1) (g := w5.heap.size) (y := z2) (by rw [size_set1]; exact H6.out.size) (size_set1 ..))
  have HFu6 := hid ((HFu5.out.far (p := ⟨g, 3, none⟩) (by show gu ≠ g; omega) (.slice (some ⟨w5.heap.size, 0, none⟩) 1 1)).alloc (.cells #[.string z2] 9))
  have hsz5 := H6.out.size
  go_wp2_with fail
  generalize (w5.setCell ⟨g, 3, none⟩ (.slice (some ⟨w5.heap.size, 0, none⟩) 1 1)).alloc (.cells #[.string z2] 9) = w6 at *
  generalize w5.heap.size = gt at *
  clear q0 q1 q2 q3 r0 r1 r2 r3 hz H6 HFu5
  have H6d : Hid (Sd w b g σ3 ⟨some ⟨gu, 0, none⟩, 1, 1, some ⟨gt, 0, none⟩, 1, 1, ⟨8, ⟨#[]⟩, [z], [z2]⟩⟩ w6.drew) := hid (H7.out.drewN 1)
  have HM := hid (fun w' h' => devName_any b σ3 w' h')
  have H16n := hid (H7.out.st.1.name16)
  generalize (nameS σ3).1 = yn at *
  generalize (nameS σ3).2 = σn at *
  obtain ⟨⟨q0, q1, q2, q3⟩, ⟨r0, r1, r2, r3⟩, -, -, hz, -, -⟩ := H7.out.cells
  obtain ⟨vt, hvt⟩ : ∃ v, v = Value.slice (some ⟨gt, 0, none⟩) 1 1 := ⟨_, rfl⟩
  have Hvt := hid hvt
  clear hvt
  have hgb := hid (show ∀ k, vt.ownBlock = some k → g + 1 ≤ k from fun k hk => by rw [Hvt.out] at hk; have hk : some gt = some k := hk; injection hk with hk; omega)
  have hnb := hid (show ∀ i, i ≤ g → some i ≠ vt.ownBlock from fun i hi e => by have := hgb.out i e.symm; omega)
  rw [← Hvt.out] at q3
  have Hown := hid (show w6.ownsRow (g + 1) 9 1 vt 1 [.string z2] from by rw [Hvt.out]; exact Hlit.out)
  have hob := H6d.out.old
  have hhi := H6d.out.hi
  obtain ⟨i0, hi, hz0, hz1, hz2⟩ := info_parts info9
  have Hi := hid hi; have Hz0 := hid hz0; have Hz1 := hid hz1; have Hz2 := hid hz2
  clear hi hz0 hz1 hz2
  go_region_law (first
    | (go_simp
       go_at_call 108
       go_must (
       refine (HM.out _ H6d.out.st.1).mono ?_
       rintro e w7 ⟨rfl, h7⟩
       have H7 := hid (H6d.out.call h7)
       have Hown7 := hid (DTo.own (w := w6.drew) Hown.out.drew h7 (by omega))
       have HFu7 := hid ((HFu6.out.drewN 1).grown h7.2 (by simp; omega))
       obtain ⟨⟨q0, q1, q2, q3⟩, ⟨r0, r1, r2, r3⟩, -, -, hz, -, -⟩ := H7.out.cells
       rw [← Hvt.out] at q3
       clear h7))
    | ((refine step_append_lies _ (by rfl) _ _ 42 (by rfl) (g + 1) 9 i0 _ 1 16 Tryd.underlying42 Hi.out Hz0.out Hz1.out Hz2.out (by rfl) (by decide) vt 1 [.string z2] (by rfl) (by exact Hown7.out.alloc _)
          ⟨_, 0, none⟩ 1 1 [.string yn] (by rfl) rfl (by exact one_str _ _ _) (one_strc _) (by decide) (by unfold maxLen; omega) (by omega) (by have := H7.out.size; rw [World.size_alloc]; omega) _ rfl ?_)
       intro g9 cap9 w9 hown9 hgr9 hat9 hlt9
       have Hown9 := hid hown9
       have Hgr9 := hid hgr9
       have k3 := hgr9.cell ((World.cell?_alloc_lt _ _ ⟨g, 3, none⟩ hz).trans q3) (hnb.out g (Nat.le_refl _))
       have j3 := (hgr9.frozen_far ⟨g, 3, none⟩ (by rw [World.size_alloc]; show g < _; omega) (hnb.out g (Nat.le_refl _))).trans ((World.frozen?_alloc_old _ _ ⟨g, 3, none⟩ (Nat.ne_of_lt hz)).trans r3)
       have hz9 : g < w9.heap.size := Nat.lt_of_lt_of_le hz (Nat.le_trans (by rw [World.size_alloc]; omega) hgr9.size)
       clear hown9 hgr9 hat9 hlt9))
  all_goals
    have HFu9 := hid ((HFu7.out.alloc (.cells #[.string yn] 9)).grown Hgr9.out (by rw [Hvt.out]; show some gu ≠ some gt; simp; omega))
    have H8 := hid (Sd.row (k := 0) H7.out ((Below.refl _ _).alloc (Nat.le_refl _) (.cells #[.string yn] 9)) Hgr9.out hgb.out 3 (.slice (some ⟨g9, 0, none⟩) (1 + 1) cap9) ⟨some ⟨gu, 0, none⟩, 1, 1, some ⟨g9, 0, none⟩, 1 + 1, cap9, ⟨8, ⟨#[]⟩, [z], [z2, yn]⟩⟩ rfl
      (fun ex he => ⟨SSafe.new (l := [z]) (m := 1) HFu9.out (fun hin => by have := he _ hin; omega) (by simp) (by simp) (by have := H16z.out; simp; omega), frs_own2 Hown9.out rfl rfl (Nat.le_refl _) (by simp) (fun x hx => by
        have h2 := H16n.out
        have h1 := H16z2.out
        simp at hx; rcases hx with rfl | rfl <;> omega) ex he, by show (0 : Nat) ≤ 1000; omega⟩))
    clear q0 q1 q2 q3 r0 r1 r2 r3 hz
    go_wp2_with fail
    clear k3 j3 hz9
    refine (devEnd_any b σn _ H8.out.st.1).mono ?_
    rintro e wz ⟨rfl, hz0⟩
    have HZ := hid (H8.out.call hz0)
    clear hz0
    obtain ⟨⟨p0, p1, p2, p3⟩, -, ⟨v0, v1, v2, v3⟩, ⟨s0, s1, s2, s3⟩, hsz, hsz2, hsz3⟩ := HZ.out.cells
    go_wp2_with fail
    refine bodyPost_ret (v := agS ⟨some ⟨gu, 0, none⟩, 1, 1, some ⟨g9, 0, none⟩, 1 + 1, cap9, ⟨8, ⟨#[]⟩, [z], [z2, yn]⟩⟩) (by simp [results, Tryd.results134, go_sem, p0, p1, p2, p3, s0, s1, s2, s3, v0, v1, v2, v3, hsz, hsz2, agS]) rfl ?_
    exact HZ.out.done _ _ _ _ HR.out
theorem devStmt_any (b : Nat) (σ : Ds) (w : World) (h : Dst w b σ) : Calls Tryd.prog 134 #[.pointer (some ⟨b, 0, none⟩)] w (RetDs w b (stmtS σ)) := by
  rcases opW_range (takeS (begS (nxt σ.l).text) σ).1 with ho | ho | ho | ho | ho | ho | ho | ho | ho | ho
  · exact devStmt0 b σ w h ho
  · exact devStmt1 b σ w h ho
  · exact devStmt2 b σ w h ho
  · exact devStmt3 b σ w h ho
  · exact devStmt4 b σ w h ho
  · exact devStmt5 b σ w h ho
  · exact devStmt6 b σ w h ho
  · exact devStmt7 b σ w h ho
  · exact devStmt8 b σ w h ho
  · exact devStmt9 b σ w h ho
end Go.Proofs.YtlepcgncphikhaaDoor

namespace Go.Proofs.YtlepcgncphikhaaDoor
set_option maxRecDepth 20000
set_option linter.unusedVariables false
set_option linter.unusedSimpArgs false
open Go.ChangeShapes Go.WideShapes Go.ChangeAt Go.RowKit
attribute [local go_sem] fieldTok0 fieldTok1 fieldTok2 fieldTok3

set_option maxHeartbeats 3200000 in
theorem devList_stmt (b : Nat) (σ : Ds) (w : World) (h : Dst w b σ) :
    Calls Tryd.prog 147 #[.pointer (some ⟨b, 0, none⟩), .int .i64 32, .func (Fn.func 133) #[] #[], .func (Fn.func 134) #[.pointer (some ⟨b, 0, none⟩)] #[]] w (RetLs KS SH.t w b (listS begS stmtS 32 σ)) := by
  have Hst := hid (Lg.start (K := KS) h)
  clear h
  obtain ⟨i0, hi, hz0, hz1, hz2⟩ := info_parts info68
  have Hi := hid hi; have Hz0 := hid hz0; have Hz1 := hid hz1; have Hz2 := hid hz2
  clear hi hz0 hz1 hz2
  go_enter Tryd.func147, Tryd.ntmps147
  go_wp2_with fail
  go_loopw [9] (fun v wr => ∃ (l : List SH) (n : Nat) (σ2 : Ds), Hid (Lg KS w b σ2 v l wr) ∧ Hid (Drel begS stmtS 32 σ (l.map SH.t) n σ2)) (fun v _ => 32 + 1 - (lenOf v))
  case atStart => exact ⟨[], 32, σ, Hst.out, Drel.start⟩
  case round =>
    clear Hst
    obtain ⟨l, n, σ2, H, HL⟩ := hrel
    obtain ⟨B, d, hv⟩ := own_any_slice H.out.own
    subst hv
    have hlen : l.length + n = 32 := by have := HL.out.1; simpa using this
    have Hm := hid (show lenOf (.slice B l.length d) = l.length from rfl)
    cases hb : begS (nxt σ2.l).text with
    | false =>
      have HB := hid hb
      clear hb
      go_wp2_with fail
      refine (devNext_any b σ2 _ H.out.st.1).mono ?_
      rintro e w1 ⟨rfl, hb1⟩
      have H1 := hid (H.out.below hb1)
      clear hb1
      unfold agT
      go_wp2_with fail
      refine (devBegS_any (nxt σ2.l).text _ H1.out.st.1.text16 H1.out.st.1.tab).mono ?_
      rw [HB.out]
      rintro e w' ⟨rfl, rfl⟩
      go_wp2
      go_ret
      exact H1.out.done (HL.out.stop HB.out)
    | true =>
      have HB := hid hb
      clear hb
      cases n with
      | zero =>
        have tl : ((l.length : Int) == 32) = true := by simp; omega
        have Htl := hid tl
        clear tl
        go_wp2_with fail
        refine (devNext_any b σ2 _ H.out.st.1).mono ?_
        rintro e w1 ⟨rfl, hb1⟩
        have H1 := hid (H.out.below hb1)
        clear hb1
        unfold agT
        go_wp2_with fail
        refine (devBegS_any (nxt σ2.l).text _ H1.out.st.1.text16 H1.out.st.1.tab).mono ?_
        rw [HB.out]
        rintro e w' ⟨rfl, rfl⟩
        generalize hn0 : l.length = n0 at *
        have Hn0 := hid hn0
        clear hn0
        have tl := Htl.out
        go_wp2_with fail
        refine (devFail_any b σ2 7 _ H1.out.st.1).mono ?_
        rintro e w2 ⟨rfl, h2⟩
        have H2 := hid (H1.out.call h2)
        clear h2
        go_wp2
        go_ret
        exact Lg.done2 H2.out Hn0.out.symm (by first | exact Hn0.out.symm | (have := Hn0.out; omega)) (HL.out.full HB.out)
      | succ n =>
        have tl : ((l.length : Int) == 32) = false := by simp; omega
        have hl32 : l.length < 32 := by omega
        go_wp2_with fail
        refine (devNext_any b σ2 _ H.out.st.1).mono ?_
        rintro e w1 ⟨rfl, hb1⟩
        have H1 := hid (H.out.below hb1)
        clear hb1
        unfold agT
        go_wp2_with fail
        refine (devBegS_any (nxt σ2.l).text _ H1.out.st.1.text16 H1.out.st.1.tab).mono ?_
        rw [HB.out]
        rintro e w' ⟨rfl, rfl⟩
        go_wp2_with fail
        refine (devStmt_any b σ2 _ H1.out.st.1).mono ?_
        rintro e w2 ⟨x, he, hxt, hfx, h2⟩
        unfold agS at he
        subst he
        have H2 := hid (H1.out.call h2)
        have HxV := hid (Lg.fresh H1.out hfx)
        have Hxt := hid hxt
        clear h2 hfx hxt
        have hbase := H2.out.st.2.size
        have Hp := hid (fun (g5 cap5 : Nat) (w5 : World) hown5 hgr5 hat5 => Lg.push (x := x) (g9 := g5) (cap9 := cap5) (w9 := w5) (o := .cells (shc x).toArray 46) H2.out HxV.out hgr5 hown5 hat5)
        go_wp2_with ((
          at_builtin
          refine wpList_append_lies _ rfl _ _ 60 rfl w.heap.size 46 i0 _ 4 72 Tryd.underlying60 Hi.out Hz0.out Hz1.out Hz2.out rfl (by decide) _ l.length (l.flatMap (Kind.f KS)) rfl (World.ownsRow.alloc H2.out.own _) ⟨w2.heap.size, 0, none⟩ 1 1 (shc x) rfl rfl (four_new _ _ _ _ _ _) (one_shc x) (by omega) (by unfold maxLen; omega) (by omega) (by rw [World.size_alloc]; omega) _ rfl ?_
          intro g5 cap5 w5 hown5 hgr5 hat5 hlt5
          have H5 := hid (Hp.out g5 cap5 w5 hown5 hgr5 hat5)
          clear hown5 hgr5 hat5 hlt5))
        go_roundw
        case rel => exact ⟨_, n, _, H5.out, HL.out.step_as HB.out (Hxt.out)⟩
        case measure => show 32 + 1 - (l.length + 1) < 32 + 1 - lenOf (.slice B l.length d); rw [Hm.out]; omega
set_option maxHeartbeats 1600000 in
theorem devSome_stmt (b : Nat) (σ : Ds) (w : World) (h : Dst w b σ) :
    Calls Tryd.prog 132 #[.pointer (some ⟨b, 0, none⟩), .int .i64 32, .func (Fn.func 133) #[] #[], .func (Fn.func 134) #[.pointer (some ⟨b, 0, none⟩)] #[]] w (RetLs KS SH.t w b (someS begS stmtS 32 σ)) := by
  have H := hid h
  clear h
  go_enter Tryd.func132, Tryd.ntmps132
  go_wp2_with fail
  refine (devList_stmt b σ _ H.out).mono ?_
  rintro e w1 ⟨B, d, l, rfl, hl, hown, hfr, h1⟩
  have hR : someS begS stmtS 32 σ = ((listS begS stmtS 32 σ).1, if (listS begS stmtS 32 σ).1.isEmpty then failS 4 (listS begS stmtS 32 σ).2 else (listS begS stmtS 32 σ).2) := rfl
  have HR := hid hR
  have Hl := hid hl; have Hown := hid hown; have Hfr := hid hfr; have H1 := hid h1
  have Hlt := hid H.out.lt
  clear hR hl hown hfr h1
  generalize listS begS stmtS 32 σ = r at *
  obtain ⟨r1, σ1⟩ := r
  cases l with
  | nil =>
    have hr : r1 = [] := Hl.out.symm
    subst hr
    go_wp2_with fail
    refine (devFail_any b σ1 4 _ H1.out.1).mono ?_
    rintro e w2 ⟨rfl, h2⟩
    have H2 := hid h2
    clear h2
    go_wp2
    go_ret
    rw [HR.out]
    exact ⟨B, d, [], rfl, rfl, DTo.own Hown.out H2.out Hlt.out, by simp, H1.out.trans H2.out⟩
  | cons x l =>
    have hr : r1.isEmpty = false := by have h1 : List.map SH.t (x :: l) = r1 := Hl.out; rw [← h1]; rfl
    rw [hr] at HR
    clear hr
    generalize hn0 : (x :: l).length = n0 at *
    have Hn0 := hid hn0
    have hpos : 0 < n0 := by rw [← hn0]; simp
    clear hn0
    go_wp2
    go_ret
    rw [HR.out]
    exact ⟨B, d, x :: l, by rw [Hn0.out]; rfl, Hl.out, by rw [Hn0.out]; exact Hown.out, Hfr.out, H1.out⟩
end Go.Proofs.YtlepcgncphikhaaDoor

namespace Go.Proofs.YtlepcgncphikhaaDoor
set_option maxRecDepth 20000
set_option linter.unusedVariables false
set_option linter.unusedSimpArgs false
open Go.ChangeShapes Go.WideShapes Go.ChangeAt Go.RowKit
attribute [local go_sem] fieldTok0 fieldTok1 fieldTok2 fieldTok3

theorem own_mono {w : World} {base base' k n : Nat} {e : TypeId} {v : Value} {xs : List Value} (h : w.ownsRow base e k v n xs) (hb : base' ≤ base) : w.ownsRow base' e k v n xs := by
  obtain ⟨h1, h2⟩ := h
  refine ⟨h1, ?_⟩
  rcases h2 with h2 | ⟨g, cap, cur, a1, a2, a3⟩
  · exact .inl h2
  · exact .inr ⟨g, cap, cur, a1, Nat.le_trans hb a2, a3⟩
structure Bd {α : Type} (K : Kind α) (w0 : World) (b g : Nat) (σ : Ds) (nm : ByteArray) (v : Value) (l : List α) (w : World) : Prop where
  st : DTo w0 b σ w
  old : b < w0.heap.size
  hi : w0.heap.size < g
  f2 : Fb w w0.heap.size #[.string ⟨#[]⟩, .slice none 0 0] K.tb
  f3 : Fb w g #[.string nm, v] K.tb
  own : w.ownsRow (g + 1) K.te K.k v l.length (l.flatMap K.f)
  all : ∀ x ∈ l, Fr (g + 1) (K.P x) w
section
variable {α : Type} {K : Kind α} {w0 w w' : World} {b g : Nat} {σ σ' : Ds} {nm : ByteArray} {v : Value} {l : List α}
theorem Bd.start (h : DTo w0 b σ w) (ho : b < w0.heap.size) (hf : Fb w w0.heap.size #[.string ⟨#[]⟩, .slice none 0 0] K.tb) (y : ByteArray) :
    Bd K w0 b w.heap.size σ y (.slice none 0 0) [] (w.alloc (.cells #[.string y, .slice none 0 0] K.tb)) :=
  ⟨h.belowr ((Below.refl _ _).alloc (Nat.le_refl _) _), ho, hf.lt, hf.alloc _, Fb.new w _ _, World.ownsRow_nil _ _ _ _, by simp⟩
theorem Bd.call (h : Bd K w0 b g σ nm v l w) (hr : DTo w b σ' w') : Bd K w0 b g σ' nm v l w' :=
  ⟨h.st.trans hr, h.old, h.hi, h.f2.grown hr.2 (by have := h.old; simp; omega), h.f3.grown hr.2 (by have := h.old; have := h.hi; simp; omega), DTo.own h.own hr (by have := h.old; have := h.hi; omega),
    fun x hx => (h.all x hx).grown (K.go x) hr.2 (fun k hk => by injection hk with hk; have := h.old; have := h.hi; omega)⟩
theorem Bd.size (h : Bd K w0 b g σ nm v l w) : g + 1 ≤ w.heap.size := h.f3.lt
theorem Bd.cells (h : Bd K w0 b g σ nm v l w) :
    (w.cell? ⟨g, 0, none⟩ = some (.string nm) ∧ w.cell? ⟨g, 1, none⟩ = some v) ∧ (w.frozen? ⟨g, 0, none⟩ = false ∧ w.frozen? ⟨g, 1, none⟩ = false) ∧
    (w.cell? ⟨w0.heap.size, 0, none⟩ = some (.string ⟨#[]⟩) ∧ w.cell? ⟨w0.heap.size, 1, none⟩ = some (.slice none 0 0)) ∧ (w.frozen? ⟨w0.heap.size, 0, none⟩ = false ∧ w.frozen? ⟨w0.heap.size, 1, none⟩ = false) ∧ g < w.heap.size ∧ w0.heap.size < w.heap.size ∧ w0.heap.size ≠ g :=
  ⟨⟨h.f3.cell 0, h.f3.cell 1⟩, ⟨h.f3.frozen 0, h.f3.frozen 1⟩, ⟨h.f2.cell 0, h.f2.cell 1⟩, ⟨h.f2.frozen 0, h.f2.frozen 1⟩, h.f3.lt, h.f2.lt, by have := h.hi; omega⟩
/-- The list is stored. -/
theorem Bd.putL {wc : World} {B : Option Addr} {d n : Nat} {l2 : List α} (h : Bd K w0 b g σ nm v l w) (hc : g + 1 ≤ wc.heap.size) (hown : w.ownsRow wc.heap.size K.te K.k (.slice B n d) n (l2.flatMap K.f)) (hn : n = l2.length) (hall : ∀ x ∈ l2, Fr wc.heap.size (K.P x) w) :
    Bd K w0 b g σ nm (.slice B n d) l2 (w.setCell ⟨g, 1, none⟩ (.slice B n d)) := by
  have ho := h.old
  have hi := h.hi
  have hg := setCell_grown w ⟨g, 1, none⟩ (.slice B n d)
  subst hn
  refine ⟨⟨h.st.1.far (by show b < g; omega) _, grown_set_new h.st.2 (by show w0.heap.size ≤ g; omega) _⟩, ho, hi, h.f2.far (by show w0.heap.size ≠ g; omega) _, ?_, ?_, fun x hx => ((hall x hx).less hc).grown (K.go x) hg (fun k hk => by injection hk with hk; have : g = k := hk; omega)⟩
  · have := h.f3.set 1 (.slice B l2.length d)
    simpa using this
  · exact (own_mono hown hc).kept hg (by
      cases e : (Value.slice B l2.length d).ownBlock with
      | none => exact .inl rfl
      | some k => exact .inr (by have h2 := (hown.lt k e).1; show some k ≠ some g; simp; omega))
end
theorem Bd.doneB {w0 w : World} {b g n d : Nat} {B : Option Addr} {σ : Ds} {nm : ByteArray} {l : List SH} (h : Bd KS w0 b g σ nm (.slice B n d) l w) (hn : l.length = n) (hl : n ≤ 40) (hnm : nm.size ≤ 16) (p q : Value) {R : Blk × Ds} (hR : R = (⟨nm, l.map SH.t⟩, σ)) :
    RetDb w0 b R (.returned (agB ⟨nm, B, n, d, l⟩)) ((w.setCell ⟨w0.heap.size, 0, none⟩ p).setCell ⟨w0.heap.size, 1, none⟩ q) := by
  subst hR
  have ho := h.old
  have hi := h.hi
  have hg : w.grownBy ((w.setCell ⟨w0.heap.size, 0, none⟩ p).setCell ⟨w0.heap.size, 1, none⟩ q) (some w0.heap.size) := grown_two (setCell_grown w ⟨w0.heap.size, 0, none⟩ p) (setCell_grown _ ⟨w0.heap.size, 1, none⟩ q)
  refine ⟨⟨nm, B, n, d, l⟩, rfl, rfl, ?_, h.st.1.grown hg (fun k hk => by injection hk with hk; omega), set2_grown h.st.2 p q⟩
  have h1 : Fr (g + 1) (BP ⟨nm, B, n, d, l⟩) w := by
    subst hn
    exact fun ex he => ⟨EAt.own h.own (fun k hg2 hin => by have h1 := (h.own.lt k hg2).1; have h2 := he k hin; omega), rfl, hl, by show nm.size ≤ 1000; omega, fun y hy => (h.all y hy) ex he⟩
  exact (h1.grown (fun h hg => BHok.go h hg) hg (fun k hk => by injection hk with hk; omega)).less (by omega)
theorem Bd.doneF {w0 w : World} {b g n d : Nat} {B : Option Addr} {σ : Ds} {nm : ByteArray} {l : List BH} (h : Bd KB w0 b g σ nm (.slice B n d) l w) (hn : l.length = n) (hl : n ≤ 40) (hnm : nm.size ≤ 16) (p q : Value) {R : Fnc × Ds} (hR : R = (⟨nm, l.map BH.b⟩, σ)) :
    RetDf w0 b R (.returned (agF ⟨nm, B, n, d, l⟩)) ((w.setCell ⟨w0.heap.size, 0, none⟩ p).setCell ⟨w0.heap.size, 1, none⟩ q) := by
  subst hR
  have ho := h.old
  have hi := h.hi
  have hg : w.grownBy ((w.setCell ⟨w0.heap.size, 0, none⟩ p).setCell ⟨w0.heap.size, 1, none⟩ q) (some w0.heap.size) := grown_two (setCell_grown w ⟨w0.heap.size, 0, none⟩ p) (setCell_grown _ ⟨w0.heap.size, 1, none⟩ q)
  refine ⟨⟨nm, B, n, d, l⟩, rfl, rfl, ?_, h.st.1.grown hg (fun k hk => by injection hk with hk; omega), set2_grown h.st.2 p q⟩
  have h1 : Fr (g + 1) (FP ⟨nm, B, n, d, l⟩) w := by
    subst hn
    exact fun ex he => ⟨EAt.own h.own (fun k hg2 hin => by have h1 := (h.own.lt k hg2).1; have h2 := he k hin; omega), rfl, hl, by show nm.size ≤ 1000; omega, fun y hy => (h.all y hy) ex he⟩
  exact (h1.grown (fun h hg => FHok.go h hg) hg (fun k hk => by injection hk with hk; omega)).less (by omega)
set_option maxHeartbeats 3200000 in
theorem devBlock_any (b : Nat) (σ : Ds) (w : World) (h : Dst w b σ) : Calls Tryd.prog 112 #[.pointer (some ⟨b, 0, none⟩)] w (RetDb w b (blockS σ)) := by
  have HR : Hid (blockS σ = (⟨(nameS (wordS kwBlock σ)).1, (someS begS stmtS 32 (endS (nameS (wordS kwBlock σ)).2)).1⟩, (someS begS stmtS 32 (endS (nameS (wordS kwBlock σ)).2)).2)) := hid rfl
  have Hlt := hid h.lt
  have h0 := hid (show Dst (w.alloc (.cells #[.string ⟨#[]⟩, .slice none 0 0] 62)) b σ from h.below ((Below.refl _ _).alloc (Nat.le_refl _) _) h.lt)
  have hf0 := hid (Fb.new w #[.string ⟨#[]⟩, .slice none 0 0] 62)
  have hb0 := hid ((Below.refl w.heap.size w).alloc (Nat.le_refl _) (.cells #[.string ⟨#[]⟩, .slice none 0 0] 62))
  clear h
  go_enter Tryd.func112, Tryd.ntmps112
  go_wp2_with fail
  generalize w.alloc (.cells #[.string ⟨#[]⟩, .slice none 0 0] 62) = wa at *
  refine (devWord_any b σ kwBlock kwbl.2.1 _ h0.out).mono ?_
  rintro e w1 ⟨rfl, h1⟩
  have H1 := hid (DTo.belowl hb0.out h1)
  have hf1 := hid (hf0.out.grown h1.2 (by have := Hlt.out; simp; omega))
  clear h1 h0 hf0 hb0
  generalize wordS kwBlock σ = σ1 at *
  go_wp2_with fail
  refine (devName_any b σ1 _ H1.out.1).mono ?_
  rintro e w2 ⟨rfl, h2⟩
  have H2 := hid (H1.out.trans h2)
  have H16 := hid H1.out.1.name16
  have hf2 := hid (hf1.out.grown h2.2 (by have := Hlt.out; simp; omega))
  clear h2 H1 hf1
  generalize (nameS σ1).1 = y at *
  generalize (nameS σ1).2 = σ2 at *
  have H3 := hid (Bd.start (K := KS) H2.out Hlt.out hf2.out y)
  have H3' : Hid (Bd KS w b w2.heap.size σ2 y (.slice none 0 0) [] (w2.alloc (.cells #[.string y, .slice none 0 0] 62))) := H3
  clear H2 hf2 H3
  go_wp2_with fail
  generalize w2.alloc (.cells #[.string y, .slice none 0 0] 62) = w3 at *
  generalize w2.heap.size = g at *
  refine (devEnd_any b σ2 _ H3'.out.st.1).mono ?_
  rintro e w4 ⟨rfl, h4⟩
  have H4 := hid (H3'.out.call h4)
  clear h4 H3'
  generalize endS σ2 = σ3 at *
  go_wp2_with fail
  refine (devSome_stmt b σ3 _ H4.out.st.1).mono ?_
  rintro e w5 ⟨B, d, l, rfl, hl, hown, hfr, h5⟩
  have H5 := hid (H4.out.call h5)
  have hl2 : l.length ≤ 32 := by
    have h1 : (l.map SH.t).length = (someS begS stmtS 32 σ3).1.length := by rw [hl]
    have h2 : (someS begS stmtS 32 σ3).1.length ≤ 32 := listS_len begS stmtS 32 σ3
    rw [List.length_map] at h1; omega
  rw [← hl] at HR
  obtain ⟨⟨q0, q1⟩, ⟨r0, r1⟩, -, -, hz, -, -⟩ := H5.out.cells
  have H6 := hid (H5.out.putL H4.out.size hown rfl hfr)
  clear hl hown hfr h5 H4 H5
  generalize (someS begS stmtS 32 σ3).2 = σ4 at *
  generalize hm : l.length = m at *
  have Hm := hid hm
  clear hm
  go_upto_region 5 with fail
  generalize w5.setCell ⟨g, 1, none⟩ (.slice B m d) = w6 at *
  clear q0 q1 r0 r1 hz
  obtain ⟨⟨p0, p1⟩, -, ⟨v0, v1⟩, ⟨s0, s1⟩, hsz, hsz2, hsz3⟩ := H6.out.cells
  go_wp2_with fail
  refine bodyPost_ret (v := agB ⟨y, B, m, d, l⟩) (by simp [results, Tryd.results112, go_sem, p0, p1, s0, s1, v0, v1, hsz, hsz2, agB]) rfl ?_
  exact H6.out.doneB Hm.out (by omega) H16.out _ _ HR.out
end Go.Proofs.YtlepcgncphikhaaDoor

namespace Go.Proofs.YtlepcgncphikhaaDoor
set_option maxRecDepth 20000
set_option linter.unusedVariables false
set_option linter.unusedSimpArgs false
open Go.ChangeShapes Go.WideShapes Go.ChangeAt Go.RowKit
attribute [local go_sem] fieldTok0 fieldTok1 fieldTok2 fieldTok3

set_option maxHeartbeats 3200000 in
theorem devList_block (b : Nat) (σ : Ds) (w : World) (h : Dst w b σ) :
    Calls Tryd.prog 131 #[.pointer (some ⟨b, 0, none⟩), .int .i64 16, .func (Fn.func 111) #[] #[], .func (Fn.func 112) #[.pointer (some ⟨b, 0, none⟩)] #[]] w (RetLs KB BH.b w b (listS begB blockS 16 σ)) := by
  have Hst := hid (Lg.start (K := KB) h)
  clear h
  obtain ⟨i0, hi, hz0, hz1, hz2⟩ := info_parts info66
  have Hi := hid hi; have Hz0 := hid hz0; have Hz1 := hid hz1; have Hz2 := hid hz2
  clear hi hz0 hz1 hz2
  go_enter Tryd.func131, Tryd.ntmps131
  go_wp2_with fail
  go_loopw [9] (fun v wr => ∃ (l : List BH) (n : Nat) (σ2 : Ds), Hid (Lg KB w b σ2 v l wr) ∧ Hid (Drel begB blockS 16 σ (l.map BH.b) n σ2)) (fun v _ => 16 + 1 - (lenOf v))
  case atStart => exact ⟨[], 16, σ, Hst.out, Drel.start⟩
  case round =>
    clear Hst
    obtain ⟨l, n, σ2, H, HL⟩ := hrel
    obtain ⟨B, d, hv⟩ := own_any_slice H.out.own
    subst hv
    have hlen : l.length + n = 16 := by have := HL.out.1; simpa using this
    have Hm := hid (show lenOf (.slice B l.length d) = l.length from rfl)
    cases hb : begB (nxt σ2.l).text with
    | false =>
      have HB := hid hb
      clear hb
      go_wp2_with fail
      refine (devNext_any b σ2 _ H.out.st.1).mono ?_
      rintro e w1 ⟨rfl, hb1⟩
      have H1 := hid (H.out.below hb1)
      clear hb1
      unfold agT
      go_wp2_with fail
      refine (devBegB_any (nxt σ2.l).text _).mono ?_
      rw [HB.out]
      rintro e w' ⟨rfl, rfl⟩
      go_wp2
      go_ret
      exact H1.out.done (HL.out.stop HB.out)
    | true =>
      have HB := hid hb
      clear hb
      cases n with
      | zero =>
        have tl : ((l.length : Int) == 16) = true := by simp; omega
        have Htl := hid tl
        clear tl
        go_wp2_with fail
        refine (devNext_any b σ2 _ H.out.st.1).mono ?_
        rintro e w1 ⟨rfl, hb1⟩
        have H1 := hid (H.out.below hb1)
        clear hb1
        unfold agT
        go_wp2_with fail
        refine (devBegB_any (nxt σ2.l).text _).mono ?_
        rw [HB.out]
        rintro e w' ⟨rfl, rfl⟩
        generalize hn0 : l.length = n0 at *
        have Hn0 := hid hn0
        clear hn0
        have tl := Htl.out
        go_wp2_with fail
        refine (devFail_any b σ2 7 _ H1.out.st.1).mono ?_
        rintro e w2 ⟨rfl, h2⟩
        have H2 := hid (H1.out.call h2)
        clear h2
        go_wp2
        go_ret
        exact Lg.done2 H2.out Hn0.out.symm (by first | exact Hn0.out.symm | (have := Hn0.out; omega)) (HL.out.full HB.out)
      | succ n =>
        have tl : ((l.length : Int) == 16) = false := by simp; omega
        have hl32 : l.length < 16 := by omega
        go_wp2_with fail
        refine (devNext_any b σ2 _ H.out.st.1).mono ?_
        rintro e w1 ⟨rfl, hb1⟩
        have H1 := hid (H.out.below hb1)
        clear hb1
        unfold agT
        go_wp2_with fail
        refine (devBegB_any (nxt σ2.l).text _).mono ?_
        rw [HB.out]
        rintro e w' ⟨rfl, rfl⟩
        go_wp2_with fail
        refine (devBlock_any b σ2 _ H1.out.st.1).mono ?_
        rintro e w2 ⟨x, he, hxt, hfx, h2⟩
        unfold agB at he
        subst he
        have H2 := hid (H1.out.call h2)
        have HxV := hid (Lg.fresh H1.out hfx)
        have Hxt := hid hxt
        clear h2 hfx hxt
        have hbase := H2.out.st.2.size
        have Hp := hid (fun (g5 cap5 : Nat) (w5 : World) hown5 hgr5 hat5 => Lg.push (x := x) (g9 := g5) (cap9 := cap5) (w9 := w5) (o := .cells (bhc x).toArray 62) H2.out HxV.out hgr5 hown5 hat5)
        go_wp2_with ((
          at_builtin
          refine wpList_append_lies _ rfl _ _ 56 rfl w.heap.size 62 i0 _ 2 40 Tryd.underlying56 Hi.out Hz0.out Hz1.out Hz2.out rfl (by decide) _ l.length (l.flatMap (Kind.f KB)) rfl (World.ownsRow.alloc H2.out.own _) ⟨w2.heap.size, 0, none⟩ 1 1 (bhc x) rfl rfl (two_new _ _ _ _) (one_two _ _ _ _) (by omega) (by unfold maxLen; omega) (by omega) (by rw [World.size_alloc]; omega) _ rfl ?_
          intro g5 cap5 w5 hown5 hgr5 hat5 hlt5
          have H5 := hid (Hp.out g5 cap5 w5 hown5 hgr5 hat5)
          clear hown5 hgr5 hat5 hlt5))
        go_roundw
        case rel => exact ⟨_, n, _, H5.out, HL.out.step_as HB.out (Hxt.out)⟩
        case measure => show 16 + 1 - (l.length + 1) < 16 + 1 - lenOf (.slice B l.length d); rw [Hm.out]; omega
set_option maxHeartbeats 1600000 in
theorem devSome_block (b : Nat) (σ : Ds) (w : World) (h : Dst w b σ) :
    Calls Tryd.prog 110 #[.pointer (some ⟨b, 0, none⟩), .int .i64 16, .func (Fn.func 111) #[] #[], .func (Fn.func 112) #[.pointer (some ⟨b, 0, none⟩)] #[]] w (RetLs KB BH.b w b (someS begB blockS 16 σ)) := by
  have H := hid h
  clear h
  go_enter Tryd.func110, Tryd.ntmps110
  go_wp2_with fail
  refine (devList_block b σ _ H.out).mono ?_
  rintro e w1 ⟨B, d, l, rfl, hl, hown, hfr, h1⟩
  have hR : someS begB blockS 16 σ = ((listS begB blockS 16 σ).1, if (listS begB blockS 16 σ).1.isEmpty then failS 4 (listS begB blockS 16 σ).2 else (listS begB blockS 16 σ).2) := rfl
  have HR := hid hR
  have Hl := hid hl; have Hown := hid hown; have Hfr := hid hfr; have H1 := hid h1
  have Hlt := hid H.out.lt
  clear hR hl hown hfr h1
  generalize listS begB blockS 16 σ = r at *
  obtain ⟨r1, σ1⟩ := r
  cases l with
  | nil =>
    have hr : r1 = [] := Hl.out.symm
    subst hr
    go_wp2_with fail
    refine (devFail_any b σ1 4 _ H1.out.1).mono ?_
    rintro e w2 ⟨rfl, h2⟩
    have H2 := hid h2
    clear h2
    go_wp2
    go_ret
    rw [HR.out]
    exact ⟨B, d, [], rfl, rfl, DTo.own Hown.out H2.out Hlt.out, by simp, H1.out.trans H2.out⟩
  | cons x l =>
    have hr : r1.isEmpty = false := by have h1 : List.map BH.b (x :: l) = r1 := Hl.out; rw [← h1]; rfl
    rw [hr] at HR
    clear hr
    generalize hn0 : (x :: l).length = n0 at *
    have Hn0 := hid hn0
    have hpos : 0 < n0 := by rw [← hn0]; simp
    clear hn0
    go_wp2
    go_ret
    rw [HR.out]
    exact ⟨B, d, x :: l, by rw [Hn0.out]; rfl, Hl.out, by rw [Hn0.out]; exact Hown.out, Hfr.out, H1.out⟩
end Go.Proofs.YtlepcgncphikhaaDoor

namespace Go.Proofs.YtlepcgncphikhaaDoor
set_option maxRecDepth 20000
set_option linter.unusedVariables false
set_option linter.unusedSimpArgs false
open Go.ChangeShapes Go.WideShapes Go.ChangeAt Go.RowKit
attribute [local go_sem] fieldTok0 fieldTok1 fieldTok2 fieldTok3

set_option maxHeartbeats 3200000 in
theorem devFunc_any (b : Nat) (σ : Ds) (w : World) (h : Dst w b σ) : Calls Tryd.prog 79 #[.pointer (some ⟨b, 0, none⟩)] w (RetDf w b (funcS σ)) := by
  have HR : Hid (funcS σ = (⟨(nameS (wordS kwFunc σ)).1, (someS begB blockS 16 (endS (nameS (wordS kwFunc σ)).2)).1⟩, endS (wordS kwEnd (someS begB blockS 16 (endS (nameS (wordS kwFunc σ)).2)).2))) := hid rfl
  have Hlt := hid h.lt
  have h0 := hid (show Dst (w.alloc (.cells #[.string ⟨#[]⟩, .slice none 0 0] 58)) b σ from h.below ((Below.refl _ _).alloc (Nat.le_refl _) _) h.lt)
  have hf0 := hid (Fb.new w #[.string ⟨#[]⟩, .slice none 0 0] 58)
  have hb0 := hid ((Below.refl w.heap.size w).alloc (Nat.le_refl _) (.cells #[.string ⟨#[]⟩, .slice none 0 0] 58))
  clear h
  go_enter Tryd.func79, Tryd.ntmps79
  go_wp2_with fail
  generalize w.alloc (.cells #[.string ⟨#[]⟩, .slice none 0 0] 58) = wa at *
  refine (devWord_any b σ kwFunc kwf.2.1 _ h0.out).mono ?_
  rintro e w1 ⟨rfl, h1⟩
  have H1 := hid (DTo.belowl hb0.out h1)
  have hf1 := hid (hf0.out.grown h1.2 (by have := Hlt.out; simp; omega))
  clear h1 h0 hf0 hb0
  generalize wordS kwFunc σ = σ1 at *
  go_wp2_with fail
  refine (devName_any b σ1 _ H1.out.1).mono ?_
  rintro e w2 ⟨rfl, h2⟩
  have H2 := hid (H1.out.trans h2)
  have H16 := hid H1.out.1.name16
  have hf2 := hid (hf1.out.grown h2.2 (by have := Hlt.out; simp; omega))
  clear h2 H1 hf1
  generalize (nameS σ1).1 = y at *
  generalize (nameS σ1).2 = σ2 at *
  have H3 := hid (Bd.start (K := KB) H2.out Hlt.out hf2.out y)
  have H3' : Hid (Bd KB w b w2.heap.size σ2 y (.slice none 0 0) [] (w2.alloc (.cells #[.string y, .slice none 0 0] 58))) := H3
  clear H2 hf2 H3
  go_wp2_with fail
  generalize w2.alloc (.cells #[.string y, .slice none 0 0] 58) = w3 at *
  generalize w2.heap.size = g at *
  refine (devEnd_any b σ2 _ H3'.out.st.1).mono ?_
  rintro e w4 ⟨rfl, h4⟩
  have H4 := hid (H3'.out.call h4)
  clear h4 H3'
  generalize endS σ2 = σ3 at *
  go_wp2_with fail
  refine (devSome_block b σ3 _ H4.out.st.1).mono ?_
  rintro e w5 ⟨B, d, l, rfl, hl, hown, hfr, h5⟩
  have H5 := hid (H4.out.call h5)
  have hl2 : l.length ≤ 16 := by
    have h1 : (l.map BH.b).length = (someS begB blockS 16 σ3).1.length := by rw [hl]
    have h2 : (someS begB blockS 16 σ3).1.length ≤ 16 := listS_len begB blockS 16 σ3
    rw [List.length_map] at h1; omega
  rw [← hl] at HR
  obtain ⟨⟨q0, q1⟩, ⟨r0, r1⟩, -, -, hz, -, -⟩ := H5.out.cells
  have H6 := hid (H5.out.putL H4.out.size hown rfl hfr)
  clear hl hown hfr h5 H4 H5
  generalize (someS begB blockS 16 σ3).2 = σ4 at *
  generalize hm : l.length = m at *
  have Hm := hid hm
  clear hm
  go_wp2_with fail
  generalize w5.setCell ⟨g, 1, none⟩ (.slice B m d) = w6 at *
  clear q0 q1 r0 r1 hz
  refine (devWord_any b σ4 kwEnd kwen.2.1 _ H6.out.st.1).mono ?_
  rintro e w7 ⟨rfl, h7⟩
  have H7 := hid (H6.out.call h7)
  clear h7 H6
  generalize wordS kwEnd σ4 = σ5 at *
  go_wp2_with fail
  refine (devEnd_any b σ5 _ H7.out.st.1).mono ?_
  rintro e w8 ⟨rfl, h8⟩
  have H8 := hid (H7.out.call h8)
  clear h8 H7
  obtain ⟨⟨p0, p1⟩, -, ⟨v0, v1⟩, ⟨s0, s1⟩, hsz, hsz2, hsz3⟩ := H8.out.cells
  go_wp2_with fail
  refine bodyPost_ret (v := agF ⟨y, B, m, d, l⟩) (by simp [results, Tryd.results79, go_sem, p0, p1, s0, s1, v0, v1, hsz, hsz2, agF]) rfl ?_
  exact H8.out.doneF Hm.out (by omega) H16.out _ _ HR.out
end Go.Proofs.YtlepcgncphikhaaDoor

namespace Go.Proofs.YtlepcgncphikhaaDoor
set_option maxRecDepth 20000
set_option linter.unusedVariables false
set_option linter.unusedSimpArgs false
open Go.ChangeShapes Go.WideShapes Go.ChangeAt Go.RowKit
attribute [local go_sem] fieldTok0 fieldTok1 fieldTok2 fieldTok3

set_option maxHeartbeats 3200000 in
theorem devList_func (b : Nat) (σ : Ds) (w : World) (h : Dst w b σ) :
    Calls Tryd.prog 106 #[.pointer (some ⟨b, 0, none⟩), .int .i64 8, .func (Fn.func 78) #[] #[], .func (Fn.func 79) #[.pointer (some ⟨b, 0, none⟩)] #[]] w (RetLs KF FH.f w b (listS begF funcS 8 σ)) := by
  have Hst := hid (Lg.start (K := KF) h)
  clear h
  obtain ⟨i0, hi, hz0, hz1, hz2⟩ := info_parts info63
  have Hi := hid hi; have Hz0 := hid hz0; have Hz1 := hid hz1; have Hz2 := hid hz2
  clear hi hz0 hz1 hz2
  go_enter Tryd.func106, Tryd.ntmps106
  go_wp2_with fail
  go_loopw [9] (fun v wr => ∃ (l : List FH) (n : Nat) (σ2 : Ds), Hid (Lg KF w b σ2 v l wr) ∧ Hid (Drel begF funcS 8 σ (l.map FH.f) n σ2)) (fun v _ => 8 + 1 - (lenOf v))
  case atStart => exact ⟨[], 8, σ, Hst.out, Drel.start⟩
  case round =>
    clear Hst
    obtain ⟨l, n, σ2, H, HL⟩ := hrel
    obtain ⟨B, d, hv⟩ := own_any_slice H.out.own
    subst hv
    have hlen : l.length + n = 8 := by have := HL.out.1; simpa using this
    have Hm := hid (show lenOf (.slice B l.length d) = l.length from rfl)
    cases hb : begF (nxt σ2.l).text with
    | false =>
      have HB := hid hb
      clear hb
      go_wp2_with fail
      refine (devNext_any b σ2 _ H.out.st.1).mono ?_
      rintro e w1 ⟨rfl, hb1⟩
      have H1 := hid (H.out.below hb1)
      clear hb1
      unfold agT
      go_wp2_with fail
      refine (devBegF_any (nxt σ2.l).text _).mono ?_
      rw [HB.out]
      rintro e w' ⟨rfl, rfl⟩
      go_wp2
      go_ret
      exact H1.out.done (HL.out.stop HB.out)
    | true =>
      have HB := hid hb
      clear hb
      cases n with
      | zero =>
        have tl : ((l.length : Int) == 8) = true := by simp; omega
        have Htl := hid tl
        clear tl
        go_wp2_with fail
        refine (devNext_any b σ2 _ H.out.st.1).mono ?_
        rintro e w1 ⟨rfl, hb1⟩
        have H1 := hid (H.out.below hb1)
        clear hb1
        unfold agT
        go_wp2_with fail
        refine (devBegF_any (nxt σ2.l).text _).mono ?_
        rw [HB.out]
        rintro e w' ⟨rfl, rfl⟩
        generalize hn0 : l.length = n0 at *
        have Hn0 := hid hn0
        clear hn0
        have tl := Htl.out
        go_wp2_with fail
        refine (devFail_any b σ2 7 _ H1.out.st.1).mono ?_
        rintro e w2 ⟨rfl, h2⟩
        have H2 := hid (H1.out.call h2)
        clear h2
        go_wp2
        go_ret
        exact Lg.done2 H2.out Hn0.out.symm (by first | exact Hn0.out.symm | (have := Hn0.out; omega)) (HL.out.full HB.out)
      | succ n =>
        have tl : ((l.length : Int) == 8) = false := by simp; omega
        have hl32 : l.length < 8 := by omega
        go_wp2_with fail
        refine (devNext_any b σ2 _ H.out.st.1).mono ?_
        rintro e w1 ⟨rfl, hb1⟩
        have H1 := hid (H.out.below hb1)
        clear hb1
        unfold agT
        go_wp2_with fail
        refine (devBegF_any (nxt σ2.l).text _).mono ?_
        rw [HB.out]
        rintro e w' ⟨rfl, rfl⟩
        go_wp2_with fail
        refine (devFunc_any b σ2 _ H1.out.st.1).mono ?_
        rintro e w2 ⟨x, he, hxt, hfx, h2⟩
        unfold agF at he
        subst he
        have H2 := hid (H1.out.call h2)
        have HxV := hid (Lg.fresh H1.out hfx)
        have Hxt := hid hxt
        clear h2 hfx hxt
        have hbase := H2.out.st.2.size
        have Hp := hid (fun (g5 cap5 : Nat) (w5 : World) hown5 hgr5 hat5 => Lg.push (x := x) (g9 := g5) (cap9 := cap5) (w9 := w5) (o := .cells (fhc x).toArray 58) H2.out HxV.out hgr5 hown5 hat5)
        go_wp2_with ((
          at_builtin
          refine wpList_append_lies _ rfl _ _ 32 rfl w.heap.size 58 i0 _ 2 40 Tryd.underlying32 Hi.out Hz0.out Hz1.out Hz2.out rfl (by decide) _ l.length (l.flatMap (Kind.f KF)) rfl (World.ownsRow.alloc H2.out.own _) ⟨w2.heap.size, 0, none⟩ 1 1 (fhc x) rfl rfl (two_new _ _ _ _) (one_two _ _ _ _) (by omega) (by unfold maxLen; omega) (by omega) (by rw [World.size_alloc]; omega) _ rfl ?_
          intro g5 cap5 w5 hown5 hgr5 hat5 hlt5
          have H5 := hid (Hp.out g5 cap5 w5 hown5 hgr5 hat5)
          clear hown5 hgr5 hat5 hlt5))
        go_roundw
        case rel => exact ⟨_, n, _, H5.out, HL.out.step_as HB.out (Hxt.out)⟩
        case measure => show 8 + 1 - (l.length + 1) < 8 + 1 - lenOf (.slice B l.length d); rw [Hm.out]; omega
set_option maxHeartbeats 1600000 in
theorem devSome_func (b : Nat) (σ : Ds) (w : World) (h : Dst w b σ) :
    Calls Tryd.prog 77 #[.pointer (some ⟨b, 0, none⟩), .int .i64 8, .func (Fn.func 78) #[] #[], .func (Fn.func 79) #[.pointer (some ⟨b, 0, none⟩)] #[]] w (RetLs KF FH.f w b (someS begF funcS 8 σ)) := by
  have H := hid h
  clear h
  go_enter Tryd.func77, Tryd.ntmps77
  go_wp2_with fail
  refine (devList_func b σ _ H.out).mono ?_
  rintro e w1 ⟨B, d, l, rfl, hl, hown, hfr, h1⟩
  have hR : someS begF funcS 8 σ = ((listS begF funcS 8 σ).1, if (listS begF funcS 8 σ).1.isEmpty then failS 4 (listS begF funcS 8 σ).2 else (listS begF funcS 8 σ).2) := rfl
  have HR := hid hR
  have Hl := hid hl; have Hown := hid hown; have Hfr := hid hfr; have H1 := hid h1
  have Hlt := hid H.out.lt
  clear hR hl hown hfr h1
  generalize listS begF funcS 8 σ = r at *
  obtain ⟨r1, σ1⟩ := r
  cases l with
  | nil =>
    have hr : r1 = [] := Hl.out.symm
    subst hr
    go_wp2_with fail
    refine (devFail_any b σ1 4 _ H1.out.1).mono ?_
    rintro e w2 ⟨rfl, h2⟩
    have H2 := hid h2
    clear h2
    go_wp2
    go_ret
    rw [HR.out]
    exact ⟨B, d, [], rfl, rfl, DTo.own Hown.out H2.out Hlt.out, by simp, H1.out.trans H2.out⟩
  | cons x l =>
    have hr : r1.isEmpty = false := by have h1 : List.map FH.f (x :: l) = r1 := Hl.out; rw [← h1]; rfl
    rw [hr] at HR
    clear hr
    generalize hn0 : (x :: l).length = n0 at *
    have Hn0 := hid hn0
    have hpos : 0 < n0 := by rw [← hn0]; simp
    clear hn0
    go_wp2
    go_ret
    rw [HR.out]
    exact ⟨B, d, x :: l, by rw [Hn0.out]; rfl, Hl.out, by rw [Hn0.out]; exact Hown.out, Hfr.out, H1.out⟩
end Go.Proofs.YtlepcgncphikhaaDoor

namespace Go.Proofs.YtlepcgncphikhaaDoor
set_option maxRecDepth 20000
set_option linter.unusedVariables false
set_option linter.unusedSimpArgs false
open Go.ChangeShapes Go.WideShapes Go.ChangeAt Go.RowKit
attribute [local go_sem] fieldTok0 fieldTok1 fieldTok2 fieldTok3
attribute [local go_sem ↓] Go.wp_at_zero Go.wp_at_succ

def PP (x : PH) : World → List (Option Nat) → Prop := fun w ex => PHok w ex x
theorem PP.go {x : PH} {w w' : World} {ex ex' : List (Option Nat)} (h : PP x w ex) (hg : Go2 w ex w' ex') : PP x w' ex' := PHok.go h hg
def RetDp (w : World) (b : Nat) (r : List Fnc × Ds) (e : Ending) (w' : World) : Prop := ∃ x : PH, e = .returned (.agg #[.slice x.A x.n x.c]) ∧ x.p = r.1 ∧ Fr w.heap.size (PP x) w' ∧ DTo w b r.2 w'
theorem pp_of {w : World} {base : Nat} {B : Option Addr} {d : Nat} {l : List FH} (hown : w.ownsRow base 58 2 (.slice B l.length d) l.length (l.flatMap fhc)) (hall : ∀ x ∈ l, Fr base (FP x) w) (hl : l.length ≤ 40) : Fr base (PP ⟨B, l.length, d, l⟩) w :=
  fun ex he => ⟨EAt.own hown (fun g hg hin => by have h1 := (hown.lt g hg).1; have h2 := he g hin; omega), rfl, hl, fun y hy => hall y hy ex he⟩
set_option maxHeartbeats 3200000 in
theorem devProgram_any (b : Nat) (σ : Ds) (w : World) (h : Dst w b σ) : Calls Tryd.prog 48 #[.pointer (some ⟨b, 0, none⟩)] w (RetDp w b (progS σ)) := by
  have HR : Hid (progS σ = ((someS begF funcS 8 σ).1, if (someS begF funcS 8 σ).2.l.isEmpty then (someS begF funcS 8 σ).2 else failS 4 (someS begF funcS 8 σ).2)) := hid rfl
  have Hlt := hid h.lt
  have h0 := hid (show Dst (w.alloc (.cells #[.slice none 0 0] 34)) b σ from h.below ((Below.refl _ _).alloc (Nat.le_refl _) _) h.lt)
  have hf0 := hid (Fb.new w #[.slice none 0 0] 34)
  have hb0 := hid ((Below.refl w.heap.size w).alloc (Nat.le_refl _) (.cells #[.slice none 0 0] 34))
  have hwa := hid (show (w.alloc (.cells #[.slice none 0 0] 34)).heap.size = w.heap.size + 1 by rw [World.size_alloc])
  clear h
  go_enter Tryd.func48, Tryd.ntmps48
  go_wp2_with fail
  generalize w.alloc (.cells #[.slice none 0 0] 34) = wa at *
  refine (devSome_func b σ _ h0.out).mono ?_
  rintro e w1 ⟨B, d, l, rfl, hl, hown, hfr, h1⟩
  have H1 := hid (DTo.belowl hb0.out h1)
  have hf1 := hid (hf0.out.grown h1.2 (by have := Hlt.out; simp; omega))
  have hl2 : l.length ≤ 8 := by
    have h1 : (l.map FH.f).length = (someS begF funcS 8 σ).1.length := by rw [hl]
    have h2 : (someS begF funcS 8 σ).1.length ≤ 8 := listS_len begF funcS 8 σ
    rw [List.length_map] at h1; omega
  rw [← hl] at HR
  have Hp := hid ((pp_of hown hfr (by omega)).less (show w.heap.size + 1 ≤ wa.heap.size by have := hwa.out; omega))
  generalize (someS begF funcS 8 σ).2 = σ1 at *
  have HA := hid ((Below.refl w1.heap.size w1).alloc (Nat.le_refl _) (.cells #[.slice B l.length d] 34))
  have H2 := hid (H1.out.belowr HA.out)
  have hf2 := hid (hf1.out.below HA.out hf1.out.lt)
  have hf3 := hid (Fb.new w1 #[.slice B l.length d] 34)
  have Hp2 : Hid (Fr (w.heap.size + 1) (PP ⟨B, l.length, d, l⟩) (w1.alloc (.cells #[.slice B l.length d] 34))) := hid (Fr.grown (fun h hg => PP.go h hg) Hp.out (grown_of_below HA.out none) (fun k hk => by cases hk))
  have hg1 := hid (show w.heap.size < w1.heap.size from hf1.out.lt)
  clear hl hown hfr h1 h0 hf0 hb0 H1 hf1 Hp HA
  generalize hm : l.length = m at *
  have Hm := hid hm
  clear hm
  obtain ⟨A0, c0, hfb, -, -⟩ := H2.out.1.ex
  obtain ⟨⟨q0, -, -, -⟩, -⟩ := hfb.fourc
  have hfew := H2.out.1.few
  clear hfb
  obtain ⟨l1, ln1, cl1, er1⟩ := σ1
  simp only at q0 hfew
  go_upto_region 2 with fail
  generalize w1.alloc (.cells #[.slice B m d] 34) = w2 at *
  generalize w1.heap.size = g at *
  cases l1 with
  | nil =>
    have HR2 : Hid (progS σ = (l.map FH.f, (⟨[], ln1, cl1, er1⟩ : Ds))) := HR
    clear HR
    have k0 := hf3.out.cell 0
    have v0 := hf2.out.cell 0
    have s0 := hf2.out.frozen 0
    have hsz := hf2.out.lt
    have hb2 := hid (show DTo w b ⟨[], ln1, cl1, er1⟩ (w2.setCell ⟨w.heap.size, 0, none⟩ (.slice B m d)) from ⟨H2.out.1.far Hlt.out _, grown_set_new H2.out.2 (p := ⟨w.heap.size, 0, none⟩) (Nat.le_refl _) _⟩)
    have hpp := hid (Fr.less (M := w.heap.size) (Fr.grown (fun h hg => PP.go h hg) Hp2.out (setCell_grown w2 ⟨w.heap.size, 0, none⟩ (.slice B m d)) (fun k hk => by injection hk with hk; have : w.heap.size = k := hk; omega)) (by omega))
    go_wp2_with fail
    refine bodyPost_ret (v := .agg #[.slice B m d]) (by simp [results, Tryd.results48, go_sem, v0, s0, k0, hsz]) rfl ⟨⟨B, m, d, l⟩, rfl, ?_, hpp.out, ?_⟩
    · rw [HR2.out]; rfl
    · rw [HR2.out]; exact hb2.out
  | cons t l1 =>
    have HR2 : Hid (progS σ = (l.map FH.f, failS 4 (⟨t :: l1, ln1, cl1, er1⟩ : Ds))) := HR
    clear HR
    have hll : (t :: l1).length = l1.length + 1 := by simp
    rw [hll] at q0 hfew
    clear hll
    go_wp2_with fail
    refine (devFail_any b _ 4 _ H2.out.1).mono ?_
    rintro e w3 ⟨rfl, h3⟩
    have H3 := hid (H2.out.trans h3)
    have hf4 := hid (hf2.out.grown h3.2 (by have := Hlt.out; simp; omega))
    have hf5 := hid (hf3.out.grown h3.2 (by have := Hlt.out; have := hg1.out; simp; omega))
    have Hp3 : Hid (Fr (w.heap.size + 1) (PP ⟨B, m, d, l⟩) w3) := hid (Fr.grown (fun h hg => PP.go h hg) Hp2.out h3.2 (fun k hk => by injection hk with hk; have := Hlt.out; omega))
    clear h3 H2 hf2 hf3 Hp2 q0
    have k0 := hf5.out.cell 0
    have v0 := hf4.out.cell 0
    have s0 := hf4.out.frozen 0
    have hsz := hf4.out.lt
    have hb2 := hid (show DTo w b (failS 4 ⟨t :: l1, ln1, cl1, er1⟩) (w3.setCell ⟨w.heap.size, 0, none⟩ (.slice B m d)) from ⟨H3.out.1.far Hlt.out _, grown_set_new H3.out.2 (p := ⟨w.heap.size, 0, none⟩) (Nat.le_refl _) _⟩)
    go_wp2_with fail
    refine bodyPost_ret (v := .agg #[.slice B m d]) (by simp [results, Tryd.results48, go_sem, v0, s0, k0, hsz]) rfl ⟨⟨B, m, d, l⟩, rfl, ?_, ?_, ?_⟩
    · rw [HR2.out]; rfl
    · exact Fr.less (M := w.heap.size) (Fr.grown (fun h hg => PP.go h hg) Hp3.out (setCell_grown w3 ⟨w.heap.size, 0, none⟩ (.slice B m d)) (fun k hk => by injection hk with hk; have : w.heap.size = k := hk; omega)) (by omega)
    · rw [HR2.out]; exact hb2.out
end Go.Proofs.YtlepcgncphikhaaDoor

namespace Go.Proofs.YtlepcgncphikhaaDoor
set_option maxRecDepth 20000
set_option linter.unusedVariables false
set_option linter.unusedSimpArgs false
open Go.ChangeShapes Go.WideShapes Go.ChangeAt Go.RowKit
attribute [local go_sem ↓] Go.wp_at_zero Go.wp_at_succ

theorem own_cap {w : World} {base k n c : Nat} {e : TypeId} {A : Option Addr} {xs : List Value} (h : w.ownsRow base e k (.slice A n c) n xs) : n ≤ c := by
  rcases h.2 with ⟨_, h0⟩ | ⟨g, cap, cur, hv, _, _, hc, _⟩
  · omega
  · injection hv with _ _ e3; omega
/-- What a scan returns, with the capacity. -/
def RetScanC (r : Res) (w : World) (e : Ending) (w' : World) : Prop :=
  ∃ (A : Option Addr) (c : Nat), e = .returned (.tuple #[.slice A r.1.length c, .int .i64 (r.2.1 : Int), .int .i64 (r.2.2.1 : Int), .int .i64 r.2.2.2]) ∧ TArg w' A r.1.length r.1 ∧ r.1.length ≤ c ∧ Below w.heap.size w w'
set_option maxHeartbeats 1600000 in
theorem devScanC_any (s : ByteArray) (w : World) (hs : s.size ≤ maxLen) : Calls Tryd.prog 47 #[.string s] w (RetScanC (scanR s) w) := by
  by_cases hlt : s.size ≤ 4096
  · have hR : scanR s = scanL s 0 1 1 [] := by unfold scanR; rw [if_pos hlt]
    have HR := hid hR
    have h0 := hid (show Scn w w.heap.size s 0 1 0 (.slice none 0 0) [] (w.alloc (.cells #[.string s, .int .i64 0, .int .i64 1, .int .i64 0, .slice none 0 0] 107)) from
      ⟨Fb.new _ _ _, World.ownsRow_nil _ _ _ _, (Below.refl _ _).alloc (Nat.le_refl _) _, Nat.le_refl _⟩)
    clear hR
    unfold maxLen at hs
    go_enter Tryd.func47, Tryd.ntmps47
    go_wp2_with fail
    refine (run_any w.heap.size s w _ h0.out hlt).mono ?_
    rintro e w1 ⟨err, i, line, col, v, l, rfl, hS, hi, ⟨hc1, hc2⟩, hl, hcase⟩
    obtain ⟨⟨c0, c1, c2, c3, c4⟩, f0, f1, f2, f3, f4⟩ := Fb.five hS.1
    rcases hcase with ⟨he, hr⟩ | ⟨he, hr⟩
    · subst he
      have HS := hid hS
      have HR2 := hid (HR.out.trans hr)
      clear hr hS HR
      go_wp2_with fail
      obtain ⟨A, c, hv⟩ := own_any_slice HS.out.2.1
      subst hv
      refine bodyPost_ret (v := .tuple #[.slice A l.length c, .int .i64 0, .int .i64 0, .int .i64 0]) (by simp [results, Tryd.results47, go_sem]) rfl ?_
      rw [HR2.out]
      exact ⟨A, c, rfl, ⟨own_at HS.out.2.1, rfl⟩, own_cap HS.out.2.1, HS.out.2.2.1⟩
    · have ht : (err != 0) = true := by simpa using he
      have HS := hid hS
      have HR2 := hid (HR.out.trans hr)
      have Hcol := hid (fun q => column_any w.heap.size s i line (i + 1 - col) v (w1.drewN q) (HS.out.drewN q).1 (by omega) (by omega))
      clear hr hS HR he
      have hcc : i + 1 - (i + 1 - col) = col := by omega
      rw [hcc] at Hcol
      clear hcc
      go_wp2_with fail
      go_quiet ((go_at_call 76; first | exact Calls.quiet_of (Hcol.out _)))
      go_wp2_with fail
      refine bodyPost_ret (v := .tuple #[.slice none 0 0, .int .i64 (line : Int), .int .i64 (col : Int), .int .i64 err]) (by simp [results, Tryd.results47, go_sem]) rfl ?_
      rw [HR2.out]
      exact ⟨none, 0, rfl, TArg.nil _, Nat.le_refl _, below_drewN HS.out.2.2.1 _⟩
  · have hR : scanR s = ([], 0, 0, 7) := by unfold scanR; rw [if_neg hlt]
    have HR := hid hR
    clear hR
    unfold maxLen at hs
    go_enter Tryd.func47, Tryd.ntmps47
    go_wp2_with fail
    refine bodyPost_ret (v := .tuple #[.slice none 0 0, .int .i64 0, .int .i64 0, .int .i64 7]) (by simp [results, Tryd.results47, go_sem]) rfl ?_
    rw [HR.out]
    exact ⟨none, 0, rfl, TArg.nil _, Nat.le_refl _, Below.refl _ _⟩
def RetParse (r : Par) (w : World) (e : Ending) (w' : World) : Prop :=
  ∃ x : PH, e = .returned (.tuple #[.agg #[.slice x.A x.n x.c], .int .i64 (r.2.1 : Int), .int .i64 (r.2.2.1 : Int), .int .i64 r.2.2.2]) ∧ x.p = r.1 ∧ Fr w.heap.size (PP x) w' ∧ Below w.heap.size w w'
theorem pp_nil (w : World) (N : Nat) : Fr N (PP ⟨none, 0, 0, []⟩) w := fun ex _ => ⟨EAt.nil _ _ _, rfl, by show (0 : Nat) ≤ 40; omega, by simp⟩
theorem Shp.lt {w : World} (h : Shp w) : 0 < w.heap.size := World.block_lt_of_cell? w _ (h 0 _ rfl)
theorem Dst.start {w : World} {A : Option Addr} {c : Nat} {L : List Tok} (ha : TArg w A L.length L) (hc : L.length ≤ c) (hf : L.length ≤ 100000) (ht : AllOk L) (hs : Shp w) :
    Dst (w.alloc (.cells #[.slice A L.length c, .int .i64 0, .int .i64 0, .int .i64 0] 78)) w.heap.size ⟨L, 0, 0, 0⟩ :=
  ⟨⟨A, c, Fb.new w _ _, ha.lies.alloc (Nat.le_refl _) _, hc⟩, hf, ht, hs.keep (Below.heap_alloc w _ 0 hs.lt), hs.lt⟩
set_option maxHeartbeats 3200000 in
theorem devParse_any (s : ByteArray) (w : World) (hs : s.size ≤ maxLen) (hsh : Shp w) : Calls Tryd.prog 18 #[.string s] w (RetParse (parseS s) w) := by
  have HC := hid (fun w => devScanC_any s w hs)
  have HR : Hid (parseS s = (if (scanR s).2.2.2 == 0 then (if (progS ⟨(scanR s).1, 0, 0, 0⟩).2.e == 0 then ((progS ⟨(scanR s).1, 0, 0, 0⟩).1, 0, 0, 0) else ([], (progS ⟨(scanR s).1, 0, 0, 0⟩).2.line, (progS ⟨(scanR s).1, 0, 0, 0⟩).2.col, (progS ⟨(scanR s).1, 0, 0, 0⟩).2.e)) else ([], (scanR s).2.1, (scanR s).2.2.1, (scanR s).2.2.2))) := hid rfl
  have Htok := hid (scan_tok s)
  have Hfew := hid (scanR_few s)
  have hf0 := hid (Fb.new w #[.slice none 0 0] 34)
  have hb0 := hid ((Below.refl w.heap.size w).alloc (Nat.le_refl _) (.cells #[.slice none 0 0] 34))
  have hs0 := hid (show Shp (w.alloc (.cells #[.slice none 0 0] 34)) from hsh.keep (Below.heap_alloc w _ 0 hsh.lt))
  have hwa := hid (show (w.alloc (.cells #[.slice none 0 0] 34)).heap.size = w.heap.size + 1 by rw [World.size_alloc])
  have hw0 := hid hsh.lt
  clear hs hsh
  generalize scanR s = r at *
  obtain ⟨L, line, col, er⟩ := r
  simp only at HR Htok Hfew
  go_enter Tryd.func18, Tryd.ntmps18
  go_wp2_with fail
  generalize w.alloc (.cells #[.slice none 0 0] 34) = wa at *
  refine (HC.out _).mono ?_
  rintro e w1 ⟨A, c, rfl, ha, hc, hb1⟩
  simp only at ha hc
  have hf1 := hid (hf0.out.below hb1 hf0.out.lt)
  have hB1 := hid (hb0.out.trans (hb1.mono hb0.out.size))
  have hs1 := hid (hs0.out.keep (hb1.block 0 hs0.out.lt))
  have Hd := hid (Dst.start ha hc Hfew.out Htok.out hs1.out)
  have hsz1 := hid (show w.heap.size + 1 ≤ w1.heap.size by have := hb1.size; have := hwa.out; omega)
  clear ha hc hb1 hf0 hb0 hs0 hwa HC
  have v0 := hf1.out.cell 0
  have s0 := hf1.out.frozen 0
  have hsz := hf1.out.lt
  cases he : (er == 0) with
  | false =>
    have hne : (er != 0) = true := by simpa using he
    have HR2 : Hid (parseS s = ([], line, col, er)) := hid (by rw [HR.out, he]; rfl)
    have HB : Hid (Below w.heap.size w (w1.setCell ⟨w.heap.size, 0, none⟩ (.slice none 0 0))) := hid (hB1.out.setCell (Nat.le_refl _) _)
    clear HR he Hd
    go_wp2_with fail
    refine bodyPost_ret (v := .tuple #[.agg #[.slice none 0 0], .int .i64 (line : Int), .int .i64 (col : Int), .int .i64 er]) (by simp [results, Tryd.results18, go_sem, v0, s0, hsz]) rfl ?_
    rw [HR2.out]
    exact ⟨⟨none, 0, 0, []⟩, rfl, rfl, pp_nil _ _, HB.out⟩
  | true =>
    have hne : (er != 0) = false := by simpa using he
    have HR2 : Hid (parseS s = (if (progS ⟨L, 0, 0, 0⟩).2.e == 0 then ((progS ⟨L, 0, 0, 0⟩).1, 0, 0, 0) else ([], (progS ⟨L, 0, 0, 0⟩).2.line, (progS ⟨L, 0, 0, 0⟩).2.col, (progS ⟨L, 0, 0, 0⟩).2.e))) := hid (by rw [HR.out, he]; rfl)
    clear HR he
    have hB2 := hid (hB1.out.alloc (by have := hsz1.out; omega) (.cells #[.slice A L.length c, .int .i64 0, .int .i64 0, .int .i64 0] 78))
    have hf2 := hid (hf1.out.alloc (.cells #[.slice A L.length c, .int .i64 0, .int .i64 0, .int .i64 0] 78))
    have hszb := hid (show (w1.alloc (.cells #[.slice A L.length c, .int .i64 0, .int .i64 0, .int .i64 0] 78)).heap.size = w1.heap.size + 1 by rw [World.size_alloc])
    clear v0 s0 hsz
    go_wp2_with fail
    generalize w1.alloc (.cells #[.slice A L.length c, .int .i64 0, .int .i64 0, .int .i64 0] 78) = w2 at *
    generalize w1.heap.size = b at *
    refine (devProgram_any b ⟨L, 0, 0, 0⟩ _ Hd.out).mono ?_
    rintro e w3 ⟨x, rfl, hxp, hpp, h3⟩
    have hlt3 := hid h3.1.lt
    have hf3 := hid (hf2.out.grown h3.2 (by have := hsz1.out; simp; omega))
    have hB3 := hid (hB2.out.grown h3.2 hB2.out.size (fun k hk => by injection hk with hk; have := hsz1.out; omega))
    have Hp3 := hid (hpp.less (M := w.heap.size + 1) (by have := hsz1.out; have := hszb.out; omega))
    have Hx := hid hxp
    have Hst := hid h3.1
    clear hxp hpp h3 hf2 hB2 Hd hB1 hf1
    generalize progS ⟨L, 0, 0, 0⟩ = r at *
    obtain ⟨r1, σ⟩ := r
    obtain ⟨l1, ln1, cl1, er1⟩ := σ
    simp only at Hx Hst HR2
    obtain ⟨X, n, d, l⟩ := x

    have HA := hid ((Below.refl w3.heap.size w3).alloc (Nat.le_refl _) (.cells #[.slice X n d] 34))
    have hst4 := hid (Hst.out.below HA.out hlt3.out)
    have hf4 := hid (hf3.out.below HA.out hf3.out.lt)
    have hB4 := hid (hB3.out.trans (HA.out.mono hB3.out.size))
    have Hp4 : Hid (Fr (w.heap.size + 1) (PP ⟨X, n, d, l⟩) (w3.alloc (.cells #[.slice X n d] 34))) := hid (Fr.grown (fun h hg => PP.go h hg) Hp3.out (grown_of_below HA.out none) (fun k hk => by cases hk))
    have hn4 := hid (Fb.new w3 #[.slice X n d] 34)
    clear HA hf3 hB3 Hp3 Hst
    obtain ⟨A0, c0, hfb, -, -⟩ := hst4.out.ex
    obtain ⟨⟨q0, q1, q2, q3⟩, -⟩ := hfb.fourc
    have hltb := hst4.out.lt
    clear hfb
    go_upto_region 6 with fail
    generalize w3.alloc (.cells #[.slice X n d] 34) = w4 at *
    generalize w3.heap.size = g4 at *
    have v0 := hf4.out.cell 0
    have s0 := hf4.out.frozen 0
    have hsz := hf4.out.lt
    have k0 := hn4.out.cell 0
    have hbw := hsz1.out
    have hsetg := hid (fun u => setCell_grown w4 ⟨w.heap.size, 0, none⟩ u)
    cases he1 : (er1 == 0) with
    | true =>
      have hne1 : (er1 != 0) = false := by simpa using he1
      have HR3 : Hid (parseS s = (r1, 0, 0, 0)) := hid (by rw [HR2.out]; simp only [he1]; rfl)
      have HB : Hid (Below w.heap.size w (w4.setCell ⟨w.heap.size, 0, none⟩ (.slice X n d))) := hid (hB4.out.setCell (Nat.le_refl _) _)
      clear HR2 he1
      go_wp2_with fail
      refine bodyPost_ret (v := .tuple #[.agg #[.slice X n d], .int .i64 0, .int .i64 0, .int .i64 0]) (by simp [results, Tryd.results18, go_sem, v0, s0, hsz]) rfl ?_
      rw [HR3.out]
      exact ⟨⟨X, n, d, l⟩, rfl, Hx.out, Fr.less (M := w.heap.size) (Fr.grown (fun h hg => PP.go h hg) Hp4.out (hsetg.out _) (fun k hk => by injection hk with hk; have : w.heap.size = k := hk; omega)) (by omega), HB.out⟩
    | false =>
      have hne1 : (er1 != 0) = true := by simpa using he1
      have HR3 : Hid (parseS s = ([], ln1, cl1, er1)) := hid (by rw [HR2.out]; simp only [he1]; rfl)
      have HB : Hid (∀ q, Below w.heap.size w ((w4.drewN q).setCell ⟨w.heap.size, 0, none⟩ (.slice none 0 0))) := hid (fun q => (below_drewN hB4.out q).setCell (Nat.le_refl _) _)
      clear HR2 he1
      go_wp2_with fail
      go_region_law (fail)
      all_goals
        go_wp2_with fail
        refine bodyPost_ret (v := .tuple #[.agg #[.slice none 0 0], .int .i64 (ln1 : Int), .int .i64 (cl1 : Int), .int .i64 er1]) (by simp [results, Tryd.results18, go_sem, v0, s0, hsz]) rfl ?_
        rw [HR3.out]
        exact ⟨⟨none, 0, 0, []⟩, rfl, rfl, pp_nil _ _, HB.out 1⟩
end Go.Proofs.YtlepcgncphikhaaDoor

namespace Go.Proofs.YtlepcgncphikhaaDoor
set_option maxRecDepth 20000
set_option linter.unusedVariables false
set_option linter.unusedSimpArgs false
open Go.ChangeShapes Go.WideShapes Go.ChangeAt Go.RowKit
attribute [local go_sem ↓] Go.wp_at_zero Go.wp_at_succ

structure Po (w0 : World) (b : Nat) (A : Option Addr) (c : Nat) (L : List Tok) (σ : Rs) (v : Value) (l : List FH) (w : World) : Prop where
  st : RTo w0 b A c L σ w
  old : b < w0.heap.size
  f3 : Fb w w0.heap.size #[v] 34
  own : w.ownsRow (w0.heap.size + 1) 58 2 v l.length (l.flatMap fhc)
  all : ∀ x ∈ l, FrV (w0.heap.size + 1) v (FP x) w
theorem FP.go {x : FH} {w w' : World} {ex ex' : List (Option Nat)} (h : FP x w ex) (hg : Go2 w ex w' ex') : FP x w' ex' := FHok.go h hg
section
variable {w0 w w' : World} {b : Nat} {A : Option Addr} {c : Nat} {L : List Tok} {σ σ' : Rs} {v : Value} {l : List FH}
theorem Po.start (h : Rst w0 b A c L σ) : Po w0 b A c L σ (.slice none 0 0) [] (w0.alloc (.cells #[.slice none 0 0] 34)) :=
  ⟨(RTo.refl h).belowr ((Below.refl _ _).alloc (Nat.le_refl _) _), h.lt, Fb.new w0 _ _, World.ownsRow_nil _ _ _ _, by simp⟩
theorem Po.call (h : Po w0 b A c L σ v l w) (hr : RTo w b A c L σ' w') : Po w0 b A c L σ' v l w' :=
  ⟨h.st.trans hr, h.old, h.f3.grown hr.2 (by have := h.old; simp; omega), RTo.own h.own hr (by have := h.old; omega),
    fun x hx => (h.all x hx).grown FP.go hr.2 (fun k hk => by injection hk with hk; have := h.old; omega)⟩
theorem Po.below (h : Po w0 b A c L σ v l w) (hb : Below w.heap.size w w') : Po w0 b A c L σ v l w' := h.call ((RTo.refl h.st.1).belowr hb)
theorem Po.drewN (h : Po w0 b A c L σ v l w) (q : Nat) : Po w0 b A c L σ v l (w.drewN q) := h.below (below_drewN (Below.refl _ _) q)
theorem Po.size (h : Po w0 b A c L σ v l w) : w0.heap.size + 1 ≤ w.heap.size := h.f3.lt
theorem Po.push {wa w9 : World} {g9 cap9 : Nat} {x : FH} (h : Po w0 b A c L σ v l w) (ha : Below w.heap.size w wa) (hx : FrV (w0.heap.size + 1) v (FP x) w) (hg : wa.grownBy w9 v.ownBlock)
    (hown : w9.ownsRow (w0.heap.size + 1) 58 2 (.slice (some ⟨g9, 0, none⟩) (l.length + 1) cap9) (l.length + 1) (l.flatMap fhc ++ fhc x)) (hat : v.ownBlock = some g9 ∨ g9 = wa.heap.size) :
    (w9.cell? ⟨w0.heap.size, 0, none⟩ = some v ∧ w9.frozen? ⟨w0.heap.size, 0, none⟩ = false ∧ w0.heap.size < w9.heap.size) ∧
    Po w0 b A c L σ (.slice (some ⟨g9, 0, none⟩) (l.length + 1) cap9) (l ++ [x]) (w9.setCell ⟨w0.heap.size, 0, none⟩ (.slice (some ⟨g9, 0, none⟩) (l.length + 1) cap9)) := by
  have h1 := h.below ha
  have ho := h.old
  have hlt : ∀ k, v.ownBlock = some k → w0.heap.size + 1 ≤ k := fun k hk => (h1.own.lt k hk).1
  have hne : ∀ k, k < w0.heap.size + 1 → some k ≠ v.ownBlock := fun k hk e => by have := hlt k e.symm; omega
  have hf3 := h1.f3.grown hg (hne _ (by omega))
  have hxV : FrV (w0.heap.size + 1) v (FP x) wa := hx.grown FP.go (grown_of_below ha none) (fun k hk => by cases hk)
  have hset := setCell_grown w9 ⟨w0.heap.size, 0, none⟩ (.slice (some ⟨g9, 0, none⟩) (l.length + 1) cap9)
  have hg9 := (hown.lt g9 rfl).1
  refine ⟨⟨hf3.cell 0, hf3.frozen 0, hf3.lt⟩, ?_⟩
  refine ⟨⟨(h1.st.1.grown hg (fun k hk => by have := hlt k hk; omega)).far (by show b < w0.heap.size; omega) _, grown_set_new ?_ (Nat.le_refl _) _⟩, ho, ?_, ?_, ?_⟩
  · have h2 := h1.st.2
    exact ⟨hg.os.trans h2.os, hg.tape.trans h2.tape, hg.output.trans h2.output, Nat.le_trans h2.size hg.size, fun i hi hne2 => (hg.block i (Nat.lt_of_lt_of_le hi h2.size) (hne i (by omega))).trans (h2.block i hi hne2)⟩
  · have := hf3.set 0 (.slice (some ⟨g9, 0, none⟩) (l.length + 1) cap9)
    simpa using this
  · rw [List.flatMap_append, List.length_append]
    have e : [x].flatMap fhc = fhc x := by simp
    rw [e]
    exact hown.kept hset (.inr (by show some g9 ≠ some w0.heap.size; simp; omega))
  · intro y hy
    have hyV : FrV (w0.heap.size + 1) v (FP y) wa := by
      rcases List.mem_append.1 hy with hy | hy
      · exact h1.all y hy
      · simp at hy; subst hy; exact hxV
    exact (hyV.push FP.go hg (v' := .slice (some ⟨g9, 0, none⟩) (l.length + 1) cap9) (g := g9) rfl hat).grown FP.go hset (fun k hk => by injection hk with hk; have : w0.heap.size = k := hk; omega)
end
def lenAt0 (g : Nat) (w : World) : Nat := match w.cell? ⟨g, 0, none⟩ with | some (.slice _ n _) => n | _ => 0
theorem lenAt0_of {g n c : Nat} {B : Option Addr} {w : World} (h : w.cell? ⟨g, 0, none⟩ = some (.slice B n c)) : lenAt0 g w = n := by unfold lenAt0; rw [h]
theorem RTo.kept {w w' : World} {b c : Nat} {A : Option Addr} {L : List Tok} {σ : Rs} {g t : Nat} {cs : Array Value} (h : RTo w b A c L σ w') (hf : Fb w g cs t) (hne : g ≠ b) : Fb w' g cs t := hf.grown h.2 (by simpa using hne)
end Go.Proofs.YtlepcgncphikhaaDoor

namespace Go.Proofs.YtlepcgncphikhaaDoor
set_option maxRecDepth 20000
set_option linter.unusedVariables false
set_option linter.unusedSimpArgs false
open Go.ChangeShapes Go.WideShapes Go.ChangeAt Go.RowKit
attribute [local go_sem ↓] Go.wp_at_zero Go.wp_at_succ

theorem progR_of {σ0 : Rs} {done : List Fnc} {le : List Tok} {ee : Int} (h : listR (isK kwFunc) funcR 8 (needR (isK kwFunc) σ0) = (done, ⟨le, ee⟩)) :
    progR σ0 = (done, if ee == 0 && !le.isEmpty then failR 4 ⟨le, ee⟩ else ⟨le, ee⟩) := by
  unfold progR
  simp only
  rw [h]
theorem Po.pp {w0 w : World} {b c d : Nat} {A B : Option Addr} {L : List Tok} {σ : Rs} {l : List FH} (h : Po w0 b A c L σ (.slice B l.length d) l w) (hl : l.length ≤ 40) : Fr (w0.heap.size + 1) (PP ⟨B, l.length, d, l⟩) w :=
  pp_of h.own (fun x hx => (h.all x hx).fr) hl
theorem Po.grownw {w0 w : World} {b c : Nat} {A : Option Addr} {L : List Tok} {σ : Rs} {v : Value} {l : List FH} (h : Po w0 b A c L σ v l w) : w0.grownBy w (some b) := h.st.2
def parO (p : List Fnc × Rs) : Par := if p.2.e == 0 then (p.1, 0, 0, 0) else ([], (nxt p.2.l).line, (nxt p.2.l).col, p.2.e)
theorem parO_ok {P : List Fnc} {l : List Tok} {ee : Int} (h : (ee == 0) = true) : parO (P, ⟨l, ee⟩) = (P, 0, 0, 0) := by
  unfold parO
  exact if_pos h
theorem parO_bad {P : List Fnc} {l : List Tok} {ee : Int} (h : (ee == 0) = false) : parO (P, ⟨l, ee⟩) = ([], (nxt l).line, (nxt l).col, ee) := by
  unfold parO
  exact if_neg (by show ¬ ((ee == 0) = true); rw [h]; exact Bool.false_ne_true)
theorem par_more {s : ByteArray} {σ0 : Rs} {done : List Fnc} {le : List Tok} {ee : Int} (h2 : parseR s = parO (progR σ0)) (h : progR σ0 = (done, if ee == 0 && !le.isEmpty then failR 4 ⟨le, ee⟩ else ⟨le, ee⟩)) (he : (ee == 0) = true) (hn : le ≠ []) (hf : failR 4 ⟨le, ee⟩ = ⟨le, 4⟩) :
    parseR s = ([], (nxt le).line, (nxt le).col, 4) := by
  have hemp : le.isEmpty = false := by cases le with | nil => exact absurd rfl hn | cons => rfl
  rw [h2, h, hemp, he, hf]
  exact parO_bad rfl
theorem par_end {s : ByteArray} {σ0 : Rs} {done : List Fnc} {le : List Tok} {ee : Int} (h2 : parseR s = parO (progR σ0)) (h : progR σ0 = (done, if ee == 0 && !le.isEmpty then failR 4 ⟨le, ee⟩ else ⟨le, ee⟩)) (he : (ee == 0) = true) (hn : le = []) :
    parseR s = (done, 0, 0, 0) := by
  subst hn
  rw [h2, h]
  have h0 : (ee == 0 && !([] : List Tok).isEmpty) = false := by simp
  rw [h0]
  exact parO_ok he
theorem par_err {s : ByteArray} {σ0 : Rs} {done : List Fnc} {le : List Tok} {ee : Int} (h2 : parseR s = parO (progR σ0)) (h : progR σ0 = (done, if ee == 0 && !le.isEmpty then failR 4 ⟨le, ee⟩ else ⟨le, ee⟩)) (he : (ee == 0) = false) :
    parseR s = ([], (nxt le).line, (nxt le).col, ee) := by
  rw [h2, h, he]
  exact parO_bad he
set_option maxHeartbeats 20000000 in
theorem refParse_any (s : ByteArray) (w : World) (hs : s.size ≤ maxLen) : Calls Tryd.prog 41 #[.string s] w (RetParse (parseR s) w) := by
  have HC := hid (fun w => refScan_any s w hs)
  have HR : Hid (parseR s = (if (scanR s).2.2.2 == 0 then parO (progR ⟨(scanR s).1, 0⟩) else ([], (scanR s).2.1, (scanR s).2.2.1, (scanR s).2.2.2))) := hid rfl
  have HS := hid (show Short (scanR s).1 from fun t ht => tokOk_size (scan_tok s t ht))
  have Hfew := hid (scanR_few s)
  have hf0 := hid (Fb.new w #[.slice none 0 0] 34)
  have hb0 := hid ((Below.refl w.heap.size w).alloc (Nat.le_refl _) (.cells #[.slice none 0 0] 34))
  have hwa := hid (show (w.alloc (.cells #[.slice none 0 0] 34)).heap.size = w.heap.size + 1 by rw [World.size_alloc])
  clear hs
  generalize scanR s = r at *
  obtain ⟨L, line, col, er⟩ := r
  simp only at HR HS Hfew
  obtain ⟨i3, hi, hz0, hz1, hz2⟩ := info_parts info63
  have Hi := hid hi; have Hz0 := hid hz0; have Hz1 := hid hz1; have Hz2 := hid hz2
  clear hi hz0 hz1 hz2
  go_enter Tryd.func41, Tryd.ntmps41
  go_wp2_with fail
  generalize w.alloc (.cells #[.slice none 0 0] 34) = wa at *
  refine (HC.out _).mono ?_
  rintro e w1 ⟨A, c, rfl, ha, hb1⟩
  simp only at ha
  have hf1 := hid (hf0.out.below hb1 hf0.out.lt)
  have hB1 := hid (hb0.out.trans (hb1.mono hb0.out.size))
  have hsz1 := hid (show w.heap.size + 1 ≤ w1.heap.size by have := hb1.size; have := hwa.out; omega)
  cases he : (er == 0) with
  | false =>
    have hne : (er != 0) = true := by simpa using he
    have HR2 : Hid (parseR s = ([], line, col, er)) := hid (by rw [HR.out, he]; rfl)
    have HB : Hid (Below w.heap.size w (w1.setCell ⟨w.heap.size, 0, none⟩ (.slice none 0 0))) := hid (hB1.out.setCell (Nat.le_refl _) _)
    have v0 := hf1.out.cell 0
    have s0 := hf1.out.frozen 0
    have hsz := hf1.out.lt
    clear HR he ha hb1
    go_wp2_with fail
    refine bodyPost_ret (v := .tuple #[.agg #[.slice none 0 0], .int .i64 (line : Int), .int .i64 (col : Int), .int .i64 er]) (by simp [results, Tryd.results41, go_sem, v0, s0, hsz]) rfl ?_
    rw [HR2.out]
    exact ⟨⟨none, 0, 0, []⟩, rfl, rfl, pp_nil _ _, HB.out⟩
  | true =>
    have hne : (er != 0) = false := by simpa using he
    have HR2 : Hid (parseR s = parO (progR ⟨L, 0⟩)) := hid (by rw [HR.out, he]; rfl)
    have hst := hid (show Rst (w1.alloc (.cells #[.slice A L.length c, .int .i64 0, .int .i64 0] 101)) w1.heap.size A c L ⟨L, 0⟩ from ⟨⟨0, Nat.zero_le _, rfl, Fb.new w1 _ _⟩, ha.lies.alloc (Nat.le_refl _) _, Hfew.out⟩)
    have hB2 := hid (hB1.out.alloc (by have := hsz1.out; omega) (.cells #[.slice A L.length c, .int .i64 0, .int .i64 0] 101))
    have hf2 := hid ((hf1.out.alloc (.cells #[.slice A L.length c, .int .i64 0, .int .i64 0] 101)).alloc (.cells #[.slice none 0 0] 34))
    have hszp := hid (show (w1.alloc (.cells #[.slice A L.length c, .int .i64 0, .int .i64 0] 101)).heap.size = w1.heap.size + 1 by rw [World.size_alloc])
    have H0 := hid (Po.start hst.out)
    clear HR he ha hb1 hf0 hb0 hwa hf1 HC hst
    go_wp2_with fail
    generalize w1.alloc (.cells #[.slice A L.length c, .int .i64 0, .int .i64 0] 101) = wp at *
    generalize w1.heap.size = b at *
    have hszp2 := hszp.out
    have hszb := hsz1.out
    rw [show b + 1 = wp.heap.size from hszp2.symm]
    have hww : w.heap.size < wp.heap.size := by omega
    have hwb : w.heap.size < b := by omega
    have hbp : b < wp.heap.size := by omega
    clear hszp2 hszb
    generalize wp.alloc (.cells #[.slice none 0 0] 34) = w2 at *
    refine (refIs_any b A c L ⟨L, 0⟩ kwFunc _ H0.out.st.1).mono ?_
    rintro e w5 ⟨rfl, hb5⟩
    have H5 := hid (H0.out.below hb5)
    have hf5 := hid (hf2.out.below hb5 hf2.out.lt)
    clear hb5 H0 hf2
    cases hb0 : isK kwFunc ⟨L, 0⟩ with
    | true =>
      have hneed := hid (show needR (isK kwFunc) ⟨L, 0⟩ = ⟨L, 0⟩ by unfold needR; rw [hb0]; rfl)
      generalize hσ3 : (⟨L, 0⟩ : Rs) = σ3 at *
      clear hσ3 hb0
      go_wp2_with fail
      go_loopw [] (fun wr => ∃ (l : List FH) (n : Nat) (σ4 : Rs) (v : Value), Hid (Po wp b A c L σ4 v l wr) ∧ Hid (Lrel (isK kwFunc) funcR 8 σ3 (l.map FH.f) n σ4) ∧ Hid (Fb wr w.heap.size #[.slice none 0 0] 34)) (fun wr => 9 - lenAt0 wp.heap.size wr)
      case atStart => exact ⟨[], 8, σ3, _, H5.out, Lrel.start, hf5.out⟩
      case round =>
        clear H5 hf5
        obtain ⟨l, n, σ4, v, H, HL, hfR⟩ := hrel
        obtain ⟨B, d, hv⟩ := own_any_slice H.out.own
        subst hv
        have hlen : l.length + n = 8 := by have := HL.out.1; simpa using this
        have q0 := H.out.f3.cell 0
        have Hm := hid (lenAt0_of q0)
        clear q0
        cases hb : isK kwFunc σ4 with
        | false =>
          have HB0 := hid hb
          clear hb
          go_wp2_with fail
          refine (refIs_any b A c L σ4 kwFunc _ H.out.st.1).mono ?_
          rw [HB0.out]
          rintro e w7 ⟨rfl, hb7⟩
          have H7 := hid (H.out.below hb7)
          have hf7 := hid (hfR.out.below hb7 hfR.out.lt)
          clear hb7 H hfR
          obtain ⟨le, ee⟩ := σ4
          have HPg := hid (progR_of (σ0 := σ3) (done := l.map FH.f) (le := le) (ee := ee) (by rw [hneed.out]; exact HL.out.stop HB0.out))
          obtain ⟨k, hk, hl, hf⟩ := H7.out.st.1.at_
          simp only at hl hf
          cases hee : (ee == 0) with
          | true =>
            by_cases hkl : k < L.length
            · as_aux_lemma =>
              have HneL := hid (show le ≠ [] by
                  intro h0
                  rw [h0] at hl
                  have h1 := congrArg List.length hl
                  rw [List.length_drop] at h1
                  simp at h1
                  omega)
              have hfr := hid (show failR 4 ⟨le, ee⟩ = ⟨le, 4⟩ by unfold failR; simp [hee])
              have HPar : Hid (parseR s = ([], (nxt le).line, (nxt le).col, 4)) := hid (par_more HR2.out HPg.out hee HneL.out hfr.out)
              obtain ⟨⟨c0, c1, c2⟩, -⟩ := hf.three
              have hfew0 := H7.out.st.1.few
              clear hf hl HR2 HPg
              go_wp2_with fail
              refine (refFail_any b A c L ⟨le, ee⟩ 4 _ H7.out.st.1).mono ?_
              rintro e w8 ⟨rfl, h8⟩
              rw [hfr.out] at h8
              have H8 := hid (H7.out.call h8)
              have hf8 := hid (h8.kept hf7.out (by omega))
              clear h8 H7 hf7 c0 c1 c2 hfew0
              obtain ⟨k2, hk2, hl2, hfp⟩ := H8.out.st.1.at_
              simp only at hl2 hfp
              have hkl2 : k2 < L.length := by
                rcases Nat.lt_or_ge k2 L.length with h | h
                · exact h
                · exact absurd (by rw [← hl2, nxt_end h]) HneL.out
              obtain ⟨a, hAa, hab, -, a2, a3⟩ := H8.out.st.1.arg.cell hkl2
              subst hAa
              rw [← nxt_drop hkl2, hl2] at a2 a3
              obtain ⟨⟨c0, c1, c2⟩, -⟩ := hfp.three
              have hltb := H8.out.st.1.lt
              have hfew := H8.out.st.1.few
              have hna : a.block ≠ w.heap.size := by
                intro hq
                have h1 := a2
                rw [show (a.add (k2 * 4)).block = w.heap.size by rw [add_block]; exact hq] at h1
                rw [hf8.out.cell] at h1
                simp at h1
              have hna2 : w.heap.size ≠ a.block := fun h => hna h.symm
              have hab2 : (a.add (k2 * 4)).block < w8.heap.size := by rw [add_block]; exact hab
              have v0 := hf8.out.cell 0
              have s0 := hf8.out.frozen 0
              have hsz := hf8.out.lt
              have hBX := hid (hB2.out.grown H8.out.st.2 hB2.out.size (fun k hk => by injection hk with hk; omega))
              have HB : Hid (∀ q, Below w.heap.size w ((w8.drewN q).setCell ⟨w.heap.size, 0, none⟩ (.slice none 0 0))) := hid (fun q => (below_drewN hBX.out q).setCell (Nat.le_refl _) _)
              generalize (nxt le).line = ln at *
              generalize (nxt le).col = cl at *
              have hS0 : ((fun w' => Below w.heap.size w w' ∧ w'.cell? ⟨w.heap.size, 0, none⟩ = some (.slice none 0 0) ∧ w'.frozen? ⟨w.heap.size, 0, none⟩ = false ∧ w.heap.size < w'.heap.size ∧ w'.cell? ⟨b, 1, none⟩ = some (.int .i64 (k2 : Int)) ∧ w'.cell? ⟨b, 2, none⟩ = some (.int .i64 4) ∧ w'.cell? ⟨(a.add (k2 * 4)).block, (a.add (k2 * 4)).off + 2, none⟩ = some (.int .i64 (ln : Int)) ∧ w'.cell? ⟨(a.add (k2 * 4)).block, (a.add (k2 * 4)).off + 3, none⟩ = some (.int .i64 (cl : Int))) (w8.drew)) := ⟨below_drewN hBX.out 1, v0, s0, hsz, c1, c2, a2, a3⟩
              have HS0 := hid hS0
              have hSt : ∀ w', (fun w' => Below w.heap.size w w' ∧ w'.cell? ⟨w.heap.size, 0, none⟩ = some (.slice none 0 0) ∧ w'.frozen? ⟨w.heap.size, 0, none⟩ = false ∧ w.heap.size < w'.heap.size ∧ w'.cell? ⟨b, 1, none⟩ = some (.int .i64 (k2 : Int)) ∧ w'.cell? ⟨b, 2, none⟩ = some (.int .i64 4) ∧ w'.cell? ⟨(a.add (k2 * 4)).block, (a.add (k2 * 4)).off + 2, none⟩ = some (.int .i64 (ln : Int)) ∧ w'.cell? ⟨(a.add (k2 * 4)).block, (a.add (k2 * 4)).off + 3, none⟩ = some (.int .i64 (cl : Int))) w' → (fun w' => Below w.heap.size w w' ∧ w'.cell? ⟨w.heap.size, 0, none⟩ = some (.slice none 0 0) ∧ w'.frozen? ⟨w.heap.size, 0, none⟩ = false ∧ w.heap.size < w'.heap.size ∧ w'.cell? ⟨b, 1, none⟩ = some (.int .i64 (k2 : Int)) ∧ w'.cell? ⟨b, 2, none⟩ = some (.int .i64 4) ∧ w'.cell? ⟨(a.add (k2 * 4)).block, (a.add (k2 * 4)).off + 2, none⟩ = some (.int .i64 (ln : Int)) ∧ w'.cell? ⟨(a.add (k2 * 4)).block, (a.add (k2 * 4)).off + 3, none⟩ = some (.int .i64 (cl : Int))) (w'.setCell ⟨w.heap.size, 0, none⟩ (.slice none 0 0)) := by
                rintro w' ⟨h0, h1, h2, h3, h4, h5, h6, h7⟩
                refine ⟨h0.setCell (Nat.le_refl _) _, World.cell?_setCell_same (w := w') (a := ⟨w.heap.size, 0, none⟩) (v := .slice none 0 0) h1, by rw [World.frozen?_setCell]; exact h2, by rw [World.size_setCell]; exact h3, ?_, ?_, ?_, ?_⟩
                · exact (World.cell?_setCell_far _ _ _ _ (by show w.heap.size ≠ b; omega)).trans h4
                · exact (World.cell?_setCell_far _ _ _ _ (by show w.heap.size ≠ b; omega)).trans h5
                · exact (World.cell?_setCell_far _ _ _ _ (by show w.heap.size ≠ (a.add (k2 * 4)).block; rw [add_block]; exact hna2)).trans h6
                · exact (World.cell?_setCell_far _ _ _ _ (by show w.heap.size ≠ (a.add (k2 * 4)).block; rw [add_block]; exact hna2)).trans h7
              have HSt := hid hSt
              clear hl2 hfp hS0 hSt
              go_wp2_with fail
              clear c0 c1 c2 v0 s0 hsz a2 a3
              go_region_held3 (fun w' => Below w.heap.size w w' ∧ w'.cell? ⟨w.heap.size, 0, none⟩ = some (.slice none 0 0) ∧ w'.frozen? ⟨w.heap.size, 0, none⟩ = false ∧ w.heap.size < w'.heap.size ∧ w'.cell? ⟨b, 1, none⟩ = some (.int .i64 (k2 : Int)) ∧ w'.cell? ⟨b, 2, none⟩ = some (.int .i64 4) ∧ w'.cell? ⟨(a.add (k2 * 4)).block, (a.add (k2 * 4)).off + 2, none⟩ = some (.int .i64 (ln : Int)) ∧ w'.cell? ⟨(a.add (k2 * 4)).block, (a.add (k2 * 4)).off + 3, none⟩ = some (.int .i64 (cl : Int)))
                (first | exact HS0.out | exact HSt.out _ (by assumption) | assumption)
                (fail)
              go_wp2_with fail
              rename (Below _ _ _ ∧ _) => hh
              obtain ⟨hB9, v9, s9, hz9, -⟩ := hh
              refine bodyPost_ret (v := .tuple #[.agg #[.slice none 0 0], .int .i64 (ln : Int), .int .i64 (cl : Int), .int .i64 4]) (by simp [results, Tryd.results41, go_sem, v9, s9, hz9]) rfl ?_
              rw [HPar.out]
              exact ⟨⟨none, 0, 0, []⟩, rfl, rfl, pp_nil _ _, hB9⟩
            · as_aux_lemma =>
              have hle : le = [] := by rw [← hl, nxt_end (by omega)]
              have hkL : k = L.length := by omega
              have HPar : Hid (parseR s = (l.map FH.f, 0, 0, 0)) := hid (par_end HR2.out HPg.out hee hle)
              subst hkL
              clear hl HR2 HPg hkl
              obtain ⟨⟨c0, c1, c2⟩, -⟩ := hf.three
              have hltb := H7.out.st.1.lt
              have v0 := hf7.out.cell 0
              have s0 := hf7.out.frozen 0
              have hsz := hf7.out.lt
              have k0 := H7.out.f3.cell 0
              have hszX := H7.out.f3.lt
              have hBX := hid (hB2.out.grown H7.out.st.2 hB2.out.size (fun k hk => by injection hk with hk; omega))
              have HB : Hid (Below w.heap.size w (w7.setCell ⟨w.heap.size, 0, none⟩ (.slice B l.length d))) := hid (hBX.out.setCell (Nat.le_refl _) _)
              have Hpp := hid (show Fr w.heap.size (PP ⟨B, l.length, d, l⟩) (w7.setCell ⟨w.heap.size, 0, none⟩ (.slice B l.length d)) from Fr.less (M := w.heap.size) (Fr.grown (fun h hg => PP.go h hg) (H7.out.pp (by omega)) (setCell_grown w7 ⟨w.heap.size, 0, none⟩ _) (fun k hk => by injection hk with hk; have : w.heap.size = k := hk; omega)) (by omega))
              clear hf
              go_wp2_with fail
              refine bodyPost_ret (v := .tuple #[.agg #[.slice B l.length d], .int .i64 0, .int .i64 0, .int .i64 0]) (by simp [results, Tryd.results41, go_sem, v0, s0, hsz]) rfl ?_
              rw [HPar.out]
              exact ⟨⟨B, l.length, d, l⟩, rfl, rfl, Hpp.out, HB.out⟩
          | false =>
            have HPar0 : Hid (parseR s = ([], (nxt le).line, (nxt le).col, ee)) := hid (par_err HR2.out HPg.out hee)
            by_cases hkl : k < L.length
            · as_aux_lemma =>
              have HneL := hid (show le ≠ [] by
                  intro h0
                  rw [h0] at hl
                  have h1 := congrArg List.length hl
                  rw [List.length_drop] at h1
                  simp at h1
                  omega)
              have HPar := HPar0
              clear HPar0 hf hl HR2 HPg
              obtain ⟨k2, hk2, hl2, hfp⟩ := H7.out.st.1.at_
              simp only at hl2 hfp
              have hkl2 : k2 < L.length := by
                rcases Nat.lt_or_ge k2 L.length with h | h
                · exact h
                · exact absurd (by rw [← hl2, nxt_end h]) HneL.out
              obtain ⟨a, hAa, hab, -, a2, a3⟩ := H7.out.st.1.arg.cell hkl2
              subst hAa
              rw [← nxt_drop hkl2, hl2] at a2 a3
              obtain ⟨⟨c0, c1, c2⟩, -⟩ := hfp.three
              have hltb := H7.out.st.1.lt
              have hfew := H7.out.st.1.few
              have hna : a.block ≠ w.heap.size := by
                intro hq
                have h1 := a2
                rw [show (a.add (k2 * 4)).block = w.heap.size by rw [add_block]; exact hq] at h1
                rw [hf7.out.cell] at h1
                simp at h1
              have hna2 : w.heap.size ≠ a.block := fun h => hna h.symm
              have hab2 : (a.add (k2 * 4)).block < w7.heap.size := by rw [add_block]; exact hab
              have v0 := hf7.out.cell 0
              have s0 := hf7.out.frozen 0
              have hsz := hf7.out.lt
              have hBX := hid (hB2.out.grown H7.out.st.2 hB2.out.size (fun k hk => by injection hk with hk; omega))
              have HB : Hid (∀ q, Below w.heap.size w ((w7.drewN q).setCell ⟨w.heap.size, 0, none⟩ (.slice none 0 0))) := hid (fun q => (below_drewN hBX.out q).setCell (Nat.le_refl _) _)
              generalize (nxt le).line = ln at *
              generalize (nxt le).col = cl at *
              have hS0 : ((fun w' => Below w.heap.size w w' ∧ w'.cell? ⟨w.heap.size, 0, none⟩ = some (.slice none 0 0) ∧ w'.frozen? ⟨w.heap.size, 0, none⟩ = false ∧ w.heap.size < w'.heap.size ∧ w'.cell? ⟨b, 1, none⟩ = some (.int .i64 (k2 : Int)) ∧ w'.cell? ⟨b, 2, none⟩ = some (.int .i64 ee) ∧ w'.cell? ⟨(a.add (k2 * 4)).block, (a.add (k2 * 4)).off + 2, none⟩ = some (.int .i64 (ln : Int)) ∧ w'.cell? ⟨(a.add (k2 * 4)).block, (a.add (k2 * 4)).off + 3, none⟩ = some (.int .i64 (cl : Int))) (w7.drew)) := ⟨below_drewN hBX.out 1, v0, s0, hsz, c1, c2, a2, a3⟩
              have HS0 := hid hS0
              have hSt : ∀ w', (fun w' => Below w.heap.size w w' ∧ w'.cell? ⟨w.heap.size, 0, none⟩ = some (.slice none 0 0) ∧ w'.frozen? ⟨w.heap.size, 0, none⟩ = false ∧ w.heap.size < w'.heap.size ∧ w'.cell? ⟨b, 1, none⟩ = some (.int .i64 (k2 : Int)) ∧ w'.cell? ⟨b, 2, none⟩ = some (.int .i64 ee) ∧ w'.cell? ⟨(a.add (k2 * 4)).block, (a.add (k2 * 4)).off + 2, none⟩ = some (.int .i64 (ln : Int)) ∧ w'.cell? ⟨(a.add (k2 * 4)).block, (a.add (k2 * 4)).off + 3, none⟩ = some (.int .i64 (cl : Int))) w' → (fun w' => Below w.heap.size w w' ∧ w'.cell? ⟨w.heap.size, 0, none⟩ = some (.slice none 0 0) ∧ w'.frozen? ⟨w.heap.size, 0, none⟩ = false ∧ w.heap.size < w'.heap.size ∧ w'.cell? ⟨b, 1, none⟩ = some (.int .i64 (k2 : Int)) ∧ w'.cell? ⟨b, 2, none⟩ = some (.int .i64 ee) ∧ w'.cell? ⟨(a.add (k2 * 4)).block, (a.add (k2 * 4)).off + 2, none⟩ = some (.int .i64 (ln : Int)) ∧ w'.cell? ⟨(a.add (k2 * 4)).block, (a.add (k2 * 4)).off + 3, none⟩ = some (.int .i64 (cl : Int))) (w'.setCell ⟨w.heap.size, 0, none⟩ (.slice none 0 0)) := by
                rintro w' ⟨h0, h1, h2, h3, h4, h5, h6, h7⟩
                refine ⟨h0.setCell (Nat.le_refl _) _, World.cell?_setCell_same (w := w') (a := ⟨w.heap.size, 0, none⟩) (v := .slice none 0 0) h1, by rw [World.frozen?_setCell]; exact h2, by rw [World.size_setCell]; exact h3, ?_, ?_, ?_, ?_⟩
                · exact (World.cell?_setCell_far _ _ _ _ (by show w.heap.size ≠ b; omega)).trans h4
                · exact (World.cell?_setCell_far _ _ _ _ (by show w.heap.size ≠ b; omega)).trans h5
                · exact (World.cell?_setCell_far _ _ _ _ (by show w.heap.size ≠ (a.add (k2 * 4)).block; rw [add_block]; exact hna2)).trans h6
                · exact (World.cell?_setCell_far _ _ _ _ (by show w.heap.size ≠ (a.add (k2 * 4)).block; rw [add_block]; exact hna2)).trans h7
              have HSt := hid hSt
              clear hl2 hfp hS0 hSt
              go_wp2_with fail
              clear c0 c1 c2 v0 s0 hsz a2 a3
              go_region_held3 (fun w' => Below w.heap.size w w' ∧ w'.cell? ⟨w.heap.size, 0, none⟩ = some (.slice none 0 0) ∧ w'.frozen? ⟨w.heap.size, 0, none⟩ = false ∧ w.heap.size < w'.heap.size ∧ w'.cell? ⟨b, 1, none⟩ = some (.int .i64 (k2 : Int)) ∧ w'.cell? ⟨b, 2, none⟩ = some (.int .i64 ee) ∧ w'.cell? ⟨(a.add (k2 * 4)).block, (a.add (k2 * 4)).off + 2, none⟩ = some (.int .i64 (ln : Int)) ∧ w'.cell? ⟨(a.add (k2 * 4)).block, (a.add (k2 * 4)).off + 3, none⟩ = some (.int .i64 (cl : Int)))
                (first | exact HS0.out | exact HSt.out _ (by assumption) | assumption)
                (fail)
              go_wp2_with fail
              rename (Below _ _ _ ∧ _) => hh
              obtain ⟨hB9, v9, s9, hz9, -⟩ := hh
              refine bodyPost_ret (v := .tuple #[.agg #[.slice none 0 0], .int .i64 (ln : Int), .int .i64 (cl : Int), .int .i64 ee]) (by simp [results, Tryd.results41, go_sem, v9, s9, hz9]) rfl ?_
              rw [HPar.out]
              exact ⟨⟨none, 0, 0, []⟩, rfl, rfl, pp_nil _ _, hB9⟩
            · as_aux_lemma =>
              have hle : le = [] := by rw [← hl, nxt_end (by omega)]
              have hkL : k = L.length := by omega
              have HPar : Hid (parseR s = ([], 0, 0, ee)) := hid (by rw [HPar0.out, hle]; rfl)
              subst hkL
              clear HPar0 hl HR2 HPg hkl
              obtain ⟨⟨c0, c1, c2⟩, -⟩ := hf.three
              have hltb := H7.out.st.1.lt
              have v0 := hf7.out.cell 0
              have s0 := hf7.out.frozen 0
              have hsz := hf7.out.lt
              have hBX := hid (hB2.out.grown H7.out.st.2 hB2.out.size (fun k hk => by injection hk with hk; omega))
              have HB : Hid (∀ q, Below w.heap.size w ((w7.drewN q).setCell ⟨w.heap.size, 0, none⟩ (.slice none 0 0))) := hid (fun q => (below_drewN hBX.out q).setCell (Nat.le_refl _) _)
              clear hf
              go_wp2_with fail
              go_region_law (fail)
              all_goals
                go_wp2_with fail
                refine bodyPost_ret (v := .tuple #[.agg #[.slice none 0 0], .int .i64 0, .int .i64 0, .int .i64 ee]) (by simp [results, Tryd.results41, go_sem, v0, s0, hsz]) rfl ?_
                rw [HPar.out]
                exact ⟨⟨none, 0, 0, []⟩, rfl, rfl, pp_nil _ _, HB.out 1⟩
        | true =>
          have HB0 := hid hb
          clear hb
          cases n with
          | zero =>
            have hl8 : l.length = 8 := by omega
            go_wp2_with fail
            refine (refIs_any b A c L σ4 kwFunc _ H.out.st.1).mono ?_
            rw [HB0.out]
            rintro e w7 ⟨rfl, hb7⟩
            have H7 := hid (H.out.below hb7)
            have hf7 := hid (hfR.out.below hb7 hfR.out.lt)
            clear hb7 H hfR
            have q0 := H7.out.f3.cell 0
            have tl : ((l.length : Int) == 8) = true := by simp; omega
            go_wp2_with fail
            clear q0 tl
            refine (refFail_any b A c L σ4 7 _ H7.out.st.1).mono ?_
            rintro e w8 ⟨rfl, h8⟩
            obtain ⟨le, ee⟩ := σ4
            have hfr := hid (show failR 7 ⟨le, ee⟩ = ⟨le, 7⟩ by
              have h0 : ee = 0 := (isK_ne HB0.out).1
              unfold failR
              simp [h0])
            rw [hfr.out] at h8
            have HneL := hid (show le ≠ [] from isK_l HB0.out)
            have HPg := hid (progR_of (σ0 := σ3) (done := l.map FH.f) (le := le) (ee := 7) (by rw [hneed.out]; exact (HL.out.full HB0.out).trans (by rw [hfr.out])))
            have HPar : Hid (parseR s = ([], (nxt le).line, (nxt le).col, 7)) := hid (par_err HR2.out HPg.out rfl)
            have H8 := hid (H7.out.call h8)
            have hf8 := hid (h8.kept hf7.out (by omega))
            clear h8 H7 hf7 HR2 HPg
            obtain ⟨k2, hk2, hl2, hfp⟩ := H8.out.st.1.at_
            simp only at hl2 hfp
            have hkl2 : k2 < L.length := by
              rcases Nat.lt_or_ge k2 L.length with h | h
              · exact h
              · exact absurd (by rw [← hl2, nxt_end h]) HneL.out
            obtain ⟨a, hAa, hab, -, a2, a3⟩ := H8.out.st.1.arg.cell hkl2
            subst hAa
            rw [← nxt_drop hkl2, hl2] at a2 a3
            obtain ⟨⟨c0, c1, c2⟩, -⟩ := hfp.three
            have hltb := H8.out.st.1.lt
            have hfew := H8.out.st.1.few
            have hna : a.block ≠ w.heap.size := by
              intro hq
              have h1 := a2
              rw [show (a.add (k2 * 4)).block = w.heap.size by rw [add_block]; exact hq] at h1
              rw [hf8.out.cell] at h1
              simp at h1
            have hna2 : w.heap.size ≠ a.block := fun h => hna h.symm
            have hab2 : (a.add (k2 * 4)).block < w8.heap.size := by rw [add_block]; exact hab
            have v0 := hf8.out.cell 0
            have s0 := hf8.out.frozen 0
            have hsz := hf8.out.lt
            have hBX := hid (hB2.out.grown H8.out.st.2 hB2.out.size (fun k hk => by injection hk with hk; omega))
            have HB : Hid (∀ q, Below w.heap.size w ((w8.drewN q).setCell ⟨w.heap.size, 0, none⟩ (.slice none 0 0))) := hid (fun q => (below_drewN hBX.out q).setCell (Nat.le_refl _) _)
            generalize (nxt le).line = ln at *
            generalize (nxt le).col = cl at *
            have hS0 : ((fun w' => Below w.heap.size w w' ∧ w'.cell? ⟨w.heap.size, 0, none⟩ = some (.slice none 0 0) ∧ w'.frozen? ⟨w.heap.size, 0, none⟩ = false ∧ w.heap.size < w'.heap.size ∧ w'.cell? ⟨b, 1, none⟩ = some (.int .i64 (k2 : Int)) ∧ w'.cell? ⟨b, 2, none⟩ = some (.int .i64 7) ∧ w'.cell? ⟨(a.add (k2 * 4)).block, (a.add (k2 * 4)).off + 2, none⟩ = some (.int .i64 (ln : Int)) ∧ w'.cell? ⟨(a.add (k2 * 4)).block, (a.add (k2 * 4)).off + 3, none⟩ = some (.int .i64 (cl : Int))) (w8.drew)) := ⟨below_drewN hBX.out 1, v0, s0, hsz, c1, c2, a2, a3⟩
            have HS0 := hid hS0
            have hSt : ∀ w', (fun w' => Below w.heap.size w w' ∧ w'.cell? ⟨w.heap.size, 0, none⟩ = some (.slice none 0 0) ∧ w'.frozen? ⟨w.heap.size, 0, none⟩ = false ∧ w.heap.size < w'.heap.size ∧ w'.cell? ⟨b, 1, none⟩ = some (.int .i64 (k2 : Int)) ∧ w'.cell? ⟨b, 2, none⟩ = some (.int .i64 7) ∧ w'.cell? ⟨(a.add (k2 * 4)).block, (a.add (k2 * 4)).off + 2, none⟩ = some (.int .i64 (ln : Int)) ∧ w'.cell? ⟨(a.add (k2 * 4)).block, (a.add (k2 * 4)).off + 3, none⟩ = some (.int .i64 (cl : Int))) w' → (fun w' => Below w.heap.size w w' ∧ w'.cell? ⟨w.heap.size, 0, none⟩ = some (.slice none 0 0) ∧ w'.frozen? ⟨w.heap.size, 0, none⟩ = false ∧ w.heap.size < w'.heap.size ∧ w'.cell? ⟨b, 1, none⟩ = some (.int .i64 (k2 : Int)) ∧ w'.cell? ⟨b, 2, none⟩ = some (.int .i64 7) ∧ w'.cell? ⟨(a.add (k2 * 4)).block, (a.add (k2 * 4)).off + 2, none⟩ = some (.int .i64 (ln : Int)) ∧ w'.cell? ⟨(a.add (k2 * 4)).block, (a.add (k2 * 4)).off + 3, none⟩ = some (.int .i64 (cl : Int))) (w'.setCell ⟨w.heap.size, 0, none⟩ (.slice none 0 0)) := by
              rintro w' ⟨h0, h1, h2, h3, h4, h5, h6, h7⟩
              refine ⟨h0.setCell (Nat.le_refl _) _, World.cell?_setCell_same (w := w') (a := ⟨w.heap.size, 0, none⟩) (v := .slice none 0 0) h1, by rw [World.frozen?_setCell]; exact h2, by rw [World.size_setCell]; exact h3, ?_, ?_, ?_, ?_⟩
              · exact (World.cell?_setCell_far _ _ _ _ (by show w.heap.size ≠ b; omega)).trans h4
              · exact (World.cell?_setCell_far _ _ _ _ (by show w.heap.size ≠ b; omega)).trans h5
              · exact (World.cell?_setCell_far _ _ _ _ (by show w.heap.size ≠ (a.add (k2 * 4)).block; rw [add_block]; exact hna2)).trans h6
              · exact (World.cell?_setCell_far _ _ _ _ (by show w.heap.size ≠ (a.add (k2 * 4)).block; rw [add_block]; exact hna2)).trans h7
            have HSt := hid hSt
            clear hl2 hfp hS0 hSt
            go_wp2_with fail
            clear c0 c1 c2 v0 s0 hsz a2 a3
            go_region_held3 (fun w' => Below w.heap.size w w' ∧ w'.cell? ⟨w.heap.size, 0, none⟩ = some (.slice none 0 0) ∧ w'.frozen? ⟨w.heap.size, 0, none⟩ = false ∧ w.heap.size < w'.heap.size ∧ w'.cell? ⟨b, 1, none⟩ = some (.int .i64 (k2 : Int)) ∧ w'.cell? ⟨b, 2, none⟩ = some (.int .i64 7) ∧ w'.cell? ⟨(a.add (k2 * 4)).block, (a.add (k2 * 4)).off + 2, none⟩ = some (.int .i64 (ln : Int)) ∧ w'.cell? ⟨(a.add (k2 * 4)).block, (a.add (k2 * 4)).off + 3, none⟩ = some (.int .i64 (cl : Int)))
              (first | exact HS0.out | exact HSt.out _ (by assumption) | assumption)
              (fail)
            go_wp2_with fail
            rename (Below _ _ _ ∧ _) => hh
            obtain ⟨hB9, v9, s9, hz9, -⟩ := hh
            refine bodyPost_ret (v := .tuple #[.agg #[.slice none 0 0], .int .i64 (ln : Int), .int .i64 (cl : Int), .int .i64 7]) (by simp [results, Tryd.results41, go_sem, v9, s9, hz9]) rfl ?_
            rw [HPar.out]
            exact ⟨⟨none, 0, 0, []⟩, rfl, rfl, pp_nil _ _, hB9⟩
          | succ n =>
            have hl8 : l.length < 8 := by omega
            have tl : ((l.length : Int) == 8) = false := by simp; omega
            go_wp2_with fail
            refine (refIs_any b A c L σ4 kwFunc _ H.out.st.1).mono ?_
            rw [HB0.out]
            rintro e w7 ⟨rfl, hb7⟩
            have H7 := hid (H.out.below hb7)
            have hf7 := hid (hfR.out.below hb7 hfR.out.lt)
            clear hb7 H hfR
            have q0 := H7.out.f3.cell 0
            have hzq := H7.out.f3.lt
            go_wp2_with fail
            have H7d : Hid (Po wp b A c L σ4 (.slice B l.length d) l w7.drew) := hid (H7.out.drewN 1)
            have HCc := hid (fun w' (h' : Rst w' b A c L σ4) => refFunc_any b A c L σ4 w' h' HS.out)
            go_region_law (first
              | (go_simp
                 go_at_call 74
                 go_must (
                 refine (HCc.out _ H7d.out.st.1).mono ?_
                 rintro e w8 ⟨x, he, hxt, hfx, h8⟩
                 unfold agF at he
                 subst he
                 have H8 := hid (H7d.out.call h8)
                 have hf8 := hid (h8.kept (w := w7.drew) hf7.out (by omega))
                 have Hx := hid (FrV.fresh (N := wp.heap.size + 1) (v := .slice B l.length d) hfx H7d.out.size (fun k hk => (H7d.out.own.lt k hk).2))
                 have Hxt := hid hxt
                 have q0 := H8.out.f3.cell 0
                 have hzq := H8.out.f3.lt
                 clear hfx h8 hxt))
              | ((refine step_append_lies _ (by rfl) _ _ 32 (by rfl) (wp.heap.size + 1) 58 i3 _ 2 40 Tryd.underlying32 Hi.out Hz0.out Hz1.out Hz2.out (by rfl) (by decide) (.slice B l.length d) l.length (l.flatMap fhc) (by rfl) (by exact World.ownsRow.alloc H8.out.own _)
                    ⟨_, 0, none⟩ 1 1 (fhc x) (by rfl) rfl (by exact two_new _ _ _ _) (one_two _ _ _ _) (by decide) (by unfold maxLen; omega) (by omega) (by have := H8.out.size; rw [World.size_alloc]; omega) _ rfl ?_)
                 intro g9 cap9 w9 hown9 hgr9 hat9 hlt9
                 obtain ⟨⟨y0, y1, y2⟩, hT9⟩ := Po.push (x := x) H8.out ((Below.refl _ _).alloc (Nat.le_refl _) _) Hx.out hgr9 hown9 hat9
                 have H9 := hid hT9
                 have hne9 : ∀ k, (Value.slice B l.length d).ownBlock = some k → wp.heap.size + 1 ≤ k := fun k hk => (H8.out.own.lt k hk).1
                 have hf9 := hid (((hf8.out.alloc _).grown hgr9 (fun e => by have := hne9 _ e.symm; omega)).far (p := ⟨wp.heap.size, 0, none⟩) (by show w.heap.size ≠ wp.heap.size; omega) (.slice (some ⟨g9, 0, none⟩) (l.length + 1) cap9))
                 clear hown9 hgr9 hat9 hlt9 hT9 hne9))
            all_goals
              clear q0 hzq
              generalize w9.setCell ⟨wp.heap.size, 0, none⟩ (.slice (some ⟨g9, 0, none⟩) (l.length + 1) cap9) = w10 at *
              clear y0 y1 y2
              go_wp2_with fail
              go_roundw
              case rel => exact ⟨l ++ [x], n, (funcR σ4).2, _, H9.out, by have := HL.out.step HB0.out; rw [List.map_append]; rw [← Hxt.out] at this; exact this, hf9.out⟩
              case measure =>
                have q0 := H9.out.f3.cell 0
                rw [Hm.out, lenAt0_of q0]
                omega
    | false =>
      have hneed := hid (show needR (isK kwFunc) ⟨L, 0⟩ = failR 4 ⟨L, 0⟩ by unfold needR; rw [hb0]; rfl)
      clear hb0
      go_wp2_with fail
      refine (refFail_any b A c L ⟨L, 0⟩ 4 _ H5.out.st.1).mono ?_
      rintro e w6 ⟨rfl, h6⟩
      have H6 := hid (H5.out.call h6)
      have hf6 := hid (h6.kept hf5.out (by omega))
      clear h6 H5 hf5
      generalize failR 4 ⟨L, 0⟩ = σ3 at *
      generalize hσ0 : (⟨L, 0⟩ : Rs) = σ0 at *
      clear hσ0
      go_wp2_with fail
      go_loopw [] (fun wr => ∃ (l : List FH) (n : Nat) (σ4 : Rs) (v : Value), Hid (Po wp b A c L σ4 v l wr) ∧ Hid (Lrel (isK kwFunc) funcR 8 σ3 (l.map FH.f) n σ4) ∧ Hid (Fb wr w.heap.size #[.slice none 0 0] 34)) (fun wr => 9 - lenAt0 wp.heap.size wr)
      case atStart => exact ⟨[], 8, σ3, _, H6.out, Lrel.start, hf6.out⟩
      case round =>
        clear H6 hf6
        obtain ⟨l, n, σ4, v, H, HL, hfR⟩ := hrel
        obtain ⟨B, d, hv⟩ := own_any_slice H.out.own
        subst hv
        have hlen : l.length + n = 8 := by have := HL.out.1; simpa using this
        have q0 := H.out.f3.cell 0
        have Hm := hid (lenAt0_of q0)
        clear q0
        cases hb : isK kwFunc σ4 with
        | false =>
          have HB0 := hid hb
          clear hb
          go_wp2_with fail
          refine (refIs_any b A c L σ4 kwFunc _ H.out.st.1).mono ?_
          rw [HB0.out]
          rintro e w7 ⟨rfl, hb7⟩
          have H7 := hid (H.out.below hb7)
          have hf7 := hid (hfR.out.below hb7 hfR.out.lt)
          clear hb7 H hfR
          obtain ⟨le, ee⟩ := σ4
          have HPg := hid (progR_of (σ0 := σ0) (done := l.map FH.f) (le := le) (ee := ee) (by rw [hneed.out]; exact HL.out.stop HB0.out))
          obtain ⟨k, hk, hl, hf⟩ := H7.out.st.1.at_
          simp only at hl hf
          cases hee : (ee == 0) with
          | true =>
            by_cases hkl : k < L.length
            · as_aux_lemma =>
              have HneL := hid (show le ≠ [] by
                  intro h0
                  rw [h0] at hl
                  have h1 := congrArg List.length hl
                  rw [List.length_drop] at h1
                  simp at h1
                  omega)
              have hfr := hid (show failR 4 ⟨le, ee⟩ = ⟨le, 4⟩ by unfold failR; simp [hee])
              have HPar : Hid (parseR s = ([], (nxt le).line, (nxt le).col, 4)) := hid (par_more HR2.out HPg.out hee HneL.out hfr.out)
              obtain ⟨⟨c0, c1, c2⟩, -⟩ := hf.three
              have hfew0 := H7.out.st.1.few
              clear hf hl HR2 HPg
              go_wp2_with fail
              refine (refFail_any b A c L ⟨le, ee⟩ 4 _ H7.out.st.1).mono ?_
              rintro e w8 ⟨rfl, h8⟩
              rw [hfr.out] at h8
              have H8 := hid (H7.out.call h8)
              have hf8 := hid (h8.kept hf7.out (by omega))
              clear h8 H7 hf7 c0 c1 c2 hfew0
              obtain ⟨k2, hk2, hl2, hfp⟩ := H8.out.st.1.at_
              simp only at hl2 hfp
              have hkl2 : k2 < L.length := by
                rcases Nat.lt_or_ge k2 L.length with h | h
                · exact h
                · exact absurd (by rw [← hl2, nxt_end h]) HneL.out
              obtain ⟨a, hAa, hab, -, a2, a3⟩ := H8.out.st.1.arg.cell hkl2
              subst hAa
              rw [← nxt_drop hkl2, hl2] at a2 a3
              obtain ⟨⟨c0, c1, c2⟩, -⟩ := hfp.three
              have hltb := H8.out.st.1.lt
              have hfew := H8.out.st.1.few
              have hna : a.block ≠ w.heap.size := by
                intro hq
                have h1 := a2
                rw [show (a.add (k2 * 4)).block = w.heap.size by rw [add_block]; exact hq] at h1
                rw [hf8.out.cell] at h1
                simp at h1
              have hna2 : w.heap.size ≠ a.block := fun h => hna h.symm
              have hab2 : (a.add (k2 * 4)).block < w8.heap.size := by rw [add_block]; exact hab
              have v0 := hf8.out.cell 0
              have s0 := hf8.out.frozen 0
              have hsz := hf8.out.lt
              have hBX := hid (hB2.out.grown H8.out.st.2 hB2.out.size (fun k hk => by injection hk with hk; omega))
              have HB : Hid (∀ q, Below w.heap.size w ((w8.drewN q).setCell ⟨w.heap.size, 0, none⟩ (.slice none 0 0))) := hid (fun q => (below_drewN hBX.out q).setCell (Nat.le_refl _) _)
              generalize (nxt le).line = ln at *
              generalize (nxt le).col = cl at *
              have hS0 : ((fun w' => Below w.heap.size w w' ∧ w'.cell? ⟨w.heap.size, 0, none⟩ = some (.slice none 0 0) ∧ w'.frozen? ⟨w.heap.size, 0, none⟩ = false ∧ w.heap.size < w'.heap.size ∧ w'.cell? ⟨b, 1, none⟩ = some (.int .i64 (k2 : Int)) ∧ w'.cell? ⟨b, 2, none⟩ = some (.int .i64 4) ∧ w'.cell? ⟨(a.add (k2 * 4)).block, (a.add (k2 * 4)).off + 2, none⟩ = some (.int .i64 (ln : Int)) ∧ w'.cell? ⟨(a.add (k2 * 4)).block, (a.add (k2 * 4)).off + 3, none⟩ = some (.int .i64 (cl : Int))) (w8.drew)) := ⟨below_drewN hBX.out 1, v0, s0, hsz, c1, c2, a2, a3⟩
              have HS0 := hid hS0
              have hSt : ∀ w', (fun w' => Below w.heap.size w w' ∧ w'.cell? ⟨w.heap.size, 0, none⟩ = some (.slice none 0 0) ∧ w'.frozen? ⟨w.heap.size, 0, none⟩ = false ∧ w.heap.size < w'.heap.size ∧ w'.cell? ⟨b, 1, none⟩ = some (.int .i64 (k2 : Int)) ∧ w'.cell? ⟨b, 2, none⟩ = some (.int .i64 4) ∧ w'.cell? ⟨(a.add (k2 * 4)).block, (a.add (k2 * 4)).off + 2, none⟩ = some (.int .i64 (ln : Int)) ∧ w'.cell? ⟨(a.add (k2 * 4)).block, (a.add (k2 * 4)).off + 3, none⟩ = some (.int .i64 (cl : Int))) w' → (fun w' => Below w.heap.size w w' ∧ w'.cell? ⟨w.heap.size, 0, none⟩ = some (.slice none 0 0) ∧ w'.frozen? ⟨w.heap.size, 0, none⟩ = false ∧ w.heap.size < w'.heap.size ∧ w'.cell? ⟨b, 1, none⟩ = some (.int .i64 (k2 : Int)) ∧ w'.cell? ⟨b, 2, none⟩ = some (.int .i64 4) ∧ w'.cell? ⟨(a.add (k2 * 4)).block, (a.add (k2 * 4)).off + 2, none⟩ = some (.int .i64 (ln : Int)) ∧ w'.cell? ⟨(a.add (k2 * 4)).block, (a.add (k2 * 4)).off + 3, none⟩ = some (.int .i64 (cl : Int))) (w'.setCell ⟨w.heap.size, 0, none⟩ (.slice none 0 0)) := by
                rintro w' ⟨h0, h1, h2, h3, h4, h5, h6, h7⟩
                refine ⟨h0.setCell (Nat.le_refl _) _, World.cell?_setCell_same (w := w') (a := ⟨w.heap.size, 0, none⟩) (v := .slice none 0 0) h1, by rw [World.frozen?_setCell]; exact h2, by rw [World.size_setCell]; exact h3, ?_, ?_, ?_, ?_⟩
                · exact (World.cell?_setCell_far _ _ _ _ (by show w.heap.size ≠ b; omega)).trans h4
                · exact (World.cell?_setCell_far _ _ _ _ (by show w.heap.size ≠ b; omega)).trans h5
                · exact (World.cell?_setCell_far _ _ _ _ (by show w.heap.size ≠ (a.add (k2 * 4)).block; rw [add_block]; exact hna2)).trans h6
                · exact (World.cell?_setCell_far _ _ _ _ (by show w.heap.size ≠ (a.add (k2 * 4)).block; rw [add_block]; exact hna2)).trans h7
              have HSt := hid hSt
              clear hl2 hfp hS0 hSt
              go_wp2_with fail
              clear c0 c1 c2 v0 s0 hsz a2 a3
              go_region_held3 (fun w' => Below w.heap.size w w' ∧ w'.cell? ⟨w.heap.size, 0, none⟩ = some (.slice none 0 0) ∧ w'.frozen? ⟨w.heap.size, 0, none⟩ = false ∧ w.heap.size < w'.heap.size ∧ w'.cell? ⟨b, 1, none⟩ = some (.int .i64 (k2 : Int)) ∧ w'.cell? ⟨b, 2, none⟩ = some (.int .i64 4) ∧ w'.cell? ⟨(a.add (k2 * 4)).block, (a.add (k2 * 4)).off + 2, none⟩ = some (.int .i64 (ln : Int)) ∧ w'.cell? ⟨(a.add (k2 * 4)).block, (a.add (k2 * 4)).off + 3, none⟩ = some (.int .i64 (cl : Int)))
                (first | exact HS0.out | exact HSt.out _ (by assumption) | assumption)
                (fail)
              go_wp2_with fail
              rename (Below _ _ _ ∧ _) => hh
              obtain ⟨hB9, v9, s9, hz9, -⟩ := hh
              refine bodyPost_ret (v := .tuple #[.agg #[.slice none 0 0], .int .i64 (ln : Int), .int .i64 (cl : Int), .int .i64 4]) (by simp [results, Tryd.results41, go_sem, v9, s9, hz9]) rfl ?_
              rw [HPar.out]
              exact ⟨⟨none, 0, 0, []⟩, rfl, rfl, pp_nil _ _, hB9⟩
            · as_aux_lemma =>
              have hle : le = [] := by rw [← hl, nxt_end (by omega)]
              have hkL : k = L.length := by omega
              have HPar : Hid (parseR s = (l.map FH.f, 0, 0, 0)) := hid (par_end HR2.out HPg.out hee hle)
              subst hkL
              clear hl HR2 HPg hkl
              obtain ⟨⟨c0, c1, c2⟩, -⟩ := hf.three
              have hltb := H7.out.st.1.lt
              have v0 := hf7.out.cell 0
              have s0 := hf7.out.frozen 0
              have hsz := hf7.out.lt
              have k0 := H7.out.f3.cell 0
              have hszX := H7.out.f3.lt
              have hBX := hid (hB2.out.grown H7.out.st.2 hB2.out.size (fun k hk => by injection hk with hk; omega))
              have HB : Hid (Below w.heap.size w (w7.setCell ⟨w.heap.size, 0, none⟩ (.slice B l.length d))) := hid (hBX.out.setCell (Nat.le_refl _) _)
              have Hpp := hid (show Fr w.heap.size (PP ⟨B, l.length, d, l⟩) (w7.setCell ⟨w.heap.size, 0, none⟩ (.slice B l.length d)) from Fr.less (M := w.heap.size) (Fr.grown (fun h hg => PP.go h hg) (H7.out.pp (by omega)) (setCell_grown w7 ⟨w.heap.size, 0, none⟩ _) (fun k hk => by injection hk with hk; have : w.heap.size = k := hk; omega)) (by omega))
              clear hf
              go_wp2_with fail
              refine bodyPost_ret (v := .tuple #[.agg #[.slice B l.length d], .int .i64 0, .int .i64 0, .int .i64 0]) (by simp [results, Tryd.results41, go_sem, v0, s0, hsz]) rfl ?_
              rw [HPar.out]
              exact ⟨⟨B, l.length, d, l⟩, rfl, rfl, Hpp.out, HB.out⟩
          | false =>
            have HPar0 : Hid (parseR s = ([], (nxt le).line, (nxt le).col, ee)) := hid (par_err HR2.out HPg.out hee)
            by_cases hkl : k < L.length
            · as_aux_lemma =>
              have HneL := hid (show le ≠ [] by
                  intro h0
                  rw [h0] at hl
                  have h1 := congrArg List.length hl
                  rw [List.length_drop] at h1
                  simp at h1
                  omega)
              have HPar := HPar0
              clear HPar0 hf hl HR2 HPg
              obtain ⟨k2, hk2, hl2, hfp⟩ := H7.out.st.1.at_
              simp only at hl2 hfp
              have hkl2 : k2 < L.length := by
                rcases Nat.lt_or_ge k2 L.length with h | h
                · exact h
                · exact absurd (by rw [← hl2, nxt_end h]) HneL.out
              obtain ⟨a, hAa, hab, -, a2, a3⟩ := H7.out.st.1.arg.cell hkl2
              subst hAa
              rw [← nxt_drop hkl2, hl2] at a2 a3
              obtain ⟨⟨c0, c1, c2⟩, -⟩ := hfp.three
              have hltb := H7.out.st.1.lt
              have hfew := H7.out.st.1.few
              have hna : a.block ≠ w.heap.size := by
                intro hq
                have h1 := a2
                rw [show (a.add (k2 * 4)).block = w.heap.size by rw [add_block]; exact hq] at h1
                rw [hf7.out.cell] at h1
                simp at h1
              have hna2 : w.heap.size ≠ a.block := fun h => hna h.symm
              have hab2 : (a.add (k2 * 4)).block < w7.heap.size := by rw [add_block]; exact hab
              have v0 := hf7.out.cell 0
              have s0 := hf7.out.frozen 0
              have hsz := hf7.out.lt
              have hBX := hid (hB2.out.grown H7.out.st.2 hB2.out.size (fun k hk => by injection hk with hk; omega))
              have HB : Hid (∀ q, Below w.heap.size w ((w7.drewN q).setCell ⟨w.heap.size, 0, none⟩ (.slice none 0 0))) := hid (fun q => (below_drewN hBX.out q).setCell (Nat.le_refl _) _)
              generalize (nxt le).line = ln at *
              generalize (nxt le).col = cl at *
              have hS0 : ((fun w' => Below w.heap.size w w' ∧ w'.cell? ⟨w.heap.size, 0, none⟩ = some (.slice none 0 0) ∧ w'.frozen? ⟨w.heap.size, 0, none⟩ = false ∧ w.heap.size < w'.heap.size ∧ w'.cell? ⟨b, 1, none⟩ = some (.int .i64 (k2 : Int)) ∧ w'.cell? ⟨b, 2, none⟩ = some (.int .i64 ee) ∧ w'.cell? ⟨(a.add (k2 * 4)).block, (a.add (k2 * 4)).off + 2, none⟩ = some (.int .i64 (ln : Int)) ∧ w'.cell? ⟨(a.add (k2 * 4)).block, (a.add (k2 * 4)).off + 3, none⟩ = some (.int .i64 (cl : Int))) (w7.drew)) := ⟨below_drewN hBX.out 1, v0, s0, hsz, c1, c2, a2, a3⟩
              have HS0 := hid hS0
              have hSt : ∀ w', (fun w' => Below w.heap.size w w' ∧ w'.cell? ⟨w.heap.size, 0, none⟩ = some (.slice none 0 0) ∧ w'.frozen? ⟨w.heap.size, 0, none⟩ = false ∧ w.heap.size < w'.heap.size ∧ w'.cell? ⟨b, 1, none⟩ = some (.int .i64 (k2 : Int)) ∧ w'.cell? ⟨b, 2, none⟩ = some (.int .i64 ee) ∧ w'.cell? ⟨(a.add (k2 * 4)).block, (a.add (k2 * 4)).off + 2, none⟩ = some (.int .i64 (ln : Int)) ∧ w'.cell? ⟨(a.add (k2 * 4)).block, (a.add (k2 * 4)).off + 3, none⟩ = some (.int .i64 (cl : Int))) w' → (fun w' => Below w.heap.size w w' ∧ w'.cell? ⟨w.heap.size, 0, none⟩ = some (.slice none 0 0) ∧ w'.frozen? ⟨w.heap.size, 0, none⟩ = false ∧ w.heap.size < w'.heap.size ∧ w'.cell? ⟨b, 1, none⟩ = some (.int .i64 (k2 : Int)) ∧ w'.cell? ⟨b, 2, none⟩ = some (.int .i64 ee) ∧ w'.cell? ⟨(a.add (k2 * 4)).block, (a.add (k2 * 4)).off + 2, none⟩ = some (.int .i64 (ln : Int)) ∧ w'.cell? ⟨(a.add (k2 * 4)).block, (a.add (k2 * 4)).off + 3, none⟩ = some (.int .i64 (cl : Int))) (w'.setCell ⟨w.heap.size, 0, none⟩ (.slice none 0 0)) := by
                rintro w' ⟨h0, h1, h2, h3, h4, h5, h6, h7⟩
                refine ⟨h0.setCell (Nat.le_refl _) _, World.cell?_setCell_same (w := w') (a := ⟨w.heap.size, 0, none⟩) (v := .slice none 0 0) h1, by rw [World.frozen?_setCell]; exact h2, by rw [World.size_setCell]; exact h3, ?_, ?_, ?_, ?_⟩
                · exact (World.cell?_setCell_far _ _ _ _ (by show w.heap.size ≠ b; omega)).trans h4
                · exact (World.cell?_setCell_far _ _ _ _ (by show w.heap.size ≠ b; omega)).trans h5
                · exact (World.cell?_setCell_far _ _ _ _ (by show w.heap.size ≠ (a.add (k2 * 4)).block; rw [add_block]; exact hna2)).trans h6
                · exact (World.cell?_setCell_far _ _ _ _ (by show w.heap.size ≠ (a.add (k2 * 4)).block; rw [add_block]; exact hna2)).trans h7
              have HSt := hid hSt
              clear hl2 hfp hS0 hSt
              go_wp2_with fail
              clear c0 c1 c2 v0 s0 hsz a2 a3
              go_region_held3 (fun w' => Below w.heap.size w w' ∧ w'.cell? ⟨w.heap.size, 0, none⟩ = some (.slice none 0 0) ∧ w'.frozen? ⟨w.heap.size, 0, none⟩ = false ∧ w.heap.size < w'.heap.size ∧ w'.cell? ⟨b, 1, none⟩ = some (.int .i64 (k2 : Int)) ∧ w'.cell? ⟨b, 2, none⟩ = some (.int .i64 ee) ∧ w'.cell? ⟨(a.add (k2 * 4)).block, (a.add (k2 * 4)).off + 2, none⟩ = some (.int .i64 (ln : Int)) ∧ w'.cell? ⟨(a.add (k2 * 4)).block, (a.add (k2 * 4)).off + 3, none⟩ = some (.int .i64 (cl : Int)))
                (first | exact HS0.out | exact HSt.out _ (by assumption) | assumption)
                (fail)
              go_wp2_with fail
              rename (Below _ _ _ ∧ _) => hh
              obtain ⟨hB9, v9, s9, hz9, -⟩ := hh
              refine bodyPost_ret (v := .tuple #[.agg #[.slice none 0 0], .int .i64 (ln : Int), .int .i64 (cl : Int), .int .i64 ee]) (by simp [results, Tryd.results41, go_sem, v9, s9, hz9]) rfl ?_
              rw [HPar.out]
              exact ⟨⟨none, 0, 0, []⟩, rfl, rfl, pp_nil _ _, hB9⟩
            · as_aux_lemma =>
              have hle : le = [] := by rw [← hl, nxt_end (by omega)]
              have hkL : k = L.length := by omega
              have HPar : Hid (parseR s = ([], 0, 0, ee)) := hid (by rw [HPar0.out, hle]; rfl)
              subst hkL
              clear HPar0 hl HR2 HPg hkl
              obtain ⟨⟨c0, c1, c2⟩, -⟩ := hf.three
              have hltb := H7.out.st.1.lt
              have v0 := hf7.out.cell 0
              have s0 := hf7.out.frozen 0
              have hsz := hf7.out.lt
              have hBX := hid (hB2.out.grown H7.out.st.2 hB2.out.size (fun k hk => by injection hk with hk; omega))
              have HB : Hid (∀ q, Below w.heap.size w ((w7.drewN q).setCell ⟨w.heap.size, 0, none⟩ (.slice none 0 0))) := hid (fun q => (below_drewN hBX.out q).setCell (Nat.le_refl _) _)
              clear hf
              go_wp2_with fail
              go_region_law (fail)
              all_goals
                go_wp2_with fail
                refine bodyPost_ret (v := .tuple #[.agg #[.slice none 0 0], .int .i64 0, .int .i64 0, .int .i64 ee]) (by simp [results, Tryd.results41, go_sem, v0, s0, hsz]) rfl ?_
                rw [HPar.out]
                exact ⟨⟨none, 0, 0, []⟩, rfl, rfl, pp_nil _ _, HB.out 1⟩
        | true =>
          have HB0 := hid hb
          clear hb
          cases n with
          | zero =>
            have hl8 : l.length = 8 := by omega
            go_wp2_with fail
            refine (refIs_any b A c L σ4 kwFunc _ H.out.st.1).mono ?_
            rw [HB0.out]
            rintro e w7 ⟨rfl, hb7⟩
            have H7 := hid (H.out.below hb7)
            have hf7 := hid (hfR.out.below hb7 hfR.out.lt)
            clear hb7 H hfR
            have q0 := H7.out.f3.cell 0
            have tl : ((l.length : Int) == 8) = true := by simp; omega
            go_wp2_with fail
            clear q0 tl
            refine (refFail_any b A c L σ4 7 _ H7.out.st.1).mono ?_
            rintro e w8 ⟨rfl, h8⟩
            obtain ⟨le, ee⟩ := σ4
            have hfr := hid (show failR 7 ⟨le, ee⟩ = ⟨le, 7⟩ by
              have h0 : ee = 0 := (isK_ne HB0.out).1
              unfold failR
              simp [h0])
            rw [hfr.out] at h8
            have HneL := hid (show le ≠ [] from isK_l HB0.out)
            have HPg := hid (progR_of (σ0 := σ0) (done := l.map FH.f) (le := le) (ee := 7) (by rw [hneed.out]; exact (HL.out.full HB0.out).trans (by rw [hfr.out])))
            have HPar : Hid (parseR s = ([], (nxt le).line, (nxt le).col, 7)) := hid (par_err HR2.out HPg.out rfl)
            have H8 := hid (H7.out.call h8)
            have hf8 := hid (h8.kept hf7.out (by omega))
            clear h8 H7 hf7 HR2 HPg
            obtain ⟨k2, hk2, hl2, hfp⟩ := H8.out.st.1.at_
            simp only at hl2 hfp
            have hkl2 : k2 < L.length := by
              rcases Nat.lt_or_ge k2 L.length with h | h
              · exact h
              · exact absurd (by rw [← hl2, nxt_end h]) HneL.out
            obtain ⟨a, hAa, hab, -, a2, a3⟩ := H8.out.st.1.arg.cell hkl2
            subst hAa
            rw [← nxt_drop hkl2, hl2] at a2 a3
            obtain ⟨⟨c0, c1, c2⟩, -⟩ := hfp.three
            have hltb := H8.out.st.1.lt
            have hfew := H8.out.st.1.few
            have hna : a.block ≠ w.heap.size := by
              intro hq
              have h1 := a2
              rw [show (a.add (k2 * 4)).block = w.heap.size by rw [add_block]; exact hq] at h1
              rw [hf8.out.cell] at h1
              simp at h1
            have hna2 : w.heap.size ≠ a.block := fun h => hna h.symm
            have hab2 : (a.add (k2 * 4)).block < w8.heap.size := by rw [add_block]; exact hab
            have v0 := hf8.out.cell 0
            have s0 := hf8.out.frozen 0
            have hsz := hf8.out.lt
            have hBX := hid (hB2.out.grown H8.out.st.2 hB2.out.size (fun k hk => by injection hk with hk; omega))
            have HB : Hid (∀ q, Below w.heap.size w ((w8.drewN q).setCell ⟨w.heap.size, 0, none⟩ (.slice none 0 0))) := hid (fun q => (below_drewN hBX.out q).setCell (Nat.le_refl _) _)
            generalize (nxt le).line = ln at *
            generalize (nxt le).col = cl at *
            have hS0 : ((fun w' => Below w.heap.size w w' ∧ w'.cell? ⟨w.heap.size, 0, none⟩ = some (.slice none 0 0) ∧ w'.frozen? ⟨w.heap.size, 0, none⟩ = false ∧ w.heap.size < w'.heap.size ∧ w'.cell? ⟨b, 1, none⟩ = some (.int .i64 (k2 : Int)) ∧ w'.cell? ⟨b, 2, none⟩ = some (.int .i64 7) ∧ w'.cell? ⟨(a.add (k2 * 4)).block, (a.add (k2 * 4)).off + 2, none⟩ = some (.int .i64 (ln : Int)) ∧ w'.cell? ⟨(a.add (k2 * 4)).block, (a.add (k2 * 4)).off + 3, none⟩ = some (.int .i64 (cl : Int))) (w8.drew)) := ⟨below_drewN hBX.out 1, v0, s0, hsz, c1, c2, a2, a3⟩
            have HS0 := hid hS0
            have hSt : ∀ w', (fun w' => Below w.heap.size w w' ∧ w'.cell? ⟨w.heap.size, 0, none⟩ = some (.slice none 0 0) ∧ w'.frozen? ⟨w.heap.size, 0, none⟩ = false ∧ w.heap.size < w'.heap.size ∧ w'.cell? ⟨b, 1, none⟩ = some (.int .i64 (k2 : Int)) ∧ w'.cell? ⟨b, 2, none⟩ = some (.int .i64 7) ∧ w'.cell? ⟨(a.add (k2 * 4)).block, (a.add (k2 * 4)).off + 2, none⟩ = some (.int .i64 (ln : Int)) ∧ w'.cell? ⟨(a.add (k2 * 4)).block, (a.add (k2 * 4)).off + 3, none⟩ = some (.int .i64 (cl : Int))) w' → (fun w' => Below w.heap.size w w' ∧ w'.cell? ⟨w.heap.size, 0, none⟩ = some (.slice none 0 0) ∧ w'.frozen? ⟨w.heap.size, 0, none⟩ = false ∧ w.heap.size < w'.heap.size ∧ w'.cell? ⟨b, 1, none⟩ = some (.int .i64 (k2 : Int)) ∧ w'.cell? ⟨b, 2, none⟩ = some (.int .i64 7) ∧ w'.cell? ⟨(a.add (k2 * 4)).block, (a.add (k2 * 4)).off + 2, none⟩ = some (.int .i64 (ln : Int)) ∧ w'.cell? ⟨(a.add (k2 * 4)).block, (a.add (k2 * 4)).off + 3, none⟩ = some (.int .i64 (cl : Int))) (w'.setCell ⟨w.heap.size, 0, none⟩ (.slice none 0 0)) := by
              rintro w' ⟨h0, h1, h2, h3, h4, h5, h6, h7⟩
              refine ⟨h0.setCell (Nat.le_refl _) _, World.cell?_setCell_same (w := w') (a := ⟨w.heap.size, 0, none⟩) (v := .slice none 0 0) h1, by rw [World.frozen?_setCell]; exact h2, by rw [World.size_setCell]; exact h3, ?_, ?_, ?_, ?_⟩
              · exact (World.cell?_setCell_far _ _ _ _ (by show w.heap.size ≠ b; omega)).trans h4
              · exact (World.cell?_setCell_far _ _ _ _ (by show w.heap.size ≠ b; omega)).trans h5
              · exact (World.cell?_setCell_far _ _ _ _ (by show w.heap.size ≠ (a.add (k2 * 4)).block; rw [add_block]; exact hna2)).trans h6
              · exact (World.cell?_setCell_far _ _ _ _ (by show w.heap.size ≠ (a.add (k2 * 4)).block; rw [add_block]; exact hna2)).trans h7
            have HSt := hid hSt
            clear hl2 hfp hS0 hSt
            go_wp2_with fail
            clear c0 c1 c2 v0 s0 hsz a2 a3
            go_region_held3 (fun w' => Below w.heap.size w w' ∧ w'.cell? ⟨w.heap.size, 0, none⟩ = some (.slice none 0 0) ∧ w'.frozen? ⟨w.heap.size, 0, none⟩ = false ∧ w.heap.size < w'.heap.size ∧ w'.cell? ⟨b, 1, none⟩ = some (.int .i64 (k2 : Int)) ∧ w'.cell? ⟨b, 2, none⟩ = some (.int .i64 7) ∧ w'.cell? ⟨(a.add (k2 * 4)).block, (a.add (k2 * 4)).off + 2, none⟩ = some (.int .i64 (ln : Int)) ∧ w'.cell? ⟨(a.add (k2 * 4)).block, (a.add (k2 * 4)).off + 3, none⟩ = some (.int .i64 (cl : Int)))
              (first | exact HS0.out | exact HSt.out _ (by assumption) | assumption)
              (fail)
            go_wp2_with fail
            rename (Below _ _ _ ∧ _) => hh
            obtain ⟨hB9, v9, s9, hz9, -⟩ := hh
            refine bodyPost_ret (v := .tuple #[.agg #[.slice none 0 0], .int .i64 (ln : Int), .int .i64 (cl : Int), .int .i64 7]) (by simp [results, Tryd.results41, go_sem, v9, s9, hz9]) rfl ?_
            rw [HPar.out]
            exact ⟨⟨none, 0, 0, []⟩, rfl, rfl, pp_nil _ _, hB9⟩
          | succ n =>
            have hl8 : l.length < 8 := by omega
            have tl : ((l.length : Int) == 8) = false := by simp; omega
            go_wp2_with fail
            refine (refIs_any b A c L σ4 kwFunc _ H.out.st.1).mono ?_
            rw [HB0.out]
            rintro e w7 ⟨rfl, hb7⟩
            have H7 := hid (H.out.below hb7)
            have hf7 := hid (hfR.out.below hb7 hfR.out.lt)
            clear hb7 H hfR
            have q0 := H7.out.f3.cell 0
            have hzq := H7.out.f3.lt
            go_wp2_with fail
            have H7d : Hid (Po wp b A c L σ4 (.slice B l.length d) l w7.drew) := hid (H7.out.drewN 1)
            have HCc := hid (fun w' (h' : Rst w' b A c L σ4) => refFunc_any b A c L σ4 w' h' HS.out)
            go_region_law (first
              | (go_simp
                 go_at_call 74
                 go_must (
                 refine (HCc.out _ H7d.out.st.1).mono ?_
                 rintro e w8 ⟨x, he, hxt, hfx, h8⟩
                 unfold agF at he
                 subst he
                 have H8 := hid (H7d.out.call h8)
                 have hf8 := hid (h8.kept (w := w7.drew) hf7.out (by omega))
                 have Hx := hid (FrV.fresh (N := wp.heap.size + 1) (v := .slice B l.length d) hfx H7d.out.size (fun k hk => (H7d.out.own.lt k hk).2))
                 have Hxt := hid hxt
                 have q0 := H8.out.f3.cell 0
                 have hzq := H8.out.f3.lt
                 clear hfx h8 hxt))
              | ((refine step_append_lies _ (by rfl) _ _ 32 (by rfl) (wp.heap.size + 1) 58 i3 _ 2 40 Tryd.underlying32 Hi.out Hz0.out Hz1.out Hz2.out (by rfl) (by decide) (.slice B l.length d) l.length (l.flatMap fhc) (by rfl) (by exact World.ownsRow.alloc H8.out.own _)
                    ⟨_, 0, none⟩ 1 1 (fhc x) (by rfl) rfl (by exact two_new _ _ _ _) (one_two _ _ _ _) (by decide) (by unfold maxLen; omega) (by omega) (by have := H8.out.size; rw [World.size_alloc]; omega) _ rfl ?_)
                 intro g9 cap9 w9 hown9 hgr9 hat9 hlt9
                 obtain ⟨⟨y0, y1, y2⟩, hT9⟩ := Po.push (x := x) H8.out ((Below.refl _ _).alloc (Nat.le_refl _) _) Hx.out hgr9 hown9 hat9
                 have H9 := hid hT9
                 have hne9 : ∀ k, (Value.slice B l.length d).ownBlock = some k → wp.heap.size + 1 ≤ k := fun k hk => (H8.out.own.lt k hk).1
                 have hf9 := hid (((hf8.out.alloc _).grown hgr9 (fun e => by have := hne9 _ e.symm; omega)).far (p := ⟨wp.heap.size, 0, none⟩) (by show w.heap.size ≠ wp.heap.size; omega) (.slice (some ⟨g9, 0, none⟩) (l.length + 1) cap9))
                 clear hown9 hgr9 hat9 hlt9 hT9 hne9))
            all_goals
              clear q0 hzq
              generalize w9.setCell ⟨wp.heap.size, 0, none⟩ (.slice (some ⟨g9, 0, none⟩) (l.length + 1) cap9) = w10 at *
              clear y0 y1 y2
              go_wp2_with fail
              go_roundw
              case rel => exact ⟨l ++ [x], n, (funcR σ4).2, _, H9.out, by have := HL.out.step HB0.out; rw [List.map_append]; rw [← Hxt.out] at this; exact this, hf9.out⟩
              case measure =>
                have q0 := H9.out.f3.cell 0
                rw [Hm.out, lenAt0_of q0]
                omega
end Go.Proofs.YtlepcgncphikhaaDoor

namespace Go.Proofs.YtlepcgncphikhaaDoor
set_option maxRecDepth 100000
set_option linter.unusedVariables false
set_option linter.unusedSimpArgs false
open Go.ChangeShapes Go.WideShapes Go.ChangeAt Go.RowKit

def sxT0 : ByteArray := ⟨#[102, 117, 110, 99, 32, 109, 59, 32, 98, 108, 111, 99, 107, 32, 98, 59, 32, 120, 32, 61, 32, 121, 59, 32, 101, 110, 100]⟩
def sxP0 : List Fnc := [⟨⟨#[109]⟩, [⟨⟨#[98]⟩, [⟨1, ⟨#[120]⟩, [⟨#[121]⟩], []⟩]⟩]⟩]
theorem sx_0 : parseS sxT0 = (sxP0, 0, 0, 0) := by kernel_rfl
def sxT1 : ByteArray := ⟨#[102, 117, 110, 99, 32, 109, 59, 32, 98, 108, 111, 99, 107, 32, 98, 59, 32, 103, 111, 116, 111, 32, 99, 59, 32, 101, 110, 100]⟩
def sxP1 : List Fnc := [⟨⟨#[109]⟩, [⟨⟨#[98]⟩, [⟨7, noB, [], [⟨#[99]⟩]⟩]⟩]⟩]
theorem sx_1 : parseS sxT1 = (sxP1, 0, 0, 0) := by kernel_rfl
def sxT2 : ByteArray := ⟨#[102, 117, 110, 99, 32, 109, 59, 32, 98, 108, 111, 99, 107, 32, 98, 59, 32, 99, 97, 108, 108, 32, 109, 59, 32, 114, 101, 116, 117, 114, 110, 59, 32, 101, 110, 100]⟩
def sxP2 : List Fnc := [⟨⟨#[109]⟩, [⟨⟨#[98]⟩, [⟨3, noB, [], [⟨#[109]⟩]⟩, ⟨9, noB, [], []⟩]⟩]⟩]
theorem sx_2 : parseS sxT2 = (sxP2, 0, 0, 0) := by kernel_rfl
theorem sxc0 : checkP sxP0 = ((3, 0, 0, 0), 4) := by kernel_rfl
theorem sxc1 : checkP sxP1 = ((3, 0, 0, 0), 5) := by kernel_rfl
theorem sxc2 : checkP sxP2 = ((0, 0, 0, 0), 0) := by kernel_rfl
theorem sxs2 : sizesP sxP2 = (5, 5) := by kernel_rfl
/-- A program that was parsed, in a box. -/
structure Bx (w : World) (g : Nat) (x : PH) (p : List Fnc) : Prop where
  box : Fb w g #[.slice x.A x.n x.c] 34
  ok : PHok w [] x
  is : x.p = p
theorem Bx.below {w w' : World} {g : Nat} {x : PH} {p : List Fnc} (h : Bx w g x p) (hb : Below w.heap.size w w') : Bx w' g x p := ⟨h.box.below hb h.box.lt, h.ok.below hb, h.is⟩
def RefP (p : List Fnc) (w : World) (e : Ending) (w' : World) : Prop :=
  ∃ x : PH, e = .returned (.tuple #[.agg #[.slice x.A x.n x.c], .int .i64 0, .int .i64 0, .int .i64 0]) ∧ Bx (w'.alloc (.cells #[.slice x.A x.n x.c] 34)) w'.heap.size x p ∧ Below w.heap.size w (w'.alloc (.cells #[.slice x.A x.n x.c] 34)) ∧ Below w.heap.size w w'
theorem ref_as (T : ByteArray) (w : World) (hs : T.size ≤ maxLen) {p : List Fnc} (h : parseS T = (p, 0, 0, 0)) : Calls Tryd.prog 41 #[.string T] w (RefP p w) := by
  refine (refParse_any T w hs).mono ?_
  rw [← parse_same, h]
  rintro e w' ⟨x, rfl, hx, hp, hb⟩
  have hb2 := (Below.refl w'.heap.size w').alloc (Nat.le_refl _) (.cells #[.slice x.A x.n x.c] 34)
  exact ⟨x, rfl, ⟨Fb.new w' _ _, (hp [] (by simp)).below hb2, hx⟩, below_step hb hb2, hb⟩
theorem nodNew (w : World) (a b c d : Int) : Fb (w.alloc (.cells #[.int .i64 a, .int .i64 b, .int .i64 c, .int .i64 d] 51)) w.heap.size #[.int .i64 a, .int .i64 b, .int .i64 c, .int .i64 d] 51 := Fb.new w _ _
theorem allocB (w : World) (o : Obj) : Below w.heap.size w (w.alloc o) := (Below.refl w.heap.size w).alloc (Nat.le_refl _) o
set_option maxHeartbeats 6400000 in
theorem sane6_any (w : World) (hsh : Shp w) : Calls Tryd.prog 26 #[] w fun e w' => e = .returned (.bool true) ∧ Below w.heap.size w w' := by
  have hs0 : sxT0.size ≤ maxLen := by have : sxT0.size ≤ 100 := by decide
                                      unfold maxLen; omega
  have hs1 : sxT1.size ≤ maxLen := by have : sxT1.size ≤ 100 := by decide
                                      unfold maxLen; omega
  have hs2 : sxT2.size ≤ maxLen := by have : sxT2.size ≤ 100 := by decide
                                      unfold maxLen; omega
  have Hs0 := hid hs0; have Hs1 := hid hs1; have Hs2 := hid hs2
  have HS := hid hsh
  clear hs0 hs1 hs2 hsh
  go_enter Tryd.func26, Tryd.ntmps26
  go_wp2_with fail
  refine (ref_as sxT0 _ Hs0.out sx_0).mono ?_
  rintro e w1 ⟨x, rfl, hx, hb, -⟩
  have HX := hid hx; have HB := hid hb; have HS1 := hid (HS.out.keep (hb.block 0 HS.out.pos0))
  clear hx hb HS Hs0
  simp only
  go_wp2_with fail
  generalize w1.heap.size = g1 at *
  generalize w1.alloc (.cells #[.slice x.A x.n x.c] 34) = w1 at *
  refine (ref_as sxT1 _ Hs1.out sx_1).mono ?_
  rintro e w2 ⟨y, rfl, hy, hb, -⟩
  have HX2 := hid (HX.out.below hb); have HY := hid hy; have HB2 := hid (below_step HB.out hb); have HS2 := hid (HS1.out.keep (hb.block 0 HS1.out.pos0))
  clear hy hb HX HB HS1 Hs1
  simp only
  go_wp2_with fail
  generalize w2.heap.size = g2 at *
  generalize w2.alloc (.cells #[.slice y.A y.n y.c] 34) = w2 at *
  refine (ref_as sxT2 _ Hs2.out sx_2).mono ?_
  rintro e w3 ⟨z, rfl, hz, hb, -⟩
  have HX3 := hid (HX2.out.below hb); have HY3 := hid (HY.out.below hb); have HZ := hid hz; have HB3 := hid (below_step HB2.out hb); have HS3 := hid (HS2.out.keep (hb.block 0 HS2.out.pos0))
  clear hz hb HX2 HY HB2 HS2 Hs2
  have b1 := HX3.out.box.onec
  simp only
  go_wp2_with fail
  generalize w3.heap.size = g3 at *
  generalize w3.alloc (.cells #[.slice z.A z.n z.c] 34) = w3 at *
  refine (check_any x [] _ HX3.out.ok HS3.out).mono ?_
  rw [HX3.out.is, sxc0]
  rintro e w4 ⟨rfl, hb⟩
  have hb2 := below_step hb (allocB w4 (.cells #[.int .i64 3, .int .i64 0, .int .i64 0, .int .i64 0] 51))
  have HY4 := hid (HY3.out.below hb2); have HZ4 := hid (HZ.out.below hb2); have HB4 := hid (below_step HB3.out hb2); have HS4 := hid (HS3.out.keep (hb2.block 0 HS3.out.pos0))
  have HN4 := hid (nodNew w4 3 0 0 0)
  clear hb hb2 HX3 HY3 HZ HB3 HS3 b1
  have b1 := HY4.out.box.onec
  simp only
  go_wp2_with fail
  generalize w4.heap.size = g4 at *
  generalize w4.alloc (.cells #[.int .i64 3, .int .i64 0, .int .i64 0, .int .i64 0] 51) = w4 at *
  refine (check_any y [] _ HY4.out.ok HS4.out).mono ?_
  rw [HY4.out.is, sxc1]
  rintro e w5 ⟨rfl, hb⟩
  have hb2 := below_step hb (allocB w5 (.cells #[.int .i64 3, .int .i64 0, .int .i64 0, .int .i64 0] 51))
  have HZ5 := hid (HZ4.out.below hb2); have HB5 := hid (below_step HB4.out hb2); have HS5 := hid (HS4.out.keep (hb2.block 0 HS4.out.pos0))
  have HN5 := hid (HN4.out.below hb2 HN4.out.lt)
  have HM5 := hid (nodNew w5 3 0 0 0)
  clear hb hb2 HY4 HZ4 HB4 HS4 HN4 b1
  have b1 := HZ5.out.box.onec
  simp only
  go_wp2_with fail
  generalize w5.heap.size = g5 at *
  generalize w5.alloc (.cells #[.int .i64 3, .int .i64 0, .int .i64 0, .int .i64 0] 51) = w5 at *
  refine (check_any z [] _ HZ5.out.ok HS5.out).mono ?_
  rw [HZ5.out.is, sxc2]
  rintro e w6 ⟨rfl, hb⟩
  have hb2 := below_step hb (allocB w6 (.cells #[.int .i64 0, .int .i64 0, .int .i64 0, .int .i64 0] 51))
  have HZ6 := hid (HZ5.out.below hb2); have HB6 := hid (below_step HB5.out hb2); have HS6 := hid (HS5.out.keep (hb2.block 0 HS5.out.pos0))
  have HN6 := hid (HN5.out.below hb2 HN5.out.lt)
  have HM6 := hid (HM5.out.below hb2 HM5.out.lt)
  clear hb hb2 HZ5 HB5 HS5 HN5 HM5 b1
  have b1 := HZ6.out.box.onec
  simp only
  go_wp2_with fail
  generalize w6.alloc (.cells #[.int .i64 0, .int .i64 0, .int .i64 0, .int .i64 0] 51) = w6 at *
  refine (sizes_any z [] _ HZ6.out.ok HS6.out).mono ?_
  rw [HZ6.out.is, sxs2]
  rintro e w7 ⟨rfl, hb⟩
  have hb2 := below_step hb (allocB w7 (.cells #[.int .i64 3, .int .i64 0, .int .i64 0, .int .i64 0] 51))
  have HB7 := hid (below_step HB6.out hb2)
  have HN7 := hid (HN6.out.below hb HN6.out.lt)
  have HM7 := hid (HM6.out.below hb HM6.out.lt)
  clear hb hb2 HZ6 HB6 HS6 HN6 HM6 b1
  have l4 := HN7.out.lt
  have l5 := HM7.out.lt
  obtain ⟨n0, n1, n2, n3⟩ := Fb.four HN7.out
  obtain ⟨m0, m1, m2, m3⟩ := Fb.four HM7.out
  simp only
  as_aux_lemma =>
    go_wp2_with fail
    go_ret
    exact ⟨rfl, HB7.out⟩
end Go.Proofs.YtlepcgncphikhaaDoor

namespace Go.Proofs.YtlepcgncphikhaaDoor
set_option maxRecDepth 20000
set_option linter.unusedVariables false
set_option linter.unusedSimpArgs false
open Go.ChangeShapes Go.WideShapes Go.ChangeAt Go.RowKit

theorem info68L : (Tryd.prog.info? 46).map (fun i => (i.zero, i.size, i.bytes)) = some (some (.agg #[.int .i64 0, .string ⟨#[]⟩, .slice none 0 0, .slice none 0 0]), 4, 72) := by kernel_rfl
theorem info66L : (Tryd.prog.info? 62).map (fun i => (i.zero, i.size, i.bytes)) = some (some (.agg #[.string ⟨#[]⟩, .slice none 0 0]), 2, 40) := by kernel_rfl
theorem one_shcL (x : SH) : ∀ u ∈ shc x, u.oneCell' = true := by
  intro u hu
  simp [shc] at hu
  rcases hu with rfl | rfl | rfl | rfl <;> rfl
theorem one_twoL (a : ByteArray) (A : Option Addr) (n c : Nat) : ∀ u ∈ [Value.string a, .slice A n c], u.oneCell' = true := by
  intro u hu
  simp at hu
  rcases hu with rfl | rfl <;> rfl
theorem two_newL (w : World) (a b : Value) (ty : TypeId) : ∀ j u, [a, b][j]? = some u → (w.alloc (.cells #[a, b] ty)).cell? ((⟨w.heap.size, 0, none⟩ : Addr).add j) = some u := by
  intro j u h
  have hb := Fb.new w #[a, b] ty
  rw [add_of, hb.cell]
  simpa using h
theorem four_new1L (w : World) (o : Obj) (a b c d : Value) (ty : TypeId) : ∀ (j : Nat) (u : Value), [a, b, c, d][j]? = some u → ((w.alloc o).alloc (.cells #[a, b, c, d] ty)).cell? ((⟨w.heap.size + 1, 0, none⟩ : Addr).add j) = some u := by
  have h := four_new (w.alloc o) a b c d ty
  rw [World.size_alloc] at h
  exact h
def limU : Stm := ⟨2, noB, [⟨#[120]⟩], []⟩
def limR : Stm := ⟨9, noB, [], []⟩
def limC (k : Nat) : UInt8 := UInt8.ofNat (48 + k)
def limN (k : Nat) : ByteArray := ⟨#[98, limC k]⟩
def lef (T k : Nat) : Nat := T - 32 * k
def limUs (l : Nat) : Nat := min 31 (l - 1)
def limBk (T k : Nat) : Blk := ⟨limN k, List.replicate (limUs (lef T k)) limU ++ [limR]⟩
def limBs (T k : Nat) : List Blk := (List.range k).map (limBk T)
def limP (T : Nat) : List Fnc := [⟨⟨#[102]⟩, limBs T 8⟩]
theorem lim0 : checkP (limP 252) = ((0, 0, 0, 0), 0) := by kernel_rfl
theorem lim1 : checkP (limP 253) = ((0, 0, 0, 0), 0) := by kernel_rfl
theorem lim2 : checkP (limP 254) = ((0, 0, 0, 0), 0) := by kernel_rfl
theorem lim3 : checkP (limP 255) = ((0, 0, 0, 0), 7) := by kernel_rfl
theorem lef_step (T k : Nat) (h : 0 < lef T k) : lef T (k + 1) = lef T k - limUs (lef T k) - 1 := by unfold lef limUs at *; omega
theorem limBs_step (T k : Nat) : limBs T (k + 1) = limBs T k ++ [limBk T k] := by unfold limBs; rw [List.range_succ, List.map_append]; rfl
theorem dec_small {k : Nat} (h : k < 10) : dec k = [limC k] := by unfold dec; rw [dif_pos h]; rfl
theorem quoted_any (k : Nat) (hk : k < 8) (w : World) : Calls Tryd.prog 33 #[.int .i64 k] w fun e w' => e = .returned (.string ⟨#[limC k]⟩) ∧ w = w' := by
  have Hd := hid (dec_small (show k < 10 by omega))
  go_enter Tryd.func33, Tryd.ntmps33
  go_wp2_with fail
  refine (decimal_any k _ (by omega)).mono ?_
  rw [Hd.out]
  rintro e w' ⟨rfl, rfl⟩
  unfold str
  go_wp2_with fail
  go_ret
  exact ⟨rfl, rfl⟩
theorem lim_name {k : Nat} (h : k < 8) : (⟨#[98]⟩ : ByteArray) ++ ⟨#[limC k]⟩ = limN k := by
  rcases (show k = 0 ∨ k = 1 ∨ k = 2 ∨ k = 3 ∨ k = 4 ∨ k = 5 ∨ k = 6 ∨ k = 7 by omega) with rfl | rfl | rfl | rfl | rfl | rfl | rfl | rfl <;> rfl
theorem xs_safe {wr : World} {ex : List (Option Nat)} (hex : ∀ k, some k ∈ ex → k < wr.heap.size) : SSafe (wr.alloc (.cells #[.string ⟨#[120]⟩] 9)) ex (some ⟨wr.heap.size, 0, none⟩) 1 [⟨#[120]⟩] :=
  ⟨EAt.fb (Fb.new wr #[.string ⟨#[120]⟩] 9) (fun h => by have := hex _ h; omega) (fun j u hu => by simpa using hu), rfl, by omega, by simp; decide⟩
set_option maxHeartbeats 16000000 in
theorem lawVLimits (n : Int) (w : World) (hn0 : 0 ≤ n) (hn1 : n < 256) (D : Nat) (hD : n % 4 = (D : Int)) (hD3 : D ≤ 3) (qe : Int) (hq : checkP (limP (252 + D)) = ((0, 0, 0, 0), qe)) (hqe : (D ≤ 2 ∧ qe = 0) ∨ (D = 3 ∧ qe = 7)) (hsh : Shp w) :
    Calls Tryd.prog 8 #[.int .u8 n] w fun e w' => e = .returned (.bool true) ∧ Below w.heap.size w w' := by
  obtain ⟨i1, hi, hz0, hz1, hz2⟩ := info_parts info68L
  have Hi68 := hid hi; have Hz680 := hid hz0; have Hz681 := hid hz1; have Hz682 := hid hz2
  clear hi hz0 hz1 hz2
  obtain ⟨i2, hi, hz0, hz1, hz2⟩ := info_parts info66L
  have Hi66 := hid hi; have Hz660 := hid hz0; have Hz661 := hid hz1; have Hz662 := hid hz2
  clear hi hz0 hz1 hz2
  have HS := hid hsh
  have Hq := hid hq
  have Hqe := hid hqe
  have hT : (252 + (D : Int)) = ((252 + D : Nat) : Int) := by simp
  have H0 := hid (show Lm2 w w.heap.size (.slice none 0 0) ⟨#[102]⟩ [] (w.alloc (.cells #[.string ⟨#[102]⟩, .slice none 0 0] 58)) from ⟨(Below.refl _ _).alloc (Nat.le_refl _) _, Nat.le_refl _, Fb.new _ _ _, World.ownsRow_nil _ _ _ _, by simp⟩)
  obtain ⟨T, hTd⟩ : ∃ T, 252 + D = T := ⟨_, rfl⟩
  have hT1 : 252 ≤ T ∧ T ≤ 255 := by omega
  have HTd := hid hTd
  have Hq2 := hid (show checkP (limP T) = ((0, 0, 0, 0), qe) by rw [← hTd]; exact hq)
  have HTi := hid (show (252 + (D : Int)) = ((lef T 0 : Nat) : Int) by unfold lef; omega)
  clear hsh hq hqe hT hTd
  go_enter Tryd.func8, Tryd.ntmps8
  go_wp2_with fail
  have HDD := hid hD
  clear hD
  generalize w.alloc (.cells #[.string ⟨#[102]⟩, .slice none 0 0] 58) = w1 at *
  go_loopw [5, 6] (fun lv _ wr => ∃ (l : Int) (k : Nat) (u : Value) (bs : List BH), lv = .int .i64 l ∧ 0 ≤ l ∧ l ≤ 255 ∧ Hid (l = ((lef T k : Nat) : Int)) ∧ k ≤ 8 ∧ bs.length = k ∧ Hid (bs.map BH.b = limBs T k) ∧ Hid (Lm2 w w.heap.size u ⟨#[102]⟩ bs wr)) (fun lv _ _ => (intOf lv).toNat)
  case atStart => exact ⟨_, 0, _, [], rfl, by omega, by omega, HTi, by omega, rfl, hid rfl, H0.out⟩
  case round =>
    clear H0 HTi
    obtain ⟨l, k, u, bs, rfl, hl0, hl1, hl, hk, hbl, hbs, hL⟩ := hrel
    by_cases hlt : 0 < l
    · have hk8 : k < 8 := by have := hl.out; unfold lef at this; omega
      obtain ⟨A, c, hu⟩ := own_any_slice hL.out.ou
      subst hu
      have Hbl := hid hbl
      have HN := hid (lim_name hk8)
      have H3 := hid (hL.out.block (limN k))
      have f1 := hL.out.fF.cell 1
      have f1' : wr.cell? ⟨w.heap.size, 1, none⟩ = some (.slice A bs.length c) := f1
      have hfl := hL.out.fF.lt
      clear f1
      rw [hbl] at f1'
      have hkx := hk8
      go_wp2_with fail
      refine (quoted_any k hk8 _).mono ?_
      rintro e w2 ⟨rfl, rfl⟩
      have hsz : (⟨#[98]⟩ : ByteArray).size + (⟨#[limC k]⟩ : ByteArray).size ≤ 9223372036854775807 := by have h1 : (⟨#[98]⟩ : ByteArray).size = 1 := rfl; have h2 : (⟨#[limC k]⟩ : ByteArray).size = 1 := rfl; omega
      go_wp2_with fail
      rw [HN.out]
      clear f1' hsz hfl
      generalize hB : wr.heap.size = B at H3
      clear hB hL
      generalize wr.alloc (.cells #[.string (limN k), .slice none 0 0] 62) = w3 at H3 ⊢
      have hll := hid (show limUs (lef T k) ≤ 31 ∧ ((limUs (lef T k) : Nat) : Int) ≤ l - 1 by have := hl.out; unfold limUs; omega)
      have Hme := hid (show (limUs (lef T k) : Nat) = min 31 ((l - 1).toNat) by have := hl.out; unfold limUs; omega)
      have Hlst := hid (show ((lef T (k + 1) : Nat) : Int) = l - ((limUs (lef T k) : Nat) : Int) - 1 by have := hl.out; have := lef_step T k (by omega); rw [this]; have := hll.out.2; omega)
      have Hbst := hid (limBs_step T k)
      have Hbk := hid (show limBk T k = ⟨limN k, List.replicate (limUs (lef T k)) limU ++ [limR]⟩ from rfl)
      generalize limUs (lef T k) = M at *
      go_loopw [5] (fun lv wr => ∃ (j : Nat) (s : Value) (ss : List SH), lv = .int .i64 (l - (j : Int)) ∧ j ≤ M ∧ ss.length = j ∧ Hid (ss.map SH.t = List.replicate j limU) ∧ Hid (Lm3 w w.heap.size B (.slice A bs.length c) s ⟨#[102]⟩ (limN k) bs ss wr)) (fun lv _ => (intOf lv).toNat)
      case atStart => exact ⟨0, _, [], by simp, by omega, rfl, hid rfl, H3.out⟩
      case round =>
        clear H3
        obtain ⟨j, s, ss, rfl, hj, hsl, hst, hL⟩ := hrel
        obtain ⟨A2, c2, hs2⟩ := own_any_slice hL.out.os
        subst hs2
        have hM1 := hll.out.1
        have hM2 := hll.out.2
        have Hsl := hid hsl
        have d1 := hL.out.fB.cell 1
        have d1 : wr.cell? ⟨B, 1, none⟩ = some (.slice A2 ss.length c2) := d1
        rw [hsl] at d1
        have hBl := hL.out.fB.lt
        by_cases hjM : j < M
        · have t1 : decide (1 < l - (j : Int)) = true := by simp; omega
          have t2 : decide ((j : Int) < 31) = true := by simp; omega
          have HX := hid (show SHok ((wr.alloc (.cells #[.string ⟨#[120]⟩] 9)).alloc (.cells #[.int .i64 2, .string ⟨#[]⟩, .slice (some ⟨wr.heap.size, 0, none⟩) 1 1, .slice none 0 0] 46)) (em3 w.heap.size B (.slice A bs.length c) (.slice A2 ss.length c2)) ⟨some ⟨wr.heap.size, 0, none⟩, 1, 1, none, 0, 0, limU⟩ from
            ⟨(xs_safe hL.out.ex_lt).go (Go2.below ((Below.refl _ _).alloc (Nat.le_refl _) _)), SSafe.nil _ _ _, by show noB.size ≤ 1000; decide⟩)
          have H4 := hid ((hL.out.alloc (.cells #[.string ⟨#[120]⟩] 9)).alloc (.cells #[.int .i64 2, .string ⟨#[]⟩, .slice (some ⟨wr.heap.size, 0, none⟩) 1 1, .slice none 0 0] 46))
          have Hnw := hid (four_new1L wr (.cells #[.string ⟨#[120]⟩] 9) (.int .i64 2) (.string ⟨#[]⟩) (.slice (some ⟨wr.heap.size, 0, none⟩) 1 1) (.slice none 0 0) 46)
          have Hbz := hid (show w.heap.size ≤ ((wr.alloc (.cells #[.string ⟨#[120]⟩] 9)).alloc (.cells #[.int .i64 2, .string ⟨#[]⟩, .slice (some ⟨wr.heap.size, 0, none⟩) 1 1, .slice none 0 0] 46)).heap.size from H4.out.gr.size)
          go_wp2_with ((
            at_builtin
            go_must (refine wpList_append_lies _ rfl _ _ 60 rfl w.heap.size 46 i1 _ 4 72 Tryd.underlying60 Hi68.out Hz680.out Hz681.out Hz682.out rfl (by decide) _ ss.length (ss.flatMap shc) (by rw [Hsl.out]; rfl) H4.out.os ⟨wr.heap.size + 1, 0, none⟩ 1 1 (shc ⟨some ⟨wr.heap.size, 0, none⟩, 1, 1, none, 0, 0, limU⟩) rfl rfl Hnw.out (one_shcL _) (by omega) (by unfold maxLen; omega) (by omega) Hbz.out _ rfl ?_)
            intro g9 cap9 w9 hown9 hgr9 hat9 hlt9
            obtain ⟨⟨y0, y1⟩, hT9⟩ := Lm3.push H4.out HX.out hown9 hgr9 hat9
            have H9 := hid hT9
            clear hT9 hown9 hgr9 hat9 hlt9))
          as_aux_lemma =>
            go_roundw
            case rel => exact ⟨j + 1, _, ss ++ [(⟨some ⟨wr.heap.size, 0, none⟩, 1, 1, none, 0, 0, limU⟩ : SH)], by first | go_num | (congr 1; omega), by omega, by simp [hsl], hid (by rw [List.map_append, hst.out, List.replicate_succ']; rfl), by rw [Hsl.out] at H9; exact H9⟩
            case measure => simp [intOf]; omega
        · obtain rfl : j = M := by omega
          have hguard : (decide (1 < l - (j : Int)) = false) ∨ (decide (1 < l - (j : Int)) = true ∧ decide ((j : Int) < 31) = false) := by
            have := Hme.out
            by_cases h : 1 < l - (j : Int)
            · exact .inr ⟨by simpa using h, by simp; omega⟩
            · exact .inl (by simpa using h)
          have H4 := hid (hL.out.alloc (.cells #[.int .i64 9, .string ⟨#[]⟩, .slice none 0 0, .slice none 0 0] 46))
          have HX := hid (show SHok (wr.alloc (.cells #[.int .i64 9, .string ⟨#[]⟩, .slice none 0 0, .slice none 0 0] 46)) (em3 w.heap.size B (.slice A bs.length c) (.slice A2 ss.length c2)) ⟨none, 0, 0, none, 0, 0, limR⟩ from ⟨SSafe.nil _ _ _, SSafe.nil _ _ _, by show noB.size ≤ 1000; decide⟩)
          have Hbz := hid (show w.heap.size ≤ (wr.alloc (.cells #[.int .i64 9, .string ⟨#[]⟩, .slice none 0 0, .slice none 0 0] 46)).heap.size from H4.out.gr.size)
          rcases hguard with t1 | ⟨t1, t2⟩
          all_goals
            go_upto_region 11 with ((
              at_builtin
              go_must (refine wpList_append_lies _ rfl _ _ 60 rfl w.heap.size 46 i1 _ 4 72 Tryd.underlying60 Hi68.out Hz680.out Hz681.out Hz682.out rfl (by decide) _ ss.length (ss.flatMap shc) (by rw [Hsl.out]; rfl) H4.out.os ⟨wr.heap.size, 0, none⟩ 1 1 (shc ⟨none, 0, 0, none, 0, 0, limR⟩) rfl rfl (four_new _ _ _ _ _ _) (one_shcL _) (by omega) (by unfold maxLen; omega) (by omega) Hbz.out _ rfl ?_)
              intro g9 cap9 w9 hown9 hgr9 hat9 hlt9
              obtain ⟨⟨y0, y1⟩, hT9⟩ := Lm3.push H4.out HX.out hown9 hgr9 hat9
              have H9 := hid hT9
              clear hT9 hown9 hgr9 hat9 hlt9))
            rw [Hsl.out] at H9
            have Hst9 := hid (show (ss ++ [(⟨none, 0, 0, none, 0, 0, limR⟩ : SH)]).map SH.t = List.replicate j limU ++ [limR] by rw [List.map_append, hst.out]; rfl)
            have hl9 : (ss ++ [(⟨none, 0, 0, none, 0, 0, limR⟩ : SH)]).length ≤ 40 := by simp; omega
            obtain ⟨ssX, hssX⟩ : ∃ q, ss ++ [(⟨none, 0, 0, none, 0, 0, limR⟩ : SH)] = q := ⟨_, rfl⟩
            rw [hssX] at H9 Hst9 hl9
            clear hssX y0 y1 H4 HX Hbz d1 hBl hL hst hsl
            generalize w9.setCell ⟨B, 1, none⟩ (.slice (some ⟨g9, 0, none⟩) (j + 1) cap9) = wA at H9 ⊢
            generalize (Value.slice (some ⟨g9, 0, none⟩) (j + 1) cap9) = sX at H9 ⊢
            obtain ⟨A9, c9, e9⟩ := own_any_slice H9.out.os
            subst e9
            have b0 : wA.cell? ⟨B, 0, none⟩ = some (.string (limN k)) := H9.out.fB.cell 0
            have b1 : wA.cell? ⟨B, 1, none⟩ = some (.slice A9 ssX.length c9) := H9.out.fB.cell 1
            have f1 : wA.cell? ⟨w.heap.size, 1, none⟩ = some (.slice A bs.length c) := H9.out.fF.cell 1
            rw [Hbl.out] at f1
            have hbF := H9.out.fF.lt
            have hbB := H9.out.fB.lt
            have H10 := hid (H9.out.alloc (.cells #[.string (limN k), .slice A9 ssX.length c9] 62))
            have Hbz := hid (show w.heap.size ≤ (wA.alloc (.cells #[.string (limN k), .slice A9 ssX.length c9] 62)).heap.size from H10.out.gr.size)
            have hbl8 : bs.length ≤ 8 := by have := Hbl.out; omega
            go_wp2_with ((
              at_builtin
              go_must (refine wpList_append_lies _ rfl _ _ 56 rfl w.heap.size 62 i2 _ 2 40 Tryd.underlying56 Hi66.out Hz660.out Hz661.out Hz662.out rfl (by decide) _ bs.length (bs.flatMap bhc) (by rw [Hbl.out]; rfl) H10.out.ou ⟨wA.heap.size, 0, none⟩ 1 1 [.string (limN k), .slice A9 ssX.length c9] rfl rfl (two_newL _ _ _ _) (one_twoL _ _ _ _) (by omega) (by unfold maxLen; omega) (by omega) Hbz.out _ rfl ?_)
              intro ga capa wa howna hgra hata hlta
              obtain ⟨⟨y0, y1⟩, hTa⟩ := Lm3.done H10.out (show (limN k).size ≤ 1000 by show 2 ≤ 1000; omega) hl9 howna hgra hata
              have Ha := hid hTa
              clear hTa howna hgra hata hlta))
            as_aux_lemma =>
              go_roundw
              case rel => exact ⟨l - (j : Int) - 1, k + 1, _, bs ++ [(⟨limN k, A9, ssX.length, c9, ssX⟩ : BH)], by first | rfl | (congr 1), by omega, by omega, hid Hlst.out.symm, by omega, by simp [Hbl.out], hid (by rw [List.map_append, hbs.out, Hbst.out, Hbk.out, ← Hst9.out]; rfl), by rw [Hbl.out] at Ha; exact Ha⟩
              case measure => simp [intOf]; omega
    · have hk8 : k = 8 := by have := hl.out; unfold lef at this; omega
      subst hk8
      have Hbl := hid hbl
      have hbl8 : bs.length ≤ 8 := by omega
      clear hbl
      obtain ⟨A, c, hu⟩ := own_any_slice hL.out.ou
      subst hu
      have f0 : wr.cell? ⟨w.heap.size, 0, none⟩ = some (.string ⟨#[102]⟩) := hL.out.fF.cell 0
      have f1 : wr.cell? ⟨w.heap.size, 1, none⟩ = some (.slice A bs.length c) := hL.out.fF.cell 1
      have hFl := hL.out.fF.lt
      have hab := (Below.refl wr.heap.size wr).alloc (Nat.le_refl _) (.cells #[.string ⟨#[102]⟩, .slice A bs.length c] 58)
      have HB2 := hid (below_step hL.out.gr hab)
      have HP := hid (show PHok (wr.alloc (.cells #[.string ⟨#[102]⟩, .slice A bs.length c] 58)) [] ⟨some ⟨wr.heap.size, 0, none⟩, 1, 1, [⟨⟨#[102]⟩, A, bs.length, c, bs⟩]⟩ from
        ⟨EAt.fb (Fb.new wr #[.string ⟨#[102]⟩, .slice A bs.length c] 58) (by simp) (fun j u hu => by simpa [fhc] using hu), rfl, by show 1 ≤ 40; omega, fun y hy => by
          simp at hy
          subst hy
          exact ⟨(EAt.own hL.out.ou (by simp)).go (Go2.below hab), rfl, by show bs.length ≤ 40; omega, by show (⟨#[102]⟩ : ByteArray).size ≤ 1000; decide, fun z hz => ((hL.out.okb z hz).go (Go2.less _ (by simp))).go (Go2.below hab)⟩⟩)
      have HSw := hid (HS.out.keep (HB2.out.block 0 HS.out.pos0))
      have Hcp := hid (show checkP (PH.p ⟨some ⟨wr.heap.size, 0, none⟩, 1, 1, [⟨⟨#[102]⟩, A, bs.length, c, bs⟩]⟩) = ((0, 0, 0, 0), qe) by
        rw [← Hq2.out]; unfold limP; rw [← hbs.out]; rfl)
      clear hab
      go_wp2_with fail
      refine (check_any ⟨some ⟨wr.heap.size, 0, none⟩, 1, 1, [⟨⟨#[102]⟩, A, bs.length, c, bs⟩]⟩ [] _ HP.out HSw.out).mono ?_
      rw [Hcp.out]
      rintro e w5 ⟨rfl, hb5⟩
      have hb6 := below_step hb5 (allocB w5 (.cells #[.int .i64 0, .int .i64 0, .int .i64 0, .int .i64 0] 51))
      have HB6 := hid (below_step HB2.out hb6)
      have HS6 := hid (HSw.out.keep (hb6.block 0 HSw.out.pos0))
      clear hb5 hb6 HB2 HSw HP Hcp f0 f1 hFl hL hl hl0 hl1 hbs
      simp only
      rcases Hqe.out with ⟨hd2, rfl⟩ | ⟨rfl, rfl⟩
      · have t1 : decide ((D : Int) ≤ 2) = true := by simp; omega
        go_wp2_with fail
        refine (sane6_any _ HS6.out).mono ?_
        rintro e w7 ⟨rfl, hb7⟩
        have HB7 := hid (below_step HB6.out hb7)
        clear hb7
        go_wp2
        go_ret
        exact ⟨rfl, HB7.out⟩
      · go_wp2_with fail
        refine (sane6_any _ HS6.out).mono ?_
        rintro e w7 ⟨rfl, hb7⟩
        have HB7 := hid (below_step HB6.out hb7)
        clear hb7
        go_wp2
        go_ret
        exact ⟨rfl, HB7.out⟩
theorem lawVLim (n : Int) (w : World) (hn0 : 0 ≤ n) (hn1 : n < 256) (hsh : Shp w) : Calls Tryd.prog 8 #[.int .u8 n] w fun e w' => e = .returned (.bool true) ∧ Below w.heap.size w w' := by
  rcases (show n % 4 = ((0 : Nat) : Int) ∨ n % 4 = ((1 : Nat) : Int) ∨ n % 4 = ((2 : Nat) : Int) ∨ n % 4 = ((3 : Nat) : Int) by omega) with h | h | h | h
  · exact lawVLimits n w hn0 hn1 0 h (by omega) 0 lim0 (.inl ⟨by omega, rfl⟩) hsh
  · exact lawVLimits n w hn0 hn1 1 h (by omega) 0 lim1 (.inl ⟨by omega, rfl⟩) hsh
  · exact lawVLimits n w hn0 hn1 2 h (by omega) 0 lim2 (.inl ⟨by omega, rfl⟩) hsh
  · exact lawVLimits n w hn0 hn1 3 h (by omega) 7 lim3 (.inr ⟨rfl, rfl⟩) hsh
end Go.Proofs.YtlepcgncphikhaaDoor

namespace Go.Proofs.YtlepcgncphikhaaDoor
set_option maxRecDepth 10000
open Go.ChangeShapes Go.WideShapes Go.ChangeAt Go.RowKit Go.Joins

theorem cells3 : Tryd.prog.cellsOf 3 = 1 := by kernel_rfl
theorem cell_in {w : World} {a : Addr} {v : Value} (h : w.cell? a = some v) : a.block < w.heap.size := by
  rcases Nat.lt_or_ge a.block w.heap.size with hlt | hge
  · exact hlt
  · unfold World.cell? at h; rw [Array.getElem?_eq_none hge] at h; cases h

theorem wf_u64 {z : Int} (h : (Lit.int .u64 z).wf = true) : 0 ≤ z ∧ z ≤ 18446744073709551615 := by
  have m0 : IntKind.u64.min = 0 := by decide
  have m1 : IntKind.u64.max = 18446744073709551615 := by decide
  simp [Lit.wf] at h
  omega
theorem open_list {H : Type} {enc : TypeId × Value → H} {W : World} {b0 base : Nat} {spare : Nat → Bool} {held : Bool} {v : Value} {d : DataW H} {p : List MemPlace}
    (hv : Value.okWide Tryd.prog W .any b0 22 v) (h : DataW.Trod enc Tryd.prog W base spare held 22 v d p) :
    ∃ (A : Option Addr) (n c : Nat) (l : List Int), v = .slice A n c ∧ IArg W A n l ∧ n ≤ maxLen := by
  obtain ⟨A, n, c, rfl⟩ := okWide_slice Tryd.underlying22 hv
  obtain ⟨fuel, hf⟩ := h
  rcases open_ints Tryd.underlying22 Tryd.underlying3 cells3 hf with ⟨hcs, _⟩ | ⟨x, l, c', zs, hcs, _, hl, hm, hz, _, hcell, hwz⟩
  · simp [Value.cells] at hcs
    obtain ⟨rfl, rfl, rfl⟩ := hcs
    exact ⟨none, 0, 0, [], rfl, ⟨.inl rfl, rfl⟩, by simp [maxLen]⟩
  · simp [Value.cells] at hcs
    obtain ⟨rfl, rfl, rfl⟩ := hcs
    have hle : n ≤ zs.length := by rw [hz]; split <;> omega
    refine ⟨some x, n, c, zs.take n, rfl, ⟨?_, by rw [List.length_take]; omega⟩, Nat.le_trans hl hm⟩
    by_cases h0 : n = 0
    · subst h0; exact .inl rfl
    · refine .inr ⟨x, rfl, ?_, fun j u hu => ?_⟩
      · have := cell_in (hcell 0 (by omega)); rwa [add_block] at this
      · unfold ints at hu
        rw [List.getElem?_map] at hu
        have hj : j < n := by
          rcases Nat.lt_or_ge j n with h | h
          · exact h
          · rw [List.getElem?_eq_none (by rw [List.length_take]; omega)] at hu; simp at hu
        rw [List.getElem?_take, if_pos hj, List.getElem?_eq_getElem (by omega)] at hu
        have := hcell j (by omega)
        rw [List.getD_eq_getElem?_getD, List.getElem?_eq_getElem (by omega)] at this
        rw [this]; simpa using hu

end Go.Proofs.YtlepcgncphikhaaDoor

namespace Go.Proofs.YtlepcgncphikhaaDoor
set_option maxRecDepth 100000
set_option linter.unusedVariables false
open Go.ChangeShapes Go.WideShapes Go.ChangeAt Go.RowKit

theorem own : ownKnob Tryd.prog.godebug = none := by kernel_rfl
theorem laidOut : laidOutB Tryd.prog = true := by kernel_rfl
theorem gShp : Tryd.prog.globalNamed "flowquery/syntax.shapes" = some 0 := by kernel_rfl
theorem gShpType : (Tryd.prog.globals[0]?).map (·.type) = some 135 := by kernel_rfl
theorem undArr : Tryd.prog.underlying 135 = some (.array 10 134) := by kernel_rfl
theorem undShape : ∃ fs : Array Field, Tryd.prog.underlying 134 = some (.struct fs) ∧ (fs.toList.map fun f => (f.type, f.offset)) = [(9, 0), (4, 1), (3, 2), (3, 3), (3, 4)] := by
  have h : (match Tryd.prog.underlying 134 with | some (.struct fs) => some (fs.toList.map fun f => (f.type, f.offset)) | _ => none) = some [(9, 0), (4, 1), (3, 2), (3, 3), (3, 4)] := by kernel_rfl
  split at h
  · next fs e => exact ⟨fs, e, Option.some.inj h⟩
  · cases h
theorem cArr : Tryd.prog.cellsOf 135 = 50 := by kernel_rfl
theorem cShape : Tryd.prog.cellsOf 134 = 5 := by kernel_rfl
theorem cStr : Tryd.prog.cellsOf 9 = 1 := by kernel_rfl
theorem cBool : Tryd.prog.cellsOf 4 = 1 := by kernel_rfl
theorem cInt : Tryd.prog.cellsOf 3 = 1 := by kernel_rfl
abbrev Sh := List UInt8 × Bool × Int × Int × Int
def dataSh (t : Sh) : DataW Unit := .agg [.lit (.string t.1), .lit (.bool t.2.1), .lit (.int .i64 t.2.2.1), .lit (.int .i64 t.2.2.2.1), .lit (.int .i64 t.2.2.2.2)]
def cellsSh (t : Sh) : List Value := [.string ⟨t.1.toArray⟩, .bool t.2.1, .int .i64 t.2.2.1, .int .i64 t.2.2.2.1, .int .i64 t.2.2.2.2]
def shpT : List Sh := [([], false, 0, 0, 0), ([], true, 0, 4, 0), ([117, 115, 101], false, 1, 4, 0), ([99, 97, 108, 108], false, 0, 0, 1), ([115, 111, 117, 114, 99, 101], true, 0, 0, 0), ([115, 105, 110, 107], false, 1, 1, 0), ([115, 97, 110, 105, 116, 105, 122, 101], true, 0, 0, 0), ([103, 111, 116, 111], false, 0, 0, 1), ([98, 114, 97, 110, 99, 104], false, 1, 1, 2), ([114, 101, 116, 117, 114, 110], false, 0, 0, 0)]
theorem shp_data : (Rows.laid_flowquery_syntax_shapes : DataW Unit) = .agg (shpT.map dataSh) := by kernel_rfl
theorem shp_cells : shpCells = shpT.flatMap cellsSh := by rfl
theorem one_of_drop {cs : List Value} {i : Nat} {v : Value} (h : (cs.drop i).take 1 = [v]) : cs[i]? = some v := by
  have := congrArg (·[0]?) h
  simpa [List.getElem?_take, List.getElem?_drop] using this
theorem shape_of {enc : TypeId × Value → Unit} {w : World} {base : Nat} {sp : Nat → Bool} {held : Bool} {fuel : Nat} {cs : List Value} {t : Sh} {p : List MemPlace}
    (h : DataW.trod enc Tryd.prog w base sp held fuel 134 cs = some (dataSh t, p)) : cs = cellsSh t := by
  obtain ⟨fs, hu, hfs⟩ := undShape
  obtain ⟨xs, n, -, hx, hl, hxl, hf⟩ := DataW.trod_struct hu h
  rw [cShape] at hl
  have hxs : xs.map (·.1) = [.lit (.string t.1), .lit (.bool t.2.1), .lit (.int .i64 t.2.2.1), .lit (.int .i64 t.2.2.2.1), .lit (.int .i64 t.2.2.2.2)] := by
    have := congrArg Prod.fst hx
    unfold dataSh at this
    simpa using this.symm
  have key : ∀ (i : Nat) (ty off : Nat), [((9 : Nat), 0), (4, 1), (3, 2), (3, 3), (3, 4)][i]? = some (ty, off) → Tryd.prog.cellsOf ty = 1 → ∀ d, (xs.map (·.1))[i]? = some d →
      ∃ q, DataW.trod enc Tryd.prog w base sp held n ty ((cs.drop off).take 1) = some (d, q) := by
    intro i ty off hi hc d hd
    have h1 := congrArg (·[i]?) hfs
    try simp only at h1
    rw [hi, List.getElem?_map] at h1
    obtain ⟨f, hf1, hf2⟩ := Option.map_eq_some_iff.1 h1
    injection hf2 with e1 e2
    have h2 := hf i f (by simpa using hf1)
    rw [e1, e2, hc] at h2
    rw [List.getElem?_map] at hd
    obtain ⟨x, hx1, hx2⟩ := Option.map_eq_some_iff.1 hd
    rw [hx1] at h2
    subst hx2
    exact ⟨x.2, h2⟩
  obtain ⟨q0, k0⟩ := key 0 9 0 rfl cStr _ (by rw [hxs]; rfl)
  obtain ⟨q1, k1⟩ := key 1 4 1 rfl cBool _ (by rw [hxs]; rfl)
  obtain ⟨q2, k2⟩ := key 2 3 2 rfl cInt _ (by rw [hxs]; rfl)
  obtain ⟨q3, k3⟩ := key 3 3 3 rfl cInt _ (by rw [hxs]; rfl)
  obtain ⟨q4, k4⟩ := key 4 3 4 rfl cInt _ (by rw [hxs]; rfl)
  obtain ⟨s, c0, d0, -⟩ := DataW.trod_string Tryd.underlying9 k0
  obtain ⟨bb, c1, d1⟩ := DataW.trod_bool Tryd.underlying4 k1
  obtain ⟨z2, c2, d2, -⟩ := DataW.trod_int Tryd.underlying3 k2
  obtain ⟨z3, c3, d3, -⟩ := DataW.trod_int Tryd.underlying3 k3
  obtain ⟨z4, c4, d4, -⟩ := DataW.trod_int Tryd.underlying3 k4
  have g0 := one_of_drop c0
  have g1 := one_of_drop c1
  have g2 := one_of_drop c2
  have g3 := one_of_drop c3
  have g4 := one_of_drop c4
  simp only [Prod.mk.injEq, DataW.lit.injEq, Lit.string.injEq, Lit.bool.injEq, Lit.int.injEq, true_and] at d0 d1 d2 d3 d4
  have es : s = ⟨t.1.toArray⟩ := ext_list (by simpa using d0.1.symm)
  have hc : cellsSh t = [.string s, .bool bb, .int .i64 z2, .int .i64 z3, .int .i64 z4] := by
    unfold cellsSh
    rw [es, d1.1, d2.1, d3.1, d4.1]
  rw [hc]
  apply List.ext_getElem?
  intro i
  match i with
  | 0 => exact g0
  | 1 => exact g1
  | 2 => exact g2
  | 3 => exact g3
  | 4 => exact g4
  | i + 5 => rw [List.getElem?_eq_none (by omega), List.getElem?_eq_none (by simp)]
theorem cells_of_shp {enc : TypeId × Value → Unit} {w : World} {base : Nat} {sp : Nat → Bool} {held : Bool} {fuel : Nat} {cs : List Value} {p : List MemPlace}
    (h : DataW.trod enc Tryd.prog w base sp held fuel 135 cs = some (.agg (shpT.map dataSh), p)) : cs = shpT.flatMap cellsSh := by
  cases fuel with
  | zero => simp [DataW.trod] at h
  | succ fuel =>
    unfold DataW.trod at h
    rw [undArr] at h
    try simp only at h
    rw [cShape, cArr] at h
    split at h
    · rename_i hl
      obtain ⟨xs, hm, hx⟩ := Option.map_eq_some_iff.1 h
      have hxs : xs.map (·.1) = shpT.map dataSh := by
        have := congrArg Prod.fst hx
        simpa using this
      have hlen : (shpT.flatMap cellsSh).length = 50 := by rw [flat_len (k := 5) (fun _ => rfl)]; rfl
      apply List.ext_getElem?
      intro j
      by_cases hj : j < 50
      · have hi : j / 5 < 10 := by omega
        obtain ⟨b, hb, hf⟩ := Lib.mapM_at hm (j / 5) (j / 5) (by simp [hi])
        have h1 := congrArg (·[j / 5]?) hxs
        simp only [List.getElem?_map, hb, Option.map_some] at h1
        have hti : shpT[j / 5]? = some (shpT[j / 5]'(by show j / 5 < 10; exact hi)) := List.getElem?_eq_getElem _
        rw [hti] at h1
        simp only [Option.map_some, Option.some.injEq] at h1
        obtain ⟨b1, b2⟩ := b
        try simp only at h1
        subst h1
        have hc := shape_of hf
        have hr : j % 5 < 5 := Nat.mod_lt _ (by omega)
        have h2 : (cellsSh (shpT[j / 5]'(by show j / 5 < 10; exact hi)))[j % 5]? = cs[j]? := by
          rw [← hc, List.getElem?_take, List.getElem?_drop, if_pos hr]
          congr 1
          omega
        cases h3 : cs[j]? with
        | none =>
          rw [List.getElem?_eq_none_iff] at h3
          omega
        | some u =>
          rw [h3] at h2
          have := flat_get (f := cellsSh) (k := 5) (fun _ => rfl) shpT hti h2
          rw [show j / 5 * 5 + j % 5 = j by omega] at this
          exact this.symm
      · rw [List.getElem?_eq_none (by omega), List.getElem?_eq_none (by omega)]
    · cases h

theorem wf_u8 {z : Int} (h : (Lit.int .u8 z).wf = true) : 0 ≤ z ∧ z < 256 := by
  have m0 : IntKind.u8.min = 0 := by decide
  have m1 : IntKind.u8.max = 255 := by decide
  simp [Lit.wf] at h
  omega
/-- The rows' list. -/
def listS1 : List (String × DataW Unit) := Rows.syntaxParsesRow.laid
theorem shp_of {W : World} {n1 : String} {d1 : DataW Unit} {rest : List (String × DataW Unit)} (h : laidMet Tryd.prog ((n1, d1) :: rest) W) (hn : n1 = "flowquery/syntax.shapes") (hd : d1 = .agg (shpT.map dataSh)) : Shp W := by
  subst hn; subst hd
  obtain ⟨ps, ⟨g0, t0, cs0, f0, p0, q0, hg0, ht0, hv0, hd0, _, _⟩, _, _⟩ := h
  obtain rfl := Option.some.inj (gShp.symm.trans hg0)
  obtain rfl := Option.some.inj (gShpType.symm.trans ht0)
  have hc := cells_of_shp hd0
  intro j u hu
  rw [shp_cells, ← hc] at hu
  have := World.var?_cell gShp hv0 j
  rw [this]
  simpa using hu
theorem shp1 {W : World} (h : laidMetH Tryd.prog listS1 W) : Shp W := shp_of h rfl shp_data

/-- The heap that the program's own start leaves. -/
noncomputable def door (os : Os) : World := World.doorLaid Tryd.prog 400 os
theorem door_met (os : Os) (args : Array Value) : laidMet Tryd.prog listS1 ((door os).forCall (fun _ _ => 0) ⟨#[], args, []⟩).memory :=
  laidMet_of_run' 8 (by kernel_rfl) (by kernel_rfl)
theorem door_vars (os : Os) (args : Array Value) : ((door os).forCall (fun _ _ => 0) ⟨#[], args, []⟩).variablesRefB Tryd.prog = true := by kernel_rfl
theorem door_rest (os : Os) (args : Array Value) : (((door os).forCall (fun _ _ => 0) ⟨#[], args, []⟩).heap.toList.drop Tryd.prog.globals.size).take ((begin Tryd.prog (fun _ _ => 0) default).world.heap.size - Tryd.prog.globals.size) =
    (begin Tryd.prog (fun _ _ => 0) default).world.heap.toList.drop Tryd.prog.globals.size := by kernel_rfl
end Go.Proofs.YtlepcgncphikhaaDoor

namespace Go.Proofs.YtlepcgncphikhaaDoor.validateLimits
set_option maxRecDepth 100000
open Go.ChangeShapes Go.WideShapes Go.ChangeAt Go.RowKit
open Go.ChangeMaps (open_string)
set_option linter.unusedVariables false

theorem reads (os : Os) {H : Type} (enc : TypeId × Value → H) : ∃ places, DataW.whole enc Tryd.prog ((door os).forCall (fun _ _ => 0) ⟨#[], #[.int .u8 0], []⟩).memory Tryd.f8.params.toList Rows.validateLimitsSpec.vars false (#[.int .u8 0] : Array Value).toList 8 = some ([.lit (.int .u8 0)], [], places) :=
  ⟨[], by kernel_rfl⟩

theorem lifted (os : Os) (started : os.Started) (H : Type) (enc : TypeId × Value → H) (F : Stop.Interp) :
    ReturnsInHanded {} Tryd.checked os 8 .any ((OpenSpec.ofChange Rows.validateLimitsSpec).preRow enc Tryd.prog Tryd.f8 Rows.validateLimitsRow.domain false Rows.validateLimitsRow.laid) (((OpenSpec.ofChange Rows.validateLimitsSpec).at F).post enc Tryd.prog Tryd.f8 false true false false) := by
  obtain ⟨places, hx⟩ := reads os enc
  refine returnsInHanded_of_row (C := Tryd.checked) (s := OpenSpec.ofChange Rows.validateLimitsSpec) own started (by kernel_rfl) Tryd.func8
    (witness_row_atRef (enc := enc) (C := Tryd.checked) false (door os) #[.int .u8 0] rfl (door_vars os _) (door_rest os _) (by kernel_rfl)
      (OpenSpec.preRow_of_cond 8 hx (by kernel_rfl) (fun k hk => by cases hk) (by kernel_rfl) (door_met os _))) ?_
  intro W base args ds gs before hval0 hW _ _ _ hL hsh _
  have hval : ∀ (j : Nat) t v, Tryd.f8.params[j]? = some t → args[j]? = some v → Value.okWide Tryd.prog W .any base t v := hval0
  have hW' := hW
  obtain ⟨p, q, hA0, hV, rfl, hfz, hnd⟩ := hW
  have hA : DataW.TrodAll enc Tryd.prog W 0 (fun _ => true) true Tryd.f8.params.toList args.toList ds p := hA0
  rw [Tryd.params8] at hA hval
  obtain ⟨v0, vs0, d0, ds0, p0, q0, hargs, rfl, rfl, h0, r0⟩ := trodAll_cons hA
  obtain ⟨rfl, rfl, rfl⟩ := trodAll_nil r0
  obtain rfl : args = #[v0] := by cases args; simp_all
  obtain ⟨rfl, rfl⟩ := trodVars_none hV
  have k0 := h0
  have lt0 : ∀ x ∈ p0, x.block < W.heap.size := by obtain ⟨m, hm⟩ := k0; exact DataW.trod_lt m _ _ _ hm
  obtain ⟨a0, rfl, -, -, g0⟩ := open_int Tryd.underlying5 (hval 0 5 v0 rfl rfl) h0
  clear hA0 hval0
  refine (lawVLim a0 W (wf_u8 g0).1 (wf_u8 g0).2 (shp1 hL)).mono fun e W' ⟨he, bel⟩ => ?_
  subst he
  exact ⟨_, rfl, _, _, _, [], _, [], hW', trodAll_mk1 (shut_bool Tryd.underlying4 _), (trodAll_cons_mk (Below.trod laidOut (by kernel_rfl) (of_decide_eq_true (by kernel_rfl)) k0 bel lt0) trodAll_mk0), rfl, bel.frame _, fun h => by cases h⟩

theorem said : Rows.ValidateLimitsSaid :=
  OpenClaim.holds_of_cond 8 Tryd.f8 rfl rfl rfl rfl rfl rfl rfl ⟨rfl, rfl, rfl, rfl, rfl⟩ rfl rfl rfl rfl rfl (by kernel_rfl) Tryd.func8 (by kernel_rfl)
    (of_decide_eq_true (by kernel_rfl)) (by unfold Func.isWrapper; first | (rw [if_pos (by decide +kernel)]; kernel_rfl) | (rw [if_neg (by decide +kernel)]; exact ⟨rfl, rfl⟩))
    (fun os started H enc _ F => by rw [OpenClaim.pre_eq_preRow]; exact lifted os started H enc F)

theorem plain (f : FuncId) (fn : Func) (hf : Tryd.pinned.checked.prog.funcNamed "flowquery/flqlaw6.ValidateLimits" = some f) (hfn : Tryd.pinned.checked.prog.funcs[f]? = some fn) :
    false = Tryd.pinned.checked.prog.looks [] ∧ ∀ (j : Nat) t, fn.params[j]? = some t → Tryd.pinned.checked.prog.wantsStandIn t = false := by
  obtain rfl : f = 8 := Option.some.inj ((show Tryd.prog.funcNamed "flowquery/flqlaw6.ValidateLimits" = some 8 by kernel_rfl).symm.trans hf) |>.symm
  obtain rfl : fn = Tryd.f8 := (Option.some.inj (Tryd.func8.symm.trans hfn)).symm
  refine ⟨by kernel_rfl, fun j t ht => ?_⟩
  rw [Tryd.params8] at ht
  have hm : t ∈ [5] := by simpa using Array.mem_of_getElem? ht
  have hall : ([5].all fun u => !Tryd.prog.wantsStandIn u) = true := by kernel_rfl
  exact (show Tryd.prog.wantsStandIn t = false by simpa using List.all_eq_true.1 hall t hm)

theorem proved : Rows.ValidateLimitsCardSaid :=
  Claim7.holds_tied_plain_at .later [] _ _ _ _ said (fun _ h => by cases h) (by kernel_rfl) (fun _ h => by cases h) validateLimits_row_tie rfl ⟨rfl, rfl⟩ (by kernel_rfl) rfl plain (by kernel_rfl)
#print axioms proved
end Go.Proofs.YtlepcgncphikhaaDoor.validateLimits
