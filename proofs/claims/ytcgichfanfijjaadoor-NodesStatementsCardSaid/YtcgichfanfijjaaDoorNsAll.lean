/- For every list of choices: the statements of the nodes of a program made of them are those of the program in their order, those of calls twice, and the sanity check holds: NodesStatements returns true and leaves its argument as it was. The rows' listed variables hold what the program's text lays; the card ties them to it. No other condition. -/
import Derived.Test.YtcgichfanfijjaaDoorNsAlla
import Derived.Deep.RegionHeld3
import Derived.Deep.DeepCutAuto
import Derived.Test.YtcgichfanfijjaaDoorLns
import Derived.Test.YtcgichfanfijjaaDoorVld
import Derived.Test.YtcgichfanfijjaaDoorPg2
import Derived.Deep.RegionLaw
import Derived.Deep.DrawnRows
import Derived.Lib.SliceRun
import Derived.RegionTactic
import Derived.BigRegion
import Derived.Test.YtcgichfanfijjaaDoorSup
import Derived.Lib.SmallJoins
import Derived.ShutString
import Derived.ChangeOld
import Derived.Test.YtcgichfanfijjaaDoorTie
import Derived.Test.YtcgichfanfijjaaDoorCards
import Derived.Test.YtcgichfanfijjaaDoorDp1
import Derived.Deep.DeepHandedRow
import Derived.Deep.DeepWitnessRowRef
import Derived.LaidMore
import Derived.Lib.LaidTab
namespace Go.Proofs.YtcgichfanfijjaaDoor
set_option maxRecDepth 100000
set_option linter.unusedVariables false
set_option linter.unusedSimpArgs false
open Go.ChangeShapes Go.WideShapes Go.ChangeAt Go.RowKit

def s7T : ByteArray := ⟨#[102, 117, 110, 99, 32, 109, 59, 32, 98, 108, 111, 99, 107, 32, 98, 59, 32, 120, 32, 61, 32, 121, 59, 32, 99, 97, 108, 108, 32, 109, 59, 32, 114, 101, 116, 117, 114, 110, 59, 32, 101, 110, 100]⟩
def s7P : List Fnc := [⟨⟨#[109]⟩, [⟨⟨#[98]⟩, [⟨1, ⟨#[120]⟩, [⟨#[121]⟩], []⟩, ⟨3, noB, [], [⟨#[109]⟩]⟩, ⟨9, noB, [], []⟩]⟩]⟩]
def s7L : List Nd := [⟨1, 0, -1, -1⟩, ⟨3, 0, 0, 0⟩, ⟨3, 0, 0, 1⟩, ⟨4, 0, 0, 1⟩, ⟨3, 0, 0, 2⟩, ⟨2, 0, -1, -1⟩]
def s7W : List ByteArray := [⟨#[109, 46, 101, 110, 116, 114, 121]⟩, ⟨#[109, 46, 98, 46, 48]⟩, ⟨#[109, 46, 98, 46, 49]⟩, ⟨#[109, 46, 98, 46, 49, 43]⟩, ⟨#[109, 46, 98, 46, 50]⟩, ⟨#[109, 46, 101, 120, 105, 116]⟩]
theorem s7_parse : parseS s7T = (s7P, 0, 0, 0) := by kernel_rfl
theorem s7_list : listN s7P = s7L := by kernel_rfl
theorem s7_miss : findI s7L ⟨3, 3, 0, 0⟩ = -1 := by kernel_rfl
def RetPg (p : List Fnc) (w : World) (e : Ending) (w' : World) : Prop := ∃ x : PH, e = .returned (.agg #[.slice x.A x.n x.c]) ∧ x.p = p ∧ PHok w' [] x ∧ Below w.heap.size w w'
set_option maxHeartbeats 1600000 in
theorem program7_any (w : World) : Calls Tryd.prog 51 #[] w (RetPg s7P w) := by
  have hs : s7T.size ≤ maxLen := by have : s7T.size ≤ 100 := by decide
                                    unfold maxLen; omega
  have Hs := hid hs
  have hb0 := (Below.refl w.heap.size w).alloc (Nat.le_refl _) (.cells #[.slice none 0 0] 24)
  have HB0 := hid hb0
  have HG0 := hid (Fb.new w #[.slice none 0 0] 24)
  clear hs hb0
  go_enter Tryd.func51, Tryd.ntmps51
  go_wp2_with fail
  generalize w.alloc (.cells #[.slice none 0 0] 24) = w0 at HB0 HG0 ⊢
  have hw0 := HG0.out.lt
  refine (refParse_any s7T _ Hs.out).mono ?_
  rw [← parse_same, s7_parse]
  rintro e w1 ⟨x, rfl, hx, hp, hb⟩
  have ha := (Below.refl w1.heap.size w1).alloc (Nat.le_refl _) (.cells #[.slice x.A x.n x.c] 24)
  have hb2 := below_step hb ha
  have HX := hid (PHok.below (hp [some w.heap.size] (by intro k hk; simp at hk; subst hk; exact hw0)) ha)
  have Hx := hid hx
  have HB1 := hid (below_step HB0.out hb2)
  have HG1 := hid (HG0.out.below hb2 HG0.out.lt)
  have HM1 := hid (Fb.new w1 #[.slice x.A x.n x.c] 24)
  clear hx hb hb2 ha hp HB0 HG0 hw0
  have b0 := HM1.out.onec
  have g0 := HG1.out.onec
  have z0 := HG1.out.frozen 0
  have hl := HG1.out.lt
  have HF := hid (show RetPg s7P w (.returned (.agg #[.slice x.A x.n x.c])) ((w1.alloc (.cells #[.slice x.A x.n x.c] 24)).setCell ⟨w.heap.size, 0, none⟩ (.slice x.A x.n x.c)) from
    ⟨x, rfl, Hx.out, (HX.out.go (Go2.same (row := some w.heap.size) (setCell_grown _ ⟨w.heap.size, 0, none⟩ _) (.inr (by simp)))).go (Go2.less _ (by simp)), HB1.out.setCell (Nat.le_refl _) _⟩)
  simp only
  clear HX Hx HB1 HG1 HM1
  go_wp2_with fail
  refine bodyPost_ret (v := .agg #[.slice x.A x.n x.c]) (by simp [results, Tryd.results51, go_sem, g0, z0, hl]) rfl ?_
  exact HF.out
theorem lab7 (x : PH) (w : World) (hx : x.p = s7P) (h : PHok w [] x) (hs : Shp w) (i : Nat) (y : Nd) (hy : s7L[i]? = some y) :
    Calls Tryd.prog 18 #[.agg #[.slice x.A x.n x.c], .agg #[.int .i64 y.kd, .int .i64 y.fn, .int .i64 y.bk, .int .i64 y.st]] w (RetTx w (s7W.getD i ByteArray.empty)) := by
  have hL : listN x.p = s7L := by rw [hx]; exact s7_list
  have hi : i < 6 := (List.getElem?_eq_some_iff.1 hy).1
  have h0 : x.p[0]? = some ⟨⟨#[109]⟩, [⟨⟨#[98]⟩, [⟨1, ⟨#[120]⟩, [⟨#[121]⟩], []⟩, ⟨3, noB, [], [⟨#[109]⟩]⟩, ⟨9, noB, [], []⟩]⟩]⟩ := by rw [hx]; rfl
  rcases (show i = 0 ∨ i = 1 ∨ i = 2 ∨ i = 3 ∨ i = 4 ∨ i = 5 by omega) with rfl | rfl | rfl | rfl | rfl | rfl <;> (injection hy with hy; subst hy)
  · exact label_entry x 0 (-1) (-1) _ [] w h hs h0 0 (by rw [hL]; kernel_rfl)
  · exact label_stmt x 0 0 0 _ _ [] w h hs h0 rfl (by omega) 1 (by rw [hL]; kernel_rfl)
  · exact label_stmt x 0 0 1 _ _ [] w h hs h0 rfl (by omega) 2 (by rw [hL]; kernel_rfl)
  · exact label_retn x 0 0 1 _ _ [] w h hs h0 rfl (by omega) 3 (by rw [hL]; kernel_rfl)
  · exact label_stmt x 0 0 2 _ _ [] w h hs h0 rfl (by omega) 4 (by rw [hL]; kernel_rfl)
  · exact label_exit x 0 (-1) (-1) _ [] w h hs h0 5 (by rw [hL]; kernel_rfl)
set_option maxHeartbeats 6400000 in
theorem sane7_any (w : World) (hsh : Shp w) : Calls Tryd.prog 19 #[] w fun e w' => e = .returned (.bool true) ∧ Below w.heap.size w w' := by
  have HS := hid hsh
  clear hsh
  go_enter Tryd.func19, Tryd.ntmps19
  go_wp2_with fail
  refine (program7_any _).mono ?_
  rintro e w1 ⟨x, rfl, hx, hok, hb1⟩
  have HS1 := hid (HS.out.keep (hb1.block 0 HS.out.pos0))
  have HX := hid hok
  have HB1 := hid hb1
  have hLl := hid (show listN x.p = s7L by rw [hx]; exact s7_list)
  clear hx hok hb1
  go_wp2_with fail
  refine (list_any x [] _ HX.out HS1.out).mono ?_
  rw [hLl.out]
  rintro e w2 ⟨A, c, rfl, hE, -, hb2⟩
  have ha := (Below.refl w2.heap.size w2).alloc (Nat.le_refl _) (.cells #[.string ⟨#[109, 46, 101, 110, 116, 114, 121]⟩, .string ⟨#[109, 46, 98, 46, 48]⟩, .string ⟨#[109, 46, 98, 46, 49]⟩, .string ⟨#[109, 46, 98, 46, 49, 43]⟩, .string ⟨#[109, 46, 98, 46, 50]⟩, .string ⟨#[109, 46, 101, 120, 105, 116]⟩] 9)
  have hb3 := below_step hb2 ha
  have HE := hid ((hE [] (by simp)).go (Go2.below ha))
  have HW := hid (show Fb (w2.alloc (.cells #[.string ⟨#[109, 46, 101, 110, 116, 114, 121]⟩, .string ⟨#[109, 46, 98, 46, 48]⟩, .string ⟨#[109, 46, 98, 46, 49]⟩, .string ⟨#[109, 46, 98, 46, 49, 43]⟩, .string ⟨#[109, 46, 98, 46, 50]⟩, .string ⟨#[109, 46, 101, 120, 105, 116]⟩] 9)) w2.heap.size #[.string ⟨#[109, 46, 101, 110, 116, 114, 121]⟩, .string ⟨#[109, 46, 98, 46, 48]⟩, .string ⟨#[109, 46, 98, 46, 49]⟩, .string ⟨#[109, 46, 98, 46, 49, 43]⟩, .string ⟨#[109, 46, 98, 46, 50]⟩, .string ⟨#[109, 46, 101, 120, 105, 116]⟩] 9 from Fb.new w2 _ _)
  have HB3 := hid (below_step HB1.out hb3)
  have HS3 := hid (HS1.out.keep (hb3.block 0 HS1.out.pos0))
  have hLn : s7L.length = 6 := rfl
  clear hE ha hb2 hb3 HB1 HS1 HX hLl
  rw [hLn]
  go_wp2_with fail
  generalize hG : w2.heap.size = G at HW ⊢
  clear hG
  generalize w2.alloc (.cells #[.string ⟨#[109, 46, 101, 110, 116, 114, 121]⟩, .string ⟨#[109, 46, 98, 46, 48]⟩, .string ⟨#[109, 46, 98, 46, 49]⟩, .string ⟨#[109, 46, 98, 46, 49, 43]⟩, .string ⟨#[109, 46, 98, 46, 50]⟩, .string ⟨#[109, 46, 101, 120, 105, 116]⟩] 9) = w3 at HE HW HB3 HS3 ⊢
  go_loopw [3] (fun iv wr => ∃ k : Nat, k ≤ 6 ∧ iv = .int .i64 k ∧ Hid (Below w.heap.size w wr) ∧ Hid (Shp wr) ∧ Hid (EAt wr [] A (s7L.flatMap ndc)) ∧ Hid (Fb wr G #[.string ⟨#[109, 46, 101, 110, 116, 114, 121]⟩, .string ⟨#[109, 46, 98, 46, 48]⟩, .string ⟨#[109, 46, 98, 46, 49]⟩, .string ⟨#[109, 46, 98, 46, 49, 43]⟩, .string ⟨#[109, 46, 98, 46, 50]⟩, .string ⟨#[109, 46, 101, 120, 105, 116]⟩] 9)) (fun iv _ => 6 - (intOf iv).toNat)
  case atStart => exact ⟨0, by omega, rfl, HB3.out, HS3.out, HE.out, HW.out⟩
  case round =>
    clear HB3 HS3 HE HW
    obtain ⟨k, hk, rfl, hB, hS, hE, hW⟩ := hrel
    by_cases hlt : k < 6
    · obtain ⟨y, hy, hym⟩ := get_at hLn hlt
      obtain ⟨ad, hA, had, hc1, hc2, hc3, hc4⟩ := Nd.cells hE.out hy
      subst hA
      have hg1 : wr.cell? ⟨G, k, none⟩ = some (.string (s7W.getD k ByteArray.empty)) := by
        rw [hW.out.cell k]
        rcases (show k = 0 ∨ k = 1 ∨ k = 2 ∨ k = 3 ∨ k = 4 ∨ k = 5 by omega) with rfl | rfl | rfl | rfl | rfl | rfl <;> rfl
      have hGl := hW.out.lt
      have hadl : (ad.add (k * 4)).block < wr.heap.size := by rw [add_block]; exact had
      have Hlab := hid (fun (x : PH) (v : World) (h1 : x.p = s7P) (h2 : PHok v [] x) (h3 : Shp v) => lab7 x v h1 h2 h3 k y hy)
      generalize s7W.getD k ByteArray.empty = sw at *
      have HK : Hid (∀ w' : World, Below wr.heap.size wr w' → Below wr.heap.size wr w' ∧ (w'.cell? (ad.add (k * 4)) = some (.int .i64 y.kd) ∧ w'.cell? ⟨(ad.add (k * 4)).block, (ad.add (k * 4)).off + 1, none⟩ = some (.int .i64 y.fn) ∧ w'.cell? ⟨(ad.add (k * 4)).block, (ad.add (k * 4)).off + 2, none⟩ = some (.int .i64 y.bk) ∧ w'.cell? ⟨(ad.add (k * 4)).block, (ad.add (k * 4)).off + 3, none⟩ = some (.int .i64 y.st)) ∧ w'.cell? ⟨G, k, none⟩ = some (.string sw)) :=
        hid fun w' h => ⟨h, ⟨(h.cell hadl).trans hc1, (h.cell (p := ⟨(ad.add (k * 4)).block, (ad.add (k * 4)).off + 1, none⟩) hadl).trans hc2, (h.cell (p := ⟨(ad.add (k * 4)).block, (ad.add (k * 4)).off + 2, none⟩) hadl).trans hc3, (h.cell (p := ⟨(ad.add (k * 4)).block, (ad.add (k * 4)).off + 3, none⟩) hadl).trans hc4⟩, (h.cell (p := ⟨G, k, none⟩) hGl).trans hg1⟩
      have HSf := hid (fun (v : World) (h : Below wr.heap.size wr v) => hS.out.keep (h.block 0 hS.out.pos0))
      obtain ⟨yk, yf, yb, ys⟩ := y
      simp only at *
      clear hy hym
      go_upto_region 8 with fail
      go_cut [28] (fun v wc => v = .bool false ∧ Hid (Below wr.heap.size wr wc))
      case first =>
        go_region_held3 (fun w' => Below wr.heap.size wr w' ∧ (w'.cell? (ad.add (k * 4)) = some (.int .i64 yk) ∧ w'.cell? ⟨(ad.add (k * 4)).block, (ad.add (k * 4)).off + 1, none⟩ = some (.int .i64 yf) ∧ w'.cell? ⟨(ad.add (k * 4)).block, (ad.add (k * 4)).off + 2, none⟩ = some (.int .i64 yb) ∧ w'.cell? ⟨(ad.add (k * 4)).block, (ad.add (k * 4)).off + 3, none⟩ = some (.int .i64 ys)) ∧ w'.cell? ⟨G, k, none⟩ = some (.string sw))
          (first | (with_reducible exact HK.out _ (Below.refl _ _).drew) | assumption)
          (first
            | (go_at_call 51
               go_must (
               go_split_ands
               refine (program7_any _).mono ?_
               rintro e wn ⟨x, rfl, hx, hok, hbk⟩
               have hcur := below_step (W := wr) (by assumption) hbk
               have hS := HK.out _ hcur
               have Hcur := hid hcur
               have HX := hid hx
               have HOK := hid hok
               clear hx hok hbk))
            | (go_at_call 18
               go_must (
               go_split_ands
               refine (Hlab.out _ _ HX.out HOK.out (HSf.out _ (by assumption))).mono ?_
               rintro e wm ⟨rfl, hbk⟩
               have hcur := below_step (W := wr) (by assumption) hbk
               have hS := HK.out _ hcur
               have Hcur2 := hid hcur
               clear hbk)))
        all_goals go_wp2_with fail
        all_goals go_meet
        all_goals exact ⟨rfl, Hcur2⟩
      case rest =>
        obtain ⟨rfl, HC⟩ := hcut
        go_wp2_with fail
        go_roundw
        case rel =>
          exact ⟨k + 1, by omega, by first | rfl | push_cast; rfl | (congr 1; omega), hid (below_step hB.out HC.out), hid (hS.out.keep (HC.out.block 0 hS.out.pos0)), hid (hE.out.go (Go2.below HC.out)), hid (hW.out.below HC.out hW.out.lt)⟩
        case measure => simp [intOf]; omega
    · have hk6 : k = 6 := by omega
      subst hk6
      have HB := hid hB.out
      have HS4 := hid hS.out
      clear hB hS hE hW
      go_wp2_with fail
      refine (program7_any _).mono ?_
      rintro e w4 ⟨x4, rfl, hx4, hok4, hb4⟩
      have HB4 := hid (below_step HB.out hb4)
      have HS5 := hid (HS4.out.keep (hb4.block 0 HS4.out.pos0))
      have HX4 := hid hok4
      have hF : findI (listN x4.p) ⟨3, 3, 0, 0⟩ = -1 := by rw [hx4, s7_list]; exact s7_miss
      have HF := hid hF
      clear hx4 hok4 hb4 hF HB HS4
      go_wp2_with fail
      refine (find_any x4 ⟨3, 3, 0, 0⟩ [] _ HX4.out HS5.out).mono ?_
      rw [HF.out]
      rintro e w5 ⟨rfl, hb5⟩
      have HB5 := hid (below_step HB4.out hb5)
      clear hb5 HX4 HS5 HB4 HF
      go_wp2_with fail
      refine bodyPost_ret (v := .bool true) (by simp [results, Tryd.results19, go_sem]) rfl ?_
      exact ⟨rfl, HB5.out⟩
end Go.Proofs.YtcgichfanfijjaaDoor

namespace Go.Proofs.YtcgichfanfijjaaDoor
set_option maxRecDepth 20000
set_option linter.unusedVariables false
open Go.ChangeShapes Go.WideShapes Go.ChangeAt Go.RowKit

def printL (L : List ByteArray) : ByteArray := L.foldl (fun s x => s ++ (x ++ ⟨#[10]⟩)) ⟨#[]⟩
def sepL (L : List ByteArray) (s : ByteArray) : ByteArray := L.foldl (fun s x => (s ++ ⟨#[59, 32]⟩) ++ x) s
def inlineL : List ByteArray → ByteArray
  | [] => ⟨#[]⟩
  | x :: L => sepL L (⟨#[]⟩ ++ x)
/-- P5.3: the texts. -/
def printP (p : List Fnc) : ByteArray := if prgB p then printL (linesP p) else ⟨#[]⟩
def inlineP (p : List Fnc) : ByteArray := if prgB p then inlineL (linesP p) else ⟨#[]⟩
theorem get_snoc {α : Type} (l : List α) {k : Nat} {x : α} (hx : l[k]? = some x) : l.take (k + 1) = l.take k ++ [x] := by
  rw [List.take_add_one, hx]; rfl
theorem printL_snoc (L : List ByteArray) (x : ByteArray) : printL (L ++ [x]) = printL L ++ (x ++ ⟨#[10]⟩) := by unfold printL; rw [List.foldl_append]; rfl
theorem printL_size (L : List ByteArray) (h : ∀ x ∈ L, x.size ≤ 100000) : (printL L).size ≤ L.length * 100001 := by
  suffices H : ∀ (L : List ByteArray) (s : ByteArray), (∀ x ∈ L, x.size ≤ 100000) → (L.foldl (fun s x => s ++ (x ++ ⟨#[10]⟩)) s).size ≤ s.size + L.length * 100001 by
    have := H L ⟨#[]⟩ h
    have e : (⟨#[]⟩ : ByteArray).size = 0 := rfl
    unfold printL; omega
  intro L
  induction L with
  | nil => intro s _; simp
  | cons x L ih =>
    intro s h
    have h1 := ih (s ++ (x ++ ⟨#[10]⟩)) fun y hy => h y (by simp [hy])
    have h2 := h x (by simp)
    rw [List.foldl_cons, List.length_cons, Nat.succ_mul]
    have e : (s ++ (x ++ (⟨#[10]⟩ : ByteArray))).size = s.size + (x.size + 1) := by rw [ByteArray.size_append, ByteArray.size_append]; rfl
    omega
theorem inlineL_one (x : ByteArray) : inlineL [x] = ⟨#[]⟩ ++ x := rfl
theorem inlineL_snoc (L : List ByteArray) (x : ByteArray) (h : 0 < L.length) : inlineL (L ++ [x]) = (inlineL L ++ ⟨#[59, 32]⟩) ++ x := by
  cases L with
  | nil => simp at h
  | cons y L => show sepL (L ++ [x]) _ = _; unfold sepL; rw [List.foldl_append]; rfl
theorem inlineL_size (L : List ByteArray) (h : ∀ x ∈ L, x.size ≤ 100000) : (inlineL L).size ≤ L.length * 100002 := by
  have H : ∀ (L : List ByteArray) (s : ByteArray), (∀ x ∈ L, x.size ≤ 100000) → (sepL L s).size ≤ s.size + L.length * 100002 := by
    intro L
    induction L with
    | nil => intro s _; simp [sepL]
    | cons x L ih =>
      intro s h
      have h1 := ih ((s ++ ⟨#[59, 32]⟩) ++ x) fun y hy => h y (by simp [hy])
      have h2 := h x (by simp)
      have e0 : sepL (x :: L) s = sepL L ((s ++ ⟨#[59, 32]⟩) ++ x) := rfl
      rw [e0, List.length_cons, Nat.succ_mul]
      have e : ((s ++ (⟨#[59, 32]⟩ : ByteArray)) ++ x).size = s.size + 2 + x.size := by rw [ByteArray.size_append, ByteArray.size_append]; rfl
      omega
  cases L with
  | nil => simp [inlineL]; rfl
  | cons x L =>
    have h1 := H L (⟨#[]⟩ ++ x) fun y hy => h y (by simp [hy])
    have h2 := h x (by simp)
    have e : ((⟨#[]⟩ : ByteArray) ++ x).size = x.size := by rw [ByteArray.size_append]; show 0 + x.size = _; omega
    show (sepL L (⟨#[]⟩ ++ x)).size ≤ _
    rw [List.length_cons, Nat.succ_mul]; omega
theorem linesP_len {w : World} {ex : List (Option Nat)} {x : PH} (h : PHok w ex x) : (linesP x.p).length ≤ 65680 := by
  have h1 := fncL_len x.l h.all
  have h2 := h.len; have h3 := h.few
  have e : linesP x.p = x.l.flatMap fun y => fncL y.f := by unfold linesP PH.p; rw [List.flatMap_map]
  rw [e]
  have : x.l.length * 1642 ≤ 40 * 1642 := Nat.mul_le_mul_right _ (by omega)
  omega

end Go.Proofs.YtcgichfanfijjaaDoor

namespace Go.Proofs.YtcgichfanfijjaaDoor
set_option maxRecDepth 20000
set_option linter.unusedVariables false
set_option linter.unusedSimpArgs false
open Go.ChangeShapes Go.WideShapes Go.ChangeAt Go.RowKit

theorem vars_name : ∀ x ∈ varsL, nameB x = true := by
  intro x hx
  rw [nameD_eq]
  revert x
  decide +kernel
theorem fns_name : ∀ x ∈ fnsL, nameB x = true := by
  intro x hx
  rw [nameD_eq]
  revert x
  decide +kernel
theorem bls_name : ∀ x ∈ blsL, nameB x = true := by
  intro x hx
  rw [nameD_eq]
  revert x
  decide +kernel
theorem f2_name {i : Nat} (h : i < 3) : nameB (f2 i) = true := bls_name _ (List.mem_of_getElem? (f2_get h))
theorem namesB_of {l : List ByteArray} {b : Int} (h : ∀ x ∈ l, nameB x = true) (hb : (l.length : Int) ≤ b) : namesB l 0 b = true := by
  unfold namesB
  rw [List.all_eq_true.2 h]
  simp
  exact hb
theorem genS_ok {k : Nat} {t : Stm} (hk : k ≤ 3) (h : genS k t) : stmB t = true := by
  obtain ⟨op, d, us, ts⟩ := t
  unfold genS at h
  simp only at h
  rcases h with ⟨rfl, rfl, ⟨h1, h2, h3⟩, rfl⟩ | ⟨h0, hd, rfl, rfl⟩ | ⟨rfl, rfl, ⟨x, hx, rfl⟩, rfl⟩ | ⟨rfl, rfl, rfl, i, x, hi, hx, rfl⟩ | ⟨rfl, hd, ⟨h1, h2⟩, rfl⟩
  · unfold stmB
    rw [namesB_of (fun x hx => vars_name x (h3 x hx)) (by show (us.length : Int) ≤ 4; omega), namesB_of (l := []) (by simp) (by simp)]
    simp [okP]
    omega
  · unfold stmB
    rw [namesB_of (l := []) (by simp) (by simp), namesB_of (l := []) (by simp) (by simp)]
    rcases h0 with rfl | rfl <;> simp [okP, vars_name d hd]
  · unfold stmB
    rw [namesB_of (l := [x]) (by intro y hy; simp at hy; subst hy; exact vars_name y hx) (by simp), namesB_of (l := []) (by simp) (by simp)]
    simp [okP]
  · unfold stmB
    rw [namesB_of (l := []) (by simp) (by simp), namesB_of (l := [x]) (by intro y hy; simp at hy; subst hy; exact fns_name y (List.mem_of_getElem? hx)) (by simp)]
    simp [okP]
  · unfold stmB
    rw [namesB_of (fun x hx => vars_name x (h2 x hx)) (by show (us.length : Int) ≤ 4; omega), namesB_of (l := []) (by simp) (by simp)]
    simp [okP, vars_name d hd]
theorem termS_ok {n : Nat} {t : Stm} (hn : n ≤ 3) (h : termS n t) : stmB t = true := by
  obtain ⟨op, d, us, ts⟩ := t
  unfold termS at h
  simp only at h
  rcases h with ⟨rfl, rfl, rfl, rfl⟩ | ⟨rfl, rfl, rfl, i, hi, rfl⟩ | ⟨rfl, rfl, ⟨x, hx, rfl⟩, i, j, hi, hj, rfl⟩
  · unfold stmB
    rw [namesB_of (l := []) (by simp) (by simp), namesB_of (l := []) (by simp) (by simp)]
    simp [okP]
  · unfold stmB
    rw [namesB_of (l := []) (by simp) (by simp), namesB_of (l := [f2 i]) (by intro y hy; simp at hy; subst hy; exact f2_name (by omega)) (by simp)]
    simp [okP]
  · unfold stmB
    rw [namesB_of (l := [x]) (by intro y hy; simp at hy; subst hy; exact vars_name y hx) (by simp), namesB_of (l := [f2 i, f2 j]) (by intro y hy; simp at hy; rcases hy with rfl | rfl <;> exact f2_name (by omega)) (by simp)]
    simp [okP]
theorem genB_ok {N M : Nat} {b : Blk} {j : Nat} (hN : N ≤ 3) (hM : M ≤ 3) (hnm : blsL[j]? = some b.name) (h : genB N M b) : blkB b = true := by
  obtain ⟨body, t, hb, hl, h1, h2⟩ := h
  unfold blkB
  rw [hb, bls_name _ (List.mem_of_getElem? hnm), List.all_append, List.all_eq_true.2 fun x hx => genS_ok hN (h1 x hx)]
  simp [termS_ok hM h2]
  omega
theorem genF_ok {N : Nat} {f : FH} {i : Nat} (hN : N ≤ 3) (hnm : fnsL[i]? = some f.name) (h : genF N f) : fncB f.f = true := by
  obtain ⟨h1, h2, h3⟩ := h
  unfold fncB
  have hall : f.f.bs.all blkB = true := by
    rw [List.all_eq_true]
    intro b hb
    obtain ⟨y, hy, rfl⟩ := List.mem_map.1 hb
    obtain ⟨j, hj, he⟩ := List.getElem_of_mem hy
    obtain ⟨g1, g2⟩ := h3 j y (by rw [List.getElem?_eq_getElem hj, he])
    exact genB_ok hN h2 g1 g2
  have hlen : f.f.bs.length = f.l.length := by simp [FH.f]
  rw [hall, hlen, show f.f.name = f.name from rfl, fns_name _ (List.mem_of_getElem? hnm)]
  simp
  omega
theorem genP_ok {ls : List FH} (h : genP ls) : prgB (ls.map FH.f) = true := by
  obtain ⟨h1, h2, h3⟩ := h
  unfold prgB
  have hall : (ls.map FH.f).all fncB = true := by
    rw [List.all_eq_true]
    intro b hb
    obtain ⟨y, hy, rfl⟩ := List.mem_map.1 hb
    obtain ⟨j, hj, he⟩ := List.getElem_of_mem hy
    obtain ⟨g1, g2⟩ := h3 j y (by rw [List.getElem?_eq_getElem hj, he])
    exact genF_ok h2 g1 g2
  rw [hall]
  simp
  omega

/-! ### Sizes -/
theorem vars_len {l : List ByteArray} {k : Nat} (hl : l.length ≤ k) (h : ∀ x ∈ l, x.size ≤ 1) : (wordsP l).size ≤ k * 2 := by
  have h1 := wordsP_size l l.length 1 (Nat.le_refl _) h
  rw [List.take_length] at h1
  have : l.length * (1 + 1) ≤ k * 2 := Nat.mul_le_mul_right _ hl
  omega
theorem line_20 {t : Stm} (hd : t.d.size ≤ 1) (hu : t.us.length ≤ 3) (hus : ∀ x ∈ t.us, x.size ≤ 1) (ht : t.ts.length ≤ 2) (hts : ∀ x ∈ t.ts, x.size ≤ 1) : (lineP t).size ≤ 20 := by
  have h1 := vars_len hu hus
  have h2 := vars_len ht hts
  unfold lineP
  repeat' split
  all_goals (try simp only [ByteArray.size_append])
  · show t.d.size + 2 + _ ≤ _; omega
  · show 3 + _ ≤ _; omega
  · show 4 + _ ≤ _; omega
  · show 7 + _ ≤ _; omega
  · show 4 + _ ≤ _; omega
  · show 9 + _ ≤ _; omega
  · show 4 + _ ≤ _; omega
  · show 6 + _ + _ ≤ _; omega
  · show 6 ≤ _; omega
theorem genS_20 {k : Nat} {t : Stm} (hk : k ≤ 3) (h : genS k t) : (lineP t).size ≤ 20 := by
  obtain ⟨op, d, us, ts⟩ := t
  unfold genS at h
  simp only at h
  rcases h with ⟨rfl, rfl, ⟨h1, h2, h3⟩, rfl⟩ | ⟨h0, hd, rfl, rfl⟩ | ⟨rfl, rfl, ⟨x, hx, rfl⟩, rfl⟩ | ⟨rfl, rfl, rfl, i, x, hi, hx, rfl⟩ | ⟨rfl, hd, ⟨h1, h2⟩, rfl⟩
  · exact line_20 (Nat.zero_le _) (by show us.length ≤ 3; omega) (fun x hx => varsL_small x (h3 x hx)) (by simp) (by simp)
  · exact line_20 (varsL_small d hd) (by simp) (by simp) (by simp) (by simp)
  · exact line_20 (Nat.zero_le _) (by simp) (by intro y hy; simp at hy; subst hy; exact varsL_small y hx) (by simp) (by simp)
  · exact line_20 (Nat.zero_le _) (by simp) (by simp) (by simp) (by intro y hy; simp at hy; subst hy; exact fnsL_small y (List.mem_of_getElem? hx))
  · exact line_20 (varsL_small d hd) (by show us.length ≤ 3; omega) (fun x hx => varsL_small x (h2 x hx)) (by simp) (by simp)
theorem termS_20 {n : Nat} {t : Stm} (h : termS n t) : (lineP t).size ≤ 20 := by
  obtain ⟨op, d, us, ts⟩ := t
  unfold termS at h
  simp only at h
  rcases h with ⟨rfl, rfl, rfl, rfl⟩ | ⟨rfl, rfl, rfl, i, hi, rfl⟩ | ⟨rfl, rfl, ⟨x, hx, rfl⟩, i, j, hi, hj, rfl⟩
  · exact line_20 (Nat.zero_le _) (by simp) (by simp) (by simp) (by simp)
  · exact line_20 (Nat.zero_le _) (by simp) (by simp) (by simp) (by intro y hy; simp at hy; subst hy; exact f2_small _)
  · exact line_20 (Nat.zero_le _) (by simp) (by intro y hy; simp at hy; subst hy; exact varsL_small y hx) (by simp) (by intro y hy; simp at hy; rcases hy with rfl | rfl <;> exact f2_small _)
theorem genB_20 {N M : Nat} {b : Blk} {j : Nat} (hN : N ≤ 3) (hnm : blsL[j]? = some b.name) (h : genB N M b) : (blkL b).length ≤ 5 ∧ ∀ x ∈ blkL b, x.size ≤ 20 := by
  obtain ⟨body, t, hb, hl, h1, h2⟩ := h
  unfold blkL
  rw [hb]
  refine ⟨by simp; omega, fun x hx => ?_⟩
  simp only [List.mem_cons, List.map_append, List.mem_append, List.mem_map, List.map_cons, List.map_nil, List.not_mem_nil, or_false] at hx
  rcases hx with rfl | ⟨y, hy, rfl⟩ | rfl
  · have := blsL_small _ (List.mem_of_getElem? hnm)
    rw [ByteArray.size_append]; show 6 + _ ≤ _; omega
  · exact genS_20 hN (h1 y hy)
  · exact termS_20 h2
theorem flat_20 {α : Type} (f : α → List ByteArray) (l : List α) (k m : Nat) (hl : l.length ≤ k) (h : ∀ x ∈ l, (f x).length ≤ m ∧ ∀ y ∈ f x, y.size ≤ 20) : (l.flatMap f).length ≤ k * m ∧ ∀ y ∈ l.flatMap f, y.size ≤ 20 := by
  refine ⟨?_, fun y hy => by obtain ⟨x, hx, hy⟩ := List.mem_flatMap.1 hy; exact (h x hx).2 y hy⟩
  have : (l.flatMap f).length ≤ l.length * m := by
    induction l with
    | nil => simp
    | cons x l ih =>
      have h1 := ih (by simp at hl; omega) fun z hz => h z (by simp [hz])
      have h2 := (h x (by simp)).1
      rw [List.flatMap_cons, List.length_append, List.length_cons, Nat.succ_mul]; omega
  exact Nat.le_trans this (Nat.mul_le_mul_right _ hl)
theorem genF_20 {N : Nat} {f : FH} {i : Nat} (hN : N ≤ 3) (hnm : fnsL[i]? = some f.name) (h : genF N f) : (fncL f.f).length ≤ 17 ∧ ∀ x ∈ fncL f.f, x.size ≤ 20 := by
  obtain ⟨h1, h2, h3⟩ := h
  have hb := flat_20 blkL f.f.bs 3 5 (by simpa [FH.f] using h2) (fun b hb => by
    obtain ⟨y, hy, rfl⟩ := List.mem_map.1 hb
    obtain ⟨j, hj, he⟩ := List.getElem_of_mem hy
    obtain ⟨g1, g2⟩ := h3 j y (by rw [List.getElem?_eq_getElem hj, he])
    exact genB_20 hN g1 g2)
  unfold fncL
  refine ⟨by simp only [List.length_cons, List.length_append, List.length_nil]; omega, fun x hx => ?_⟩
  simp only [List.mem_cons, List.mem_append, List.not_mem_nil, or_false] at hx
  rcases hx with rfl | hx | rfl
  · have := fnsL_small _ (List.mem_of_getElem? hnm)
    rw [ByteArray.size_append]; show 5 + f.name.size ≤ _; omega
  · exact hb.2 x hx
  · decide
theorem genP_20 {ls : List FH} (h : genP ls) : (linesP (ls.map FH.f)).length ≤ 51 ∧ ∀ x ∈ linesP (ls.map FH.f), x.size ≤ 20 := by
  obtain ⟨h1, h2, h3⟩ := h
  exact flat_20 fncL (ls.map FH.f) 3 17 (by simpa using h2) (fun b hb => by
    obtain ⟨y, hy, rfl⟩ := List.mem_map.1 hb
    obtain ⟨j, hj, he⟩ := List.getElem_of_mem hy
    obtain ⟨g1, g2⟩ := h3 j y (by rw [List.getElem?_eq_getElem hj, he])
    exact genF_20 h2 g1 g2)
theorem lines_pos {ls : List FH} (h : genP ls) : ∃ x L, linesP (ls.map FH.f) = (funcW ++ x) :: L := by
  obtain ⟨h1, h2, h3⟩ := h
  cases ls with
  | nil => simp at h1
  | cons f ls => exact ⟨f.name, _, rfl⟩
theorem printL_20 (L : List ByteArray) (h : ∀ x ∈ L, x.size ≤ 100000) : (printL L).size ≤ L.length * 100001 := printL_size L h
/-- The texts are not empty, and not long. -/
theorem print_small {ls : List FH} (h : genP ls) : 0 < (printP (ls.map FH.f)).size ∧ (printP (ls.map FH.f)).size ≤ 100000 := by
  obtain ⟨x, L, he⟩ := lines_pos h
  have h2 := genP_20 h
  have H : ∀ (L : List ByteArray) (s : ByteArray), (∀ x ∈ L, x.size ≤ 20) → s.size ≤ (L.foldl (fun s x => s ++ (x ++ ⟨#[10]⟩)) s).size ∧ (L.foldl (fun s x => s ++ (x ++ ⟨#[10]⟩)) s).size ≤ s.size + L.length * 21 := by
    intro L
    induction L with
    | nil => intro s _; simp
    | cons x L ih =>
      intro s h
      have h1 := ih (s ++ (x ++ ⟨#[10]⟩)) fun y hy => h y (by simp [hy])
      have h2 := h x (by simp)
      rw [List.foldl_cons, List.length_cons, Nat.succ_mul]
      have e : (s ++ (x ++ (⟨#[10]⟩ : ByteArray))).size = s.size + (x.size + 1) := by rw [ByteArray.size_append, ByteArray.size_append]; rfl
      omega
  have hp : printP (ls.map FH.f) = printL (linesP (ls.map FH.f)) := by unfold printP; rw [genP_ok h]; rfl
  rw [hp]
  have h3 := H (linesP (ls.map FH.f)) ⟨#[]⟩ h2.2
  have e0 : (⟨#[]⟩ : ByteArray).size = 0 := rfl
  refine ⟨?_, by unfold printL; omega⟩
  rw [he]
  have h4 := (H L (⟨#[]⟩ ++ ((funcW ++ x) ++ ⟨#[10]⟩)) fun y hy => h2.2 y (by rw [he]; simp [hy])).1
  have e1 : ((⟨#[]⟩ : ByteArray) ++ ((funcW ++ x) ++ ⟨#[10]⟩)).size = 0 + (5 + x.size + 1) := by
    rw [ByteArray.size_append, ByteArray.size_append, ByteArray.size_append]; rfl
  show 0 < (List.foldl (fun s x => s ++ (x ++ ⟨#[10]⟩)) (⟨#[]⟩ ++ ((funcW ++ x) ++ ⟨#[10]⟩)) L).size
  omega
theorem inline_small {ls : List FH} (h : genP ls) : 0 < (inlineP (ls.map FH.f)).size ∧ (inlineP (ls.map FH.f)).size ≤ 100000 := by
  obtain ⟨x, L, he⟩ := lines_pos h
  have h2 := genP_20 h
  have H : ∀ (L : List ByteArray) (s : ByteArray), (∀ x ∈ L, x.size ≤ 20) → s.size ≤ (sepL L s).size ∧ (sepL L s).size ≤ s.size + L.length * 22 := by
    intro L
    induction L with
    | nil => intro s _; simp [sepL]
    | cons x L ih =>
      intro s h
      have h1 := ih ((s ++ ⟨#[59, 32]⟩) ++ x) fun y hy => h y (by simp [hy])
      have h2 := h x (by simp)
      have e0 : sepL (x :: L) s = sepL L ((s ++ ⟨#[59, 32]⟩) ++ x) := rfl
      rw [e0, List.length_cons, Nat.succ_mul]
      have e : ((s ++ (⟨#[59, 32]⟩ : ByteArray)) ++ x).size = s.size + 2 + x.size := by rw [ByteArray.size_append, ByteArray.size_append]; rfl
      omega
  have hp : inlineP (ls.map FH.f) = inlineL (linesP (ls.map FH.f)) := by unfold inlineP; rw [genP_ok h]; rfl
  have hl := h2.1
  rw [hp, he]
  rw [he, List.length_cons] at hl
  have hx : (funcW ++ x).size ≤ 20 := h2.2 _ (by rw [he]; simp)
  have h3 := H L (⟨#[]⟩ ++ (funcW ++ x)) fun y hy => h2.2 y (by rw [he]; simp [hy])
  have e1 : ((⟨#[]⟩ : ByteArray) ++ (funcW ++ x)).size = 0 + (funcW ++ x).size := by rw [ByteArray.size_append]; rfl
  have e2 : (funcW ++ x).size = 5 + x.size := by rw [ByteArray.size_append]; rfl
  show 0 < (sepL L (⟨#[]⟩ ++ (funcW ++ x))).size ∧ (sepL L (⟨#[]⟩ ++ (funcW ++ x))).size ≤ _
  omega
end Go.Proofs.YtcgichfanfijjaaDoor

namespace Go.Proofs.YtcgichfanfijjaaDoor
set_option maxRecDepth 20000
set_option linter.unusedVariables false
set_option linter.unusedSimpArgs false

theorem nodup_len {α : Type} : ∀ (V S : List α), V.Nodup → (∀ x ∈ V, x ∈ S) → V.length ≤ S.length := by
  intro V
  induction V with
  | nil => intro S _ _; simp
  | cons x V ih =>
    intro S hn hs
    obtain ⟨S1, S2, rfl⟩ := List.append_of_mem (hs x (List.mem_cons_self ..))
    have hn2 := List.nodup_cons.1 hn
    have := ih (S1 ++ S2) hn2.2 (fun y hy => by
      have h := hs y (List.mem_cons_of_mem _ hy)
      rcases List.mem_append.1 h with h | h
      · exact List.mem_append_left _ h
      · rcases List.mem_cons.1 h with rfl | h
        · exact absurd hy hn2.1
        · exact List.mem_append_right _ h)
    simp at this ⊢
    omega
theorem addV_ok {S V : List ByteArray} {x : ByteArray} (hV : V.Nodup ∧ ∀ y ∈ V, y ∈ S) (hx : x ∈ S) : (addV V x).Nodup ∧ ∀ y ∈ addV V x, y ∈ S := by
  unfold addV
  cases h : inB x V with
  | true => exact hV
  | false =>
    have hnx : x ∉ V := fun hm => by rw [inB_iff.2 hm] at h; cases h
    refine ⟨?_, fun y hy => ?_⟩
    · show (V ++ [x]).Nodup
      rw [List.nodup_append]
      exact ⟨hV.1, by simp, fun a ha b hb e => by simp at hb; subst hb; subst e; exact hnx ha⟩
    · rcases List.mem_append.1 (show y ∈ V ++ [x] from hy) with h | h
      · exact hV.2 y h
      · simp at h; subst h; exact hx
theorem foldV_ok {S : List ByteArray} : ∀ (l V : List ByteArray), (V.Nodup ∧ ∀ y ∈ V, y ∈ S) → (∀ x ∈ l, x ∈ S) → ((l.foldl addV V).Nodup ∧ ∀ y ∈ l.foldl addV V, y ∈ S) := by
  intro l
  induction l with
  | nil => intro V h _; exact h
  | cons x l ih => intro V h hl; exact ih _ (addV_ok h (hl x (List.mem_cons_self ..))) fun y hy => hl y (List.mem_cons_of_mem _ hy)
theorem none_all {α : Type} {f : Nat → Option α} {n : Nat} (h : ∀ k, k < n → f k = none) : (List.range n).findSome? f = none := by
  rw [List.findSome?_eq_none_iff]
  intro k hk
  exact h k (List.mem_range.1 hk)
theorem names_take {α : Type} {nm : α → ByteArray} {S : List ByteArray} {l : List α} (h : ∀ (j : Nat) (y : α), l[j]? = some y → S[j]? = some (nm y)) (hl : l.length ≤ S.length) : l.map nm = S.take l.length := by
  apply List.ext_getElem?
  intro j
  rw [List.getElem?_map, List.getElem?_take]
  by_cases hj : j < l.length
  · rw [if_pos hj, List.getElem?_eq_getElem hj]
    exact (h j _ (List.getElem?_eq_getElem hj)).symm
  · rw [if_neg hj, List.getElem?_eq_none (by omega)]; rfl
theorem dup_fns (n : Nat) : dupI (fnsL.take n) = -1 := by
  rcases (show n = 0 ∨ n = 1 ∨ n = 2 ∨ 3 ≤ n by omega) with rfl | rfl | rfl | h
  · rfl
  · decide +kernel
  · decide +kernel
  · rw [List.take_of_length_le (by exact h)]; decide +kernel
theorem dup_bls (n : Nat) : dupI (blsL.take n) = -1 := by
  rcases (show n = 0 ∨ n = 1 ∨ n = 2 ∨ 3 ≤ n by omega) with rfl | rfl | rfl | h
  · rfl
  · decide +kernel
  · decide +kernel
  · rw [List.take_of_length_le (by exact h)]; decide +kernel
theorem gen_stm {N M : Nat} {t : Stm} (h : genS N t) : stmtE (fnsL.take N) (blsL.take M) false t = 0 := by
  refine stmtE_0 (S := if t.op == 3 then fnsL.take N else blsL.take M) ?_ rfl ?_
  · rcases h with ⟨h, _⟩ | ⟨h | h, _⟩ | ⟨h, _⟩ | ⟨h, _⟩ | ⟨h, _⟩ <;> rw [h] <;> rfl
  · rcases h with ⟨_, _, _, h⟩ | ⟨_, _, _, h⟩ | ⟨_, _, _, h⟩ | ⟨h0, _, _, i, x, hi, hx, h⟩ | ⟨_, _, _, h⟩
    · rw [h]; rfl
    · rw [h]; rfl
    · rw [h]; rfl
    · rw [h, h0]
      have hm : x ∈ fnsL.take N := by
        have : (fnsL.take N)[i]? = some x := by rw [List.getElem?_take, if_pos hi]; exact hx
        exact List.mem_of_getElem? this
      simp [inB_iff.2 hm]
    · rw [h]; rfl
theorem f2_mem {i M : Nat} (hi : i < M) (hM : M ≤ 3) : f2 i ∈ blsL.take M := by
  have : (blsL.take M)[i]? = some (f2 i) := by
    rw [List.getElem?_take, if_pos hi]
    rcases (show i = 0 ∨ i = 1 ∨ i = 2 by omega) with rfl | rfl | rfl <;> rfl
  exact List.mem_of_getElem? this
theorem gen_term {N M : Nat} {t : Stm} (hM : M ≤ 3) (h : termS M t) : stmtE (fnsL.take N) (blsL.take M) true t = 0 := by
  refine stmtE_0 (S := blsL.take M) ?_ ?_ ?_
  · rcases h with ⟨h, _⟩ | ⟨h, _⟩ | ⟨h, _⟩ <;> rw [h] <;> rfl
  · rcases h with ⟨h, _⟩ | ⟨h, _⟩ | ⟨h, _⟩ <;> rw [h] <;> rfl
  · rcases h with ⟨_, _, _, h⟩ | ⟨_, _, _, i, hi, h⟩ | ⟨_, _, _, i, j, hi, hj, h⟩
    · rw [h]; rfl
    · rw [h]; simp [inB_iff.2 (f2_mem hi hM)]
    · rw [h]; simp [inB_iff.2 (f2_mem hi hM), inB_iff.2 (f2_mem hj hM)]
theorem gen_blk {N M : Nat} {b : Blk} {k : Nat} (hM : M ≤ 3) (h : genB N M b) : (List.range b.ss.length).findSome? (stAt (fnsL.take N) (blsL.take M) b.ss k) = none := by
  obtain ⟨body, t, hb, hl, hbody, ht⟩ := h
  refine none_all fun j hj => ?_
  rw [hb] at hj ⊢
  rcases Nat.lt_or_ge j body.length with h1 | h1
  · refine st_none (t := body[j]) (e := 0) (by rw [List.getElem?_append_left h1, List.getElem?_eq_getElem h1]) ?_ rfl
    rw [decide_eq_false (by simp; omega)]
    exact gen_stm (hbody _ (List.getElem_mem h1))
  · have e : j = body.length := by simp at hj; omega
    subst e
    refine st_none (t := t) (e := 0) (by simp) ?_ rfl
    rw [decide_eq_true (by simp)]
    exact gen_term hM ht
theorem gen_fnc {N : Nat} {f : FH} (h : genF N f) : blocksE (fnsL.take N) f.f.bs = (0, 0, 0) := by
  obtain ⟨h1, h2, h3⟩ := h
  have hnm : f.f.bs.map Blk.name = blsL.take f.l.length := by
    rw [show f.f.bs.map Blk.name = f.l.map fun y => y.name by simp [FH.f, BH.b]]
    exact names_take (fun j y hy => (h3 j y hy).1) h2
  refine blocks_end (k := f.f.bs.length) (by rw [hnm]; exact dup_bls _) ?_ rfl
  rw [hnm]
  refine none_all fun k hk => ?_
  have hk2 : k < f.l.length := by simpa [FH.f] using hk
  have hy : f.l[k]? = some f.l[k] := List.getElem?_eq_getElem hk2
  rw [blk_at (b := (f.l[k]).b) (by show (f.l.map BH.b)[k]? = _; rw [List.getElem?_map, hy]; rfl)]
  exact gen_blk h2 (h3 k _ hy).2
theorem gen_funcs {ls : List FH} (h : genP ls) : funcsE (ls.map FH.f) = ((0, 0, 0, 0), 0) := by
  obtain ⟨h1, h2, h3⟩ := h
  have hnm : (ls.map FH.f).map Fnc.name = fnsL.take ls.length := by
    rw [show (ls.map FH.f).map Fnc.name = ls.map fun y => y.name by simp [FH.f]]
    exact names_take (fun j y hy => (h3 j y hy).1) h2
  refine funcs_end (k := (ls.map FH.f).length) (by rw [hnm]; exact dup_fns _) ?_ rfl
  rw [hnm]
  refine none_all fun k hk => ?_
  have hk2 : k < ls.length := by simpa using hk
  have hy : ls[k]? = some ls[k] := List.getElem?_eq_getElem hk2
  exact fn_none (f := (ls[k]).f) (by rw [List.getElem?_map, hy]; rfl) (gen_fnc (h3 k _ hy).2) rfl
theorem gen_occ {N : Nat} {t : Stm} (h : genS N t) : ∀ x ∈ occP t, x ∈ varsL := by
  unfold occP
  rcases h with ⟨h, _, hu, _⟩ | ⟨h, hd, hu, _⟩ | ⟨h, _, ⟨y, hy, hu⟩, _⟩ | ⟨h, _, hu, _⟩ | ⟨h, hd, hu, _⟩
  · rw [h]; intro x hx; exact hu.2.2 x hx
  · rcases h with h | h <;> rw [h, hu] <;> intro x hx <;> simp [defB] at hx <;> (subst hx; exact hd)
  · rw [h, hu]; intro x hx; simp [defB] at hx; subst hx; exact hy
  · rw [h, hu]; intro x hx; simp [defB] at hx
  · rw [h]; intro x hx; simp [defB] at hx; rcases hx with rfl | hx; exact hd; exact hu.2 x hx
theorem term_occ {M : Nat} {t : Stm} (h : termS M t) : ∀ x ∈ occP t, x ∈ varsL := by
  unfold occP
  rcases h with ⟨h, _, hu, _⟩ | ⟨h, _, hu, _⟩ | ⟨h, _, ⟨y, hy, hu⟩, _⟩
  · rw [h, hu]; intro x hx; simp [defB] at hx
  · rw [h, hu]; intro x hx; simp [defB] at hx
  · rw [h, hu]; intro x hx; simp [defB] at hx; subst hx; exact hy
theorem gen_each {ls : List FH} (h : genP ls) : ∀ t ∈ (ls.map FH.f).flatMap fncS, ∃ N M, genS N t ∨ termS M t := by
  refine flat_mem fun f hf => flat_mem fun b hb s hs => ?_
  obtain ⟨y, hy, rfl⟩ := List.mem_map.1 hf
  obtain ⟨z, hz, rfl⟩ := List.mem_map.1 (show b ∈ y.l.map BH.b from hb)
  obtain ⟨i, hi⟩ := List.mem_iff_getElem?.1 hy
  obtain ⟨j, hj⟩ := List.mem_iff_getElem?.1 hz
  obtain ⟨body, t, hbt, _, hbody, ht⟩ := ((h.2.2 i y hi).2.2.2 j z hj).2
  rw [hbt] at hs
  rcases List.mem_append.1 hs with hs | hs
  · exact ⟨_, 0, .inl (hbody s hs)⟩
  · simp at hs; subst hs; exact ⟨0, _, .inr ht⟩
theorem gen_vars {ls : List FH} (h : genP ls) : (varsP (ls.map FH.f)).length ≤ 64 := by
  have h1 := foldV_ok (S := varsL) ((stmtsP (ls.map FH.f)).flatMap occP) [] ⟨List.nodup_nil, by simp⟩ (by
    unfold stmtsP
    rw [if_pos (genP_ok h)]
    refine flat_mem fun t ht => ?_
    obtain ⟨N, M, h2 | h2⟩ := gen_each h t ht
    · exact gen_occ h2
    · exact term_occ h2)
  have h2 := nodup_len _ _ h1.1 h1.2
  have h3 : varsL.length = 4 := rfl
  show (List.foldl addV [] _).length ≤ 64
  omega
theorem flat_len2 {α β : Type} (f : α → List β) (l : List α) (k m : Nat) (hl : l.length ≤ k) (h : ∀ x ∈ l, (f x).length ≤ m) : (l.flatMap f).length ≤ k * m := by
  have key : ∀ l : List α, (∀ x ∈ l, (f x).length ≤ m) → (l.flatMap f).length ≤ l.length * m := by
    intro l
    induction l with
    | nil => intro _; simp
    | cons x l ih =>
      intro h
      rw [List.flatMap_cons, List.length_append, List.length_cons, Nat.succ_mul]
      have := h x (List.mem_cons_self ..)
      have := ih fun y hy => h y (List.mem_cons_of_mem _ hy)
      omega
  exact Nat.le_trans (key l h) (Nat.mul_le_mul_right _ hl)
theorem gen_stmts {ls : List FH} (h : genP ls) : ((ls.map FH.f).flatMap fncS).length ≤ 36 := by
  refine Go.Proofs.YtcgichfanfijjaaDoor.flat_len2 fncS _ 3 12 (by rw [List.length_map]; exact h.2.1) fun f hf => ?_
  obtain ⟨y, hy, rfl⟩ := List.mem_map.1 hf
  obtain ⟨i, hi⟩ := List.mem_iff_getElem?.1 hy
  have hg := (h.2.2 i y hi).2
  refine Go.Proofs.YtcgichfanfijjaaDoor.flat_len2 Blk.ss _ 3 4 (by show (y.l.map BH.b).length ≤ 3; rw [List.length_map]; exact hg.2.1) fun b hb => ?_
  obtain ⟨z, hz, rfl⟩ := List.mem_map.1 (show b ∈ y.l.map BH.b from hb)
  obtain ⟨j, hj⟩ := List.mem_iff_getElem?.1 hz
  obtain ⟨body, t, hbt, hbl, _, _⟩ := (hg.2.2 j z hj).2
  rw [hbt]; simp; omega
theorem gen_check {ls : List FH} (h : genP ls) : checkP (ls.map FH.f) = ((0, 0, 0, 0), 0) := by
  refine chk_fine (genP_ok h) (gen_funcs h) rfl ?_
  have h1 := gen_vars h
  have h2 := gen_stmts h
  have h3 : stmtsP (ls.map FH.f) = (ls.map FH.f).flatMap fncS := by unfold stmtsP; rw [if_pos (genP_ok h)]
  have h4 := sumP_le nod_le ((ls.map FH.f).flatMap fncS)
  have h5 := sumP_le edg_le ((ls.map FH.f).flatMap fncS)
  have h6 : (ls.map FH.f).length ≤ 3 := by rw [List.length_map]; exact h.2.1
  have h7 : (sizesP (ls.map FH.f)).1 ≤ 256 ∧ (sizesP (ls.map FH.f)).2 ≤ 1024 := by
    unfold sizesP
    rw [h3]
    split
    · simp
    · constructor
      · show 2 * _ + _ ≤ 256; omega
      · show _ + _ ≤ 1024; omega
  unfold fitB
  simp [h1, h7.1, h7.2]
end Go.Proofs.YtcgichfanfijjaaDoor

namespace Go.Proofs.YtcgichfanfijjaaDoor
set_option maxRecDepth 20000
set_option linter.unusedVariables false
set_option linter.unusedSimpArgs false
open Go.ChangeShapes Go.WideShapes Go.ChangeAt Go.RowKit
attribute [local go_sem ↓] Go.wp_at_zero Go.wp_at_succ

def RetCl (w : World) (l : List ByteArray) (e : Ending) (w' : World) : Prop :=
  ∃ (A : Option Addr) (n c : Nat), e = .returned (.slice A n c) ∧ SArg w' A n l ∧ (∀ ad, A = some ad → w.heap.size ≤ ad.block) ∧ Below w.heap.size w w'
set_option maxHeartbeats 1600000 in
theorem clone_any (A : Option Addr) (n c : Nat) (l : List ByteArray) (w : World) (hA : SArg w A n l) : Calls Tryd.prog 52 #[.slice A n c] w (RetCl w l) := by
  obtain ⟨i0, hi, hz0, hz1, hz2⟩ := info_parts info9
  have Hi := hid hi; have Hz0 := hid hz0; have Hz1 := hid hz1; have Hz2 := hid hz2
  clear hi hz0 hz1 hz2
  have hl := hA.len
  have HL := hid hl
  have hf := hA.few
  have HA := hid hA
  clear hA
  by_cases h0 : n = 0
  · subst h0
    have Hl := hid (show l = [] from List.length_eq_zero_iff.1 HL.out)
    clear hl
    rcases A with _ | a0
    · have hnil : ∀ w : World, (binOp .eql 55 (.slice none 0 c) (.slice none 0 0)).run Tryd.prog w = .ok (.bool true) w := fun w => Lib.run_eql_slice_nil w 55 9 none 0 c 0 0 Tryd.underlying55
      go_enter Tryd.func52, Tryd.ntmps52
      go_wp2_with fail
      go_ret
      rw [Hl.out]
      exact ⟨none, 0, 0, rfl, ⟨.inl rfl, rfl, by omega, by simp⟩, (fun _ h => by cases h), Below.refl _ _⟩
    · have HB := hid ((Below.refl w.heap.size w).alloc (Nat.le_refl _) (.cells #[] 9))
      have hnil : ∀ w : World, (binOp .eql 55 (.slice (some a0) 0 c) (.slice none 0 0)).run Tryd.prog w = .ok (.bool false) w := fun w => Lib.run_eql_slice_nil w 55 9 (some a0) 0 c 0 0 Tryd.underlying55
      go_enter Tryd.func52, Tryd.ntmps52
      go_wp2_with fail
      go_ret
      rw [Hl.out]
      exact ⟨_, 0, _, rfl, ⟨.inl rfl, rfl, by omega, by simp⟩, (fun ad h => by injection h with h; subst h; exact Nat.le_refl _), HB.out⟩
  · obtain ⟨ad, rfl, had, hc⟩ : ∃ ad, A = some ad ∧ ad.block < w.heap.size ∧ ∀ j u, (l.map Value.string)[j]? = some u → w.cell? (ad.add j) = some u := by
      rcases HA.out.lies with h | h
      · have := congrArg List.length h; simp at this; subst this; simp at hl; omega
      · exact h
    have hb2 := (Below.refl w.heap.size w).alloc (Nat.le_refl _) (.cells #[] 9)
    have HB2 := hid hb2
    have Hc := hid (fun j u (h : (l.map Value.string)[j]? = some u) => (show (w.alloc (.cells #[] 9)).cell? (ad.add j) = some u from (World.cell?_of_block (by rw [add_block]; exact hb2.block _ had)).trans (hc j u h)))
    have HO := hid (World.ownsRow_lit (base := w.heap.size) (e := 9) (size := 1) w #[] 0 (Nat.le_refl _) (by unfold maxLen; omega) rfl)
    have Hul := hid (show (l.map Value.string).length = n * 1 by rw [List.length_map, HL.out]; omega)
    have hpos : 0 < n := by omega
    clear hc hl hb2 h0
    have hnil : ∀ w : World, (binOp .eql 55 (.slice (some ad) n c) (.slice none 0 0)).run Tryd.prog w = .ok (.bool false) w := fun w => Lib.run_eql_slice_nil w 55 9 (some ad) n c 0 0 Tryd.underlying55
    go_enter Tryd.func52, Tryd.ntmps52
    go_wp2_with ((
      at_builtin
      go_must (refine wpList_append_lies _ rfl _ _ 55 rfl w.heap.size 9 i0 _ 1 16 Tryd.underlying55 Hi.out Hz0.out Hz1.out Hz2.out rfl (by decide) _ 0 [] rfl HO.out ad n c (l.map Value.string) rfl Hul.out Hc.out (one_strs l) hpos (by unfold maxLen; omega) (by omega) (by rw [World.size_alloc]; omega) _ rfl ?_)
      intro g5 cap5 w5 hown5 hgr5 hat5 hlt5))
    have HB5 := hid (HB2.out.grown hgr5 HB2.out.size (fun k hk => (HO.out.lt k hk).1))
    have Hown := hid hown5
    clear hown5 hgr5 hat5 hlt5
    go_wp2_with fail
    go_ret
    exact ⟨_, _, _, rfl, ⟨by have := own_at Hown.out; rw [List.nil_append] at this; exact this, by have := HL.out; omega, by omega, HA.out.small⟩, (fun ad h => by injection h with h; subst h; exact (Hown.out.lt _ rfl).1), HB5.out⟩
/-- A list of strings that lies behind N. -/
structure SLk (N : Nat) (w : World) (A : Option Addr) (n : Nat) (L : List ByteArray) : Prop where
  arg : SArg w A n L
  off : ∀ ad, A = some ad → N ≤ ad.block
theorem SLk.grown {N g : Nat} {w w' : World} {A : Option Addr} {n : Nat} {L : List ByteArray} (h : SLk N w A n L) (hN : g < N) (hg : w.grownBy w' (some g)) : SLk N w' A n L := by
  refine ⟨⟨?_, h.arg.len, h.arg.few, h.arg.small⟩, h.off⟩
  rcases h.arg.lies with e | ⟨ad, e, hlt, hc⟩
  · exact .inl e
  · exact .inr ⟨ad, e, Nat.lt_of_lt_of_le hlt hg.size, fun j u hu => (World.cell?_of_block (by rw [add_block]; exact hg.block _ hlt (by have := h.off ad e; intro e2; injection e2 with e2; omega))).trans (hc j u hu)⟩
theorem SLk.below {N : Nat} {w w' : World} {A : Option Addr} {n : Nat} {L : List ByteArray} (h : SLk N w A n L) (hb : Below w.heap.size w w') : SLk N w' A n L := ⟨h.arg.below hb, h.off⟩
theorem SLk.of {N : Nat} {w w' : World} {A : Option Addr} {n : Nat} {L : List ByteArray} (h : SArg w' A n L) (hb : ∀ ad, A = some ad → w.heap.size ≤ ad.block) (hg : N ≤ w.heap.size) : SLk N w' A n L :=
  ⟨h, fun ad e => Nat.le_trans hg (hb ad e)⟩
/-- The statement of a node came back, in lists of its own. -/
def RetSm (w : World) (t : Stm) (e : Ending) (w' : World) : Prop :=
  ∃ (A : Option Addr) (n c : Nat) (B : Option Addr) (m d : Nat), e = .returned (.tuple #[.agg #[.int .i64 t.op, .string t.d, .slice A n c, .slice B m d], .bool true]) ∧ StArg w' t.op t.d A n B m t ∧ Below w.heap.size w w' ∧ (∀ ad, A = some ad → w.heap.size ≤ ad.block) ∧ (∀ ad, B = some ad → w.heap.size ≤ ad.block)
theorem prog_stm {w : World} {ex : List (Option Nat)} {x : PH} (h : PHok w ex x) {f b j : Nat} {F : Fnc} {B : Blk} {t : Stm} (h1 : x.p[f]? = some F) (h2 : F.bs[b]? = some B) (h3 : B.ss[j]? = some t) :
    ∃ (y : FH) (z : BH) (s : SH), x.l[f]? = some y ∧ y ∈ x.l ∧ y.l[b]? = some z ∧ z ∈ y.l ∧ z.l[j]? = some s ∧ s ∈ z.l ∧ s.t = t ∧ y.f = F ∧ z.b = B := by
  unfold PH.p at h1
  rw [List.getElem?_map] at h1
  obtain ⟨y, hy, rfl⟩ := Option.map_eq_some_iff.1 h1
  change (y.l.map BH.b)[b]? = some B at h2
  rw [List.getElem?_map] at h2
  obtain ⟨z, hz, rfl⟩ := Option.map_eq_some_iff.1 h2
  change (z.l.map SH.t)[j]? = some t at h3
  rw [List.getElem?_map] at h3
  obtain ⟨s, hs, rfl⟩ := Option.map_eq_some_iff.1 h3
  exact ⟨y, z, s, hy, List.mem_of_getElem? hy, hz, List.mem_of_getElem? hz, hs, List.mem_of_getElem? hs, rfl, rfl, rfl⟩
set_option maxHeartbeats 6400000 in
theorem stmtN_any (x : PH) (kd : Int) (f b j : Nat) (F : Fnc) (B : Blk) (t : Stm) (ex : List (Option Nat)) (w : World) (h : PHok w ex x) (hs : Shp w) (h1 : x.p[f]? = some F) (h2 : F.bs[b]? = some B) (h3 : B.ss[j]? = some t)
    (hk1 : (kd == 1) = false) (hk2 : (kd == 2) = false) (i : Nat) (hfind : findI (listN x.p) ⟨kd, f, b, j⟩ = (i : Int)) :
    Calls Tryd.prog 20 #[.agg #[.slice x.A x.n x.c], .agg #[.int .i64 kd, .int .i64 f, .int .i64 b, .int .i64 j]] w (RetSm w t) := by
  have hx0 : PHok w [] x := h.go (Go2.less w (by simp))
  obtain ⟨y, z, s, hy, hym, hz, hzm, hss, hsm, rfl, -, -⟩ := prog_stm hx0 h1 h2 h3
  have hb0 : Below w.heap.size w (((w.alloc (.cells #[.slice x.A x.n x.c] 24)).alloc (.cells #[.int .i64 kd, .int .i64 f, .int .i64 b, .int .i64 j] 46)).alloc (.cells #[.int .i64 0, .string ⟨#[]⟩, .slice none 0 0, .slice none 0 0] 57)) := (((Below.refl w.heap.size w).alloc (Nat.le_refl _) _).alloc (by rw [World.size_alloc]; omega) _).alloc (by rw [World.size_alloc, World.size_alloc]; omega) _
  have HB0 := hid hb0
  have HP0 := hid ((Fb.new w #[.slice x.A x.n x.c] 24).alloc (.cells #[.int .i64 kd, .int .i64 f, .int .i64 b, .int .i64 j] 46) |>.alloc (.cells #[.int .i64 0, .string ⟨#[]⟩, .slice none 0 0, .slice none 0 0] 57))
  have HN0 := hid (show Fb (((w.alloc (.cells #[.slice x.A x.n x.c] 24)).alloc (.cells #[.int .i64 kd, .int .i64 f, .int .i64 b, .int .i64 j] 46)).alloc (.cells #[.int .i64 0, .string ⟨#[]⟩, .slice none 0 0, .slice none 0 0] 57)) (w.heap.size + 1) #[.int .i64 kd, .int .i64 f, .int .i64 b, .int .i64 j] 46 by have := (Fb.new (w.alloc (.cells #[.slice x.A x.n x.c] 24)) #[.int .i64 kd, .int .i64 f, .int .i64 b, .int .i64 j] 46).alloc (.cells #[.int .i64 0, .string ⟨#[]⟩, .slice none 0 0, .slice none 0 0] 57); rwa [World.size_alloc] at this)
  have HR0 := hid (show Fb (((w.alloc (.cells #[.slice x.A x.n x.c] 24)).alloc (.cells #[.int .i64 kd, .int .i64 f, .int .i64 b, .int .i64 j] 46)).alloc (.cells #[.int .i64 0, .string ⟨#[]⟩, .slice none 0 0, .slice none 0 0] 57)) (w.heap.size + 1 + 1) #[.int .i64 0, .string ⟨#[]⟩, .slice none 0 0, .slice none 0 0] 57 by have := Fb.new ((w.alloc (.cells #[.slice x.A x.n x.c] 24)).alloc (.cells #[.int .i64 kd, .int .i64 f, .int .i64 b, .int .i64 j] 46)) #[.int .i64 0, .string ⟨#[]⟩, .slice none 0 0, .slice none 0 0] 57; rwa [World.size_alloc, World.size_alloc] at this)
  have HX0 := hid hx0
  have Hss := hid hss; have Hz := hid hz; have Hy := hid hy
  have HC := hid (find_any x ⟨kd, f, b, j⟩ [] _ (PHok.below hx0 hb0) (hs.keep (hb0.block 0 hs.pos0)))
  rw [hfind] at HC
  unfold agN at HC
  simp only at HC
  clear h hs h1 h2 h3 hb0 hx0 hfind
  have hfl : f < x.n := by have := (List.getElem?_eq_some_iff.1 hy).1; have h2 : x.l.length = x.n := HX0.out.len; omega
  have hfn : x.n ≤ 40 := HX0.out.few
  have hbl : b < y.n := by have := (List.getElem?_eq_some_iff.1 hz).1; have h2 : y.l.length = y.n := (HX0.out.all y hym).len; omega
  have hbn : y.n ≤ 40 := (HX0.out.all y hym).few
  have hjl : j < z.n := by have := (List.getElem?_eq_some_iff.1 hss).1; have h2 : z.l.length = z.n := ((HX0.out.all y hym).all z hzm).len; omega
  have hjn : z.n ≤ 40 := ((HX0.out.all y hym).all z hzm).few
  have Hym := hid hym; have Hzm := hid hzm; have Hsm := hid hsm
  clear hy hz hss hym hzm hsm
  go_enter Tryd.func20, Tryd.ntmps20
  go_wp2_with fail
  generalize ((w.alloc (.cells #[.slice x.A x.n x.c] 24)).alloc (.cells #[.int .i64 kd, .int .i64 f, .int .i64 b, .int .i64 j] 46)).alloc (.cells #[.int .i64 0, .string ⟨#[]⟩, .slice none 0 0, .slice none 0 0] 57) = w0 at HB0 HP0 HN0 HR0 HC ⊢
  refine HC.out.mono ?_
  rintro e w1 ⟨rfl, hb1⟩
  have HB1 := hid (below_step HB0.out hb1)
  have HP1 := hid (HP0.out.below hb1 HP0.out.lt)
  have HN1 := hid (HN0.out.below hb1 HN0.out.lt)
  have HR1 := hid (HR0.out.below hb1 HR0.out.lt)
  have HX1 := hid (PHok.below HX0.out HB1.out)
  clear hb1 HB0 HP0 HN0 HR0 HC HX0
  obtain ⟨ad, hA, had, hc1, hc2⟩ := FH.cells HX1.out.lies Hy.out
  have HY := hid (HX1.out.all y Hym.out)
  obtain ⟨ad2, hA2, had2, hd1, hd2⟩ := BH.cells HY.out.lies Hz.out
  have HZ := hid (HY.out.all z Hzm.out)
  obtain ⟨ad3, hA3, had3, he1, he2, he3, he4⟩ := SH.cells HZ.out.lies Hss.out
  have HSx := hid (HZ.out.all s Hsm.out)
  obtain ⟨xA, xn, xc, xl⟩ := x
  obtain ⟨ynm, yA, yn, yc, yl⟩ := y
  obtain ⟨znm, zA, zn, zc, zl⟩ := z
  simp only at *
  subst hA; subst hA2; subst hA3
  have p0 := HP1.out.onec
  obtain ⟨n0, n1, n2, n3⟩ := Fb.four HN1.out
  have hlP := HP1.out.lt
  have hlN := HN1.out.lt
  have had' : (ad.add (f * 2)).block < w1.heap.size := by rw [add_block]; exact had
  have had2' : (ad2.add (b * 2)).block < w1.heap.size := by rw [add_block]; exact had2
  have had3' : (ad3.add (j * 4)).block < w1.heap.size := by rw [add_block]; exact had3
  have hi0 : decide ((i : Int) < 0) = false := by simp
  clear Hy Hz Hss Hym Hzm Hsm HX1 HY HZ
  go_wp2_with fail
  clear hi0
  have HB5 := hid HB1.out
  go_upto_region 3 with fail
  go_cut [6] (fun a wc => ∃ g : Nat, a = .pointer (some ⟨g, 0, none⟩) ∧ w1.heap.size ≤ g ∧ Hid (Fb wc g #[.int .i64 s.t.op, .string s.t.d, .slice s.A s.n s.c, .slice s.B s.m s.c2] 57 ∧ Below w1.heap.size w1 wc))
  case first =>
    have HZ1 := hid (And.intro (Fb.drewN (Fb.new w1 #[.int .i64 s.t.op, .string s.t.d, .slice s.A s.n s.c, .slice s.B s.m s.c2] 57) 1) (below_drewN ((Below.refl w1.heap.size w1).alloc (Nat.le_refl _) (.cells #[.int .i64 s.t.op, .string s.t.d, .slice s.A s.n s.c, .slice s.B s.m s.c2] 57)) 1))
    go_region
    go_wp2_with fail
    go_meet
    exact ⟨_, rfl, Nat.le_refl _, HZ1⟩
  case rest =>
    clear hc1 hc2 hd1 hd2 he1 he2 he3 he4 had had2 had3 had' had2' had3' p0 n0 n1 n2 n3 hlP hlN
    obtain ⟨g, rfl, hg, HZ⟩ := hcut
    obtain ⟨sA, sn, sc, sB, sm, sd, ⟨op, dd, us, ts⟩⟩ := s
    simp only at *
    have Hg := hid HZ.out.1
    have HBc := hid (below_step HB5.out HZ.out.2)
    have HU := hid (show SArg wc sA sn us from (HSx.out.go (Go2.below HZ.out.2)).uses.arg)
    have HT := hid (show SArg wc sB sm ts from (HSx.out.go (Go2.below HZ.out.2)).targets.arg)
    have HRc := hid (HR1.out.below HZ.out.2 HR1.out.lt)
    have Hds := hid (show dd.size ≤ 100000 by have := HSx.out.small; simp only at this; omega)
    have hgl := Hg.out.lt
    have hgR : g ≠ w.heap.size + 1 + 1 := by have := HR1.out.lt; omega
    have HgR := hid hgR
    have HRg := hid (show w.heap.size + 1 + 1 < g + 1 by have := HR1.out.lt; omega)
    have Hgw := hid (show w.heap.size ≤ g by have := HB1.out.size; omega)
    clear HZ HSx HR1 HB1 HB5 HP1 HN1
    have HK : Hid (∀ w' : World, Below wc.heap.size wc w' → Below wc.heap.size wc w' ∧ (w'.cell? ⟨g, 0, none⟩ = some (.int .i64 op) ∧ w'.cell? ⟨g, 1, none⟩ = some (.string dd) ∧ w'.cell? ⟨g, 2, none⟩ = some (.slice sA sn sc) ∧ w'.cell? ⟨g, 3, none⟩ = some (.slice sB sm sd)) ∧ (w'.frozen? ⟨g, 2, none⟩ = false ∧ w'.frozen? ⟨g, 3, none⟩ = false) ∧ g < w'.heap.size) :=
      hid fun w' h => ⟨h, Fb.four (Hg.out.below h hgl), ⟨(Hg.out.below h hgl).frozen 2, (Hg.out.below h hgl).frozen 3⟩, (Hg.out.below h hgl).lt⟩
    have HFb : Hid (∀ w' : World, Below wc.heap.size wc w' → Fb w' g #[.int .i64 op, .string dd, .slice sA sn sc, .slice sB sm sd] 57 ∧ Fb w' (w.heap.size + 1 + 1) #[.int .i64 0, .string ⟨#[]⟩, .slice none 0 0, .slice none 0 0] 57 ∧ Below w.heap.size w w') := hid fun w' h => ⟨Hg.out.below h hgl, HRc.out.below h HRc.out.lt, below_step HBc.out h⟩
    obtain ⟨-, ⟨m0, m1, m2, m3⟩, ⟨z2, z3⟩, -⟩ := HK.out _ (Below.refl _ _)
    clear Hg HRc HBc hgR
    go_upto_region 4 with fail
    go_cut [] (fun wd => ∃ (A1 : Option Addr) (n1 c1 : Nat) (B1 : Option Addr) (k1 d1 : Nat), Hid (Fb wd g #[.int .i64 op, .string dd, .slice A1 n1 c1, .slice B1 k1 d1] 57 ∧ Fb wd (w.heap.size + 1 + 1) #[.int .i64 0, .string ⟨#[]⟩, .slice none 0 0, .slice none 0 0] 57 ∧ Below w.heap.size w wd ∧ SLk (g + 1) wd A1 n1 us ∧ SLk (g + 1) wd B1 k1 ts))
    case first =>
      have HUf := hid (fun v (h : Below wc.heap.size wc v) => HU.out.below h)
      have HTf := hid (fun v (h : Below wc.heap.size wc v) => HT.out.below h)
      have hcur : Below wc.heap.size wc wc.drew := (Below.refl _ _).drew
      go_region_law (
          (go_simp
           first
           | (go_at_call_of 52 sA
              refine (clone_any sA sn sc us _ (HUf.out _ hcur)).mono ?_
              rintro e wn ⟨A1, n1, c1, rfl, ha1, ho1, hbk⟩
              have H1 := hid (SLk.of (N := g + 1) ha1 ho1 (HK.out _ hcur).2.2.2)
              try (have H2 := hid (H2.out.below hbk))
              have hcur := below_step hcur hbk
              obtain ⟨-, ⟨m0, m1, m2, m3⟩, ⟨z2, z3⟩, hgl⟩ := HK.out _ hcur
              clear ha1 ho1 hbk)
           | (go_at_call_of 52 sB
              refine (clone_any sB sm sd ts _ (HTf.out _ hcur)).mono ?_
              rintro e wm ⟨B1, k1, d1, rfl, ha2, ho2, hbk⟩
              have H2 := hid (SLk.of (N := g + 1) ha2 ho2 (HK.out _ hcur).2.2.2)
              try (have H1 := hid (H1.out.below hbk))
              have hcur := below_step hcur hbk
              obtain ⟨-, ⟨m0, m1, m2, m3⟩, ⟨z2, z3⟩, hgl⟩ := HK.out _ hcur
              clear ha2 ho2 hbk)))
      all_goals
        have hfb := HFb.out _ hcur
        have hgr : wm.grownBy ((wm.setCell ⟨g, 2, none⟩ (.slice A1 n1 c1)).setCell ⟨g, 3, none⟩ (.slice B1 k1 d1)) (some g) := grown_trans (setCell_grown wm ⟨g, 2, none⟩ (.slice A1 n1 c1)) (setCell_grown _ ⟨g, 3, none⟩ (.slice B1 k1 d1))
        have HQ := hid (And.intro (show Fb ((wm.setCell ⟨g, 2, none⟩ (.slice A1 n1 c1)).setCell ⟨g, 3, none⟩ (.slice B1 k1 d1)) g #[.int .i64 op, .string dd, .slice A1 n1 c1, .slice B1 k1 d1] 57 from (hfb.1.set 2 (.slice A1 n1 c1)).set 3 (.slice B1 k1 d1)) (And.intro (hfb.2.1.grown hgr (fun e => HgR.out (by injection e with e; exact e.symm))) (And.intro (hfb.2.2.grown hgr hfb.2.2.size (fun k hk => by injection hk with hk; have := Hgw.out; omega)) (And.intro (H1.out.grown (Nat.lt_succ_self g) hgr) (H2.out.grown (Nat.lt_succ_self g) hgr)))))
        clear hfb hgr H1 H2 HK HFb HU HT HUf HTf m0 m1 m2 m3 z2 z3
        go_wp2_with fail
        go_meet
        exact ⟨_, _, _, _, _, _, HQ⟩
    case rest =>
      obtain ⟨A1, n1, c1, B1, k1, d1, HQ⟩ := hcut
      have hr := HQ.out.2.1
      obtain ⟨x0, x1, x2, x3⟩ := Fb.four HQ.out.1
      obtain ⟨y0, y1, y2, y3⟩ := Fb.four hr
      have v0 := hr.frozen 0
      have v1 := hr.frozen 1
      have v2 := hr.frozen 2
      have v3 := hr.frozen 3
      have hrl := hr.lt
      have hgl2 := HQ.out.1.lt
      have hRg := HRg.out
      have HF := hid (show RetSm w ⟨op, dd, us, ts⟩ (.returned (.tuple #[.agg #[.int .i64 op, .string dd, .slice A1 n1 c1, .slice B1 k1 d1], .bool true])) ((((wc.setCell ⟨w.heap.size + 1 + 1, 0, none⟩ (.int .i64 op)).setCell ⟨w.heap.size + 1 + 1, 1, none⟩ (.string dd)).setCell ⟨w.heap.size + 1 + 1, 2, none⟩ (.slice A1 n1 c1)).setCell ⟨w.heap.size + 1 + 1, 3, none⟩ (.slice B1 k1 d1)) from by
        have hgr : wc.grownBy ((((wc.setCell ⟨w.heap.size + 1 + 1, 0, none⟩ (.int .i64 op)).setCell ⟨w.heap.size + 1 + 1, 1, none⟩ (.string dd)).setCell ⟨w.heap.size + 1 + 1, 2, none⟩ (.slice A1 n1 c1)).setCell ⟨w.heap.size + 1 + 1, 3, none⟩ (.slice B1 k1 d1)) (some (w.heap.size + 1 + 1)) :=
          grown_trans (grown_trans (grown_trans (setCell_grown wc ⟨w.heap.size + 1 + 1, 0, none⟩ _) (setCell_grown _ ⟨w.heap.size + 1 + 1, 1, none⟩ _)) (setCell_grown _ ⟨w.heap.size + 1 + 1, 2, none⟩ _)) (setCell_grown _ ⟨w.heap.size + 1 + 1, 3, none⟩ _)
        exact ⟨A1, n1, c1, B1, k1, d1, rfl, ⟨(HQ.out.2.2.2.1.grown (by omega) hgr).arg, (HQ.out.2.2.2.2.grown (by omega) hgr).arg, rfl, rfl, Hds.out⟩, HQ.out.2.2.1.grown hgr HQ.out.2.2.1.size (fun k hk => by injection hk with hk; omega), fun ad e => by have := HQ.out.2.2.2.1.off ad e; have := Hgw.out; omega, fun ad e => by have := HQ.out.2.2.2.2.off ad e; have := Hgw.out; omega⟩)
      clear hRg m0 m1 m2 m3 z2 z3 HK HFb HU HT hr
      as_aux_lemma =>
        go_wp2_with fail
        refine bodyPost_ret (v := .tuple #[.agg #[.int .i64 op, .string dd, .slice A1 n1 c1, .slice B1 k1 d1], .bool true]) (by simp [results, Tryd.results20, go_sem, y0, y1, y2, y3, v0, v1, v2, v3, hrl]) rfl ?_
        exact HF.out
end Go.Proofs.YtcgichfanfijjaaDoor

namespace Go.Proofs.YtcgichfanfijjaaDoor
set_option maxRecDepth 20000
set_option linter.unusedVariables false
set_option linter.unusedSimpArgs false
open Go.ChangeShapes Go.WideShapes Go.ChangeAt Go.RowKit

/-- The statement's tape and the table of shapes stand, and nothing old has changed. -/
structure GoS (w : World) (T : Nat) (wr : World) : Prop where
  go : Going w T wr
  shp : Shp wr
  pos : 0 < w.heap.size
theorem GoS.step {w wr w' : World} {T : Nat} (h : GoS w T wr) (hg : Going w T w') (hw : wr.grownBy w' (some T)) : GoS w T w' :=
  ⟨hg, h.shp.keep (hw.block 0 h.shp.lt (by have := h.go.2.2; have := h.pos; intro e; injection e with e; omega)), h.pos⟩
theorem GoS.stepT {w wr w' : World} {T : Nat} (h : GoS w T wr) (ht : Tape w' T) (hw : wr.grownBy w' (some T)) : GoS w T w' := h.step (h.go.step ht hw) hw
theorem GoS.below {w wr w' : World} {T : Nat} (h : GoS w T wr) (hb : Below wr.heap.size wr w') : GoS w T w' := h.step (h.go.below hb) (grown_of_below hb _)
theorem GoS.alloc {w wr : World} {T : Nat} (h : GoS w T wr) (o : Obj) : GoS w T (wr.alloc o) := h.below ((Below.refl _ _).alloc (Nat.le_refl _) o)

def pre1 (p : List Fnc) (k : Nat) : List Nd := (List.range k).flatMap (ndFs p)
def pre2 (p : List Fnc) (k : Nat) (bs : List Blk) (b : Nat) : List Nd := (pre1 p k ++ [⟨1, k, -1, -1⟩]) ++ (List.range b).flatMap (ndBs k bs)
def pre3 (p : List Fnc) (k : Nat) (bs : List Blk) (b : Nat) (ss : List Stm) (i : Nat) : List Nd := pre2 p k bs b ++ (List.range i).flatMap (ndSs k b ss)
theorem range_pre {f : Nat → List Nd} {k n : Nat} (h : k ≤ n) : (List.range k).flatMap f <+: (List.range n).flatMap f := by
  obtain ⟨d, rfl⟩ := Nat.exists_eq_add_of_le h
  induction d with
  | zero => exact List.prefix_refl _
  | succ d ih => exact (ih (by omega)).trans (by rw [← Nat.add_assoc, range_flat]; exact List.prefix_append _ _)
theorem pre2_zero (p : List Fnc) (k : Nat) (bs : List Blk) : (pre2 p k bs 0).length = (pre1 p k).length + 1 := by simp [pre2]
theorem pre3_zero (p : List Fnc) (k : Nat) (bs : List Blk) (b : Nat) (ss : List Stm) : (pre3 p k bs b ss 0).length = (pre2 p k bs b).length := by simp [pre3]
theorem pre3_succ {p : List Fnc} {k : Nat} {bs : List Blk} {b : Nat} {ss : List Stm} {i : Nat} {t : Stm} (h : ss[i]? = some t) : pre3 p k bs b ss (i + 1) = pre3 p k bs b ss i ++ ndS k b i t := by
  unfold pre3
  rw [range_flat, ndSs_at h, List.append_assoc]
theorem pre3_all {p : List Fnc} {k : Nat} {bs : List Blk} {b : Nat} {x : Blk} (h : bs[b]? = some x) : pre3 p k bs b x.ss x.ss.length = pre2 p k bs (b + 1) := by
  unfold pre3 pre2
  rw [range_flat, ndBs_at h]
  simp [ndB]
theorem pre2_all {p : List Fnc} {k : Nat} {x : Fnc} (h : p[k]? = some x) : pre2 p k x.bs x.bs.length ++ [⟨2, k, -1, -1⟩] = pre1 p (k + 1) := by
  unfold pre2 pre1
  rw [range_flat, ndFs_at h]
  simp [ndF]
theorem pre2_mono {p : List Fnc} {k : Nat} {bs : List Blk} {b c : Nat} (h : b ≤ c) : pre2 p k bs b <+: pre2 p k bs c := (List.prefix_append_right_inj _).2 (range_pre h)
theorem pre3_mono {p : List Fnc} {k : Nat} {bs : List Blk} {b : Nat} {ss : List Stm} {i j : Nat} (h : i ≤ j) : pre3 p k bs b ss i <+: pre3 p k bs b ss j := (List.prefix_append_right_inj _).2 (range_pre h)
/-- A statement's nodes stand at their places. -/
theorem node_at {p : List Fnc} {k b i : Nat} {F : Fnc} {B : Blk} {t : Stm} (h1 : p[k]? = some F) (h2 : F.bs[b]? = some B) (h3 : B.ss[i]? = some t) {q : Nat} {nd : Nd} (hq : (ndS k b i t)[q]? = some nd) :
    (pre1 p p.length)[(pre3 p k F.bs b B.ss i).length + q]? = some nd := by
  have e1 : pre3 p k F.bs b B.ss i ++ ndS k b i t <+: pre3 p k F.bs b B.ss B.ss.length := by
    rw [← pre3_succ h3]
    exact pre3_mono (by have := (List.getElem?_eq_some_iff.1 h3).1; omega)
  rw [pre3_all h2] at e1
  have e2 := e1.trans (pre2_mono (p := p) (k := k) (bs := F.bs) (c := F.bs.length) (by have := (List.getElem?_eq_some_iff.1 h2).1; omega))
  have e3 : pre2 p k F.bs F.bs.length <+: pre1 p (k + 1) := by rw [← pre2_all h1]; exact List.prefix_append _ _
  have e4 : pre1 p (k + 1) <+: pre1 p p.length := range_pre (by have := (List.getElem?_eq_some_iff.1 h1).1; omega)
  obtain ⟨r, hr⟩ := (e2.trans e3).trans e4
  rw [← hr, List.append_assoc, List.getElem?_append_right (by omega), Nat.add_sub_cancel_left, List.getElem?_append_left (List.getElem?_eq_some_iff.1 hq).1]
  exact hq
/-- What stands in the list is found. -/
theorem find_has {L : List Nd} {n : Nd} {i : Nat} (h : L[i]? = some n) : ∃ j : Nat, findI L n = (j : Int) := by
  unfold findI
  cases hs : (List.range L.length).findSome? (findAt L n) with
  | none =>
    rw [List.findSome?_eq_none_iff] at hs
    have := hs i (List.mem_range.2 (List.getElem?_eq_some_iff.1 h).1)
    rw [find_yes h] at this
    cases this
  | some v =>
    obtain ⟨j, -, hj⟩ := List.exists_of_findSome?_eq_some hs
    unfold findAt at hj
    split at hj
    · injection hj with hj; exact ⟨j, by rw [← hj]; rfl⟩
    · cases hj
theorem ndS_kind {f b j : Nat} {t : Stm} {q : Nat} (h : q < (ndS f b j t).length) : ∃ kd : Int, (ndS f b j t)[q]? = some ⟨kd, f, b, j⟩ ∧ (kd == 1) = false ∧ (kd == 2) = false := by
  unfold ndS at h ⊢
  split at h
  · next ho =>
    rw [if_pos ho]
    have : q = 0 ∨ q = 1 := by simp at h; omega
    rcases this with rfl | rfl
    · exact ⟨3, rfl, rfl, rfl⟩
    · exact ⟨4, rfl, rfl, rfl⟩
  · next ho =>
    rw [if_neg ho]
    obtain rfl : q = 0 := by simp at h; omega
    exact ⟨3, rfl, rfl, rfl⟩
theorem ndS_len_yes {f b j : Nat} {t : Stm} (h : (t.op == 3) = true) : (ndS f b j t).length = 2 := by unfold ndS; rw [if_pos h]; rfl
theorem ndS_len_no {f b j : Nat} {t : Stm} (h : (t.op == 3) = false) : (ndS f b j t).length = 1 := by unfold ndS; rw [if_neg (by rw [h]; decide)]; rfl
/-- The walk's world: the program and the list of its nodes stand. -/
structure NW (w : World) (G : Nat) (x : PH) (A : Option Addr) (L : List Nd) (v : World) : Prop where
  bel : Below w.heap.size w v
  shp : Shp v
  prog : PHok v [] x
  ptr : Fb v G #[.slice x.A x.n x.c] 24
  nds : EAt v [] A (L.flatMap ndc)
theorem NW.below {w v v' : World} {G : Nat} {x : PH} {A : Option Addr} {L : List Nd} (h : NW w G x A L v) (hb : Below v.heap.size v v') : NW w G x A L v' :=
  ⟨below_step h.bel hb, h.shp.keep (hb.block 0 h.shp.pos0), PHok.below h.prog hb, h.ptr.below hb h.ptr.lt, h.nds.go (Go2.below hb)⟩
end Go.Proofs.YtcgichfanfijjaaDoor

namespace Go.Proofs.YtcgichfanfijjaaDoor
set_option maxRecDepth 20000
set_option linter.unusedVariables false
set_option linter.unusedSimpArgs false
open Go.ChangeShapes Go.WideShapes Go.ChangeAt Go.RowKit

set_option maxHeartbeats 16000000 in
theorem lawNst (At : Option Addr) (nt ct : Nat) (zs : List Int) (w : World) (ht : IArg w At nt zs) (hnt : nt ≤ maxLen) (hsh : Shp w) :
    Calls Tryd.prog 5 #[.slice At nt ct] w fun e w' => e = .returned (.bool true) ∧ Below w.heap.size w w' := by
  have Hinv := hid (show GoS w w.heap.size (w.alloc (.cells #[.slice At nt ct, .int .i64 0] 92)) from ⟨⟨tape_new ht hnt, (Below.refl _ _).alloc (Nat.le_refl _) _, Nat.le_refl _⟩, hsh.keep (Below.heap_alloc w _ 0 hsh.lt), hsh.lt⟩)
  clear ht hsh
  go_enter Tryd.func5, Tryd.ntmps5
  go_wp2_with (go_at_call 13; refine (new_any At nt ct _).mono ?_; rintro e w1 ⟨rfl, rfl⟩)
  generalize w.alloc (.cells #[.slice At nt ct, .int .i64 0] 92) = w1 at Hinv ⊢
  refine (program_any [] w w.heap.size _ Hinv.out.go (by simp)).mono ?_
  rintro e w2 ⟨x, rfl, hgp, hx, hgo, hgr⟩
  have h2 := GoS.step Hinv.out hgo hgr
  have ha := (Below.refl w2.heap.size w2).alloc (Nat.le_refl _) (.cells #[.slice x.A x.n x.c] 24)
  have HB := hid (below_step h2.go.2.1 ha)
  have HS := hid (h2.shp.keep (ha.block 0 h2.shp.pos0))
  have HX := hid (PHok.below hx ha)
  have HG := hid (Fb.new w2 #[.slice x.A x.n x.c] 24)
  have hlx : x.p.length = x.l.length := by simp [PH.p]
  have hL : listN x.p = pre1 x.p x.p.length := by
    unfold listN pre1
    have e : checkP x.p = ((0, 0, 0, 0), 0) := gen_check hgp
    rw [e]
    rfl
  have HLl := hid hL
  have Hlen := hid (hlx.trans hx.len)
  clear h2 ha hx hgo hgr hgp hL Hinv hlx
  simp only
  have hb0 := HG.out.onec
  go_wp2_with fail
  clear hb0
  generalize hGd : w2.heap.size = G at HG ⊢
  clear hGd
  generalize w2.alloc (.cells #[.slice x.A x.n x.c] 24) = w3 at HB HS HX HG ⊢
  refine (list_any x [] _ HX.out HS.out).mono ?_
  rintro e w4 ⟨A, c, rfl, hE, hfew, hb4⟩
  have HW := hid (show NW w G x A (listN x.p) w4 from ⟨below_step HB.out hb4, HS.out.keep (hb4.block 0 HS.out.pos0), PHok.below HX.out hb4, HG.out.below hb4 HG.out.lt, hE [] (by simp)⟩)
  clear hE hb4 HB HS HX HG
  generalize hLn : listN x.p = L at *
  have HLn := hid hLn
  clear hLn
  have Hp1 := hid (show (pre1 x.p x.p.length).length = L.length by rw [← HLl.out])
  generalize hlen : L.length = ln at *
  have Hln := hid hlen
  clear hlen
  go_wp2_with fail
  go_loopw [5, 6] (fun av iv wr => ∃ k a : Nat, k ≤ x.n ∧ av = .int .i64 a ∧ iv = .int .i64 k ∧ Hid (a = (pre1 x.p k).length) ∧ Hid (NW w G x A L wr)) (fun _ iv _ => x.n - (intOf iv).toNat)
  case atStart => exact ⟨0, 0, by omega, rfl, rfl, hid rfl, HW.out⟩
  case round =>
    clear HW
    obtain ⟨k, a, hk, rfl, rfl, hA, hW⟩ := hrel
    by_cases hlt : k < x.n
    · obtain ⟨y, hy, hym⟩ := get_at hW.out.prog.len hlt
      have Hy1 := hid (show x.p[k]? = some y.f by unfold PH.p; rw [List.getElem?_map, hy]; rfl)
      have Hyl := hid (show y.l.length = y.n from (hW.out.prog.all y hym).len)
      have Hyb := hid (show y.f.bs.length = y.n by show (y.l.map BH.b).length = y.n; rw [List.length_map]; exact (hW.out.prog.all y hym).len)
      have Hyg := hid (fun (j : Nat) (z : BH) (hz : y.l[j]? = some z) => show y.f.bs[j]? = some z.b by show (y.l.map BH.b)[j]? = _; rw [List.getElem?_map, hz]; rfl)
      have Hya := hid (fun (v : World) (h : NW w G x A L v) => And.intro (FH.cells h.prog.lies hy) (h.prog.all y hym))
      have hyn : y.n ≤ 40 := (hW.out.prog.all y hym).few
      have hal : a + 1 < 1000000 := by
        have h1 := (range_pre (f := ndFs x.p) (show k ≤ x.p.length by have := Hlen.out; omega)).length_le
        have h2 := hA.out
        have h3 := Hp1.out
        unfold pre1 at h2 h3
        omega
      clear hy hym
      obtain hp0 := hW.out.ptr.onec
      obtain ⟨⟨ad, hAd, had, hc1, hc2⟩, -⟩ := Hya.out _ hW.out
      rw [hAd] at hp0
      have HAd := hid hAd
      clear hAd
      go_wp2_with fail
      clear hp0 hc1 hc2 had
      go_loopw [5, 7] (fun av iv wr => ∃ b a2 : Nat, b ≤ y.n ∧ av = .int .i64 a2 ∧ iv = .int .i64 b ∧ Hid (a2 = (pre2 x.p k y.f.bs b).length) ∧ Hid (NW w G x A L wr)) (fun _ iv _ => y.n - (intOf iv).toNat)
      case atStart => exact ⟨0, a + 1, by omega, by go_num, rfl, hid (by rw [pre2_zero, hA.out]), hW.out⟩
      case round =>
        clear hW
        obtain ⟨b, a2, hb, rfl, rfl, hA2, hW⟩ := hrel
        obtain hp0 := hW.out.ptr.onec
        obtain ⟨⟨ad', hAd', had, hc1, hc2⟩, hyok⟩ := Hya.out _ hW.out
        obtain rfl : ad = ad' := Option.some.inj (HAd.out.symm.trans hAd')
        rw [HAd.out] at hp0
        clear hAd'
        have hadl : (ad.add (k * 2)).block < wr.heap.size := by rw [add_block]; exact had
        by_cases hlt2 : b < y.n
        · obtain ⟨z, hz, hzm⟩ := get_at Hyl.out hlt2
          have Hz1 := hid (Hyg.out b z hz)
          have Hzl := hid (show z.l.length = z.n from (hyok.all z hzm).len)
          have Hzb := hid (show z.b.ss.length = z.n by show (z.l.map SH.t).length = z.n; rw [List.length_map]; exact (hyok.all z hzm).len)
          have Hzg := hid (fun (j : Nat) (s : SH) (hs : z.l[j]? = some s) => show z.b.ss[j]? = some s.t by show (z.l.map SH.t)[j]? = _; rw [List.getElem?_map, hs]; rfl)
          have Hza := hid (fun (v : World) (h : NW w G x A L v) => And.intro (BH.cells (Hya.out _ h).2.lies hz) ((Hya.out _ h).2.all z hzm))
          have hzn : z.n ≤ 40 := (hyok.all z hzm).few
          obtain ⟨⟨ad2, hAd2, had2, hd1, hd2⟩, -⟩ := Hza.out _ hW.out
          have had2l : (ad2.add (b * 2)).block < wr.heap.size := by rw [add_block]; exact had2
          rw [hAd2] at hc2
          clear hz hzm hyok hAd2
          go_wp2_with fail
          clear hp0 hc1 hc2 had hadl had2 had2l hd1 hd2
          go_loopw [5, 9] (fun av iv wr => ∃ i a3 : Nat, i ≤ z.n ∧ av = .int .i64 a3 ∧ iv = .int .i64 i ∧ Hid (a3 = (pre3 x.p k y.f.bs b z.b.ss i).length) ∧ Hid (NW w G x A L wr)) (fun _ iv _ => z.n - (intOf iv).toNat)
          case atStart => exact ⟨0, a2, by omega, rfl, rfl, hid (by rw [pre3_zero, hA2.out]), hW.out⟩
          case round =>
            clear hW
            obtain ⟨i, a3, hi, rfl, rfl, hA3, hW⟩ := hrel
            by_cases hlt3 : i < z.n
            · obtain ⟨s, hs, hsm⟩ := get_at Hzl.out hlt3
              have Hs1 := hid (Hzg.out i s hs)
              have Hsa := hid (fun (v : World) (h : NW w G x A L v) => And.intro (SH.cells (Hza.out _ h).2.lies hs) ((Hza.out _ h).2.all s hsm))
              obtain ⟨⟨ad3, hAd3, -⟩, -⟩ := Hsa.out _ hW.out
              have HAd3 := hid hAd3
              rw [hAd3]
              clear hs hsm hAd3
              have Hnd := hid (fun (q : Nat) (h : q < (ndS k b i s.t).length) => ndS_kind h)
              have Hno := hid (fun (q : Nat) (nd : Nd) (h : (ndS k b i s.t)[q]? = some nd) => node_at Hy1.out Hz1.out Hs1.out h)
              have Hyes := hid (fun h => ndS_len_yes (f := k) (b := b) (j := i) (t := s.t) h)
              have Hnot := hid (fun h => ndS_len_no (f := k) (b := b) (j := i) (t := s.t) h)
              have Hnx := hid (show (pre3 x.p k y.f.bs b z.b.ss (i + 1)).length = (pre3 x.p k y.f.bs b z.b.ss i).length + (ndS k b i s.t).length by rw [pre3_succ Hs1.out, List.length_append])
              generalize hmm : (ndS k b i s.t).length = m at *
              have hm2 : m ≤ 2 := by
                cases ho : (s.t.op == 3) with
                | true => have := Hyes.out ho; omega
                | false => have := Hnot.out ho; omega
              have Hmm := hid hmm
              clear hmm
              go_wp2_with fail
              go_loopw [5, 10] (fun av iv wr => ∃ q a4 : Nat, q ≤ m ∧ av = .int .i64 a4 ∧ iv = .int .i64 q ∧ Hid (a4 = a3 + q) ∧ Hid (NW w G x A L wr)) (fun _ iv _ => m - (intOf iv).toNat)
              case atStart => exact ⟨0, a3, by omega, rfl, rfl, hid rfl, hW.out⟩
              case round =>
                clear hW
                obtain ⟨q, a4, hq, rfl, rfl, hA4, hW⟩ := hrel
                obtain ⟨⟨ad3', hAd3', had3, he1, he2, he3, he4⟩, hsok⟩ := Hsa.out _ hW.out
                obtain rfl : ad3 = ad3' := Option.some.inj (HAd3.out.symm.trans hAd3')
                clear hAd3'
                have had3l : (ad3.add (i * 4)).block < wr.heap.size := by rw [add_block]; exact had3
                go_upto_region 16 with fail
                go_cut [67] (fun v wc => v = .bool (decide (q < m)) ∧ Hid (wr = wc))
                case first =>
                  cases ho : (s.t.op == 3) with
                  | true =>
                    obtain rfl : m = 2 := Hyes.out ho
                    rcases (show q = 0 ∨ q = 1 ∨ q = 2 by omega) with rfl | rfl | rfl
                    all_goals
                      go_wp2_with fail
                      go_meet
                      exact ⟨rfl, hid rfl⟩
                  | false =>
                    obtain rfl : m = 1 := Hnot.out ho
                    rcases (show q = 0 ∨ q = 1 by omega) with rfl | rfl
                    all_goals
                      go_wp2_with fail
                      go_meet
                      exact ⟨rfl, hid rfl⟩
                case rest =>
                  obtain ⟨rfl, hwc⟩ := hcut
                  have hwc2 := hwc.out
                  clear hwc
                  subst hwc2
                  by_cases hlt4 : q < m
                  · obtain ⟨kd, hk1, hk2, hk3⟩ := Hnd.out q hlt4
                    have hat := Hno.out q _ hk1
                    have hLa : L[a4]? = some ⟨kd, k, b, i⟩ := by
                      have e : a4 = (pre3 x.p k y.f.bs b z.b.ss i).length + q := by rw [hA4.out, hA3.out]
                      rw [HLl.out, e]; exact hat
                    obtain ⟨jj, hfind⟩ := find_has hLa
                    have HCl := hid (fun (v : World) (h : Below wr.heap.size wr v) => stmtN_any x kd k b i y.f z.b s.t [] v (hW.out.below h).prog (hW.out.below h).shp Hy1.out Hz1.out Hs1.out hk2 hk3 jj (by rw [HLn.out]; exact hfind))
                    have hltn : a4 < ln := by rw [← Hln.out]; exact (List.getElem?_eq_some_iff.1 hLa).1
                    obtain ⟨ad4, hA4', had4, hf1, hf2, hf3, hf4⟩ := Nd.cells hW.out.nds hLa
                    rw [hA4']
                    have had4l : (ad4.add (a4 * 4)).block < wr.heap.size := by rw [add_block]; exact had4
                    simp only at hf1 hf2 hf3 hf4
                    have hp0 := hW.out.ptr.onec
                    have hGl := hW.out.ptr.lt
                    have HK := hid (show ∀ v, Below wr.heap.size wr v → (v.cell? ⟨G, 0, none⟩ = some (.slice x.A x.n x.c)) ∧ (v.cell? (ad4.add (a4 * 4)) = some (.int .i64 kd) ∧ v.cell? ⟨(ad4.add (a4 * 4)).block, (ad4.add (a4 * 4)).off + 1, none⟩ = some (.int .i64 k) ∧ v.cell? ⟨(ad4.add (a4 * 4)).block, (ad4.add (a4 * 4)).off + 2, none⟩ = some (.int .i64 b) ∧ v.cell? ⟨(ad4.add (a4 * 4)).block, (ad4.add (a4 * 4)).off + 3, none⟩ = some (.int .i64 i)) from
                      fun v h => ⟨(h.cell (p := ⟨G, 0, none⟩) hGl).trans hp0, (h.cell had4l).trans hf1, (h.cell (p := ⟨(ad4.add (a4 * 4)).block, (ad4.add (a4 * 4)).off + 1, none⟩) had4l).trans hf2, (h.cell (p := ⟨(ad4.add (a4 * 4)).block, (ad4.add (a4 * 4)).off + 2, none⟩) had4l).trans hf3, (h.cell (p := ⟨(ad4.add (a4 * 4)).block, (ad4.add (a4 * 4)).off + 3, none⟩) had4l).trans hf4⟩)
                    have Hwc := hid hW.out
                    have HA4 := hid hA4'
                    clear hat hLa hfind hk1 hk2 hk3 hW had4 hA4' he1 he2 he3 he4 had3l had3 hsok
                    go_upto_region 20 with fail
                    go_cut [11, 12] (fun pv ov wd => ov = .bool true ∧ ∃ (g : Nat) (A1 : Option Addr) (n1 c1 : Nat) (B1 : Option Addr) (m1 d1 : Nat), pv = .pointer (some ⟨g, 0, none⟩) ∧ Hid (Fb wd g #[.int .i64 s.t.op, .string s.t.d, .slice A1 n1 c1, .slice B1 m1 d1] 57 ∧ StArg wd s.t.op s.t.d A1 n1 B1 m1 s.t ∧ Below wr.heap.size wr wd))
                    case first =>
                      have HZ0 := hid (And.intro (Fb.drewN (Fb.new wr #[.int .i64 0, .string ⟨#[]⟩, .slice none 0 0, .slice none 0 0] 57) 1) (below_drewN ((Below.refl wr.heap.size wr).alloc (Nat.le_refl _) (.cells #[.int .i64 0, .string ⟨#[]⟩, .slice none 0 0, .slice none 0 0] 57)) 1))
                      have HD0 := hid ((Below.refl wr.heap.size wr).drew)
                      go_region_law (
                        (go_simp
                         go_at_call 20
                         first
                         | (refine (HCl.out _ HZ0.out.2).mono ?_
                            rintro e wm ⟨A1, n1, c1, B1, m1, d1, rfl, hst, hbk, hoA, hoB⟩
                            have hz := HZ0.out.1.below hbk HZ0.out.1.lt
                            have HZ := hid hz
                            have HU := hid (show SLk (wr.heap.size + 1) wm A1 n1 s.t.us from ⟨hst.uses, fun ad e => by have := hoA ad e; have := HZ0.out.1.lt; omega⟩)
                            have HT := hid (show SLk (wr.heap.size + 1) wm B1 m1 s.t.ts from ⟨hst.targets, fun ad e => by have := hoB ad e; have := HZ0.out.1.lt; omega⟩)
                            have HSm := hid hst.small
                            have HBm := hid (below_step HZ0.out.2 hbk)
                            obtain ⟨y0, y1, y2, y3⟩ := Fb.four hz
                            have z0 := hz.frozen 0
                            have z1 := hz.frozen 1
                            have z2 := hz.frozen 2
                            have z3 := hz.frozen 3
                            have hzl := hz.lt
                            clear hst hbk hoA hoB hz)
                         | (refine (HCl.out _ HD0.out).mono ?_
                            rintro e wm ⟨A1, n1, c1, B1, m1, d1, rfl, hst, hbk, hoA, hoB⟩
                            have ha := (Below.refl wm.heap.size wm).alloc (Nat.le_refl _) (.cells #[.int .i64 s.t.op, .string s.t.d, .slice A1 n1 c1, .slice B1 m1 d1] 57)
                            have HR := hid (And.intro (Fb.new wm #[.int .i64 s.t.op, .string s.t.d, .slice A1 n1 c1, .slice B1 m1 d1] 57) (And.intro (show StArg (wm.alloc (.cells #[.int .i64 s.t.op, .string s.t.d, .slice A1 n1 c1, .slice B1 m1 d1] 57)) s.t.op s.t.d A1 n1 B1 m1 s.t from ⟨hst.uses.below ha, hst.targets.below ha, rfl, rfl, hst.small⟩) (below_step (below_step HD0.out hbk) ha)))
                            clear hst hbk hoA hoB ha)))
                      all_goals first
                      | (clear HZ0 HD0 HK HCl Hwc
                         have HR2 := hid HR.out
                         clear HR
                         go_wp2_with fail
                         go_meet
                         exact ⟨rfl, _, _, _, _, _, _, _, rfl, HR2⟩)
                      | (have HQ := hid (show Fb ((((wm.setCell ⟨wr.heap.size, 0, none⟩ (.int .i64 s.t.op)).setCell ⟨wr.heap.size, 1, none⟩ (.string s.t.d)).setCell ⟨wr.heap.size, 2, none⟩ (.slice A1 n1 c1)).setCell ⟨wr.heap.size, 3, none⟩ (.slice B1 m1 d1)) wr.heap.size #[.int .i64 s.t.op, .string s.t.d, .slice A1 n1 c1, .slice B1 m1 d1] 57 ∧ StArg ((((wm.setCell ⟨wr.heap.size, 0, none⟩ (.int .i64 s.t.op)).setCell ⟨wr.heap.size, 1, none⟩ (.string s.t.d)).setCell ⟨wr.heap.size, 2, none⟩ (.slice A1 n1 c1)).setCell ⟨wr.heap.size, 3, none⟩ (.slice B1 m1 d1)) s.t.op s.t.d A1 n1 B1 m1 s.t ∧ Below wr.heap.size wr ((((wm.setCell ⟨wr.heap.size, 0, none⟩ (.int .i64 s.t.op)).setCell ⟨wr.heap.size, 1, none⟩ (.string s.t.d)).setCell ⟨wr.heap.size, 2, none⟩ (.slice A1 n1 c1)).setCell ⟨wr.heap.size, 3, none⟩ (.slice B1 m1 d1)) from by
                          have hgr : wm.grownBy ((((wm.setCell ⟨wr.heap.size, 0, none⟩ (.int .i64 s.t.op)).setCell ⟨wr.heap.size, 1, none⟩ (.string s.t.d)).setCell ⟨wr.heap.size, 2, none⟩ (.slice A1 n1 c1)).setCell ⟨wr.heap.size, 3, none⟩ (.slice B1 m1 d1)) (some wr.heap.size) :=
                            grown_trans (grown_trans (grown_trans (setCell_grown wm ⟨wr.heap.size, 0, none⟩ _) (setCell_grown _ ⟨wr.heap.size, 1, none⟩ _)) (setCell_grown _ ⟨wr.heap.size, 2, none⟩ _)) (setCell_grown _ ⟨wr.heap.size, 3, none⟩ _)
                          exact ⟨(((HZ.out.set 0 _).set 1 _).set 2 _).set 3 _, ⟨(HU.out.grown (Nat.lt_succ_self _) hgr).arg, (HT.out.grown (Nat.lt_succ_self _) hgr).arg, rfl, rfl, HSm.out⟩, HBm.out.grown hgr HBm.out.size (fun k hk => by injection hk with hk; omega)⟩)
                         clear HZ HU HT HSm HBm HZ0 HD0 HK HCl Hwc y0 y1 y2 y3 z0 z1 z2 z3 hzl
                         go_wp2_with fail
                         go_meet
                         exact ⟨rfl, _, _, _, _, _, _, _, rfl, HQ⟩)
                    case rest =>
                      obtain ⟨rfl, g, A1, n1, c1, B1, m1, d1, rfl, HQ⟩ := hcut
                      have HW2 := hid (Hwc.out.below HQ.out.2.2)
                      obtain ⟨⟨ad3', hAd3', had3, he1, he2, he3, he4⟩, hsok⟩ := Hsa.out _ HW2.out
                      obtain rfl : ad3 = ad3' := Option.some.inj (HAd3.out.symm.trans hAd3')
                      clear hAd3'
                      have had3l : (ad3.add (i * 4)).block < wc.heap.size := by rw [add_block]; exact had3
                      obtain ⟨y0, y1, y2, y3⟩ := Fb.four HQ.out.1
                      have hgl := HQ.out.1.lt
                      have HL1 := hid (fun (v : World) (h : Below wc.heap.size wc v) => line_any s.t.op s.t.d A1 n1 c1 B1 m1 d1 s.t v ⟨HQ.out.2.1.uses.below h, HQ.out.2.1.targets.below h, rfl, rfl, HQ.out.2.1.small⟩)
                      have HL2 := hid (fun (v : World) (h : Below wc.heap.size wc v) => line_any s.t.op s.t.d s.A s.n s.c s.B s.m s.c2 s.t v (Hsa.out _ (HW2.out.below h)).2.arg)
                      have HK2 := hid (show ∀ v, Below wc.heap.size wc v → Below wc.heap.size wc v ∧ (v.cell? ⟨g, 0, none⟩ = some (.int .i64 s.t.op) ∧ v.cell? ⟨g, 1, none⟩ = some (.string s.t.d) ∧ v.cell? ⟨g, 2, none⟩ = some (.slice A1 n1 c1) ∧ v.cell? ⟨g, 3, none⟩ = some (.slice B1 m1 d1)) ∧ (v.cell? (ad3.add (i * 4)) = some (.int .i64 s.t.op) ∧ v.cell? ⟨(ad3.add (i * 4)).block, (ad3.add (i * 4)).off + 1, none⟩ = some (.string s.t.d) ∧ v.cell? ⟨(ad3.add (i * 4)).block, (ad3.add (i * 4)).off + 2, none⟩ = some (.slice s.A s.n s.c) ∧ v.cell? ⟨(ad3.add (i * 4)).block, (ad3.add (i * 4)).off + 3, none⟩ = some (.slice s.B s.m s.c2)) from
                        fun v h => ⟨h, ⟨(h.cell (p := ⟨g, 0, none⟩) hgl).trans y0, (h.cell (p := ⟨g, 1, none⟩) hgl).trans y1, (h.cell (p := ⟨g, 2, none⟩) hgl).trans y2, (h.cell (p := ⟨g, 3, none⟩) hgl).trans y3⟩, ⟨(h.cell had3l).trans he1, (h.cell (p := ⟨(ad3.add (i * 4)).block, (ad3.add (i * 4)).off + 1, none⟩) had3l).trans he2, (h.cell (p := ⟨(ad3.add (i * 4)).block, (ad3.add (i * 4)).off + 2, none⟩) had3l).trans he3, (h.cell (p := ⟨(ad3.add (i * 4)).block, (ad3.add (i * 4)).off + 3, none⟩) had3l).trans he4⟩⟩)
                      clear hsok had3 HK HCl Hwc HQ had4l hf1 hf2 hf3 hf4 hp0 hGl
                      clear Hsa
                      generalize lineP s.t = ll at HL1 HL2
                      generalize s.A = sA at HL2 HK2 he3
                      go_upto_region 21 with fail
                      go_cut [94] (fun v wd => v = .bool false ∧ Hid (Below wc.heap.size wc wd))
                      case first =>
                        have hcur : Below wc.heap.size wc wc.drew := (Below.refl _ _).drew
                        go_region_law (
                          (go_simp
                           first
                           | (go_at_call_of 21 A1
                              refine (HL1.out _ hcur).mono ?_
                              rintro e wn ⟨rfl, hbk⟩
                              have hcur := below_step hcur hbk
                              obtain ⟨-, ⟨y0, y1, y2, y3⟩, ⟨he1, he2, he3, he4⟩⟩ := HK2.out _ hcur
                              clear hbk)
                           | (go_at_call_of 21 sA
                              refine (HL2.out _ hcur).mono ?_
                              rintro e wm ⟨rfl, hbk⟩
                              have hcur := below_step hcur hbk
                              obtain ⟨-, ⟨y0, y1, y2, y3⟩, ⟨he1, he2, he3, he4⟩⟩ := HK2.out _ hcur
                              clear hbk)))
                        all_goals
                          have HF := hid hcur
                          clear hcur HK2 HL1 HL2 y0 y1 y2 y3 he1 he2 he3 he4
                          go_wp2_with fail
                          go_meet
                          exact ⟨rfl, HF⟩
                      case rest =>
                        obtain ⟨rfl, HC⟩ := hcut
                        have HW3 := hid (HW2.out.below HC.out)
                        rw [← HA4.out]
                        go_wp2_with fail
                        go_roundw
                        case rel => exact ⟨q + 1, a4 + 1, by omega, by go_num, by go_num, hid (by have := hA4.out; omega), HW3⟩
                        case measure => simp [intOf]; omega
                  · obtain rfl : q = m := by omega
                    have Hd := hid (show a4 = (pre3 x.p k y.f.bs b z.b.ss (i + 1)).length by rw [hA4.out, Hnx.out, hA3.out])
                    go_wp2_with fail
                    go_roundw
                    case rel => exact ⟨i + 1, a4, by omega, rfl, by go_num, Hd, hW⟩
                    case measure => simp [intOf]; omega
            · as_aux_lemma =>
                obtain rfl : i = z.n := by omega
                have Hd := hid (show a3 = (pre2 x.p k y.f.bs (b + 1)).length by rw [hA3.out, ← pre3_all Hz1.out, Hzb.out])
                go_wp2_with fail
                go_roundw
                case rel => exact ⟨b + 1, a3, by omega, rfl, by go_num, Hd, hW⟩
                case measure => simp [intOf]; omega
        · obtain rfl : b = y.n := by omega
          have Hd := hid (show a2 + 1 = (pre1 x.p (k + 1)).length by rw [← pre2_all Hy1.out, List.length_append, Hyb.out, hA2.out]; rfl)
          have hxn : x.n ≤ 40 := hW.out.prog.few
          have ha2 : a2 < 1000000 := by
            have h1 := (range_pre (f := ndFs x.p) (show k + 1 ≤ x.p.length by have := Hlen.out; omega)).length_le
            have h2 := Hd.out
            have h3 := Hp1.out
            unfold pre1 at h2 h3
            omega
          as_aux_lemma =>
            go_wp2_with fail
            go_roundw
            case rel => exact ⟨k + 1, a2 + 1, by omega, by go_num, by go_num, Hd, hW⟩
            case measure => simp [intOf]; omega
    · obtain rfl : k = x.n := by omega
      have hfin : a = ln := by rw [hA.out, ← Hp1.out, Hlen.out]
      rw [hfin]
      have hp0 := hW.out.ptr.onec
      as_aux_lemma =>
        go_wp2_with fail
        refine (sane7_any _ hW.out.shp).mono ?_
        rintro e w5 ⟨rfl, hb5⟩
        have HB5 := hid (below_step hW.out.bel hb5)
        clear hb5 hp0 hW
        go_wp2
        go_ret
        exact ⟨rfl, HB5.out⟩
end Go.Proofs.YtcgichfanfijjaaDoor

namespace Go.Proofs.YtcgichfanfijjaaDoor
set_option maxRecDepth 10000
open Go.ChangeShapes Go.WideShapes Go.ChangeAt Go.RowKit Go.Joins

theorem cells3 : Tryd.prog.cellsOf 3 = 1 := by kernel_rfl
theorem cell_in {w : World} {a : Addr} {v : Value} (h : w.cell? a = some v) : a.block < w.heap.size := by
  rcases Nat.lt_or_ge a.block w.heap.size with hlt | hge
  · exact hlt
  · unfold World.cell? at h; rw [Array.getElem?_eq_none hge] at h; cases h

theorem wf_u64 {z : Int} (h : (Lit.int .u64 z).wf = true) : 0 ≤ z ∧ z ≤ 18446744073709551615 := by
  have m0 : IntKind.u64.min = 0 := by decide
  have m1 : IntKind.u64.max = 18446744073709551615 := by decide
  simp [Lit.wf] at h
  omega
theorem open_list {H : Type} {enc : TypeId × Value → H} {W : World} {b0 base : Nat} {spare : Nat → Bool} {held : Bool} {v : Value} {d : DataW H} {p : List MemPlace}
    (hv : Value.okWide Tryd.prog W .any b0 35 v) (h : DataW.Trod enc Tryd.prog W base spare held 35 v d p) :
    ∃ (A : Option Addr) (n c : Nat) (l : List Int), v = .slice A n c ∧ IArg W A n l ∧ n ≤ maxLen := by
  obtain ⟨A, n, c, rfl⟩ := okWide_slice Tryd.underlying35 hv
  obtain ⟨fuel, hf⟩ := h
  rcases open_ints Tryd.underlying35 Tryd.underlying3 cells3 hf with ⟨hcs, _⟩ | ⟨x, l, c', zs, hcs, _, hl, hm, hz, _, hcell, hwz⟩
  · simp [Value.cells] at hcs
    obtain ⟨rfl, rfl, rfl⟩ := hcs
    exact ⟨none, 0, 0, [], rfl, ⟨.inl rfl, rfl⟩, by simp [maxLen]⟩
  · simp [Value.cells] at hcs
    obtain ⟨rfl, rfl, rfl⟩ := hcs
    have hle : n ≤ zs.length := by rw [hz]; split <;> omega
    refine ⟨some x, n, c, zs.take n, rfl, ⟨?_, by rw [List.length_take]; omega⟩, Nat.le_trans hl hm⟩
    by_cases h0 : n = 0
    · subst h0; exact .inl rfl
    · refine .inr ⟨x, rfl, ?_, fun j u hu => ?_⟩
      · have := cell_in (hcell 0 (by omega)); rwa [add_block] at this
      · unfold ints at hu
        rw [List.getElem?_map] at hu
        have hj : j < n := by
          rcases Nat.lt_or_ge j n with h | h
          · exact h
          · rw [List.getElem?_eq_none (by rw [List.length_take]; omega)] at hu; simp at hu
        rw [List.getElem?_take, if_pos hj, List.getElem?_eq_getElem (by omega)] at hu
        have := hcell j (by omega)
        rw [List.getD_eq_getElem?_getD, List.getElem?_eq_getElem (by omega)] at this
        rw [this]; simpa using hu

end Go.Proofs.YtcgichfanfijjaaDoor

namespace Go.Proofs.YtcgichfanfijjaaDoor
set_option maxRecDepth 100000
set_option linter.unusedVariables false
open Go.ChangeShapes Go.WideShapes Go.ChangeAt Go.RowKit

theorem own : ownKnob Tryd.prog.godebug = none := by kernel_rfl
theorem laidOut : laidOutB Tryd.prog = true := by kernel_rfl
theorem gShp : Tryd.prog.globalNamed "flowquery/syntax.shapes" = some 0 := by kernel_rfl
theorem gShpType : (Tryd.prog.globals[0]?).map (·.type) = some 182 := by kernel_rfl
theorem undArr : Tryd.prog.underlying 182 = some (.array 10 181) := by kernel_rfl
theorem undShape : ∃ fs : Array Field, Tryd.prog.underlying 181 = some (.struct fs) ∧ (fs.toList.map fun f => (f.type, f.offset)) = [(9, 0), (4, 1), (3, 2), (3, 3), (3, 4)] := by
  have h : (match Tryd.prog.underlying 181 with | some (.struct fs) => some (fs.toList.map fun f => (f.type, f.offset)) | _ => none) = some [(9, 0), (4, 1), (3, 2), (3, 3), (3, 4)] := by kernel_rfl
  split at h
  · next fs e => exact ⟨fs, e, Option.some.inj h⟩
  · cases h
theorem cArr : Tryd.prog.cellsOf 182 = 50 := by kernel_rfl
theorem cShape : Tryd.prog.cellsOf 181 = 5 := by kernel_rfl
theorem cStr : Tryd.prog.cellsOf 9 = 1 := by kernel_rfl
theorem cBool : Tryd.prog.cellsOf 4 = 1 := by kernel_rfl
theorem cInt : Tryd.prog.cellsOf 3 = 1 := by kernel_rfl
abbrev Sh := List UInt8 × Bool × Int × Int × Int
def dataSh (t : Sh) : DataW Unit := .agg [.lit (.string t.1), .lit (.bool t.2.1), .lit (.int .i64 t.2.2.1), .lit (.int .i64 t.2.2.2.1), .lit (.int .i64 t.2.2.2.2)]
def cellsSh (t : Sh) : List Value := [.string ⟨t.1.toArray⟩, .bool t.2.1, .int .i64 t.2.2.1, .int .i64 t.2.2.2.1, .int .i64 t.2.2.2.2]
def shpT : List Sh := [([], false, 0, 0, 0), ([], true, 0, 4, 0), ([117, 115, 101], false, 1, 4, 0), ([99, 97, 108, 108], false, 0, 0, 1), ([115, 111, 117, 114, 99, 101], true, 0, 0, 0), ([115, 105, 110, 107], false, 1, 1, 0), ([115, 97, 110, 105, 116, 105, 122, 101], true, 0, 0, 0), ([103, 111, 116, 111], false, 0, 0, 1), ([98, 114, 97, 110, 99, 104], false, 1, 1, 2), ([114, 101, 116, 117, 114, 110], false, 0, 0, 0)]
theorem shp_data : (Rows.laid_flowquery_syntax_shapes : DataW Unit) = .agg (shpT.map dataSh) := by kernel_rfl
theorem shp_cells : shpCells = shpT.flatMap cellsSh := by rfl
theorem one_of_drop {cs : List Value} {i : Nat} {v : Value} (h : (cs.drop i).take 1 = [v]) : cs[i]? = some v := by
  have := congrArg (·[0]?) h
  simpa [List.getElem?_take, List.getElem?_drop] using this
theorem shape_of {enc : TypeId × Value → Unit} {w : World} {base : Nat} {sp : Nat → Bool} {held : Bool} {fuel : Nat} {cs : List Value} {t : Sh} {p : List MemPlace}
    (h : DataW.trod enc Tryd.prog w base sp held fuel 181 cs = some (dataSh t, p)) : cs = cellsSh t := by
  obtain ⟨fs, hu, hfs⟩ := undShape
  obtain ⟨xs, n, -, hx, hl, hxl, hf⟩ := DataW.trod_struct hu h
  rw [cShape] at hl
  have hxs : xs.map (·.1) = [.lit (.string t.1), .lit (.bool t.2.1), .lit (.int .i64 t.2.2.1), .lit (.int .i64 t.2.2.2.1), .lit (.int .i64 t.2.2.2.2)] := by
    have := congrArg Prod.fst hx
    unfold dataSh at this
    simpa using this.symm
  have key : ∀ (i : Nat) (ty off : Nat), [((9 : Nat), 0), (4, 1), (3, 2), (3, 3), (3, 4)][i]? = some (ty, off) → Tryd.prog.cellsOf ty = 1 → ∀ d, (xs.map (·.1))[i]? = some d →
      ∃ q, DataW.trod enc Tryd.prog w base sp held n ty ((cs.drop off).take 1) = some (d, q) := by
    intro i ty off hi hc d hd
    have h1 := congrArg (·[i]?) hfs
    try simp only at h1
    rw [hi, List.getElem?_map] at h1
    obtain ⟨f, hf1, hf2⟩ := Option.map_eq_some_iff.1 h1
    injection hf2 with e1 e2
    have h2 := hf i f (by simpa using hf1)
    rw [e1, e2, hc] at h2
    rw [List.getElem?_map] at hd
    obtain ⟨x, hx1, hx2⟩ := Option.map_eq_some_iff.1 hd
    rw [hx1] at h2
    subst hx2
    exact ⟨x.2, h2⟩
  obtain ⟨q0, k0⟩ := key 0 9 0 rfl cStr _ (by rw [hxs]; rfl)
  obtain ⟨q1, k1⟩ := key 1 4 1 rfl cBool _ (by rw [hxs]; rfl)
  obtain ⟨q2, k2⟩ := key 2 3 2 rfl cInt _ (by rw [hxs]; rfl)
  obtain ⟨q3, k3⟩ := key 3 3 3 rfl cInt _ (by rw [hxs]; rfl)
  obtain ⟨q4, k4⟩ := key 4 3 4 rfl cInt _ (by rw [hxs]; rfl)
  obtain ⟨s, c0, d0, -⟩ := DataW.trod_string Tryd.underlying9 k0
  obtain ⟨bb, c1, d1⟩ := DataW.trod_bool Tryd.underlying4 k1
  obtain ⟨z2, c2, d2, -⟩ := DataW.trod_int Tryd.underlying3 k2
  obtain ⟨z3, c3, d3, -⟩ := DataW.trod_int Tryd.underlying3 k3
  obtain ⟨z4, c4, d4, -⟩ := DataW.trod_int Tryd.underlying3 k4
  have g0 := one_of_drop c0
  have g1 := one_of_drop c1
  have g2 := one_of_drop c2
  have g3 := one_of_drop c3
  have g4 := one_of_drop c4
  simp only [Prod.mk.injEq, DataW.lit.injEq, Lit.string.injEq, Lit.bool.injEq, Lit.int.injEq, true_and] at d0 d1 d2 d3 d4
  have es : s = ⟨t.1.toArray⟩ := ext_list (by simpa using d0.1.symm)
  have hc : cellsSh t = [.string s, .bool bb, .int .i64 z2, .int .i64 z3, .int .i64 z4] := by
    unfold cellsSh
    rw [es, d1.1, d2.1, d3.1, d4.1]
  rw [hc]
  apply List.ext_getElem?
  intro i
  match i with
  | 0 => exact g0
  | 1 => exact g1
  | 2 => exact g2
  | 3 => exact g3
  | 4 => exact g4
  | i + 5 => rw [List.getElem?_eq_none (by omega), List.getElem?_eq_none (by simp)]
theorem cells_of_shp {enc : TypeId × Value → Unit} {w : World} {base : Nat} {sp : Nat → Bool} {held : Bool} {fuel : Nat} {cs : List Value} {p : List MemPlace}
    (h : DataW.trod enc Tryd.prog w base sp held fuel 182 cs = some (.agg (shpT.map dataSh), p)) : cs = shpT.flatMap cellsSh := by
  cases fuel with
  | zero => simp [DataW.trod] at h
  | succ fuel =>
    unfold DataW.trod at h
    rw [undArr] at h
    try simp only at h
    rw [cShape, cArr] at h
    split at h
    · rename_i hl
      obtain ⟨xs, hm, hx⟩ := Option.map_eq_some_iff.1 h
      have hxs : xs.map (·.1) = shpT.map dataSh := by
        have := congrArg Prod.fst hx
        simpa using this
      have hlen : (shpT.flatMap cellsSh).length = 50 := by rw [flat_len (k := 5) (fun _ => rfl)]; rfl
      apply List.ext_getElem?
      intro j
      by_cases hj : j < 50
      · have hi : j / 5 < 10 := by omega
        obtain ⟨b, hb, hf⟩ := Lib.mapM_at hm (j / 5) (j / 5) (by simp [hi])
        have h1 := congrArg (·[j / 5]?) hxs
        simp only [List.getElem?_map, hb, Option.map_some] at h1
        have hti : shpT[j / 5]? = some (shpT[j / 5]'(by show j / 5 < 10; exact hi)) := List.getElem?_eq_getElem _
        rw [hti] at h1
        simp only [Option.map_some, Option.some.injEq] at h1
        obtain ⟨b1, b2⟩ := b
        try simp only at h1
        subst h1
        have hc := shape_of hf
        have hr : j % 5 < 5 := Nat.mod_lt _ (by omega)
        have h2 : (cellsSh (shpT[j / 5]'(by show j / 5 < 10; exact hi)))[j % 5]? = cs[j]? := by
          rw [← hc, List.getElem?_take, List.getElem?_drop, if_pos hr]
          congr 1
          omega
        cases h3 : cs[j]? with
        | none =>
          rw [List.getElem?_eq_none_iff] at h3
          omega
        | some u =>
          rw [h3] at h2
          have := flat_get (f := cellsSh) (k := 5) (fun _ => rfl) shpT hti h2
          rw [show j / 5 * 5 + j % 5 = j by omega] at this
          exact this.symm
      · rw [List.getElem?_eq_none (by omega), List.getElem?_eq_none (by omega)]
    · cases h

theorem wf_u8 {z : Int} (h : (Lit.int .u8 z).wf = true) : 0 ≤ z ∧ z < 256 := by
  have m0 : IntKind.u8.min = 0 := by decide
  have m1 : IntKind.u8.max = 255 := by decide
  simp [Lit.wf] at h
  omega
/-- The rows' list. -/
def listS1 : List (String × DataW Unit) := Rows.graphExamplesRow.laid
theorem shp_of {W : World} {n1 : String} {d1 : DataW Unit} {rest : List (String × DataW Unit)} (h : laidMet Tryd.prog ((n1, d1) :: rest) W) (hn : n1 = "flowquery/syntax.shapes") (hd : d1 = .agg (shpT.map dataSh)) : Shp W := by
  subst hn; subst hd
  obtain ⟨ps, ⟨g0, t0, cs0, f0, p0, q0, hg0, ht0, hv0, hd0, _, _⟩, _, _⟩ := h
  obtain rfl := Option.some.inj (gShp.symm.trans hg0)
  obtain rfl := Option.some.inj (gShpType.symm.trans ht0)
  have hc := cells_of_shp hd0
  intro j u hu
  rw [shp_cells, ← hc] at hu
  have := World.var?_cell gShp hv0 j
  rw [this]
  simpa using hu
theorem shp1 {W : World} (h : laidMetH Tryd.prog listS1 W) : Shp W := shp_of h rfl shp_data

/-- The heap that the program's own start leaves. -/
noncomputable def door (os : Os) : World := World.doorLaid Tryd.prog 400 os
theorem door_met (os : Os) (args : Array Value) : laidMet Tryd.prog listS1 ((door os).forCall (fun _ _ => 0) ⟨#[], args, []⟩).memory :=
  laidMet_of_run' 8 (by kernel_rfl) (by kernel_rfl)
theorem door_vars (os : Os) (args : Array Value) : ((door os).forCall (fun _ _ => 0) ⟨#[], args, []⟩).variablesRefB Tryd.prog = true := by kernel_rfl
theorem door_rest (os : Os) (args : Array Value) : (((door os).forCall (fun _ _ => 0) ⟨#[], args, []⟩).heap.toList.drop Tryd.prog.globals.size).take ((begin Tryd.prog (fun _ _ => 0) default).world.heap.size - Tryd.prog.globals.size) =
    (begin Tryd.prog (fun _ _ => 0) default).world.heap.toList.drop Tryd.prog.globals.size := by kernel_rfl
end Go.Proofs.YtcgichfanfijjaaDoor

namespace Go.Proofs.YtcgichfanfijjaaDoor
set_option maxRecDepth 100000
set_option linter.unusedVariables false
open Go.ChangeShapes Go.WideShapes Go.ChangeAt Go.RowKit
def listS4 : List (String × DataW Unit) := Rows.nodesStatementsRow.laid
theorem shp4_of {W : World} {x1 x2 x3 : String × DataW Unit} {n1 : String} {d1 : DataW Unit} {rest : List (String × DataW Unit)} (h : laidMet Tryd.prog (x1 :: x2 :: x3 :: (n1, d1) :: rest) W) (hn : n1 = "flowquery/syntax.shapes") (hd : d1 = .agg (shpT.map dataSh)) : Shp W := by
  subst hn; subst hd
  obtain ⟨ps, hl, _, _⟩ := h
  obtain ⟨_, _, _, _, _, q1, _, _, _, _, hl, _⟩ := hl
  obtain ⟨_, _, _, _, _, q2, _, _, _, _, hl, _⟩ := hl
  obtain ⟨_, _, _, _, _, q3, _, _, _, _, hl, _⟩ := hl
  obtain ⟨g0, t0, cs0, f0, p0, q0, hg0, ht0, hv0, hd0, _, _⟩ := hl
  obtain rfl := Option.some.inj (gShp.symm.trans hg0)
  obtain rfl := Option.some.inj (gShpType.symm.trans ht0)
  have hc := cells_of_shp hd0
  intro j u hu
  rw [shp_cells, ← hc] at hu
  have := World.var?_cell gShp hv0 j
  rw [this]
  simpa using hu
theorem shp4 {W : World} (h : laidMetH Tryd.prog listS4 W) : Shp W := shp4_of h rfl shp_data
theorem door_met4 (os : Os) (args : Array Value) : laidMet Tryd.prog listS4 ((door os).forCall (fun _ _ => 0) ⟨#[], args, []⟩).memory :=
  laidMet_of_run' 8 (by kernel_rfl) (by kernel_rfl)
end Go.Proofs.YtcgichfanfijjaaDoor

namespace Go.Proofs.YtcgichfanfijjaaDoor.nodesStatements
set_option maxRecDepth 100000
open Go.ChangeShapes Go.WideShapes Go.ChangeAt Go.RowKit
open Go.ChangeMaps (open_string)
set_option linter.unusedVariables false

theorem reads (os : Os) {H : Type} (enc : TypeId × Value → H) : ∃ places, DataW.whole enc Tryd.prog ((door os).forCall (fun _ _ => 0) ⟨#[], #[.slice none 0 0], []⟩).memory Tryd.f5.params.toList Rows.nodesStatementsSpec.vars false (#[.slice none 0 0] : Array Value).toList 8 = some ([.nil], [], places) :=
  ⟨[], by kernel_rfl⟩

theorem lifted (os : Os) (started : os.Started) (H : Type) (enc : TypeId × Value → H) (F : Stop.Interp) :
    ReturnsInHanded {} Tryd.checked os 5 .any ((OpenSpec.ofChange Rows.nodesStatementsSpec).preRow enc Tryd.prog Tryd.f5 Rows.nodesStatementsRow.domain false Rows.nodesStatementsRow.laid) (((OpenSpec.ofChange Rows.nodesStatementsSpec).at F).post enc Tryd.prog Tryd.f5 false true false false) := by
  obtain ⟨places, hx⟩ := reads os enc
  refine returnsInHanded_of_row (C := Tryd.checked) (s := OpenSpec.ofChange Rows.nodesStatementsSpec) own started (by kernel_rfl) Tryd.func5
    (witness_row_atRef (enc := enc) (C := Tryd.checked) false (door os) #[.slice none 0 0] rfl (door_vars os _) (door_rest os _) (by kernel_rfl)
      (OpenSpec.preRow_of_cond 8 hx (by kernel_rfl) (fun k hk => by cases hk) (by kernel_rfl) (door_met4 os _))) ?_
  intro W base args ds gs before hval0 hW _ _ _ hL hsh _
  have hval : ∀ (j : Nat) t v, Tryd.f5.params[j]? = some t → args[j]? = some v → Value.okWide Tryd.prog W .any base t v := hval0
  have hW' := hW
  obtain ⟨p, q, hA0, hV, rfl, hfz, hnd⟩ := hW
  have hA : DataW.TrodAll enc Tryd.prog W 0 (fun _ => true) true Tryd.f5.params.toList args.toList ds p := hA0
  rw [Tryd.params5] at hA hval
  obtain ⟨v0, vs0, d0, ds0, p0, q0, hargs, rfl, rfl, h0, r0⟩ := trodAll_cons hA
  obtain ⟨rfl, rfl, rfl⟩ := trodAll_nil r0
  obtain rfl : args = #[v0] := by cases args; simp_all
  obtain ⟨rfl, rfl⟩ := trodVars_none hV
  have k0 := h0
  have lt0 : ∀ x ∈ p0, x.block < W.heap.size := by obtain ⟨m, hm⟩ := k0; exact DataW.trod_lt m _ _ _ hm
  obtain ⟨a0, n0, c0, l0, rfl, g0, m0⟩ := open_list (hval 0 35 v0 rfl rfl) h0
  clear hA0 hval0
  refine (lawNst a0 n0 c0 l0 W g0 m0 (shp4 hL)).mono fun e W' ⟨he, bel⟩ => ?_
  subst he
  exact ⟨_, rfl, _, _, _, [], _, [], hW', trodAll_mk1 (shut_bool Tryd.underlying4 _), (trodAll_cons_mk (Below.trod laidOut (by kernel_rfl) (of_decide_eq_true (by kernel_rfl)) k0 bel lt0) trodAll_mk0), rfl, bel.frame _, fun h => by cases h⟩

theorem said : Rows.NodesStatementsSaid :=
  OpenClaim.holds_of_cond 5 Tryd.f5 rfl rfl rfl rfl rfl rfl rfl ⟨rfl, rfl, rfl, rfl, rfl⟩ rfl rfl rfl rfl rfl (by kernel_rfl) Tryd.func5 (by kernel_rfl)
    (of_decide_eq_true (by kernel_rfl)) (by unfold Func.isWrapper; first | (rw [if_pos (by decide +kernel)]; kernel_rfl) | (rw [if_neg (by decide +kernel)]; exact ⟨rfl, rfl⟩))
    (fun os started H enc _ F => by rw [OpenClaim.pre_eq_preRow]; exact lifted os started H enc F)

theorem plain (f : FuncId) (fn : Func) (hf : Tryd.pinned.checked.prog.funcNamed "flowquery/flqlaw7.NodesStatements" = some f) (hfn : Tryd.pinned.checked.prog.funcs[f]? = some fn) :
    false = Tryd.pinned.checked.prog.looks [] ∧ ∀ (j : Nat) t, fn.params[j]? = some t → Tryd.pinned.checked.prog.wantsStandIn t = false := by
  obtain rfl : f = 5 := Option.some.inj ((show Tryd.prog.funcNamed "flowquery/flqlaw7.NodesStatements" = some 5 by kernel_rfl).symm.trans hf) |>.symm
  obtain rfl : fn = Tryd.f5 := (Option.some.inj (Tryd.func5.symm.trans hfn)).symm
  refine ⟨by kernel_rfl, fun j t ht => ?_⟩
  rw [Tryd.params5] at ht
  have hm : t ∈ [35] := by simpa using Array.mem_of_getElem? ht
  have hall : ([35].all fun u => !Tryd.prog.wantsStandIn u) = true := by kernel_rfl
  exact (show Tryd.prog.wantsStandIn t = false by simpa using List.all_eq_true.1 hall t hm)

theorem proved : Rows.NodesStatementsCardSaid :=
  Claim7.holds_tied_plain_at .later [] _ _ _ _ said (fun _ h => by cases h) (by kernel_rfl) (fun _ h => by cases h) nodesStatements_row_tie rfl ⟨rfl, rfl⟩ (by kernel_rfl) rfl plain (by kernel_rfl)
#print axioms proved
end Go.Proofs.YtcgichfanfijjaaDoor.nodesStatements
