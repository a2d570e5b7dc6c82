/- The scanner's endLine: it appends the end of a line that has a token. -/
import Derived.Test.YtcgichfanfijjaaDoorAdd
namespace Go.Proofs.YtcgichfanfijjaaDoor
set_option maxRecDepth 20000
set_option linter.unusedVariables false
open Go.ChangeShapes Go.WideShapes Go.ChangeAt Go.RowKit

theorem tcells_get {l : List Tok} {i : Nat} (h : i < l.length) : (tcells l)[i * 4]? = some (.int .i64 (l[i]).kind) ∧ (tcells l)[i * 4 + 1]? = some (.string (l[i]).text) ∧ (tcells l)[i * 4 + 2]? = some (.int .i64 ((l[i]).line : Int)) ∧ (tcells l)[i * 4 + 3]? = some (.int .i64 ((l[i]).col : Int)) := by
  induction l generalizing i with
  | nil => simp at h
  | cons t l ih =>
    cases i with
    | zero => exact ⟨rfl, rfl, rfl, rfl⟩
    | succ i =>
      have := ih (i := i) (by simpa using h)
      have e : ∀ k, (tcells (t :: l))[(i + 1) * 4 + k]? = (tcells l)[i * 4 + k]? := fun k => by
        show (tcell t ++ tcells l)[(i + 1) * 4 + k]? = _
        rw [List.getElem?_append_right (by simp [tcell]; omega)]
        congr 1
        simp [tcell]; omega
      have e0 := e 0
      simp only [Nat.add_zero] at e0
      rw [e0, e, e, e]
      exact this
set_option maxHeartbeats 1600000 in
theorem endLine_any (S : Nat) (s : ByteArray) (i line first : Nat) (v : Value) (l : List Tok) (w0 w : World) (hS : Scn w0 S s i line first v l w) (hs : s.size ≤ 4096) (hi : i ≤ s.size) (hf : first ≤ i) (hl : l.length ≤ 8192) :
    Calls Tryd.prog 138 #[.pointer (some ⟨S, 0, none⟩)] w fun e w' => e = .returned (.tuple #[]) ∧ ∃ v', Scn w0 S s i line first v' (endT line (i + 1 - first) l) w' := by
  obtain ⟨A, c, rfl⟩ := own_any_slice hS.2.1
  obtain ⟨⟨c0, c1, c2, c3, c4⟩, f0, f1, f2, f3, f4⟩ := Fb.five hS.1
  rcases Nat.eq_zero_or_pos l.length with h0 | h0
  · have hnil : l = [] := List.eq_nil_of_length_eq_zero h0
    subst hnil
    have HS := hid hS
    clear hS h0
    rw [endT_no opn_nil]
    go_enter Tryd.func138, Tryd.ntmps138
    go_wp2_with fail
    refine bodyPost_end (v := .tuple #[]) (by simp [results, Tryd.results138]) rfl ⟨rfl, _, HS.out⟩
  · obtain ⟨m, hm⟩ : ∃ m, l.length = m + 1 := ⟨l.length - 1, by omega⟩
    have hml : m < l.length := by omega
    have hm8 : m ≤ 8192 := by omega
    obtain ⟨ad, hA, hab, hcell⟩ := (own_at hS.2.1).cell (tcells_get hml).1
    subst hA
    have hop : opn l = ((l[m]'hml).kind != 3) := by
      unfold opn
      rw [List.getLast?_eq_getElem?, hm, Nat.add_sub_cancel, List.getElem?_eq_getElem hml]
    generalize (l[m]'hml).kind = kd at *
    rw [hm] at c4
    have HS := hid hS; have Hm := hid hm
    clear hS hm hml h0
    cases ho : (kd != 3) with
    | false =>
      rw [ho] at hop
      have Hop := hid hop
      clear hop
      go_enter Tryd.func138, Tryd.ntmps138
      go_wp2_with fail
      rw [endT_no Hop.out]
      refine bodyPost_end (v := .tuple #[]) (by simp [results, Tryd.results138]) rfl ⟨rfl, _, HS.out⟩
    | true =>
      rw [ho] at hop
      have Hop := hid hop
      clear hop
      go_enter Tryd.func138, Tryd.ntmps138
      go_wp2_with fail
      refine (add_any 3 0 S s i line first _ l w0 _ HS.out hs (by omega) hf hl).mono ?_
      rintro e w2 ⟨rfl, v2, h2⟩
      have H2 := hid h2
      clear h2
      go_wp2_with fail
      rw [endT_yes Hop.out]
      refine bodyPost_end (v := .tuple #[]) (by simp [results, Tryd.results138]) rfl ⟨rfl, v2, ?_⟩
      have := H2.out
      rw [Nat.add_zero, ext_none] at this
      exact this
end Go.Proofs.YtcgichfanfijjaaDoor
