/- A scope through which the run goes with one jump, to a label further on. -/
import Derived.ScopeJumps
import Derived.WalkMore
namespace Go.Proofs.YtmbelhdkaepohaaGreatDoor
open Go

/-- By a goto to label l: K; there is no other way out. -/
def Exit.onlyTo (l : Nat) (K : Act → World → Prop) : Exit → Act → World → Prop
  | .goto l', a, w => l' = l ∧ K a w
  | _, _, _ => False
theorem wp_scope_to {P : Program} {a : Act} {w : World} {Q : Exit → Act → World → Prop} {c rest : Code} (l : Nat) (hf : findLabel c l = some rest)
    (h : ∀ K : Act → World → Prop, (∀ a w, rest.wp P (Exit.noGoto Q) a w → K a w) → c.wp P (Exit.onlyTo l K) a w) : (Code.scope c).wp P Q a w := by
  intro b k cs
  have hg : gotoIn l (.inScope c :: k) = some (.code rest :: .inScope c :: k) := by simp [gotoIn, hf]
  obtain ⟨e, a₁, w₁, hq, harr⟩ := h _ (fun _ _ h => h) b (.inScope c :: k) cs
  cases e with
  | normal => exact hq.elim
  | exit id => exact hq.elim
  | goto l' =>
    obtain ⟨rfl, hr⟩ := hq
    obtain ⟨e₂, a₂, w₂, hq₂, harr₂⟩ := hr b (.inScope c :: k) cs
    have hs := harr _ hg
    cases e₂ with
    | normal => exact ⟨.normal, a₂, w₂, hq₂, .head step_scope (Steps.trans hs (Steps.trans harr₂ (.one step_inScope)))⟩
    | exit id => exact ⟨.exit id, a₂, w₂, hq₂, fun k' hk => .head step_scope (Steps.trans hs (harr₂ k' (by simp [exitTo, hk])))⟩
    | goto l => exact hq₂.elim
    | ret => exact ⟨_, a₂, w₂, hq₂, .of_steps (.head step_scope hs) harr₂⟩
    | panic ch => exact ⟨_, a₂, w₂, hq₂, .of_steps (.head step_scope hs) harr₂⟩
    | outgrown => exact ⟨_, a₂, w₂, hq₂, .of_steps (.head step_scope hs) harr₂⟩
  | ret => exact hq.elim
  | panic ch => exact hq.elim
  | outgrown => exact hq.elim
theorem onlyTo_goto {l : Nat} {K : Act → World → Prop} {a : Act} {w : World} (h : K a w) : Exit.onlyTo l K (.goto l) a w := ⟨rfl, h⟩
end Go.Proofs.YtmbelhdkaepohaaGreatDoor
