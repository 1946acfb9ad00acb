/- CheckRows of the reference. -/
import Derived.Test.YtbjellgkmolifaaDoorFK
namespace Go.Proofs.YtbjellgkmolifaaDoor
set_option linter.unusedSimpArgs false
set_option linter.unusedVariables false
open Go.RowKit

theorem outP_between (p x : Int) : outP p x = !betweenB x 0 (p - 1) := by
  unfold outP betweenB
  by_cases h1 : 0 ≤ x <;> by_cases h2 : x ≤ p - 1 <;> simp [h1, h2] <;> omega
theorem slFacts {w : World} {b off : Nat} {xss : List (List Int)} (h : SlsAt w b off xss) (k : Nat) (hk : k < xss.length) : ∃ a c, w.cell? ⟨b, off + k, none⟩ = some (.slice a (xss.getD k []).length c) ∧ Sl w (.slice a (xss.getD k []).length c) (xss.getD k []) := by
  obtain ⟨v, hc, hs⟩ := h k hk
  obtain ⟨a, c, rfl, _⟩ := id hs
  exact ⟨a, c, hc, hs⟩

end Go.Proofs.YtbjellgkmolifaaDoor
