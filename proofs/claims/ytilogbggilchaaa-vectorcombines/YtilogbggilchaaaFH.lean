/- clearColumn; the first number that is not 0. -/
import Derived.Test.YtilogbggilchaaaFG
import Derived.RegionTactic
namespace Go.Proofs.Ytilogbggilchaaa
set_option linter.unusedSimpArgs false
set_option linter.unusedVariables false
open Go.RowKit
abbrev Piv := (Nat × List Int) × Value
theorem ownBlock_lt {w : World} {B : Nat} {T : TypeId} {s : Nat} {v : Value} {n : Nat} {xs : List Value} (h : w.ownsRow B T s v n xs) {w' : World} (hb : Below w.heap.size w w') : w'.ownsRow B T s v n xs := by
  cases ho : v.ownBlock with
  | none => exact h.kept (below_grown (r := none) hb) (Or.inl ho)
  | some k => exact h.kept (below_grown (r := none) hb) (Or.inr (by rw [ho]; simp))
theorem two_new (w : World) (a b : Value) (T : TypeId) : ∀ j u, [a, b][j]? = some u → (w.alloc (.cells #[a, b] T)).cell? ((⟨w.heap.size, 0, none⟩ : Addr).add j) = some u := by
  intro j u hj
  rcases j with _ | _ | j
  · simp at hj; subst hj; simp [Addr.add]
  · simp at hj; subst hj; simp [Addr.add]
  · simp at hj
end Go.Proofs.Ytilogbggilchaaa
