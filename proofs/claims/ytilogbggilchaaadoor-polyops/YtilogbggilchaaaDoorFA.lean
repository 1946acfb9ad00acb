/- Numbers modulo a prime: the closures; looking through numbers. -/
import Derived.Test.YtilogbggilchaaaDoorC
import Derived.Test.YtilogbggilchaaaDoorE
namespace Go.Proofs.YtilogbggilchaaaDoor
set_option linter.unusedSimpArgs false
set_option linter.unusedVariables false
open Go.RowKit
theorem belowNew {w : World} {A : Obj} : Below w.heap.size w (w.alloc A) := (Below.refl _ _).alloc (Nat.le_refl _) _
def Rws (w : World) (v : Value) (xss : List (List Int)) : Prop :=
  ∃ a cap, v = .slice a xss.length cap ∧ (0 < xss.length → ∃ b off, a = some ⟨b, off, none⟩ ∧ b < w.heap.size ∧ SlsAt w b off xss)
theorem Rws.below {w w' : World} {v : Value} {xss : List (List Int)} (h : Rws w v xss) (hb : Below w.heap.size w w') : Rws w' v xss := by
  obtain ⟨a, cap, rfl, h⟩ := h
  refine ⟨a, cap, rfl, fun hp => ?_⟩
  obtain ⟨b, off, rfl, hlt, hc⟩ := h hp
  exact ⟨b, off, rfl, Nat.lt_of_lt_of_le hlt hb.size, hc.below hlt hb⟩
end Go.Proofs.YtilogbggilchaaaDoor
