/- Numbers modulo a prime: the closures; looking through numbers. -/
import Derived.Test.YtilogbggilchaaaDoorC
namespace Go.Proofs.YtilogbggilchaaaDoor
set_option linter.unusedSimpArgs false
set_option linter.unusedVariables false
open Go.RowKit
theorem belowNew {w : World} {A : Obj} : Below w.heap.size w (w.alloc A) := (Below.refl _ _).alloc (Nat.le_refl _) _
end Go.Proofs.YtilogbggilchaaaDoor
