/- Over; the reference's degree, and what goes into what. -/
import Derived.Test.YtilogbggilchaaaDoorK
import Derived.Deep.DeepCutAuto
import Derived.Test.YtilogbggilchaaaDoorM
import Derived.Deep.RegionHeld
namespace Go.Proofs.YtilogbggilchaaaDoor
set_option linter.unusedSimpArgs false
set_option linter.unusedVariables false
open Go.RowKit
def moreB (o : Int) (xs ys : List Int) : Bool := decide (0 < ordS o xs ys)
theorem ret_bool {a b : Bool} (h : a = b) : Ending.returned (.bool a) = .returned (.bool b) := by rw [h]
end Go.Proofs.YtilogbggilchaaaDoor
