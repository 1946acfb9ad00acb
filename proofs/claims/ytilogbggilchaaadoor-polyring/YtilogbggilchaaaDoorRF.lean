/- CheckPolys, SamePoly, TopOf, Great of the reference. -/
import Derived.Test.YtilogbggilchaaaDoorRD
namespace Go.Proofs.YtilogbggilchaaaDoor
set_option linter.unusedSimpArgs false
set_option linter.unusedVariables false
end Go.Proofs.YtilogbggilchaaaDoor
