/- CheckMonos. -/
import Derived.Test.YtbjellgkmolifaaDoorR
import Derived.Test.YtbjellgkmolifaaDoorM
import Derived.Deep.RegionHeld
namespace Go.Proofs.YtbjellgkmolifaaDoor
set_option linter.unusedSimpArgs false
set_option linter.unusedVariables false
open Go.RowKit

end Go.Proofs.YtbjellgkmolifaaDoor
