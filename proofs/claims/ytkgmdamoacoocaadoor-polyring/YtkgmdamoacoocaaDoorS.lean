/- CheckMonos. -/
import Derived.Test.YtkgmdamoacoocaaDoorR
import Derived.Test.YtkgmdamoacoocaaDoorM
import Derived.Deep.RegionHeld
namespace Go.Proofs.YtkgmdamoacoocaaDoor
set_option linter.unusedSimpArgs false
set_option linter.unusedVariables false
open Go.RowKit

end Go.Proofs.YtkgmdamoacoocaaDoor
