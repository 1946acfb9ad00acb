/- Collect of the reference, walked. -/
import Derived.Test.YteimdcndjjclnaaGreatPI
namespace Go.Proofs.YteimdcndjjclnaaGreat
open Go.Proofs.Tryz
set_option linter.all false
end Go.Proofs.YteimdcndjjclnaaGreat
