/- Rows that came in. -/
import Derived.Test.YtjkalahhpobefaaGreatA
import Derived.ProofKit
import Derived.OpenShut
import Derived.ShutString
import Derived.Deep.Matrix
namespace Go.Proofs.YtjkalahhpobefaaGreat
open Go.Proofs.Tryz
set_option linter.all false
open Go.ChangeShapes Go.WideShapes Go.ChangeAt Go.RowKit Go.Deep
variable{v:PK}{a:Addr}{w:PJ}
theorem nv(h:w.cell? a=some v):a.block<w.heap.size:=OG w a h
theorem re(h:w.cell? (a.add 0)=some v):∃b off,a=(PN b off):=by
 obtain⟨b,off,spot⟩:=a;have hspot:spot=none:=by simpa [Addr.add] using World.cell?_spot h
 exact⟨b,off,by rw[hspot]⟩
theorem nw{b off i:Nat}(h:w.cell? (((PN b off):Addr).add i)=some v):w.cell? (PN b (off+i))=some v:=by
 by_cases h0:i=0
 .subst h0;simpa [Addr.add] using h
 .simpa [Addr.add,h0] using h
end Go.Proofs.YtjkalahhpobefaaGreat
