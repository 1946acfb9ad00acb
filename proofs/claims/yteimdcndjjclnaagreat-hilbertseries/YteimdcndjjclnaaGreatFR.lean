/- Rows that came in. -/
import Derived.Test.YteimdcndjjclnaaGreatFA
import Derived.ProofKit
import Derived.OpenShut
import Derived.ShutString
import Derived.Deep.Matrix
namespace Go.Proofs.YteimdcndjjclnaaGreat
open Go.Proofs.Tryz
set_option linter.all false
open Go.ChangeShapes Go.WideShapes Go.ChangeAt Go.RowKit Go.Deep
theorem mt{w:World}{a:Addr}{v:Value}(h:w.cell? a=some v):a.block<w.heap.size:=Lq w a h
theorem pN{w:World}{a:Addr}{v:Value}(h:w.cell? (a.add 0)=some v):∃b off,a=⟨b,off,none⟩:=by
 obtain⟨b,off,spot⟩:=a;have hspot:spot=none:=by simpa [Addr.add] using World.cell?_spot h
 exact⟨b,off,by rw[hspot]⟩
theorem od{w:World}{b off i:Nat}{v:Value}(h:w.cell? ((⟨b,off,none⟩:Addr).add i)=some v):w.cell? ⟨b,off+i,none⟩=some v:=by
 by_cases h0:i=0
 .subst h0;simpa [Addr.add] using h
 .simpa [Addr.add,h0] using h
end Go.Proofs.YteimdcndjjclnaaGreat
