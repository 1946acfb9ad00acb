/- VectorCombines in all its ways. -/
import Derived.Test.YtilogbggilchaaaXV
import Derived.Test.YtilogbggilchaaaXA
import Derived.Test.YtilogbggilchaaaXB
import Derived.Test.YtilogbggilchaaaXC
import Derived.Test.YtilogbggilchaaaXD
import Derived.Test.YtilogbggilchaaaXE
namespace Go.Proofs.Ytilogbggilchaaa
set_option linter.unusedSimpArgs false
set_option linter.unusedVariables false
open Go.ChangeShapes Go.WideShapes Go.ChangeAt Go.RowKit Go.Joins Go.Deep
theorem vectorCombines_any (p n o v rank : Int) (x y z : Value) (cs : List (List Tm)) (vss : List (List (List Tm))) (ds : List Int) (w : World) (pc : Vl w x cs) (pv : Wl w y vss) (sd : Sl w z ds) :
    Calls Try.prog 4 #[ringV p n o v, .int .i64 rank, x, y, z] w fun e w' => e = .returned (.bool true) ∧ Below w.heap.size w w' := by
  by_cases hE : errComb p n o v rank cs vss = 0
  · by_cases hv0 : vss = []
    · exact vectorCombines_ZN p n o v rank x y z cs vss ds w pc pv sd hE hv0
    · have hvl : 0 < vss.length := List.length_pos_iff.2 hv0
      by_cases hA : errAlike p n o v [vss.getD 0 []] = 0
      · by_cases hlen : ds.length = (vss.getD 0 []).length
        · exact vectorCombines_ZO p n o v rank x y z cs vss ds w pc pv sd hE hvl hA hlen
        · exact vectorCombines_ZL p n o v rank x y z cs vss ds w pc pv sd hE hvl hA hlen
      · exact vectorCombines_ZB p n o v rank x y z cs vss ds w pc pv sd hE hvl hA
  · by_cases hv0 : vss = []
    · exact vectorCombines_EN p n o v rank x y z cs vss ds w pc pv sd hE hv0
    · have hvl : 0 < vss.length := List.length_pos_iff.2 hv0
      by_cases hA : errAlike p n o v [vss.getD 0 []] = 0
      · by_cases hlen : ds.length = (vss.getD 0 []).length
        · exact vectorCombines_EO p n o v rank x y z cs vss ds w pc pv sd hE hvl hA hlen
        · exact vectorCombines_EL p n o v rank x y z cs vss ds w pc pv sd hE hvl hA hlen
      · exact vectorCombines_EB p n o v rank x y z cs vss ds w pc pv sd hE hvl hA
end Go.Proofs.Ytilogbggilchaaa
