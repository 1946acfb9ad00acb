/-
  DERIVED. GIVEN WITH THE SEED: THE CARDS: each row of YtilogbggilchaaaDoorRows.lean that lists a variable, with what it lists TIED to the program's text (the seventh form; the later family's looks); each row that meets fmt, with fmt's text TOLD by the authors' own Lean function (tested against real Go, not proved from fmt's source: count such statements apart). THE CARD IS WHAT COUNTS. Prove the row's statement (the work); the ties are given (YtilogbggilchaaaDoorTie.lean); close each card by the builder's one call (the guide's Derived/Test/ToyasCard.lean, 'card_holds'). Laid BY PROGRAM, IN A SANDBOX (cutbox-door.mjs). By AI agents, Wed Nov 11 2026. No macro, syntax, notation, axiom, sorry.
-/
import Derived.Test.YtilogbggilchaaaDoorRows
import GoSem.ClaimSeven
namespace Go.Proofs.YtilogbggilchaaaDoor
set_option linter.unusedSimpArgs false
set_option linter.unusedVariables false
namespace Rows

def polyMakesCard : Claim7 := { stood := { row := polyMakesRow, standIns := [], harness := (true, "e2d9e35ac884d87cee5f1756a74e9a0ad897c1bdb6e4cd7e1b828663e5e8ef67"), looks := false }, kinds := [], alts := [], laidByText := true, laidKinds := [.data, .data, .data], laidTests := true, laidLooks := .later }
def PolyMakesCardSaid : Prop := Claim7.holds Tryd.pinned (.plain (OpenSpec.ofChange polyMakesSpec)) polyMakesCard

end Rows
end Go.Proofs.YtilogbggilchaaaDoor
