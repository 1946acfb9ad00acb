/- MonoOrders, the way where all is right. -/
import Derived.Test.YtilogbggilchaaaDoorM
namespace Go.Proofs.YtilogbggilchaaaDoor
set_option linter.unusedSimpArgs false
set_option linter.unusedVariables false
open Go.RowKit
theorem Sl.made (w : World) (n : Nat) (T : TypeId) : Sl (w.alloc (.cells (madeCells #[.int .i64 0] n) T)) (.slice (some ⟨w.heap.size, 0, none⟩) n n) (List.replicate n 0) := by
  refine ⟨some ⟨w.heap.size, 0, none⟩, n, by simp, fun _ => ⟨_, _, rfl, by simp, fun i hi => ?_⟩⟩
  simp at hi
  simp [madeCells, hi, Nat.mod_one]
end Go.Proofs.YtilogbggilchaaaDoor
