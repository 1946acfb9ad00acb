/- monoBegun. -/
import Derived.Test.YtkmjmmnnnbjghaaDoorJ
namespace Go.Proofs.YtkmjmmnnnbjghaaDoor
set_option linter.unusedSimpArgs false
set_option linter.unusedVariables false
open Go.RowKit

theorem Sl.new2 (w : World) (a b : Int) (T : TypeId) : Sl (w.alloc (.cells #[.int .i64 a, .int .i64 b] T)) (.slice (some ⟨w.heap.size, 0, none⟩) 2 2) [a, b] := by
  refine ⟨_, _, rfl, fun _ => ⟨_, _, rfl, by simp, fun i hi => ?_⟩⟩
  simp at hi
  rcases i with _ | _ | i
  · simp
  · simp
  · omega

theorem Sl.new2s (w : World) (A : Obj) (a b : Int) (T : TypeId) : Sl ((w.alloc A).alloc (.cells #[.int .i64 a, .int .i64 b] T)) (.slice (some ⟨w.heap.size + 1, 0, none⟩) 2 2) [a, b] := by
  have h := Sl.new2 (w.alloc A) a b T
  rwa [show (w.alloc A).heap.size = w.heap.size + 1 by simp] at h
theorem below_one {w : World} {A : Obj} : Below w.heap.size w (w.alloc A) := (Below.refl _ _).alloc (Nat.le_refl _) _

end Go.Proofs.YtkmjmmnnnbjghaaDoor
