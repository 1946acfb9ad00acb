/- MonoOrders, the way where all is right. -/
import Derived.Test.YtkmjmmnnnbjghaaDoorM
namespace Go.Proofs.YtkmjmmnnnbjghaaDoor
set_option linter.unusedSimpArgs false
set_option linter.unusedVariables false
open Go.RowKit

theorem ordA_ok {p n o v : Int} {xs ys : List Int} (h : errAll p n o v [xs, ys] = 0) : ordA p n o v xs ys = ordS o xs ys := by unfold ordA; rw [if_pos h]

theorem Sl.made (w : World) (n : Nat) (T : TypeId) : Sl (w.alloc (.cells (madeCells #[.int .i64 0] n) T)) (.slice (some ⟨w.heap.size, 0, none⟩) n n) (List.replicate n 0) := by
  refine ⟨some ⟨w.heap.size, 0, none⟩, n, by simp, fun _ => ⟨_, _, rfl, by simp, fun i hi => ?_⟩⟩
  simp at hi
  simp [madeCells, hi, Nat.mod_one]
theorem errM_zero (n : Nat) : errM n (List.replicate n 0) = 0 := by
  refine errM_mk (by simp) (fun x hx => ?_) (by rw [sumI_rep]; omega)
  rw [List.eq_of_mem_replicate hx]; omega

end Go.Proofs.YtkmjmmnnnbjghaaDoor
