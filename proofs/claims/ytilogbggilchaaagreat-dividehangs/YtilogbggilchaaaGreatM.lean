/- MonoOrders, walked. -/
import Derived.Test.YtilogbggilchaaaGreatH
import Derived.Deep.DeepCutAuto
namespace Go.Proofs.YtilogbggilchaaaGreat
set_option linter.unusedSimpArgs false
set_option linter.unusedVariables false
open Go.RowKit
def BoxAt (w : World) (b : Nat) (p n o v : Int) : Prop :=
  b < w.heap.size ∧ w.cell? ⟨b, 0, none⟩ = some (.int .i64 p) ∧ w.cell? ⟨b, 1, none⟩ = some (.int .i64 n) ∧ w.cell? ⟨b, 2, none⟩ = some (.int .i64 o) ∧ w.cell? ⟨b, 3, none⟩ = some (.int .i64 v)
theorem BoxAt.below {w w' : World} {b : Nat} {p n o v : Int} (h : BoxAt w b p n o v) (hb : Below w.heap.size w w') : BoxAt w' b p n o v := by
  obtain ⟨h0, h1, h2, h3, h4⟩ := h
  exact ⟨Nat.lt_of_lt_of_le h0 hb.size, by rw [hb.cell (p := ⟨b, 0, none⟩) h0]; exact h1, by rw [hb.cell (p := ⟨b, 1, none⟩) h0]; exact h2, by rw [hb.cell (p := ⟨b, 2, none⟩) h0]; exact h3, by rw [hb.cell (p := ⟨b, 3, none⟩) h0]; exact h4⟩
theorem BoxAt.new (w : World) (p n o v : Int) (T : TypeId) : BoxAt (w.alloc (.cells #[.int .i64 p, .int .i64 n, .int .i64 o, .int .i64 v] T)) w.heap.size p n o v :=
  ⟨by simp, by simp, by simp, by simp, by simp⟩

structure Mid (w w' : World) (x y z : Value) (xs ys zs : List Int) (p n o v : Int) : Prop where
  below : Below w.heap.size w w'
  box : BoxAt w' w.heap.size p n o v
  sx : Sl w' x xs
  sy : Sl w' y ys
  sz : Sl w' z zs
theorem Mid.next {w w' w2 : World} {x y z : Value} {xs ys zs : List Int} {p n o v : Int} (h : Mid w w' x y z xs ys zs p n o v) (hb : Below w'.heap.size w' w2) : Mid w w2 x y z xs ys zs p n o v :=
  ⟨h.below.trans (hb.mono h.below.size), h.box.below hb, h.sx.below hb, h.sy.below hb, h.sz.below hb⟩
theorem Sl.made (w : World) (n : Nat) (T : TypeId) : Sl (w.alloc (.cells (madeCells #[.int .i64 0] n) T)) (.slice (some ⟨w.heap.size, 0, none⟩) n n) (List.replicate n 0) := by
  refine ⟨some ⟨w.heap.size, 0, none⟩, n, by simp, fun _ => ⟨_, _, rfl, by simp, fun i hi => ?_⟩⟩
  simp at hi
  simp [madeCells, hi, Nat.mod_one]
end Go.Proofs.YtilogbggilchaaaGreat
