/- eachPair, together, Times, Least, Over. -/
import Derived.Test.YtkmjmmnnnbjghaaDoorF
import Derived.Deep.OwnRows
import Derived.Deep.RegionWith
namespace Go.Proofs.YtkmjmmnnnbjghaaDoor
set_option linter.unusedSimpArgs false
set_option linter.unusedVariables false
open Go.RowKit

theorem Tryd.info_int : (Tryd.prog.info? 3).map (fun i => (i.zero, i.size, i.bytes)) = some (some (.int .i64 0), 1, 8) := by kernel_rfl

def zipI (g : Int → Int → Int) : List Int → List Int → List Int
  | x :: xs, y :: ys => g x y :: zipI g xs ys
  | _, _ => []
theorem zipI_len (g : Int → Int → Int) (xs ys : List Int) (h : xs.length = ys.length) : (zipI g xs ys).length = xs.length := by
  induction xs generalizing ys with
  | nil => cases ys <;> simp [zipI]
  | cons x xs ih => cases ys with
    | nil => simp at h
    | cons y ys => simp [zipI, ih ys (by simpa using h)]
theorem zipI_at (g : Int → Int → Int) (xs ys : List Int) (h : xs.length = ys.length) (k : Nat) (hk : k < xs.length) : (zipI g xs ys).getD k 0 = g (xs.getD k 0) (ys.getD k 0) := by
  induction xs generalizing ys k with
  | nil => simp at hk
  | cons x xs ih => cases ys with
    | nil => simp at h
    | cons y ys => cases k with
      | zero => simp [zipI]
      | succ k => have := ih ys (by simpa using h) k (by simpa using hk); simpa [zipI] using this

/-- The new row behind k rounds: its first k cells hold what they must. -/
def OwnK (w wr : World) (n k : Nat) (zs : List Int) : Prop :=
  Below w.heap.size w wr ∧ w.heap.size < wr.heap.size ∧ (∀ i, i < n → (wr.cell? ⟨w.heap.size, i, none⟩).isSome = true ∧ wr.frozen? ⟨w.heap.size, i, none⟩ = false) ∧ (∀ i, i < k → wr.cell? ⟨w.heap.size, i, none⟩ = some (.int .i64 (zs.getD i 0)))

theorem OwnK.start (w : World) (n : Nat) (zs : List Int) : OwnK w (w.alloc (.cells (madeCells #[.int .i64 0] n) 3)) n 0 zs := by
  refine ⟨(Below.refl _ _).alloc (Nat.le_refl _) _, by simp, fun i hi => ⟨?_, by simp⟩, fun i hi => absurd hi (by omega)⟩
  simp [size_madeCells, hi]
theorem OwnK.drawn {w wr : World} {n k : Nat} {zs : List Int} (h : OwnK w wr n k zs) : OwnK w wr.drew n k zs :=
  ⟨h.1.drew, h.2.1, h.2.2.1, h.2.2.2⟩
theorem OwnK.step {w wr : World} {n k : Nat} {zs : List Int} (h : OwnK w wr n k zs) (hk : k < n) (v : Int) (hv : v = zs.getD k 0) : OwnK w (wr.setCell ⟨w.heap.size, k, none⟩ (.int .i64 v)) n (k + 1) zs := by
  obtain ⟨h1, h2, h3, h4⟩ := h
  subst hv
  have ne : ∀ i, ¬ i = k → (⟨w.heap.size, k, none⟩ : Addr) ≠ ⟨w.heap.size, i, none⟩ := fun i hi e => hi (by injection e with _ e2 _; exact e2.symm)
  refine ⟨h1.setCell (Nat.le_refl _) _, by simpa using h2, fun i hi => ?_, fun i hi => ?_⟩
  · by_cases e : i = k
    · subst e
      exact ⟨by rw [World.cell?_setCell_same' wr _ _ (h3 i hi).1]; rfl, by simpa using (h3 i hi).2⟩
    · rw [World.cell?_setCell_other (w := wr) (h := ne i e)]
      exact ⟨(h3 i hi).1, by simpa using (h3 i hi).2⟩
  · by_cases e : i = k
    · subst e
      rw [World.cell?_setCell_same' wr _ _ (h3 i hk).1]
    · rw [World.cell?_setCell_other (w := wr) (h := ne i e)]
      exact h4 i (by omega)

end Go.Proofs.YtkmjmmnnnbjghaaDoor

