/- together, Times, Least, Over. -/
import Derived.Test.YtkmjmmnnnbjghaaDoorH
namespace Go.Proofs.YtkmjmmnnnbjghaaDoor
set_option linter.unusedSimpArgs false
set_option linter.unusedVariables false
open Go.RowKit

def tgE (g : Int → Int → Int) (p n o v : Int) (xs ys : List Int) : Int :=
  if errAll p n o v [xs, ys] = 0 then (if 200 < sumI (zipI g xs ys) then 2 else 0) else errAll p n o v [xs, ys]
def tgR (g : Int → Int → Int) (p n o v : Int) (xs ys : List Int) : List Int := if tgE g p n o v xs ys = 0 then zipI g xs ys else []

theorem Sl.empty (w : World) : Sl w (.slice none 0 0) [] := ⟨none, 0, rfl, fun h => absurd h (by simp)⟩
theorem OwnK.sl {w w' : World} {zs : List Int} (h : OwnK w w' zs.length zs.length zs) : Sl w' (.slice (some ⟨w.heap.size, 0, none⟩) zs.length zs.length) zs :=
  ⟨_, _, rfl, fun _ => ⟨_, _, rfl, h.2.1, fun i hi => by rw [Nat.zero_add]; exact h.2.2.2 i hi⟩⟩
theorem zipI_mem {g : Int → Int → Int} {xs ys : List Int} {a b : Int} (hg : ∀ x y, 0 ≤ x ∧ x ≤ 200 → 0 ≤ y ∧ y ≤ 200 → a ≤ g x y ∧ g x y ≤ b) (hx : ∀ x ∈ xs, 0 ≤ x ∧ x ≤ 200) (hy : ∀ x ∈ ys, 0 ≤ x ∧ x ≤ 200) : ∀ z ∈ zipI g xs ys, a ≤ z ∧ z ≤ b := by
  induction xs generalizing ys with
  | nil => intro z hz; simp [zipI] at hz
  | cons x xs ih => cases ys with
    | nil => intro z hz; simp [zipI] at hz
    | cons y ys =>
      intro z hz
      simp only [zipI, List.mem_cons] at hz
      rcases hz with rfl | hz
      · exact hg _ _ (hx _ (by simp)) (hy _ (by simp))
      · exact ih (fun x h => hx x (by simp [h])) (fun x h => hy x (by simp [h])) z hz

end Go.Proofs.YtkmjmmnnnbjghaaDoor
