/- What the library's Join and Itoa do, as the texts ask it. -/
import Derived.Test.YtilogbggilchaaaDoorPQ
import Derived.Test.YtilogbggilchaaaDoorShelf
namespace Go.Proofs.YtilogbggilchaaaDoor
set_option linter.unusedSimpArgs false
set_option linter.unusedVariables false
open Go.RowKit
theorem joK : JoK := by
  intro bk o c xs sep W hc hb hcap hl hs hx
  have e : (xs.map fun l => (⟨l.toArray⟩ : ByteArray)).map (·.data.toList) = xs := by
    rw [List.map_map]
    exact (List.map_congr_left (fun l _ => by simp)).trans (List.map_id xs)
  have h := Tryd.strings_Join bk o c (xs.map fun l => (⟨l.toArray⟩ : ByteArray)) ⟨sep.toArray⟩ W (fun j x hj => by
    rw [List.getElem?_map] at hj
    cases hy : xs[j]? with
    | none => simp [hy] at hj
    | some y => rw [hy] at hj; simp at hj; rw [← hj]; exact hc j y hy) hb (by simp; omega) (by simpa using hcap) (by
      rw [e]
      have hj := join_le (m := 1000) sep xs hx
      have h1 : sep.length * xs.length ≤ 1000 * 1000000 := Nat.mul_le_mul hs hl
      show (Lib.join xs sep.toArray.toList).length ≤ _
      simp only [List.toList_toArray]
      omega)
  rw [e, List.length_map] at h
  exact h.mono fun e w' h => h
theorem itoK (w : World) : ItoK (fun i => i < 100) w := fun i W hi _ =>
  (Tryd.strconv_Itoa_small i hi W).mono fun e w' ⟨he, hw⟩ => ⟨he, by rw [hw]; exact Below.refl _ _⟩
end Go.Proofs.YtilogbggilchaaaDoor
