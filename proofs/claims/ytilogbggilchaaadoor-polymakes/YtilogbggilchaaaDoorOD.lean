/- The texts of numbers, by the library's table. -/
import Derived.Test.YtilogbggilchaaaDoorPW
import Derived.Test.YtilogbggilchaaaDoorRows
import Derived.Lib.LaidTab
import Derived.Lib.AppendIntMem
import Derived.MakeChecks
import Derived.Stop.LaidErr
namespace Go.Proofs.YtilogbggilchaaaDoor
set_option linter.unusedSimpArgs false
set_option linter.unusedVariables false
open Go.RowKit
theorem tab_below {W W' : World} {name : String} {k : IntKind} {zs : List Int} (h : Lib.TabIs Tryd.prog W name k zs) (hb : Below W.heap.size W W') : Lib.TabIs Tryd.prog W' name k zs := by
  unfold Lib.TabIs World.var? at h ⊢
  cases hg : Tryd.prog.globalNamed name with
  | none => rw [hg] at h; simp at h
  | some g =>
    rw [hg] at h
    simp only [Option.bind_some] at h ⊢
    have hlt : g < W.heap.size := by
      apply Nat.lt_of_not_le; intro hle
      rw [Array.getElem?_eq_none hle] at h; simp at h
    rw [hb.block g hlt]
    exact h
theorem itoT (w : World) (h : Lib.TabIs Tryd.prog w "internal/strconv.uint64pow10" .u64 Lib.pow10Tab) : ItoK (fun i => i ≤ 1000) w := fun i W hi hb =>
  (Tryd.strconv_Itoa (i : Int) (by omega) (by omega) W (tab_below h hb)).mono fun e w' ⟨he, k, os, hw⟩ => ⟨by rw [he]; simp [Lib.itoa], by rw [hw]; exact Lib.below_grow _ _ (Nat.le_refl _) k os⟩
theorem tab_of {W : World} (h : laidMetH Tryd.prog Rows.polyMakesRow.laid W) : Lib.TabIs Tryd.prog W "internal/strconv.uint64pow10" .u64 Lib.pow10Tab := by
  rw [MakeChecks.laidMetH_plain _ _ _ (by kernel_rfl)] at h
  have h3 : laidMet Tryd.prog [("internal/strconv.uint64pow10", Rows.laid_internal_strconv_uint64pow10)] W := h.tail.tail
  have e : (Rows.laid_internal_strconv_uint64pow10 : DataW Unit) = Lib.tabData .u64 Lib.pow10Tab := by rfl
  rw [e] at h3
  exact Lib.tabIs_of_head (g := 1) (t := 127) (n := 20) (e := 120) (by kernel_rfl) (by kernel_rfl) (by kernel_rfl) (by kernel_rfl) (by kernel_rfl) (by kernel_rfl) h3
end Go.Proofs.YtilogbggilchaaaDoor
