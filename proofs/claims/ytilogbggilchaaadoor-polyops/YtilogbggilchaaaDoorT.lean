/- Put of the reference. -/
import Derived.Test.YtilogbggilchaaaDoorM
namespace Go.Proofs.YtilogbggilchaaaDoor
set_option linter.unusedSimpArgs false
set_option linter.unusedVariables false
open Go.RowKit
theorem ownsRow_sl {w : World} {B : Nat} {v : Value} {zs : List Int} {T : TypeId} (h : w.ownsRow B T 1 v zs.length (zs.map (Value.int .i64))) : Sl w v zs := by
  obtain ⟨_, h | ⟨g, cap, cur, rfl, hg, hh, hn, hm, hcs, ht⟩⟩ := h
  · obtain ⟨rfl, h0⟩ := h
    refine ⟨none, 0, by rw [h0], fun hp => absurd hp (by omega)⟩
  · refine ⟨_, cap, rfl, fun _ => ⟨g, 0, rfl, ?_, fun i hi => ?_⟩⟩
    · apply Nat.lt_of_not_le; intro hle; rw [Array.getElem?_eq_none hle] at hh; simp at hh
    · have e : cur.toList[i]? = some (.int .i64 (zs.getD i 0)) := by
        have h1 : (cur.toList.take (zs.length * 1))[i]? = (zs.map (Value.int .i64))[i]? := by rw [ht]
        rw [List.getElem?_take, if_pos (by omega), List.getElem?_map] at h1
        rw [h1, List.getD_eq_getElem?_getD, List.getElem?_eq_getElem hi]; rfl
      unfold World.cell?
      simp only [hh, Nat.zero_add]
      simpa using e

theorem take_map_snoc {zs : List Int} {k : Nat} (h : k < zs.length) {z : Int} (hz : zs.getD k 0 = z) : (zs.take (k + 1)).map (Value.int .i64) = (zs.take k).map (Value.int .i64) ++ [.int .i64 z] := by
  rw [List.take_succ_eq_append_getElem h, List.map_append]
  rw [List.getD_eq_getElem?_getD, List.getElem?_eq_getElem h] at hz
  simp at hz
  simp [hz]

theorem one_cell1 (z : Int) : ∀ u ∈ [Value.int .i64 z], u.oneCell' = true := by
  intro u hu; simp at hu; subst hu; rfl
theorem put_step {w wr w1 : World} {v v' : Value} {zs : List Int} {k : Nat} {T : TypeId} {z : Int} {O : Obj} (hk : k < zs.length) (hz : zs.getD k 0 = z)
    (hb : Below w.heap.size w wr) (hown : wr.ownsRow w.heap.size T 1 v k ((zs.take k).map (Value.int .i64)))
    (hown' : w1.ownsRow w.heap.size T 1 v' (k + 1) ((zs.take k).map (Value.int .i64) ++ [.int .i64 z])) (hg : (wr.alloc O).grownBy w1 v.ownBlock) :
    w1.ownsRow w.heap.size T 1 v' (k + 1) ((zs.take (k + 1)).map (Value.int .i64)) ∧ Below w.heap.size w w1 := by
  refine ⟨by rw [take_map_snoc hk hz]; exact hown', ?_⟩
  refine (hb.alloc hb.size O).grown hg (Nat.le_trans hb.size (by simp)) (fun k' hk' => ?_)
  obtain ⟨_, h | ⟨g, cap, cur, rfl, hgb, _⟩⟩ := hown
  · obtain ⟨rfl, _⟩ := h; simp [Value.ownBlock] at hk'
  · simp [Value.ownBlock] at hk'; omega
end Go.Proofs.YtilogbggilchaaaDoor
