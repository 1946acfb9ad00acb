/- Vectors, and lists of them, that came in. -/
import Derived.Test.YtilogbggilchaaaGreatPC
import Derived.Test.YtilogbggilchaaaGreatWA
namespace Go.Proofs.YtilogbggilchaaaGreat
set_option linter.unusedSimpArgs false
set_option linter.unusedVariables false
open Go.ChangeShapes Go.WideShapes Go.ChangeAt Go.RowKit Go.Joins Go.Deep
theorem Tryz.cellsPolyX : Tryz.prog.cellsOf 54 = 1 := by kernel_rfl
theorem Tryz.cellsVecX : Tryz.prog.cellsOf 25 = 1 := by kernel_rfl

theorem vlCellOf {H : Type} {enc : TypeId × Value → H} {W : World} {fuel : Nat} {t : TypeId} {v : Value} {x : DataW H × List MemPlace} (ht : Tryz.prog.underlying t = some (.slice 54))
    (h : DataW.trod enc Tryz.prog W 0 (fun _ => true) true fuel t [v] = some x) : ∃ fs : List (List Tm), Vl W v fs := by
  rcases open_slice1 ht Tryz.cellsPolyX h with ⟨hcs, _⟩ | ⟨a, len, cap, m, n, V, D, P, hcs, _, hl, hm, hmm, _, hx⟩
  · simp at hcs
    subst hcs
    exact ⟨[], none, 0, rfl, fun h => absurd h (by simp)⟩
  · simp at hcs
    subst hcs
    simp at hmm
    subst hmm
    obtain ⟨T, hT⟩ := choose_lt (α := List Tm) (n := m) (p := fun i f => Pl W (V i) f) (fun i hi => plCell (hx i hi).2)
    refine ⟨(List.range len).map T, some a, m, by simp, fun hp => ?_⟩
    simp at hp
    obtain ⟨b, off, rfl⟩ := addrAt (by simpa using (hx 0 (by omega)).1)
    refine ⟨b, off, rfl, cellLt (hx 0 (by omega)).1, fun i hi => ?_⟩
    simp at hi
    have hg : ((List.range len).map T).getD i [] = T i := by simp [List.getD_eq_getElem?_getD, hi]
    rw [hg]
    exact ⟨V i, cellAdd (hx i (by omega)).1, hT i (by omega)⟩
theorem wlCell {H : Type} {enc : TypeId × Value → H} {W : World} {fuel : Nat} {v : Value} {x : DataW H × List MemPlace}
    (h : DataW.trod enc Tryz.prog W 0 (fun _ => true) true fuel 26 [v] = some x) : ∃ vss : List (List (List Tm)), Wl W v vss := by
  rcases open_slice1 Tryz.underlying26 Tryz.cellsVecX h with ⟨hcs, _⟩ | ⟨a, len, cap, m, n, V, D, P, hcs, _, hl, hm, hmm, _, hx⟩
  · simp at hcs
    subst hcs
    exact ⟨[], none, 0, rfl, fun h => absurd h (by simp)⟩
  · simp at hcs
    subst hcs
    simp at hmm
    subst hmm
    obtain ⟨T, hT⟩ := choose_lt (α := List (List Tm)) (n := m) (p := fun i f => Vl W (V i) f) (fun i hi => vlCellOf Tryz.underlying25 (hx i hi).2)
    refine ⟨(List.range len).map T, some a, m, by simp, fun hp => ?_⟩
    simp at hp
    obtain ⟨b, off, rfl⟩ := addrAt (by simpa using (hx 0 (by omega)).1)
    refine ⟨b, off, rfl, cellLt (hx 0 (by omega)).1, fun i hi => ?_⟩
    simp at hi
    have hg : ((List.range len).map T).getD i [] = T i := by simp [List.getD_eq_getElem?_getD, hi]
    rw [hg]
    exact ⟨V i, cellAdd (hx i (by omega)).1, hT i (by omega)⟩
theorem vl_of {H : Type} {enc : TypeId × Value → H} {W : World} {t : TypeId} {a : Option Addr} {len cap : Nat} {d : DataW H} {p : List MemPlace} (ht : Tryz.prog.underlying t = some (.slice 54))
    (h : DataW.Trod enc Tryz.prog W 0 (fun _ => true) true t (.slice a len cap) d p) : ∃ fs : List (List Tm), Vl W (.slice a len cap) fs := by
  obtain ⟨fuel, hf⟩ := h
  exact vlCellOf ht (by simpa [Value.cells] using hf)
theorem wl_of {H : Type} {enc : TypeId × Value → H} {W : World} {a : Option Addr} {len cap : Nat} {d : DataW H} {p : List MemPlace}
    (h : DataW.Trod enc Tryz.prog W 0 (fun _ => true) true 26 (.slice a len cap) d p) : ∃ vss : List (List (List Tm)), Wl W (.slice a len cap) vss := by
  obtain ⟨fuel, hf⟩ := h
  exact wlCell (by simpa [Value.cells] using hf)
end Go.Proofs.YtilogbggilchaaaGreat
