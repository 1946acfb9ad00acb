/- Polynomials that came in. -/
import Derived.Test.YtilogbggilchaaaGreatP
import Derived.Test.YtilogbggilchaaaGreatH
import Derived.Test.YtilogbggilchaaaGreatFR
import Derived.Deep.SlicePairs
namespace Go.Proofs.YtilogbggilchaaaGreat
set_option linter.unusedSimpArgs false
set_option linter.unusedVariables false
open Go.ChangeShapes Go.WideShapes Go.ChangeAt Go.RowKit Go.Joins Go.Deep
theorem Tryz.cellsTerm : Tryz.prog.cellsOf 57 = 2 := by kernel_rfl
theorem Tryz.cellsIntsP : Tryz.prog.cellsOf 55 = 1 := by kernel_rfl

theorem slCell {H : Type} {enc : TypeId × Value → H} {W : World} {fuel : Nat} {v : Value} {x : DataW H × List MemPlace}
    (h : DataW.trod enc Tryz.prog W 0 (fun _ => true) true fuel 55 [v] = some x) : ∃ xs : List Int, Sl W v xs := by
  rcases open_ints Tryz.underlying55 Tryz.underlying3 Tryz.cellsInt h with ⟨hcs, _⟩ | ⟨x, l, c, zs, hcs, _, hl, hm, hz, _, hcell, hwz⟩
  · simp at hcs
    subst hcs
    exact ⟨[], none, 0, rfl, fun h => absurd h (by simp)⟩
  · simp at hcs
    subst hcs
    simp at hz
    have hlen : (zs.take l).length = l := by rw [List.length_take]; omega
    refine ⟨zs.take l, some x, c, by rw [hlen], fun hp => ?_⟩
    rw [hlen] at hp
    obtain ⟨b, off, rfl⟩ := addrAt (hcell 0 (by omega))
    refine ⟨b, off, rfl, cellLt (hcell 0 (by omega)), fun i hi => ?_⟩
    rw [hlen] at hi
    have e : (zs.take l).getD i 0 = zs.getD i 0 := by simp [List.getD_eq_getElem?_getD, List.getElem?_take, hi]
    rw [e]
    exact cellAdd (hcell i (by omega))

theorem plCell {H : Type} {enc : TypeId × Value → H} {W : World} {fuel : Nat} {v : Value} {x : DataW H × List MemPlace}
    (h : DataW.trod enc Tryz.prog W 0 (fun _ => true) true fuel 54 [v] = some x) : ∃ ts : List Tm, Pl W v ts := by
  rcases open_slice_pairs (P := Tryz.prog) Tryz.underlying54 Tryz.underlying57 Tryz.cellsTerm rfl rfl Tryz.cellsInt Tryz.cellsIntsP h with ⟨hcs, _⟩ | ⟨a, len, cap, m, n, V0, V1, D0, D1, P0, P1, hcs, _, hl, hm, hmm, _, hx⟩
  · simp at hcs
    subst hcs
    exact ⟨[], none, 0, rfl, Nat.le_refl _, fun h => absurd h (by simp)⟩
  · simp at hcs
    subst hcs
    simp at hmm
    subst hmm
    obtain ⟨T, hT⟩ := choose_lt (α := Tm) (n := m) (p := fun i t => V0 i = .int .i64 t.1 ∧ Sl W (V1 i) t.2) (fun i hi => by
      obtain ⟨_, _, h0, h1⟩ := hx i hi
      obtain ⟨xs, hs⟩ := slCell h1
      obtain ⟨k, hk, _⟩ := DataW.trod_int Tryz.underlying3 h0
      exact ⟨(k, xs), by simpa using hk, hs⟩)
    refine ⟨(List.range len).map T, some a, m, by simp, by simpa using hl, fun hp => ?_⟩
    simp at hp
    obtain ⟨b, off, rfl⟩ := addrAt (by simpa using (hx 0 (by omega)).1)
    refine ⟨b, off, rfl, cellLt (hx 0 (by omega)).1, fun i hi => ?_⟩
    simp at hi
    have hg : ((List.range len).map T).getD i noT = T i := by simp [List.getD_eq_getElem?_getD, hi]
    rw [hg]
    obtain ⟨h0, h1, _, _⟩ := hx i (by omega)
    obtain ⟨e0, hs⟩ := hT i (by omega)
    rw [e0] at h0
    exact ⟨cellAdd h0, V1 i, cellAdd h1, hs⟩
end Go.Proofs.YtilogbggilchaaaGreat
