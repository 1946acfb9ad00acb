/- Lists of terms that came in. -/
import Derived.Test.YtilogbggilchaaaDoorPC
import Derived.Test.YtilogbggilchaaaDoorOD
namespace Go.Proofs.YtilogbggilchaaaDoor
set_option linter.unusedSimpArgs false
set_option linter.unusedVariables false
open Go.ChangeShapes Go.WideShapes Go.ChangeAt Go.RowKit Go.Joins Go.Deep
theorem tmsCell {H : Type} {enc : TypeId × Value → H} {W : World} {fuel : Nat} {v : Value} {x : DataW H × List MemPlace}
    (h : DataW.trod enc Tryd.prog W 0 (fun _ => true) true fuel 24 [v] = some x) : ∃ ts : List Tm, Pl W v ts := by
  rcases open_slice_pairs (P := Tryd.prog) Tryd.underlying24 Tryd.underlying55 Tryd.cellsTerm rfl rfl Tryd.cellsInt Tryd.cellsIntsP h with ⟨hcs, _⟩ | ⟨a, len, cap, m, n, V0, V1, D0, D1, P0, P1, hcs, _, hl, hm, hmm, _, hx⟩
  · simp at hcs
    subst hcs
    exact ⟨[], none, 0, rfl, Nat.le_refl _, fun h => absurd h (by simp)⟩
  · simp at hcs
    subst hcs
    simp at hmm
    subst hmm
    obtain ⟨T, hT⟩ := choose_lt (α := Tm) (n := m) (p := fun i t => V0 i = .int .i64 t.1 ∧ Sl W (V1 i) t.2) (fun i hi => by
      obtain ⟨_, _, h0, h1⟩ := hx i hi
      obtain ⟨xs, hs⟩ := slCell h1
      obtain ⟨k, hk, _⟩ := DataW.trod_int Tryd.underlying3 h0
      exact ⟨(k, xs), by simpa using hk, hs⟩)
    refine ⟨(List.range len).map T, some a, m, by simp, by simpa using hl, fun hp => ?_⟩
    simp at hp
    obtain ⟨b, off, rfl⟩ := addrAt (by simpa using (hx 0 (by omega)).1)
    refine ⟨b, off, rfl, cellLt (hx 0 (by omega)).1, fun i hi => ?_⟩
    simp at hi
    have hg : ((List.range len).map T).getD i noT = T i := by simp [List.getD_eq_getElem?_getD, hi]
    rw [hg]
    obtain ⟨h0, h1, _, _⟩ := hx i (by omega)
    obtain ⟨e0, hs⟩ := hT i (by omega)
    rw [e0] at h0
    exact ⟨cellAdd h0, V1 i, cellAdd h1, hs⟩

theorem tms_of {H : Type} {enc : TypeId × Value → H} {W : World} {a : Option Addr} {len cap : Nat} {d : DataW H} {p : List MemPlace}
    (h : DataW.Trod enc Tryd.prog W 0 (fun _ => true) true 24 (.slice a len cap) d p) : ∃ ts : List Tm, Pl W (.slice a len cap) ts := by
  obtain ⟨fuel, hf⟩ := h
  exact tmsCell (by simpa [Value.cells] using hf)
end Go.Proofs.YtilogbggilchaaaDoor
