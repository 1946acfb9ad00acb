/- Rows that came in. -/
import Derived.Test.YtkmjmmnnnbjghaaFD
import Derived.ProofKit
import Derived.OpenShut
import Derived.ShutString
import Derived.ChangeOld
import Derived.Deep.Matrix
namespace Go.Proofs.Ytkmjmmnnnbjghaa
set_option linter.unusedSimpArgs false
set_option linter.unusedVariables false
open Go.ChangeShapes Go.WideShapes Go.ChangeAt Go.RowKit Go.Deep

theorem Try.ownR : ownKnob Try.prog.godebug = none := by kernel_rfl
theorem Try.laidOutR : laidOutB Try.prog = true := by kernel_rfl
theorem Try.cellsIntR : Try.prog.cellsOf 3 = 1 := by kernel_rfl
theorem Try.cellsIntsR : Try.prog.cellsOf 36 = 1 := by kernel_rfl

theorem cellLt {w : World} {a : Addr} {v : Value} (h : w.cell? a = some v) : a.block < w.heap.size := World.block_lt_of_cell? w a h

theorem addrAt {w : World} {a : Addr} {v : Value} (h : w.cell? (a.add 0) = some v) : ∃ b off, a = ⟨b, off, none⟩ := by
  obtain ⟨b, off, spot⟩ := a
  have hspot : spot = none := by simpa [Addr.add] using World.cell?_spot h
  exact ⟨b, off, by rw [hspot]⟩
theorem cellAdd {w : World} {b off i : Nat} {v : Value} (h : w.cell? ((⟨b, off, none⟩ : Addr).add i) = some v) : w.cell? ⟨b, off + i, none⟩ = some v := by
  by_cases h0 : i = 0
  · subst h0; simpa [Addr.add] using h
  · simpa [Addr.add, h0] using h

theorem rws_of {H : Type} {enc : TypeId × Value → H} {W : World} {v : Value} {d : DataW H} {p : List MemPlace} (hv : ∃ a len cap, v = .slice a len cap)
    (h : DataW.Trod enc Try.prog W 0 (fun _ => true) true 31 v d p) : ∃ xss : List (List Int), Rws W v xss := by
  obtain ⟨a0, len0, cap0, rfl⟩ := hv
  obtain ⟨fuel, hf⟩ := h
  rcases open_int_rows Try.underlying31 Try.underlying36 Try.underlying3 Try.cellsIntsR Try.cellsIntR hf with ⟨hcs, _⟩ | ⟨a, len, cap, A, L, C, Z, hcs, _, hl, _, _, hall⟩
  · simp [Value.cells] at hcs
    obtain ⟨rfl, rfl, rfl⟩ := hcs
    exact ⟨[], none, 0, rfl, fun h => absurd h (by simp)⟩
  · simp [Value.cells] at hcs
    obtain ⟨rfl, rfl, rfl⟩ := hcs
    refine ⟨(List.range len0).map (fun r => (Z r).take (L r)), some a, cap0, by simp, fun hp => ?_⟩
    simp at hp
    obtain ⟨b, off, rfl⟩ := addrAt (hall 0 (by omega)).1
    refine ⟨b, off, rfl, cellLt (hall 0 (by omega)).1, fun i hi => ?_⟩
    simp at hi
    obtain ⟨hc, hL, _, hZ, _, hnone, hsome⟩ := hall i (by omega)
    have hg : ((List.range len0).map (fun r => (Z r).take (L r))).getD i [] = (Z i).take (L i) := by
      simp [List.getD_eq_getElem?_getD, hi]
    have hzl : ((Z i).take (L i)).length = L i := by rw [List.length_take]; omega
    rw [hg]
    refine ⟨_, cellAdd hc, A i, C i, by rw [hzl], fun hpos => ?_⟩
    rw [hzl] at hpos
    cases hA : A i with
    | none => have := hnone hA; omega
    | some a' =>
      obtain ⟨_, hcells⟩ := hsome a' hA
      obtain ⟨b', off', rfl⟩ := addrAt (hcells 0 (by omega))
      refine ⟨b', off', rfl, cellLt (hcells 0 (by omega)), fun j hj => ?_⟩
      rw [hzl] at hj
      have e : ((Z i).take (L i)).getD j 0 = (Z i).getD j 0 := by
        simp [List.getD_eq_getElem?_getD, List.getElem?_take, hj]
      rw [e]
      exact cellAdd (hcells j (by omega))

end Go.Proofs.Ytkmjmmnnnbjghaa
