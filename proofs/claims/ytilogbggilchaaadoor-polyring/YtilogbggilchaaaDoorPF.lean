/- Rows of terms of the call's own. -/
import Derived.Test.YtilogbggilchaaaDoorPE
import Derived.Test.YtilogbggilchaaaDoorFR
import Derived.Test.YtilogbggilchaaaDoorFF
import Derived.Deep.OwnRows
import Derived.Deep.RegionHeld
namespace Go.Proofs.YtilogbggilchaaaDoor
set_option linter.unusedSimpArgs false
set_option linter.unusedVariables false
open Go.RowKit
theorem Tryd.infoTerm : (Tryd.prog.info? 55).map (fun i => (i.zero, i.size, i.bytes)) = some (some (.agg #[.int .i64 0, .slice none 0 0]), 2, 32) := by kernel_rfl

abbrev TV := Int × Value × List Int
def tm (t : TV) : Tm := (t.1, t.2.2)
def flat (ts : List TV) : List Value := ts.flatMap fun t => [.int .i64 t.1, t.2.1]
theorem flat_len (ts : List TV) : (flat ts).length = ts.length * 2 := by
  induction ts with
  | nil => rfl
  | cons t ts ih => simp only [flat, List.flatMap_cons, List.length_append, List.length_cons, List.length_nil] at ih ⊢; omega
theorem flat_cons (t : TV) (ts : List TV) : flat (t :: ts) = .int .i64 t.1 :: t.2.1 :: flat ts := rfl
theorem flat_append (ts us : List TV) : flat (ts ++ us) = flat ts ++ flat us := by unfold flat; rw [List.flatMap_append]
def noTV : TV := (0, .slice none 0 0, [])
theorem flat_at : ∀ (ts : List TV) (i : Nat), i < ts.length → (flat ts)[i * 2]? = some (.int .i64 (ts.getD i noTV).1) ∧ (flat ts)[i * 2 + 1]? = some (ts.getD i noTV).2.1
  | [], i, h => by simp at h
  | t :: ts, 0, h => by simp [flat_cons]
  | t :: ts, i + 1, h => by
    have := flat_at ts i (by simpa using h)
    rw [flat_cons, show (i + 1) * 2 = i * 2 + 1 + 1 by omega]
    simpa using this
theorem tm_at (ts : List TV) (i : Nat) (h : i < ts.length) : (ts.map tm).getD i noT = tm (ts.getD i noTV) := by
  simp [List.getD_eq_getElem?_getD, h]
theorem tv_mem (ts : List TV) (i : Nat) (h : i < ts.length) : ts.getD i noTV ∈ ts := by
  rw [List.getD_eq_getElem?_getD, List.getElem?_eq_getElem h]; simp

def Es (w : World) (ts : List TV) : Prop := ∀ t ∈ ts, Sl w t.2.1 t.2.2
theorem Es.below {w w' : World} {ts : List TV} (h : Es w ts) (hb : Below w.heap.size w w') : Es w' ts := fun t ht => (h t ht).below hb
theorem flat_one {w : World} {ts : List TV} (h : Es w ts) : ∀ u ∈ flat ts, u.oneCell' = true := by
  intro u hu
  simp only [flat, List.mem_flatMap] at hu
  obtain ⟨t, ht, hu⟩ := hu
  simp only [List.mem_cons, List.not_mem_nil, or_false] at hu
  rcases hu with rfl | rfl
  · rfl
  · obtain ⟨a, c, e, _⟩ := h t ht; rw [e]; rfl

theorem own_pl {w : World} {B : Nat} {v : Value} {ts : List TV} (h : w.ownsRow B 55 2 v ts.length (flat ts)) (he : Es w ts) : Pl w v (ts.map tm) := by
  rcases h.2 with ⟨h1, h2⟩ | ⟨g, cap, cur, rfl, hg, hh, hn, hm, hcs, ht⟩
  · refine ⟨none, 0, by rw [h1]; simp [h2], by simp [h2], fun hp => by simp at hp; omega⟩
  · refine ⟨_, cap, by rw [List.length_map], by rw [List.length_map]; exact hn, fun hp => ⟨g, 0, rfl, ?_, fun i hi => ?_⟩⟩
    · apply Nat.lt_of_not_le; intro hle; rw [Array.getElem?_eq_none hle] at hh; simp at hh
    · rw [List.length_map] at hi
      rw [tm_at ts i hi]
      have key : ∀ j, j < ts.length * 2 → w.cell? ⟨g, j, none⟩ = (flat ts)[j]? := by
        intro j hj
        have h1 : (cur.toList.take (ts.length * 2))[j]? = (flat ts)[j]? := by rw [ht]
        rw [List.getElem?_take, if_pos hj] at h1
        rw [← h1]
        unfold World.cell?
        simp only [hh]
        simp
      have h2 := flat_at ts i hi
      refine ⟨?_, (ts.getD i noTV).2.1, ?_, he _ (tv_mem ts i hi)⟩
      · rw [Nat.zero_add, key _ (by omega), h2.1]; rfl
      · rw [Nat.zero_add, key _ (by omega), h2.2]

theorem Pl.tvs {w : World} {v : Value} {ts : List Tm} (h : Pl w v ts) : ∃ (a : Option Addr) (cap : Nat) (us : List TV), v = .slice a us.length cap ∧ us.length ≤ cap ∧ us.map tm = ts ∧ Es w us ∧
    (0 < us.length → ∃ b off, a = some ⟨b, off, none⟩ ∧ b < w.heap.size ∧ ∀ j u, (flat us)[j]? = some u → w.cell? ⟨b, off + j, none⟩ = some u) := by
  obtain ⟨a, cap, rfl, hcap, h⟩ := h
  by_cases hp : 0 < ts.length
  · obtain ⟨b, off, rfl, hlt, hc⟩ := h hp
    obtain ⟨V, hV⟩ := Go.Deep.choose_lt (α := Value) (n := ts.length) (p := fun i u => w.cell? ⟨b, off + i * 2 + 1, none⟩ = some u ∧ Sl w u (ts.getD i noT).2) (fun i hi => by
      obtain ⟨_, v, h1, h2⟩ := hc i hi; exact ⟨v, h1, h2⟩)
    let us : List TV := (List.range ts.length).map fun i => ((ts.getD i noT).1, V i, (ts.getD i noT).2)
    have hl : us.length = ts.length := by simp [us]
    have hat : ∀ i, i < ts.length → us.getD i noTV = ((ts.getD i noT).1, V i, (ts.getD i noT).2) := fun i hi => by simp [us, List.getD_eq_getElem?_getD, hi]
    refine ⟨some ⟨b, off, none⟩, cap, us, by rw [hl], by rw [hl]; exact hcap, ?_, ?_, fun _ => ⟨b, off, rfl, hlt, ?_⟩⟩
    · apply List.ext_getElem?
      intro i
      by_cases hi : i < ts.length
      · simp [us, tm, hi]
      · rw [List.getElem?_eq_none (by simp; omega), List.getElem?_eq_none (by omega)]
    · intro t ht
      simp only [us, List.mem_map, List.mem_range] at ht
      obtain ⟨i, hi, rfl⟩ := ht
      exact (hV i hi).2
    · intro j u hj
      have hjl : j < us.length * 2 := by
        rw [← flat_len]
        apply Nat.lt_of_not_le; intro hle; rw [List.getElem?_eq_none hle] at hj; simp at hj
      rw [hl] at hjl
      have hi : j / 2 < ts.length := by omega
      have hf := flat_at us (j / 2) (by rw [hl]; exact hi)
      rw [hat _ hi] at hf
      by_cases he : j % 2 = 0
      · have e : j / 2 * 2 = j := by omega
        rw [e] at hf
        rw [hf.1] at hj
        simp only [Option.some.injEq] at hj
        subst hj
        have := (hc _ hi).1
        rwa [e] at this
      · have e : j / 2 * 2 + 1 = j := by omega
        rw [e] at hf
        rw [hf.2] at hj
        simp only [Option.some.injEq] at hj
        subst hj
        have := (hV _ hi).1
        rwa [Nat.add_assoc, e] at this
  · have e : ts = [] := List.length_eq_zero_iff.1 (by omega)
    subst e
    exact ⟨a, cap, [], rfl, Nat.zero_le _, rfl, fun t ht => by simp at ht, fun h => absurd h (by simp)⟩
end Go.Proofs.YtilogbggilchaaaDoor
