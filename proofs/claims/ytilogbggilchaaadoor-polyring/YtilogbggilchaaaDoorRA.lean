/- Collect of the reference. -/
import Derived.Test.YtilogbggilchaaaDoorPL
import Derived.Test.YtilogbggilchaaaDoorQ
import Derived.Deep.CutBlock
import Derived.Deep.DeepCutAuto
import Derived.Deep.RegionHeldLaw
import Derived.Maps.AppendAt
namespace Go.Proofs.YtilogbggilchaaaDoor
set_option linter.unusedSimpArgs false
set_option linter.unusedVariables false
open Go.RowKit
theorem ins_pre (p o : Int) (t : Tm) (post : List Tm) : ∀ pre : List Tm, (∀ u ∈ pre, 0 < ordS o u.2 t.2) → ins p o (pre ++ post) t = pre ++ ins p o post t
  | [], _ => rfl
  | u :: pre, h => by
    simp only [List.cons_append, ins]
    rw [if_pos (h u (by simp)), ins_pre p o t post pre (fun x hx => h x (by simp [hx]))]
theorem ins_len1 {p o : Int} {t : Tm} : ∀ out : List Tm, (ins p o out t).length ≤ out.length + 1
  | [] => by simp [ins]
  | u :: out => by
    simp only [ins]
    split
    · have := ins_len1 (p := p) (o := o) (t := t) out; simp only [List.length_cons]; omega
    · split <;> simp only [List.length_cons] <;> omega
theorem fold_len1 {p o : Int} : ∀ (l out : List Tm), (l.foldl (ins p o) out).length ≤ out.length + l.length
  | [], out => by simp
  | t :: l, out => by
    simp only [List.foldl_cons, List.length_cons]
    have h1 := fold_len1 (p := p) (o := o) l (ins p o out t)
    have h2 := ins_len1 (p := p) (o := o) (t := t) out
    omega
structure Col (Φ : Value → Prop) (p o : Int) (w1 wr : World) (ts : List Tm) (k : Nat) (v : Value) (outs : List TV) : Prop where
  own : wr.ownsRow w1.heap.size 55 2 v outs.length (flat outs)
  es : Es w1 outs
  below : Below w1.heap.size w1 wr
  eq : outs.map tm = (ts.take k).foldl (ins p o) []
  nil : outs = [] → v = .slice none 0 0
  ap : ∀ t ∈ outs, Φ t.2.1
theorem Col.next {Φ : Value → Prop} {p o : Int} {w1 wr w' : World} {ts : List Tm} {k : Nat} {v : Value} {outs : List TV} (h : Col Φ p o w1 wr ts k v outs) (hb : Below wr.heap.size wr w') : Col Φ p o w1 w' ts k v outs :=
  ⟨ownBlock_lt h.own hb, h.es, h.below.trans (hb.mono h.below.size), h.eq, h.nil, h.ap⟩
theorem Col.len {Φ : Value → Prop} {p o : Int} {w1 wr : World} {ts : List Tm} {k : Nat} {v : Value} {outs : List TV} (h : Col Φ p o w1 wr ts k v outs) : outs.length ≤ k := by
  have h1 := fold_len1 (p := p) (o := o) (ts.take k) []
  rw [← h.eq] at h1
  rw [List.length_map] at h1
  have h2 := List.length_take_le k ts
  simp only [List.length_nil] at h1
  omega
theorem Col.at {Φ : Value → Prop} {p o : Int} {w1 wr : World} {ts : List Tm} {k : Nat} {v : Value} {outs : List TV} (h : Col Φ p o w1 wr ts k v outs) (h0 : 0 < outs.length) : ∃ g cap, v = .slice (some ⟨g, 0, none⟩) outs.length cap ∧ outs.length ≤ cap ∧ w1.heap.size ≤ g ∧ g < wr.heap.size ∧ (∀ j, wr.frozen? ⟨g, j, none⟩ = false) ∧
    ∀ j u, (flat outs)[j]? = some u → wr.cell? ⟨g, j, none⟩ = some u := by
  rcases h.own.2 with ⟨h1, h2⟩ | ⟨g, cap, cur, rfl, hg, hh, hn, hm, hcs, ht⟩
  · omega
  · have hlt := World.ownsRow.lt h.own g rfl
    refine ⟨g, cap, rfl, hn, hlt.1, hlt.2, fun j => h.own.frozenAt j, fun j u hj => ?_⟩
    have hjl : j < outs.length * 2 := by
      rw [← flat_len]
      apply Nat.lt_of_not_le; intro hle; rw [List.getElem?_eq_none hle] at hj; simp at hj
    rw [h.own.cellAt j hjl]; exact hj

theorem flat_set : ∀ (j : Nat) (ts : List TV) (c : Int), j < ts.length → (flat ts).set (j * 2) (.int .i64 c) = flat (ts.set j (c, (ts.getD j noTV).2))
  | _, [], c, h => by simp at h
  | 0, t :: ts, c, _ => by simp [flat_cons]
  | j + 1, t :: ts, c, h => by
    rw [flat_cons, show (j + 1) * 2 = j * 2 + 1 + 1 by omega]
    simp only [List.set_cons_succ, flat_cons]
    rw [flat_set j ts c (by simpa using h)]
    simp
theorem ins_at {p o : Int} {outs : List TV} {j : Nat} {t : TV} (hm : ∀ u ∈ outs.take j, 0 < ordS o u.2.2 t.2.2) (hj : j < outs.length) (hs : (outs.getD j noTV).2.2 = t.2.2) (hn : ¬ 0 < ordS o (outs.getD j noTV).2.2 t.2.2) :
    ins p o (outs.map tm) (tm t) = (outs.set j (((outs.getD j noTV).1 + t.1) % p, (outs.getD j noTV).2)).map tm := by
  have e : outs.map tm = (outs.take j).map tm ++ (outs.drop j).map tm := by rw [← List.map_append, List.take_append_drop]
  have e3 : outs.set j (((outs.getD j noTV).1 + t.1) % p, (outs.getD j noTV).2) = outs.take j ++ (((outs.getD j noTV).1 + t.1) % p, (outs.getD j noTV).2) :: outs.drop (j + 1) := by
    rw [List.set_eq_take_append_cons_drop, if_pos hj]
  rw [e, ins_pre _ _ _ _ _ (fun u hu => by
    obtain ⟨x, hx, rfl⟩ := List.mem_map.1 hu
    exact hm x hx), e3, List.map_append]
  congr 1
  have e2 : outs.drop j = outs.getD j noTV :: outs.drop (j + 1) := by
    rw [List.drop_eq_getElem_cons hj]; simp [List.getD_eq_getElem?_getD, hj]
  rw [e2]
  simp only [List.map_cons, ins]
  rw [if_neg (by exact hn), if_pos (by exact hs)]
  rfl
theorem Col.put {Φ : Value → Prop} {p o : Int} {w1 wr : World} {ts : List Tm} {k j g cap : Nat} {outs : List TV} {t : TV} {c : Int} (h : Col Φ p o w1 wr ts k (.slice (some ⟨g, 0, none⟩) outs.length cap) outs) (ht : ts.take (k + 1) = ts.take k ++ [tm t]) (hj : j < outs.length)
    (hm : ∀ u ∈ outs.take j, 0 < ordS o u.2.2 t.2.2) (hn : ¬ 0 < ordS o (outs.getD j noTV).2.2 t.2.2) (hs : (outs.getD j noTV).2.2 = t.2.2) (hc : c = ((outs.getD j noTV).1 + t.1) % p) (hg : w1.heap.size ≤ g) :
    Col Φ p o w1 (wr.setCell ⟨g, j * 2, none⟩ (.int .i64 c)) ts (k + 1) (.slice (some ⟨g, 0, none⟩) outs.length cap) (outs.set j (c, (outs.getD j noTV).2)) := by
  have s1 := h.own.stored (j * 2) (.int .i64 c)
  rw [flat_set j outs c hj] at s1
  refine ⟨?_, ?_, h.below.trans (grown_below s1.2 hg h.below.size), ?_, fun e => ?_, ?_⟩
  · rw [List.length_set]; exact s1.1
  · intro u hu
    rcases List.mem_or_eq_of_mem_set hu with hu | hu
    · exact h.es u hu
    · subst hu; have h1 := h.es _ (tv_mem outs j hj); exact h1
  · rw [ht, List.foldl_append, ← h.eq]
    simp only [List.foldl_cons, List.foldl_nil]
    rw [hc]
    exact (ins_at hm hj hs hn).symm
  · have : (outs.set j (c, (outs.getD j noTV).2)).length = 0 := by rw [e]; rfl
    rw [List.length_set] at this
    omega
  · intro u hu
    rcases List.mem_or_eq_of_mem_set hu with hu | hu
    · exact h.ap u hu
    · subst hu; have h1 := h.ap _ (tv_mem outs j hj); exact h1

theorem own_grown {w W w' : World} {B : Nat} {T : TypeId} {s : Nat} {v : Value} {n : Nat} {xs : List Value} (h : W.ownsRow B T s v n xs) (hb : Below B w W) (hg : W.grownBy w' v.ownBlock) (hB : B ≤ w.heap.size) : Below B w w' :=
  hb.grown hg (Nat.le_trans hB hb.size) (fun k hk => (World.ownsRow.lt h k hk).1)
end Go.Proofs.YtilogbggilchaaaDoor
