/- poly.Of. -/
import Derived.Test.YtilogbggilchaaaTM
import Derived.Test.YtilogbggilchaaaFK
namespace Go.Proofs.Ytilogbggilchaaa
set_option linter.unusedSimpArgs false
set_option linter.unusedVariables false
open Go.RowKit
structure Sing (w1 w : World) (sv : Value) (qs : List (TV × Value)) : Prop where
  own : w.ownsRow w1.heap.size 25 1 sv qs.length (qs.map Prod.snd)
  rows : ∀ q ∈ qs, w.ownsRow w1.heap.size 34 2 q.2 1 (flat [q.1])
  es : ∀ q ∈ qs, Sl w1 q.1.2.1 q.1.2.2
  below : Below w1.heap.size w1 w
theorem Sing.next {w1 w w' : World} {sv : Value} {qs : List (TV × Value)} (h : Sing w1 w sv qs) (hb : Below w.heap.size w w') : Sing w1 w' sv qs :=
  ⟨ownBlock_lt h.own hb, fun q hq => ownBlock_lt (h.rows q hq) hb, h.es, h.below.trans (hb.mono h.below.size)⟩
theorem Sing.snoc {w1 W W2 : World} {sv sv2 : Value} {qs : List (TV × Value)} {q : TV × Value} (h : Sing w1 W sv qs) (hq : W.ownsRow w1.heap.size 34 2 q.2 1 (flat [q.1])) (he : Sl w1 q.1.2.1 q.1.2.2)
    (h2 : W2.ownsRow w1.heap.size 25 1 sv2 (qs.length + 1) (qs.map Prod.snd ++ [q.2])) (g2 : W.grownBy W2 sv.ownBlock) : Sing w1 W2 sv2 (qs ++ [q]) := by
  have hT : (34 : TypeId) ≠ 25 := by decide
  refine ⟨by rw [List.length_append, List.map_append]; exact h2, fun r hr => ?_, fun r hr => ?_, own_grown h.own h.below g2 (Nat.le_refl _)⟩
  · rcases List.mem_append.1 hr with hr | hr
    · exact (h.rows r hr).kept g2 (own_neT hT (h.rows r hr) h.own)
    · rw [List.mem_singleton] at hr; subst hr
      exact hq.kept g2 (own_neT hT hq h.own)
  · rcases List.mem_append.1 hr with hr | hr
    · exact h.es r hr
    · rw [List.mem_singleton] at hr; subst hr; exact he
theorem Sing.vl {w1 w : World} {sv : Value} {qs : List (TV × Value)} (h : Sing w1 w sv qs) : Vl w sv (qs.map fun q => [tm q.1]) := by
  obtain ⟨a, c, rfl⟩ := own_sl h.own
  refine ⟨a, c, by rw [List.length_map], fun hp => ?_⟩
  rw [List.length_map] at hp
  obtain ⟨g, rfl, _, hlt, _⟩ := own_at1 h.own 0 hp
  refine ⟨g, 0, rfl, hlt, fun i hi => ?_⟩
  rw [List.length_map] at hi
  obtain ⟨g2, hg2, _, _, hc⟩ := own_at1 h.own i hi
  simp only [Option.some.injEq, Addr.mk.injEq, and_true] at hg2
  subst hg2
  have e : (qs.map fun q => [tm q.1]).getD i [] = [tm qs[i].1] := by simp [List.getD_eq_getElem?_getD, hi]
  rw [e]
  refine ⟨qs[i].2, by rw [Nat.zero_add, hc]; simp [hi], ?_⟩
  have hm : qs[i] ∈ qs := List.getElem_mem hi
  exact own_pl (ts := [qs[i].1]) (h.rows _ hm) (fun t ht => by
    rw [List.mem_singleton] at ht; subst ht
    exact (h.es _ hm).below h.below)
theorem made_term {w : World} {B : Nat} (hB : B ≤ w.heap.size) (c : Int) (ev : Value) : (w.alloc (.cells #[.int .i64 c, ev] 34)).ownsRow B 34 2 (.slice (some ⟨w.heap.size, 0, none⟩) 1 1) 1 [.int .i64 c, ev] :=
  ⟨by simp, .inr ⟨w.heap.size, 1, _, rfl, hB, heap_alloc_new w _, Nat.le_refl _, by decide, by simp, by simp⟩⟩
end Go.Proofs.Ytilogbggilchaaa
