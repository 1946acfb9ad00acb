/- Clearing a column. -/
import Derived.Test.YtilogbggilchaaaDoorFF
import Derived.Test.YtilogbggilchaaaDoorH
import Derived.RegionTactic
namespace Go.Proofs.YtilogbggilchaaaDoor
set_option linter.unusedSimpArgs false
set_option linter.unusedVariables false
open Go.RowKit
theorem grown_refl (w : World) (r : Option Nat) : w.grownBy w r := ⟨rfl, rfl, rfl, Nat.le_refl _, fun _ _ _ => rfl⟩
theorem grown_trans {a b c : World} {r : Option Nat} (h : a.grownBy b r) (k : b.grownBy c r) : a.grownBy c r :=
  ⟨k.os.trans h.os, k.tape.trans h.tape, k.output.trans h.output, Nat.le_trans h.size k.size, fun i hi hn => (k.block i (Nat.lt_of_lt_of_le hi h.size) hn).trans (h.block i hi hn)⟩
theorem grown_below {w w' : World} {g B : Nat} (h : w.grownBy w' (some g)) (hB : B ≤ g) (hw : B ≤ w.heap.size) : Below B w w' :=
  ⟨h.os, h.tape, h.output, h.size, fun k hk => h.block k (by omega) (fun e => by simp at e; omega)⟩
theorem below_grown {w w' : World} {r : Option Nat} (h : Below w.heap.size w w') : w.grownBy w' r :=
  ⟨h.os, h.tape, h.output, h.size, fun k hk _ => h.block k hk⟩
theorem grown_sl {w w' : World} {g : Nat} {v : Value} {xs : List Int} (h : w.grownBy w' (some g)) (hs : Sl w v xs) (hne : ∀ b off n c, v = .slice (some ⟨b, off, none⟩) n c → b ≠ g) : Sl w' v xs := by
  obtain ⟨a, cap, rfl, h1⟩ := hs
  refine ⟨a, cap, rfl, fun hp => ?_⟩
  obtain ⟨b, off, rfl, hlt, hc⟩ := h1 hp
  refine ⟨b, off, rfl, Nat.lt_of_lt_of_le hlt h.size, fun i hi => ?_⟩
  exact h.cell (hc i hi) (fun e => hne b off _ _ rfl (by injection e))
abbrev Piv := (Nat × List Int) × Value
def qcells : List Piv → List Value
  | [] => []
  | q :: r => .int .i64 q.1.1 :: q.2 :: qcells r
theorem qcells_at : ∀ (qs : List Piv) (k : Nat) (h : k < qs.length), (qcells qs)[2 * k]? = some (.int .i64 qs[k].1.1) ∧ (qcells qs)[2 * k + 1]? = some qs[k].2
  | [], k, h => by simp at h
  | q :: r, 0, h => by simp [qcells]
  | q :: r, k + 1, h => by
    have := qcells_at r k (by simpa using h)
    have e : 2 * (k + 1) = 2 * k + 1 + 1 := by omega
    rw [e]
    simpa [qcells] using this
theorem qcells_snoc (qs : List Piv) (q : Piv) : qcells (qs ++ [q]) = qcells qs ++ [.int .i64 q.1.1, q.2] := by
  induction qs with
  | nil => rfl
  | cons a r ih => simp [qcells, ih]

structure Found (B : Nat) (w : World) (v : Value) (qs : List Piv) : Prop where
  own : w.ownsRow B 109 2 v qs.length (qcells qs)
  rows : ∀ q ∈ qs, Own w B q.2 q.1.2
theorem ownBlock_lt {w : World} {B : Nat} {T : TypeId} {s : Nat} {v : Value} {n : Nat} {xs : List Value} (h : w.ownsRow B T s v n xs) {w' : World} (hb : Below w.heap.size w w') : w'.ownsRow B T s v n xs := by
  cases ho : v.ownBlock with
  | none => exact h.kept (below_grown (r := none) hb) (Or.inl ho)
  | some k => exact h.kept (below_grown (r := none) hb) (Or.inr (by rw [ho]; simp))
theorem Found.below {B : Nat} {w w' : World} {v : Value} {qs : List Piv} (h : Found B w v qs) (hb : Below w.heap.size w w') : Found B w' v qs :=
  ⟨ownBlock_lt h.own hb, fun q hq => ownBlock_lt (h.rows q hq) hb⟩
theorem own_ne {w : World} {B B' : Nat} {u v : Value} {n m : Nat} {xs ys : List Value} (h : w.ownsRow B 3 1 u n xs) (k : w.ownsRow B' 109 2 v m ys) : u.ownBlock = none ∨ u.ownBlock ≠ v.ownBlock := by
  rcases h.2 with ⟨rfl, _⟩ | ⟨g, c, cur, rfl, _, hg, _⟩
  · left; rfl
  · right
    rcases k.2 with ⟨rfl, _⟩ | ⟨g', c', cur', rfl, _, hg', _⟩
    · simp [Value.ownBlock]
    · simp only [Value.ownBlock, ne_eq, Option.some.injEq]
      intro e
      subst e
      rw [hg] at hg'
      simp at hg'
theorem Found.snoc {B : Nat} {w w1 : World} {v v' : Value} {qs : List Piv} {c : Nat} {r : List Int} {u : Value} (h : Found B w v qs) (hu : Own w B u r)
    (hown : w1.ownsRow B 109 2 v' (qs.length + 1) (qcells qs ++ [.int .i64 c, u])) (hg : w.grownBy w1 v.ownBlock) : Found B w1 v' (qs ++ [((c, r), u)]) := by
  refine ⟨by rw [qcells_snoc, List.length_append]; exact hown, fun q hq => ?_⟩
  rw [List.mem_append, List.mem_singleton] at hq
  rcases hq with hq | rfl
  · exact (h.rows q hq).kept hg (own_ne (h.rows q hq) h.own)
  · exact hu.kept hg (own_ne hu h.own)
theorem Found.sl {B : Nat} {w : World} {v : Value} {qs : List Piv} (h : Found B w v qs) : ∃ a c, v = .slice a qs.length c := by
  rcases h.own.2 with ⟨h1, h2⟩ | ⟨g, c, cur, h1, _⟩
  · exact ⟨none, 0, by rw [h1, h2]⟩
  · exact ⟨_, c, h1⟩
theorem Found.at {B : Nat} {w : World} {qs : List Piv} {a : Option Addr} {c : Nat} (h : Found B w (.slice a qs.length c) qs) (k : Nat) (hk : k < qs.length) :
    ∃ g, a = some ⟨g, 0, none⟩ ∧ B ≤ g ∧ g < w.heap.size ∧ w.cell? ⟨g, 2 * k, none⟩ = some (.int .i64 qs[k].1.1) ∧ w.cell? ⟨g, 2 * k + 1, none⟩ = some qs[k].2 := by
  have ho := h.own
  rcases h.own.2 with ⟨h1, h2⟩ | ⟨g, c', cur, h1, hB, hg, _⟩
  · omega
  · simp only [Value.slice.injEq] at h1
    obtain ⟨rfl, _, _⟩ := h1
    obtain ⟨q1, q2⟩ := qcells_at qs k hk
    have hlt := World.ownsRow.lt ho g rfl
    exact ⟨g, rfl, hlt.1, hlt.2, by rw [ho.cellAt _ (by omega)]; exact q1, by rw [ho.cellAt _ (by omega)]; exact q2⟩
theorem two_new (w : World) (a b : Value) (T : TypeId) : ∀ j u, [a, b][j]? = some u → (w.alloc (.cells #[a, b] T)).cell? ((⟨w.heap.size, 0, none⟩ : Addr).add j) = some u := by
  intro j u hj
  rcases j with _ | _ | j
  · simp at hj; subst hj; simp [Addr.add]
  · simp at hj; subst hj; simp [Addr.add]
  · simp at hj
end Go.Proofs.YtilogbggilchaaaDoor
