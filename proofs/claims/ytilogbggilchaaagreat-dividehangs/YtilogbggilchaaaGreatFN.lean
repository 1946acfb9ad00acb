/- RankOf of the reference. -/
import Derived.Test.YtilogbggilchaaaGreatFG
import Derived.Deep.AppendLies
import Derived.BigRegion
namespace Go.Proofs.YtilogbggilchaaaGreat
set_option linter.unusedSimpArgs false
set_option linter.unusedVariables false
open Go.RowKit
theorem run_append_none_c {P : Program} (w : World) (base : Nat) (t ty e : TypeId) (i : TypeInfo) (size : Nat) (ht : P.underlying t = some (.slice e)) (hi : P.info? e = some i)
    (v : Value) (n c : Nat) (xs : List Value) (hown : w.ownsRow base e size v n xs) :
    (Builtin.append_ #[t, t] ty #[v, .slice none 0 c]).run P w = .ok v w := by
  rcases hown.2 with ⟨rfl, rfl⟩ | ⟨g, cap, cur, rfl, _, _, hnc, _⟩
  · simp [Builtin.append_, run_underlying ht, sizeOf, typeInfo, hi, Builtin.lenOf, Builtin.firstCells]
  · simp [Builtin.append_, run_underlying ht, sizeOf, typeInfo, hi, Builtin.lenOf, Builtin.firstCells, hnc, storeCells]
theorem wpList_append_none_c {P : Program} {w : World} {ops : Array Oper} {rest : List Oper} {o : Oper} {a : Act} {Q : Exit → Act → World → Prop} (hgd : o.guard = none) (s x : Operand) (t : TypeId)
    (ho : o.op = .call { callee := .builtin .append, args := #[s, x], argTypes := #[t, t] })
    (base : Nat) (e : TypeId) (i : TypeInfo) (size : Nat) (ht : P.underlying t = some (.slice e)) (hi : P.info? e = some i)
    (v : Value) (n c : Nat) (xs : List Value) (hs : a.eval s = v) (hown : w.ownsRow base e size v n xs) (hx : a.eval x = .slice none 0 c)
    (h : wpList P ops Q rest (a.put o.dst v) w) : wpList P ops Q (o :: rest) a w := by
  refine wpList_plain hgd fun K hK => ?_
  have hrun := run_append_none_c (P := P) w base t o.type e i size ht hi v n c xs hown
  unfold Oper.wp
  simp [execOp, ho, resolve, invoke, builtin, hs, hx, hrun, Result.andThen]
  exact hK _ _ h

theorem own_neT {w : World} {B B' : Nat} {T T' : TypeId} {s s' : Nat} {u v : Value} {n m : Nat} {xs ys : List Value} (hT : T ≠ T') (h : w.ownsRow B T s u n xs) (k : w.ownsRow B' T' s' v m ys) : u.ownBlock = none ∨ u.ownBlock ≠ v.ownBlock := by
  rcases h.2 with ⟨rfl, _⟩ | ⟨g, c, cur, rfl, _, hg, _⟩
  · left; rfl
  · right
    rcases k.2 with ⟨rfl, _⟩ | ⟨g', c', cur', rfl, _, hg', _⟩
    · simp [Value.ownBlock]
    · simp only [Value.ownBlock, ne_eq, Option.some.injEq]
      intro e
      subst e
      rw [hg] at hg'
      simp at hg'
      exact hT hg'.2

def qrows (qs : List Piv) : List Value := qs.map Prod.snd
def qcols (qs : List Piv) : List Value := qs.map fun q => .int .i64 q.1.1
structure Kept (B : Nat) (w : World) (kv av : Value) (qs : List Piv) : Prop where
  own : w.ownsRow B 55 1 kv qs.length (qrows qs)
  cols : w.ownsRow B 3 1 av qs.length (qcols qs)
  rows : ∀ q ∈ qs, Own w B q.2 q.1.2
  apart : ∀ q ∈ qs, q.2.ownBlock = none ∨ q.2.ownBlock ≠ av.ownBlock
theorem Kept.below {B : Nat} {w w' : World} {kv av : Value} {qs : List Piv} (h : Kept B w kv av qs) (hb : Below w.heap.size w w') : Kept B w' kv av qs :=
  ⟨ownBlock_lt h.own hb, ownBlock_lt h.cols hb, fun q hq => ownBlock_lt (h.rows q hq) hb, h.apart⟩
theorem own_sl {w : World} {B : Nat} {T : TypeId} {s : Nat} {v : Value} {n : Nat} {xs : List Value} (h : w.ownsRow B T s v n xs) : ∃ a c, v = .slice a n c := by
  rcases h.2 with ⟨h1, h2⟩ | ⟨g, c, cur, h1, _⟩
  · exact ⟨none, 0, by rw [h1, h2]⟩
  · exact ⟨_, c, h1⟩
theorem own_at1 {w : World} {B : Nat} {T : TypeId} {a : Option Addr} {c n : Nat} {xs : List Value} (h : w.ownsRow B T 1 (.slice a n c) n xs) (k : Nat) (hk : k < n) :
    ∃ g, a = some ⟨g, 0, none⟩ ∧ B ≤ g ∧ g < w.heap.size ∧ w.cell? ⟨g, k, none⟩ = xs[k]? := by
  rcases h.2 with ⟨h1, h2⟩ | ⟨g, c', cur, h1, hB, hg, _⟩
  · omega
  · simp only [Value.slice.injEq] at h1
    obtain ⟨rfl, _, _⟩ := h1
    have hlt := World.ownsRow.lt h g rfl
    exact ⟨g, rfl, hlt.1, hlt.2, h.cellAt k (by omega)⟩
theorem Kept.snoc {B : Nat} {W W2 W4 : World} {kv av kv2 : Value} {qs : List Piv} {c : Nat} {r : List Int} {u : Value} {O1 O2 : Obj} {ga ca : Nat} (h : Kept B W kv av qs) (hu : Own W B u r) (hua : u.ownBlock = none ∨ u.ownBlock ≠ av.ownBlock)
    (h2 : W2.ownsRow B 55 1 kv2 (qs.length + 1) (qrows qs ++ [u])) (g2 : (W.alloc O1).grownBy W2 kv.ownBlock)
    (h4 : W4.ownsRow B 3 1 (.slice (some ⟨ga, 0, none⟩) (qs.length + 1) ca) (qs.length + 1) (qcols qs ++ [.int .i64 c])) (g4 : (W2.alloc O2).grownBy W4 av.ownBlock)
    (hat : av.ownBlock = some ga ∨ ga = (W2.alloc O2).heap.size) : Kept B W4 kv2 (.slice (some ⟨ga, 0, none⟩) (qs.length + 1) ca) (qs ++ [((c, r), u)]) := by
  have hTne : (3 : TypeId) ≠ 55 := by decide
  have k1 := h.below (belowNew (A := O1))
  have u1 := ownBlock_lt hu (belowNew (A := O1))
  have r2 : ∀ q ∈ qs, Own W2 B q.2 q.1.2 := fun q hq => (k1.rows q hq).kept g2 (own_neT hTne (k1.rows q hq) k1.own)
  have c2 := k1.cols.kept g2 (own_neT hTne k1.cols k1.own)
  have u2 := u1.kept g2 (own_neT hTne u1 k1.own)
  have r3 : ∀ q ∈ qs, Own (W2.alloc O2) B q.2 q.1.2 := fun q hq => ownBlock_lt (r2 q hq) belowNew
  have c3 := ownBlock_lt c2 (belowNew (A := O2))
  have u3 := ownBlock_lt u2 (belowNew (A := O2))
  have k3 := ownBlock_lt h2 (belowNew (A := O2))
  have k4 := k3.kept g4 (own_neT (Ne.symm hTne) k3 c3)
  have new : ∀ {x : Value} {ys : List Int}, Own (W2.alloc O2) B x ys → (x.ownBlock = none ∨ x.ownBlock ≠ av.ownBlock) → (x.ownBlock = none ∨ x.ownBlock ≠ Value.ownBlock (.slice (some ⟨ga, 0, none⟩) (qs.length + 1) ca)) := by
    intro x ys hx hxa
    rcases hxa with hxa | hxa
    · exact Or.inl hxa
    · rcases hat with hat | hat
      · rw [hat] at hxa; exact Or.inr hxa
      · cases hb : x.ownBlock with
        | none => exact Or.inl rfl
        | some kx =>
          have := (World.ownsRow.lt hx kx hb).2
          right
          simp only [Value.ownBlock, ne_eq, Option.some.injEq]
          omega
  refine ⟨?_, ?_, fun q hq => ?_, fun q hq => ?_⟩
  · rw [qrows, List.map_append, List.length_append]; exact k4
  · rw [qcols, List.map_append, List.length_append]; exact h4
  · rw [List.mem_append, List.mem_singleton] at hq
    rcases hq with hq | rfl
    · exact (r3 q hq).kept g4 (h.apart q hq)
    · exact u3.kept g4 hua
  · rw [List.mem_append, List.mem_singleton] at hq
    rcases hq with hq | rfl
    · exact new (r3 q hq) (h.apart q hq)
    · exact new u3 hua
end Go.Proofs.YtilogbggilchaaaGreat
