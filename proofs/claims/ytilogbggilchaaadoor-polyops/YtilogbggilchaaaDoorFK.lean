/- Rank; what must be in any case. -/
import Derived.Test.YtilogbggilchaaaDoorFG
import Derived.Deep.AppendLies
import Derived.BigRegion
namespace Go.Proofs.YtilogbggilchaaaDoor
set_option linter.unusedSimpArgs false
set_option linter.unusedVariables false
open Go.RowKit
theorem run_append_none_c {P : Program} (w : World) (base : Nat) (t ty e : TypeId) (i : TypeInfo) (size : Nat) (ht : P.underlying t = some (.slice e)) (hi : P.info? e = some i)
    (v : Value) (n c : Nat) (xs : List Value) (hown : w.ownsRow base e size v n xs) :
    (Builtin.append_ #[t, t] ty #[v, .slice none 0 c]).run P w = .ok v w := by
  rcases hown.2 with ⟨rfl, rfl⟩ | ⟨g, cap, cur, rfl, _, _, hnc, _⟩
  · simp [Builtin.append_, run_underlying ht, sizeOf, typeInfo, hi, Builtin.lenOf, Builtin.firstCells]
  · simp [Builtin.append_, run_underlying ht, sizeOf, typeInfo, hi, Builtin.lenOf, Builtin.firstCells, hnc, storeCells]
theorem wpList_append_none_c {P : Program} {w : World} {ops : Array Oper} {rest : List Oper} {o : Oper} {a : Act} {Q : Exit → Act → World → Prop} (hgd : o.guard = none) (s x : Operand) (t : TypeId)
    (ho : o.op = .call { callee := .builtin .append, args := #[s, x], argTypes := #[t, t] })
    (base : Nat) (e : TypeId) (i : TypeInfo) (size : Nat) (ht : P.underlying t = some (.slice e)) (hi : P.info? e = some i)
    (v : Value) (n c : Nat) (xs : List Value) (hs : a.eval s = v) (hown : w.ownsRow base e size v n xs) (hx : a.eval x = .slice none 0 c)
    (h : wpList P ops Q rest (a.put o.dst v) w) : wpList P ops Q (o :: rest) a w := by
  refine wpList_plain hgd fun K hK => ?_
  have hrun := run_append_none_c (P := P) w base t o.type e i size ht hi v n c xs hown
  unfold Oper.wp
  simp [execOp, ho, resolve, invoke, builtin, hs, hx, hrun, Result.andThen]
  exact hK _ _ h

def qrows (qs : List Piv) : List Value := qs.map Prod.snd
def qcols (qs : List Piv) : List Value := qs.map fun q => .int .i64 q.1.1
structure Kept (B : Nat) (w : World) (kv av : Value) (qs : List Piv) : Prop where
  own : w.ownsRow B 36 1 kv qs.length (qrows qs)
  cols : w.ownsRow B 3 1 av qs.length (qcols qs)
  rows : ∀ q ∈ qs, Own w B q.2 q.1.2
  apart : ∀ q ∈ qs, q.2.ownBlock = none ∨ q.2.ownBlock ≠ av.ownBlock
theorem Kept.below {B : Nat} {w w' : World} {kv av : Value} {qs : List Piv} (h : Kept B w kv av qs) (hb : Below w.heap.size w w') : Kept B w' kv av qs :=
  ⟨ownBlock_lt h.own hb, ownBlock_lt h.cols hb, fun q hq => ownBlock_lt (h.rows q hq) hb, h.apart⟩
end Go.Proofs.YtilogbggilchaaaDoor
