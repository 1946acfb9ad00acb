/- MonoOrders, walked. -/
import Derived.Test.YtkmjmmnnnbjghaaGreatL
import Derived.Deep.DeepCutAuto
import Derived.Test.YtkmjmmnnnbjghaaGreatFB
import Derived.Deep.AppendLies
import Derived.BigRegion
import Derived.Deep.RegionLaw
namespace Go.Proofs.YtkmjmmnnnbjghaaGreat
set_option linter.unusedSimpArgs false
set_option linter.unusedVariables false
open Go.RowKit

def ordA (p n o v : Int) (xs ys : List Int) : Int := if errAll p n o v [xs, ys] = 0 then ordS o xs ys else 0
/-- A ring that is boxed at this block. -/
def BoxAt (w : World) (b : Nat) (p n o v : Int) : Prop :=
  b < w.heap.size ∧ w.cell? ⟨b, 0, none⟩ = some (.int .i64 p) ∧ w.cell? ⟨b, 1, none⟩ = some (.int .i64 n) ∧ w.cell? ⟨b, 2, none⟩ = some (.int .i64 o) ∧ w.cell? ⟨b, 3, none⟩ = some (.int .i64 v)
theorem BoxAt.below {w w' : World} {b : Nat} {p n o v : Int} (h : BoxAt w b p n o v) (hb : Below w.heap.size w w') : BoxAt w' b p n o v := by
  obtain ⟨h0, h1, h2, h3, h4⟩ := h
  exact ⟨Nat.lt_of_lt_of_le h0 hb.size, by rw [hb.cell (p := ⟨b, 0, none⟩) h0]; exact h1, by rw [hb.cell (p := ⟨b, 1, none⟩) h0]; exact h2, by rw [hb.cell (p := ⟨b, 2, none⟩) h0]; exact h3, by rw [hb.cell (p := ⟨b, 3, none⟩) h0]; exact h4⟩
theorem BoxAt.new (w : World) (p n o v : Int) (T : TypeId) : BoxAt (w.alloc (.cells #[.int .i64 p, .int .i64 n, .int .i64 o, .int .i64 v] T)) w.heap.size p n o v :=
  ⟨by simp, by simp, by simp, by simp, by simp⟩

/-- What is known of a world in the middle of the law. -/
structure Mid (w w' : World) (x y z : Value) (xs ys zs : List Int) (p n o v : Int) : Prop where
  below : Below w.heap.size w w'
  box : BoxAt w' w.heap.size p n o v
  sx : Sl w' x xs
  sy : Sl w' y ys
  sz : Sl w' z zs
theorem Mid.next {w w' w2 : World} {x y z : Value} {xs ys zs : List Int} {p n o v : Int} (h : Mid w w' x y z xs ys zs p n o v) (hb : Below w'.heap.size w' w2) : Mid w w2 x y z xs ys zs p n o v :=
  ⟨h.below.trans (hb.mono h.below.size), h.box.below hb, h.sx.below hb, h.sy.below hb, h.sz.below hb⟩

end Go.Proofs.YtkmjmmnnnbjghaaGreat

/- pivots. -/
namespace Go.Proofs.YtkmjmmnnnbjghaaGreat
set_option linter.unusedSimpArgs false
set_option linter.unusedVariables false
open Go.RowKit

theorem own_form {w : World} {B : Nat} {u : Value} {xs : List Int} (h : Own w B u xs) (h0 : 0 < xs.length) : ∃ g c, u = .slice (some ⟨g, 0, none⟩) xs.length c ∧ B ≤ g ∧ g < w.heap.size := by
  rcases h.2 with ⟨_, h2⟩ | ⟨g, c, cur, h1, _⟩
  · omega
  · subst h1
    exact ⟨g, c, rfl, (World.ownsRow.lt h g rfl).1, (World.ownsRow.lt h g rfl).2⟩
theorem own_any_form {w : World} {B : Nat} {u : Value} {xs : List Int} (h : Own w B u xs) : ∃ a c, u = .slice a xs.length c := by
  rcases h.2 with ⟨h1, h2⟩ | ⟨g, c, cur, h1, _⟩
  · exact ⟨none, 0, by rw [h1, h2]⟩
  · exact ⟨_, c, h1⟩
theorem own_ints {w : World} {B g c : Nat} {xs : List Int} (h : Own w B (.slice (some ⟨g, 0, none⟩) xs.length c) xs) : IntsAt w g 0 xs := fun i hi => by rw [Nat.zero_add]; exact own_cell h i hi

theorem own_cellN {w : World} {B g cap N : Nat} {xs : List Int} (h : Own w B (.slice (some ⟨g, 0, none⟩) N cap) xs) (hN : xs.length = N) (k : Nat) (hk : k < N) : w.cell? ⟨g, k, none⟩ = some (.int .i64 (xs.getD k 0)) := by
  subst hN; exact own_cell h k hk
theorem own_frozen {w : World} {B g cap N : Nat} {xs : List Int} (h : Own w B (.slice (some ⟨g, 0, none⟩) N cap) xs) (hN : xs.length = N) (k : Nat) : w.frozen? ⟨g, k, none⟩ = false := by
  subst hN; exact World.ownsRow.frozenAt h k
theorem own_store {w : World} {B g cap N : Nat} {xs : List Int} (h : Own w B (.slice (some ⟨g, 0, none⟩) N cap) xs) (hN : xs.length = N) (k : Nat) (z : Int) : Own (w.setCell ⟨g, k, none⟩ (.int .i64 z)) B (.slice (some ⟨g, 0, none⟩) N cap) (xs.set k z) := by
  subst hN
  have h1 := (World.ownsRow.stored h k (.int .i64 z)).1
  rw [ints_set] at h1
  unfold Own
  rw [List.length_set]
  exact h1
theorem scl_at (p s : Int) (xs : List Int) (k : Nat) (h : k < xs.length) : (scl p s xs).getD k 0 = xs.getD k 0 * s % p := by
  simp [scl, List.getD_eq_getElem?_getD, h]

theorem two_new (w : World) (a b : Value) (T : TypeId) : ∀ j u, [a, b][j]? = some u → (w.alloc (.cells #[a, b] T)).cell? ((⟨w.heap.size, 0, none⟩ : Addr).add j) = some u := by
  intro j u hj
  rcases j with _ | _ | j
  · simp at hj; subst hj; simp [Addr.add]
  · simp at hj; subst hj; simp [Addr.add]
  · simp at hj
theorem two_cells (c : Int) (a : Option Addr) (n k : Nat) : ∀ u ∈ [Value.int .i64 c, .slice a n k], u.oneCell' = true := by
  intro u hu
  simp at hu
  rcases hu with rfl | rfl <;> rfl

/-- The list that was kept, of the pieces in memory. -/
abbrev fsOf (qs : List Piv) : List (Nat × List Int) := qs.map Prod.fst

theorem fsOf_snoc (qs : List Piv) (q : Piv) : fsOf (qs ++ [q]) = fsOf qs ++ [q.1] := by simp

end Go.Proofs.YtkmjmmnnnbjghaaGreat

/- Rank; what must be in any case. -/
namespace Go.Proofs.YtkmjmmnnnbjghaaGreat
set_option linter.unusedSimpArgs false
set_option linter.unusedVariables false
open Go.RowKit

def rankR (p : Int) (xss : List (List Int)) : Int := if rowsE p xss = 0 then ((pivs p xss).length : Int) else 0

theorem rowsE_ok {p : Int} {xss : List (List Int)} (h : rowsE p xss = 0) : errP p = 0 ∧ xss.length ≤ 400 ∧ (xss.getD 0 []).length ≤ 400 ∧ ∀ r ∈ xss, RowOk p (xss.getD 0 []).length r := by
  unfold rowsE at h
  by_cases h1 : errP p = 0
  · rw [if_pos h1] at h
    unfold rowE at h
    by_cases h2 : 400 < (xss.length : Int) ∨ xss.any longR = true
    · rw [if_pos h2] at h; omega
    · rw [if_neg h2] at h
      cases h3 : xss.any (unlikeR (xss.getD 0 []).length)
      · rw [if_neg (by rw [h3]; exact Bool.false_ne_true)] at h
        cases h4 : xss.any (fun xs => xs.any (outP p))
        · have hl : xss.any longR = false := by
            cases hh : xss.any longR
            · rfl
            · exact absurd (Or.inr hh) h2
          have hlen := longR_ok hl
          refine ⟨h1, by omega, ?_, fun r hr => ⟨?_, ?_⟩⟩
          · cases xss with
            | nil => simp
            | cons x r => simpa using hlen x (by simp)
          · rw [List.any_eq_false] at h3
            have := h3 r hr
            simp only [unlikeR, bne_iff_ne, ne_eq, Decidable.not_not] at this
            omega
          · rw [List.any_eq_false] at h4
            have := h4 r hr
            exact outP_all (by simpa using this)
        · rw [if_pos h4] at h; omega
      · rw [if_pos h3] at h; omega
  · rw [if_neg h1] at h; exact absurd h h1

/-- The rows of the beginning, laid. -/
theorem begun_rows (w : World) (T U : TypeId) : Rws ((((w.alloc (.cells #[.int .i64 1, .int .i64 2] T)).alloc (.cells #[.int .i64 2, .int .i64 4] T)).alloc (.cells #[.int .i64 0, .int .i64 1] T)).alloc
    (.cells #[.slice (some ⟨w.heap.size, 0, none⟩) 2 2, .slice (some ⟨w.heap.size + 1, 0, none⟩) 2 2, .slice (some ⟨w.heap.size + 2, 0, none⟩) 2 2] U)) (.slice (some ⟨w.heap.size + 3, 0, none⟩) 3 3) [[1, 2], [2, 4], [0, 1]] := by
  have s0 := (((Sl.of2 w 1 2 T).below (belowTwo (A := .cells #[.int .i64 2, .int .i64 4] T) (B := .cells #[.int .i64 0, .int .i64 1] T))))
  have s1 := (((Sl.of2 (w.alloc (.cells #[.int .i64 1, .int .i64 2] T)) 2 4 T).below (belowNew (A := .cells #[.int .i64 0, .int .i64 1] T))))
  have s2 := Sl.of2 ((w.alloc (.cells #[.int .i64 1, .int .i64 2] T)).alloc (.cells #[.int .i64 2, .int .i64 4] T)) 0 1 T
  have e1 : (w.alloc (.cells #[.int .i64 1, .int .i64 2] T)).heap.size = w.heap.size + 1 := by simp
  have e2 : ((w.alloc (.cells #[.int .i64 1, .int .i64 2] T)).alloc (.cells #[.int .i64 2, .int .i64 4] T)).heap.size = w.heap.size + 2 := by simp
  rw [e1] at s1
  rw [e2] at s2
  refine ⟨_, _, rfl, fun _ => ⟨_, _, rfl, by simp, fun i hi => ?_⟩⟩
  simp at hi
  rcases i with _ | _ | _ | i
  · exact ⟨_, by simp [go_sem], s0.below belowNew⟩
  · exact ⟨_, by simp [go_sem], s1.below belowNew⟩
  · exact ⟨_, by simp [go_sem], s2.below belowNew⟩
  · omega

end Go.Proofs.YtkmjmmnnnbjghaaGreat

/- CheckRows of the reference. -/
namespace Go.Proofs.YtkmjmmnnnbjghaaGreat
set_option linter.unusedSimpArgs false
set_option linter.unusedVariables false
open Go.RowKit

theorem outP_between (p x : Int) : outP p x = !betweenB x 0 (p - 1) := by
  unfold outP betweenB
  by_cases h1 : 0 ≤ x <;> by_cases h2 : x ≤ p - 1 <;> simp [h1, h2] <;> omega
theorem slFacts {w : World} {b off : Nat} {xss : List (List Int)} (h : SlsAt w b off xss) (k : Nat) (hk : k < xss.length) : ∃ a c, w.cell? ⟨b, off + k, none⟩ = some (.slice a (xss.getD k []).length c) ∧ Sl w (.slice a (xss.getD k []).length c) (xss.getD k []) := by
  obtain ⟨v, hc, hs⟩ := h k hk
  obtain ⟨a, c, rfl, _⟩ := id hs
  exact ⟨a, c, hc, hs⟩

end Go.Proofs.YtkmjmmnnnbjghaaGreat

/- RankOf of the reference. -/
namespace Go.Proofs.YtkmjmmnnnbjghaaGreat
set_option linter.unusedSimpArgs false
set_option linter.unusedVariables false
open Go.RowKit

theorem run_append_none_c {P : Program} (w : World) (base : Nat) (t ty e : TypeId) (i : TypeInfo) (size : Nat) (ht : P.underlying t = some (.slice e)) (hi : P.info? e = some i)
    (v : Value) (n c : Nat) (xs : List Value) (hown : w.ownsRow base e size v n xs) :
    (Builtin.append_ #[t, t] ty #[v, .slice none 0 c]).run P w = .ok v w := by
  rcases hown.2 with ⟨rfl, rfl⟩ | ⟨g, cap, cur, rfl, _, _, hnc, _⟩
  · simp [Builtin.append_, run_underlying ht, sizeOf, typeInfo, hi, Builtin.lenOf, Builtin.firstCells]
  · simp [Builtin.append_, run_underlying ht, sizeOf, typeInfo, hi, Builtin.lenOf, Builtin.firstCells, hnc, storeCells]
theorem wpList_append_none_c {P : Program} {w : World} {ops : Array Oper} {rest : List Oper} {o : Oper} {a : Act} {Q : Exit → Act → World → Prop} (hgd : o.guard = none) (s x : Operand) (t : TypeId)
    (ho : o.op = .call { callee := .builtin .append, args := #[s, x], argTypes := #[t, t] })
    (base : Nat) (e : TypeId) (i : TypeInfo) (size : Nat) (ht : P.underlying t = some (.slice e)) (hi : P.info? e = some i)
    (v : Value) (n c : Nat) (xs : List Value) (hs : a.eval s = v) (hown : w.ownsRow base e size v n xs) (hx : a.eval x = .slice none 0 c)
    (h : wpList P ops Q rest (a.put o.dst v) w) : wpList P ops Q (o :: rest) a w := by
  refine wpList_plain hgd fun K hK => ?_
  have hrun := run_append_none_c (P := P) w base t o.type e i size ht hi v n c xs hown
  unfold Oper.wp
  simp [execOp, ho, resolve, invoke, builtin, hs, hx, hrun, Result.andThen]
  exact hK _ _ h

theorem Tryz.infoInts : (Tryz.prog.info? 55).map (fun i => (i.zero, i.size, i.bytes)) = some (some (.slice none 0 0), 1, 24) := by kernel_rfl

theorem own_neT {w : World} {B B' : Nat} {T T' : TypeId} {s s' : Nat} {u v : Value} {n m : Nat} {xs ys : List Value} (hT : T ≠ T') (h : w.ownsRow B T s u n xs) (k : w.ownsRow B' T' s' v m ys) : u.ownBlock = none ∨ u.ownBlock ≠ v.ownBlock := by
  rcases h.2 with ⟨rfl, _⟩ | ⟨g, c, cur, rfl, _, hg, _⟩
  · left; rfl
  · right
    rcases k.2 with ⟨rfl, _⟩ | ⟨g', c', cur', rfl, _, hg', _⟩
    · simp [Value.ownBlock]
    · simp only [Value.ownBlock, ne_eq, Option.some.injEq]
      intro e
      subst e
      rw [hg] at hg'
      simp at hg'
      exact hT hg'.2

def qrows (qs : List Piv) : List Value := qs.map Prod.snd
def qcols (qs : List Piv) : List Value := qs.map fun q => .int .i64 q.1.1
structure Kept (B : Nat) (w : World) (kv av : Value) (qs : List Piv) : Prop where
  own : w.ownsRow B 55 1 kv qs.length (qrows qs)
  cols : w.ownsRow B 3 1 av qs.length (qcols qs)
  rows : ∀ q ∈ qs, Own w B q.2 q.1.2
  apart : ∀ q ∈ qs, q.2.ownBlock = none ∨ q.2.ownBlock ≠ av.ownBlock
theorem Kept.below {B : Nat} {w w' : World} {kv av : Value} {qs : List Piv} (h : Kept B w kv av qs) (hb : Below w.heap.size w w') : Kept B w' kv av qs :=
  ⟨ownBlock_lt h.own hb, ownBlock_lt h.cols hb, fun q hq => ownBlock_lt (h.rows q hq) hb, h.apart⟩
theorem own_sl {w : World} {B : Nat} {T : TypeId} {s : Nat} {v : Value} {n : Nat} {xs : List Value} (h : w.ownsRow B T s v n xs) : ∃ a c, v = .slice a n c := by
  rcases h.2 with ⟨h1, h2⟩ | ⟨g, c, cur, h1, _⟩
  · exact ⟨none, 0, by rw [h1, h2]⟩
  · exact ⟨_, c, h1⟩
theorem own_at1 {w : World} {B : Nat} {T : TypeId} {a : Option Addr} {c n : Nat} {xs : List Value} (h : w.ownsRow B T 1 (.slice a n c) n xs) (k : Nat) (hk : k < n) :
    ∃ g, a = some ⟨g, 0, none⟩ ∧ B ≤ g ∧ g < w.heap.size ∧ w.cell? ⟨g, k, none⟩ = xs[k]? := by
  rcases h.2 with ⟨h1, h2⟩ | ⟨g, c', cur, h1, hB, hg, _⟩
  · omega
  · simp only [Value.slice.injEq] at h1
    obtain ⟨rfl, _, _⟩ := h1
    have hlt := World.ownsRow.lt h g rfl
    exact ⟨g, rfl, hlt.1, hlt.2, h.cellAt k (by omega)⟩
theorem Kept.snoc {B : Nat} {W W2 W4 : World} {kv av kv2 : Value} {qs : List Piv} {c : Nat} {r : List Int} {u : Value} {O1 O2 : Obj} {ga ca : Nat} (h : Kept B W kv av qs) (hu : Own W B u r) (hua : u.ownBlock = none ∨ u.ownBlock ≠ av.ownBlock)
    (h2 : W2.ownsRow B 55 1 kv2 (qs.length + 1) (qrows qs ++ [u])) (g2 : (W.alloc O1).grownBy W2 kv.ownBlock)
    (h4 : W4.ownsRow B 3 1 (.slice (some ⟨ga, 0, none⟩) (qs.length + 1) ca) (qs.length + 1) (qcols qs ++ [.int .i64 c])) (g4 : (W2.alloc O2).grownBy W4 av.ownBlock)
    (hat : av.ownBlock = some ga ∨ ga = (W2.alloc O2).heap.size) : Kept B W4 kv2 (.slice (some ⟨ga, 0, none⟩) (qs.length + 1) ca) (qs ++ [((c, r), u)]) := by
  have hTne : (3 : TypeId) ≠ 55 := by decide
  have k1 := h.below (belowNew (A := O1))
  have u1 := ownBlock_lt hu (belowNew (A := O1))
  have r2 : ∀ q ∈ qs, Own W2 B q.2 q.1.2 := fun q hq => (k1.rows q hq).kept g2 (own_neT hTne (k1.rows q hq) k1.own)
  have c2 := k1.cols.kept g2 (own_neT hTne k1.cols k1.own)
  have u2 := u1.kept g2 (own_neT hTne u1 k1.own)
  have r3 : ∀ q ∈ qs, Own (W2.alloc O2) B q.2 q.1.2 := fun q hq => ownBlock_lt (r2 q hq) belowNew
  have c3 := ownBlock_lt c2 (belowNew (A := O2))
  have u3 := ownBlock_lt u2 (belowNew (A := O2))
  have k3 := ownBlock_lt h2 (belowNew (A := O2))
  have k4 := k3.kept g4 (own_neT (Ne.symm hTne) k3 c3)
  have new : ∀ {x : Value} {ys : List Int}, Own (W2.alloc O2) B x ys → (x.ownBlock = none ∨ x.ownBlock ≠ av.ownBlock) → (x.ownBlock = none ∨ x.ownBlock ≠ Value.ownBlock (.slice (some ⟨ga, 0, none⟩) (qs.length + 1) ca)) := by
    intro x ys hx hxa
    rcases hxa with hxa | hxa
    · exact Or.inl hxa
    · rcases hat with hat | hat
      · rw [hat] at hxa; exact Or.inr hxa
      · cases hb : x.ownBlock with
        | none => exact Or.inl rfl
        | some kx =>
          have := (World.ownsRow.lt hx kx hb).2
          right
          simp only [Value.ownBlock, ne_eq, Option.some.injEq]
          omega
  refine ⟨?_, ?_, fun q hq => ?_, fun q hq => ?_⟩
  · rw [qrows, List.map_append, List.length_append]; exact k4
  · rw [qcols, List.map_append, List.length_append]; exact h4
  · rw [List.mem_append, List.mem_singleton] at hq
    rcases hq with hq | rfl
    · exact (r3 q hq).kept g4 (h.apart q hq)
    · exact u3.kept g4 hua
  · rw [List.mem_append, List.mem_singleton] at hq
    rcases hq with hq | rfl
    · exact new (r3 q hq) (h.apart q hq)
    · exact new u3 hua

end Go.Proofs.YtkmjmmnnnbjghaaGreat

/- Steps of regions that draw; merge. -/
namespace Go.Proofs.YtkmjmmnnnbjghaaGreat
set_option linter.unusedSimpArgs false
set_option linter.unusedVariables false
open Go.RowKit

/-- append where there is room, on a row of one's own, as one step of a region that draws. -/
theorem step_append_fits {P : Program} {ops : Array Oper} {o : Oper} {a : Act} {w : World} {K : Act → World → Prop} {Q : Exit → Act → World → Prop} {E : Prop}
    (hg : o.guard = none) (s x : Operand) (t : TypeId) (hop : o.op = Op.call { callee := Callee.builtin Builtin.append, args := #[s, x], argTypes := #[t, t] })
    (base : Nat) (e : TypeId) (i : TypeInfo) (size : Nat) (h1 : P.underlying t = some (.slice e)) (h2 : P.info? e = some i) (h4 : i.size = size)
    (g k cap : Nat) (xs : List Value) (hs : a.eval s = .slice (some ⟨g, 0, none⟩) k cap) (hown : w.ownsRow base e size (.slice (some ⟨g, 0, none⟩) k cap) k xs) (ad : Addr) (m c : Nat) (news : List Value) (hx : a.eval x = .slice (some ad) m c) (hn : news.length = m * size)
    (hc : ∀ j u, news[j]? = some u → w.cell? (ad.add j) = some u) (h1c : ∀ u ∈ news, u.oneCell' = true) (b1 : k + m ≤ cap)
    (hK : ∀ w', w'.ownsRow base e size (.slice (some ⟨g, 0, none⟩) (k + m) cap) (k + m) (xs ++ news) → w.grownBy w' (some g) → K (a.put o.dst (.slice (some ⟨g, 0, none⟩) (k + m) cap)) w') :
    if Region.wanted o (yielded ops a.tmps) = true then Oper.wp P o a w K Q else E := by
  have hw : Region.wanted o (yielded ops a.tmps) = true := by simp [Region.wanted, hg]
  rw [if_pos hw]
  obtain ⟨w', hrun, r1, r2⟩ := run_append_fits (P := P) w base t o.type e i size h1 h2 h4 g k cap xs hown ad m c news hn hc h1c b1
  unfold Oper.wp
  simp [execOp, hop, resolve, invoke, builtin, hs, hx, hrun, Result.andThen]
  exact hK w' r1 r2
/-- append on a row of one's own. -/
theorem step_append_own {P : Program} {ops : Array Oper} {o : Oper} {a : Act} {w : World} {K : Act → World → Prop} {Q : Exit → Act → World → Prop} {E : Prop}
    (hg : o.guard = none) (s x : Operand) (t : TypeId) (hop : o.op = Op.call { callee := Callee.builtin Builtin.append, args := #[s, x], argTypes := #[t, t] })
    (base : Nat) (e : TypeId) (i : TypeInfo) (z : Value) (size bytes : Nat) (ht : P.underlying t = some (.slice e)) (hi : P.info? e = some i) (hz : i.zero = some z)
    (hsize : i.size = size) (hby : i.bytes = bytes) (hzs : z.cells.size = size) (hsz : 0 < size)
    (v : Value) (n : Nat) (xs : List Value) (hs : a.eval s = v) (hown : w.ownsRow base e size v n xs)
    (ad : Addr) (m c : Nat) (news : List Value) (hx : a.eval x = .slice (some ad) m c) (hl : news.length = m * size) (hnews : ∀ j u, news[j]? = some u → w.cell? (ad.add j) = some u) (h1 : ∀ u ∈ news, u.oneCell' = true)
    (h63 : n + m ≤ maxLen) (hbytes : (n + m) * bytes ≤ 140737488355328) (hbase : base ≤ w.heap.size)
    (hK : ∀ v' w', w'.ownsRow base e size v' (n + m) (xs ++ news) → w.grownBy w' v.ownBlock → (v' = .slice none 0 0 ↔ v = .slice none 0 0 ∧ m = 0) → K (a.put o.dst v') w') :
    if Region.wanted o (yielded ops a.tmps) = true then Oper.wp P o a w K Q else E := by
  have hw : Region.wanted o (yielded ops a.tmps) = true := by simp [Region.wanted, hg]
  rw [if_pos hw]
  obtain ⟨v', w', hr, h2, h3, h4⟩ := run_append_own (P := P) w base t o.type e i z size bytes ht hi hz hsize hby hzs hsz v n xs hown ad m c news hl hnews h1 h63 hbytes hbase
  unfold Oper.wp execOp
  simp only [hop, resolve, invoke, builtin, Sem.run_bind, Sem.run_pure, Result.andThen_ok, List.map_toArray, List.map_cons, List.map_nil, hs, hx, hr]
  exact hK v' w' h2 h3 h4

/-- A term that may be. -/
def Tok (p : Int) (N : Nat) (t : Tm) : Prop := t.2.length = N ∧ (∀ x ∈ t.2, 0 ≤ x ∧ x ≤ 40000) ∧ 0 ≤ t.1 ∧ t.1 < p
def slLen : Value → Nat
  | .slice _ n _ => n
  | _ => 0

structure Mrg (p o : Int) (N C : Nat) (w1 wr : World) (g : Nat) (L : List Tm) (fv gv : Value) (fs gs : List Tm) (ds : List TV) : Prop where
  pf : Pl w1 fv fs
  pg : Pl w1 gv gs
  tf : ∀ t ∈ fs, Tok p N t
  tg : ∀ t ∈ gs, Tok p N t
  own : wr.ownsRow w1.heap.size 57 2 (.slice (some ⟨g, 0, none⟩) ds.length C) ds.length (flat ds)
  es : Es w1 ds
  below : Below w1.heap.size w1 wr
  eq : L = ds.map tm ++ mergeL p o fs gs
  room : ds.length + fs.length + gs.length ≤ C

theorem Pl.head {w : World} {v : Value} {t : Tm} {ts : List Tm} (h : Pl w v (t :: ts)) : ∃ b off cap ev, v = .slice (some ⟨b, off, none⟩) (ts.length + 1) cap ∧ ts.length + 1 ≤ cap ∧ b < w.heap.size ∧
    w.cell? ⟨b, off, none⟩ = some (.int .i64 t.1) ∧ w.cell? ⟨b, off + 1, none⟩ = some ev ∧ Sl w ev t.2 ∧ (cap = 1 → ts = []) ∧ Pl w (.slice (some ⟨b, off + 2, none⟩) ts.length (cap - 1)) ts := by
  obtain ⟨a, cap, rfl, hcap, h⟩ := h
  obtain ⟨b, off, rfl, hlt, hc⟩ := h (by simp)
  obtain ⟨c0, ev, c1, hs⟩ := hc 0 (by simp)
  simp only [List.length_cons] at hcap
  refine ⟨b, off, cap, ev, rfl, hcap, hlt, by simpa using c0, by simpa using c1, by simpa using hs, fun e => List.length_eq_zero_iff.1 (by omega), _, _, rfl, by omega, fun hp => ⟨b, off + 2, rfl, hlt, fun i hi => ?_⟩⟩
  obtain ⟨d0, ew, d1, ds⟩ := hc (i + 1) (by simp only [List.length_cons]; omega)
  have e1 : off + (i + 1) * 2 = off + 2 + i * 2 := by omega
  rw [e1] at d0 d1
  exact ⟨by simpa using d0, ew, d1, by simpa using ds⟩
theorem Pl.tail {w : World} {b off cap : Nat} {ts : List Tm} (h : (cap = 1 → ts = []) ∧ Pl w (.slice (some ⟨b, off + 2, none⟩) ts.length (cap - 1)) ts) :
    ∃ A, (if cap = 1 then (some ⟨b, off, none⟩ : Option Addr) else some ⟨b, off + 2, none⟩) = some A ∧ Pl w (.slice (some A) ts.length (cap - 1)) ts := by
  by_cases hc : cap = 1
  · have e := h.1 hc
    subst e
    exact ⟨⟨b, off, none⟩, if_pos hc, _, _, rfl, Nat.zero_le _, fun h => absurd h (by simp)⟩
  · exact ⟨⟨b, off + 2, none⟩, if_neg hc, h.2⟩
theorem pl_nil_any {w : World} (a : Option Addr) (c : Nat) : Pl w (.slice a 0 c) [] := ⟨a, c, rfl, Nat.zero_le _, fun h => absurd h (by simp)⟩

theorem mergeStart {w w1 : World} {p n o v : Int} {N C : Nat} {T1 : TypeId} {fv gv : Value} {fs gs : List Tm} (hf : Pl w fv fs) (hg : Pl w gv gs) (tf : ∀ t ∈ fs, Tok p N t) (tg : ∀ t ∈ gs, Tok p N t) (hC : fs.length + gs.length ≤ C)
    (h : w1.ownsRow (w.heap.size + 1) 57 2 (.slice (some ⟨(w.alloc (.cells #[.int .i64 p, .int .i64 n, .int .i64 o, .int .i64 v] T1)).heap.size, 0, none⟩) 0 C) 0 [])
    (hgr : (w.alloc (.cells #[.int .i64 p, .int .i64 n, .int .i64 o, .int .i64 v] T1)).grownBy w1 none) :
    ∃ wa, Below w.heap.size w wa ∧ wa.heap.size = w.heap.size + 1 ∧ BoxAt wa w.heap.size p n o v ∧ Mrg p o N C wa w1 (w.heap.size + 1) (mergeL p o fs gs) fv gv fs gs [] := by
  have e : (w.alloc (.cells #[.int .i64 p, .int .i64 n, .int .i64 o, .int .i64 v] T1)).heap.size = w.heap.size + 1 := by simp
  rw [e] at h
  refine ⟨w.alloc (.cells #[.int .i64 p, .int .i64 n, .int .i64 o, .int .i64 v] T1), belowNew, e, BoxAt.new w p n o v T1, ?_⟩
  exact ⟨hf.below belowNew, hg.below belowNew, tf, tg, by rw [e]; exact h, fun t ht => by simp at ht, ⟨hgr.os, hgr.tape, hgr.output, hgr.size, fun k hk => hgr.block k hk (by simp)⟩, by simp, by simp; omega⟩

theorem cell_keep {W W2 : World} {a : Addr} {x : Value} (h : W.cell? a = some x) (hb : Below W.heap.size W W2) : W2.cell? a = some x := by
  rw [hb.cell (cellLt h)]; exact h
theorem below_step {w W W2 : World} {B : Nat} {Q : Prop} (h : Hid (Below B w W) ∧ Q) (hb : Below W.heap.size W W2) (hB : B ≤ w.heap.size) : Below B w W2 := h.1.out.trans (hb.mono (Nat.le_trans hB h.1.out.size))
theorem Mrg.next {p o : Int} {N C : Nat} {w1 wr w' : World} {g : Nat} {L : List Tm} {fv gv : Value} {fs gs : List Tm} {ds : List TV} (h : Mrg p o N C w1 wr g L fv gv fs gs ds) (hb : Below wr.heap.size wr w') : Mrg p o N C w1 w' g L fv gv fs gs ds :=
  ⟨h.pf, h.pg, h.tf, h.tg, ownBlock_lt h.own hb, h.es, h.below.trans (hb.mono h.below.size), h.eq, h.room⟩

theorem two_one (c : Int) (a : Option Addr) (n m : Nat) : ∀ u ∈ [Value.int .i64 c, Value.slice a n m], u.oneCell' = true := by
  intro u hu; simp at hu; rcases hu with rfl | rfl <;> rfl
theorem Mrg.takeF {p o : Int} {N C : Nat} {w1 wr w2 w' : World} {g : Nat} {L : List Tm} {fv gv fv' ev : Value} {tc : Int} {te : List Int} {u : Tm} {fs gs : List Tm} {ds : List TV} (h : Mrg p o N C w1 wr g L fv gv ((tc, te) :: fs) (u :: gs) ds) (hb : Below wr.heap.size wr w2) (ho : 0 < ordS o te u.2)
    (hown : w'.ownsRow w1.heap.size 57 2 (.slice (some ⟨g, 0, none⟩) (ds.length + 1) C) (ds.length + 1) (flat ds ++ [.int .i64 tc, ev])) (hg : w2.grownBy w' (some g)) (hgw : w1.heap.size ≤ g) (hs : Sl w1 ev te) (hf : Pl w1 fv' fs) :
    Mrg p o N C w1 w' g L fv' gv fs (u :: gs) (ds ++ [(tc, ev, te)]) := by
  refine ⟨hf, h.pg, fun t ht => h.tf t (by simp [ht]), h.tg, ?_, ?_, ?_, ?_, ?_⟩
  · rw [flat_append, List.length_append]; exact hown
  · intro t ht
    rcases List.mem_append.1 ht with ht | ht
    · exact h.es t ht
    · rw [List.mem_singleton] at ht; subst ht; exact hs
  · have h2 := h.below.trans (hb.mono h.below.size)
    exact h2.trans (grown_below hg hgw h2.size)
  · rw [h.eq, merge_gt (by exact ho), List.map_append]; simp [tm]
  · have := h.room; simp only [List.length_append, List.length_cons, List.length_nil] at this ⊢; omega

theorem Mrg.takeG {p o : Int} {N C : Nat} {w1 wr w2 w' : World} {g : Nat} {L : List Tm} {fv gv gv' ev : Value} {uc : Int} {ue : List Int} {t : Tm} {fs gs : List Tm} {ds : List TV} (h : Mrg p o N C w1 wr g L fv gv (t :: fs) ((uc, ue) :: gs) ds) (hb : Below wr.heap.size wr w2) (ho : ordS o t.2 ue < 0)
    (hown : w'.ownsRow w1.heap.size 57 2 (.slice (some ⟨g, 0, none⟩) (ds.length + 1) C) (ds.length + 1) (flat ds ++ [.int .i64 uc, ev])) (hg : w2.grownBy w' (some g)) (hgw : w1.heap.size ≤ g) (hs : Sl w1 ev ue) (hf : Pl w1 gv' gs) :
    Mrg p o N C w1 w' g L fv gv' (t :: fs) gs (ds ++ [(uc, ev, ue)]) := by
  refine ⟨h.pf, hf, h.tf, fun t ht => h.tg t (by simp [ht]), ?_, ?_, ?_, ?_, ?_⟩
  · rw [flat_append, List.length_append]; exact hown
  · intro t ht
    rcases List.mem_append.1 ht with ht | ht
    · exact h.es t ht
    · rw [List.mem_singleton] at ht; subst ht; exact hs
  · have h2 := h.below.trans (hb.mono h.below.size)
    exact h2.trans (grown_below hg hgw h2.size)
  · rw [h.eq, merge_lt (by exact ho), List.map_append]; simp [tm]
  · have := h.room; simp only [List.length_append, List.length_cons, List.length_nil] at this ⊢; omega
theorem Mrg.both {p o : Int} {N C : Nat} {w1 wr w2 w' : World} {g : Nat} {L : List Tm} {fv gv fv' gv' ev : Value} {tc uc : Int} {te ue : List Int} {fs gs : List Tm} {ds : List TV} (h : Mrg p o N C w1 wr g L fv gv ((tc, te) :: fs) ((uc, ue) :: gs) ds) (hb : Below wr.heap.size wr w2) (ho : ordS o te ue = 0) (hc : (tc + uc) % p ≠ 0)
    (hown : w'.ownsRow w1.heap.size 57 2 (.slice (some ⟨g, 0, none⟩) (ds.length + 1) C) (ds.length + 1) (flat ds ++ [.int .i64 ((tc + uc) % p), ev])) (hg : w2.grownBy w' (some g)) (hgw : w1.heap.size ≤ g) (hs : Sl w1 ev te) (hf : Pl w1 fv' fs) (hf2 : Pl w1 gv' gs) :
    Mrg p o N C w1 w' g L fv' gv' fs gs (ds ++ [((tc + uc) % p, ev, te)]) := by
  refine ⟨hf, hf2, fun t ht => h.tf t (by simp [ht]), fun t ht => h.tg t (by simp [ht]), ?_, ?_, ?_, ?_, ?_⟩
  · rw [flat_append, List.length_append]; exact hown
  · intro t ht
    rcases List.mem_append.1 ht with ht | ht
    · exact h.es t ht
    · rw [List.mem_singleton] at ht; subst ht; exact hs
  · have h2 := h.below.trans (hb.mono h.below.size)
    exact h2.trans (grown_below hg hgw h2.size)
  · rw [h.eq, merge_eq (by exact ho) (by exact hc), List.map_append]; simp [tm]
  · have := h.room; simp only [List.length_append, List.length_cons, List.length_nil] at this ⊢; omega
theorem Mrg.drop {p o : Int} {N C : Nat} {w1 wr w2 : World} {g : Nat} {L : List Tm} {fv gv fv' gv' : Value} {tc uc : Int} {te ue : List Int} {fs gs : List Tm} {ds : List TV} (h : Mrg p o N C w1 wr g L fv gv ((tc, te) :: fs) ((uc, ue) :: gs) ds) (hb : Below wr.heap.size wr w2) (ho : ordS o te ue = 0) (hc : (tc + uc) % p = 0)
    (hf : Pl w1 fv' fs) (hf2 : Pl w1 gv' gs) : Mrg p o N C w1 w2 g L fv' gv' fs gs ds := by
  have k := h.next hb
  refine ⟨hf, hf2, fun t ht => h.tf t (by simp [ht]), fun t ht => h.tg t (by simp [ht]), k.own, k.es, k.below, ?_, ?_⟩
  · rw [h.eq, merge_no (by exact ho) (by exact hc)]
  · have := h.room; simp only [List.length_cons] at this ⊢; omega

/-- All terms of a polynomial behind those of a row of one's own. -/
theorem wpList_append_tvs {P : Program} {w : World} {ops : Array Oper} {rest : List Oper} {o : Oper} {a : Act} {Q : Exit → Act → World → Prop} (hgd : o.guard = none) (s x : Operand) (t : TypeId)
    (ho : o.op = .call { callee := .builtin .append, args := #[s, x], argTypes := #[t, t] })
    (base : Nat) (e : TypeId) (i : TypeInfo) (h1 : P.underlying t = some (.slice e)) (h2 : P.info? e = some i) (h4 : i.size = 2)
    (g k cap : Nat) (xs : List Value) (hs : a.eval s = .slice (some ⟨g, 0, none⟩) k cap) (hown : w.ownsRow base e 2 (.slice (some ⟨g, 0, none⟩) k cap) k xs)
    (us : List TV) (ua : Option Addr) (uc : Nat) (hx : a.eval x = .slice ua us.length uc) (hcs : 0 < us.length → ∃ b off, ua = some ⟨b, off, none⟩ ∧ ∀ j u, (flat us)[j]? = some u → w.cell? ⟨b, off + j, none⟩ = some u)
    (hone : ∀ u ∈ flat us, u.oneCell' = true) (b1 : k + us.length ≤ cap)
    (hK : ∀ w', w'.ownsRow base e 2 (.slice (some ⟨g, 0, none⟩) (k + us.length) cap) (k + us.length) (xs ++ flat us) → w.grownBy w' (some g) → wpList P ops Q rest (a.put o.dst (.slice (some ⟨g, 0, none⟩) (k + us.length) cap)) w') :
    wpList P ops Q (o :: rest) a w := by
  by_cases h0 : 0 < us.length
  · obtain ⟨b, off, rfl, hc⟩ := hcs h0
    refine wpList_append_fits w hgd s x t ho base e i 2 h1 h2 h4 g k cap xs hs hown ⟨b, off, none⟩ us.length uc (flat us) hx (flat_len us) (fun j u hj => ?_) hone b1 hK
    have := hc j u hj
    by_cases hj0 : j = 0
    · subst hj0; simpa [Addr.add] using this
    · simpa [Addr.add, hj0] using this
  · have e0 : us = [] := List.length_eq_zero_iff.1 (by omega)
    subst e0
    cases ua with
    | none =>
      refine wpList_append_none_c hgd s x t ho base e i 2 h1 h2 _ k uc xs hs hown hx ?_
      exact hK w (by simpa [flat] using hown) (grown_refl _ _)
    | some ad =>
      refine wpList_append_fits w hgd s x t ho base e i 2 h1 h2 h4 g k cap xs hs hown ad 0 uc [] hx (by simp) (fun j u hj => by simp at hj) (fun u hu => by simp at hu) b1 hK

theorem Mrg.finish {p o : Int} {N C : Nat} {w1 wr w2 w3 : World} {g : Nat} {L : List Tm} {fv gv : Value} {fs gs : List Tm} {ds us vs : List TV} (h : Mrg p o N C w1 wr g L fv gv fs gs ds) (hus : us.map tm = fs) (hvs : vs.map tm = gs) (hu : Es w1 us) (hv : Es w1 vs)
    (hgw : w1.heap.size ≤ g) (he : fs = [] ∨ gs = []) (g2 : wr.grownBy w2 (some g)) (g3 : w2.grownBy w3 (some g))
    (hown : w3.ownsRow w1.heap.size 57 2 (.slice (some ⟨g, 0, none⟩) (ds.length + us.length + vs.length) C) (ds.length + us.length + vs.length) (flat ds ++ flat us ++ flat vs)) :
    Pl w3 (.slice (some ⟨g, 0, none⟩) (ds.length + us.length + vs.length) C) L ∧ Below w1.heap.size w1 w3 := by
  have hb : Below w1.heap.size w1 w3 := h.below.trans (grown_below (grown_trans g2 g3) hgw h.below.size)
  refine ⟨?_, hb⟩
  have e1 : (ds ++ us ++ vs).length = ds.length + us.length + vs.length := by simp only [List.length_append]
  have e2 : flat (ds ++ us ++ vs) = flat ds ++ flat us ++ flat vs := by rw [flat_append, flat_append]
  have k := own_pl (w := w3) (B := w1.heap.size) (v := .slice (some ⟨g, 0, none⟩) (ds.length + us.length + vs.length) C) (ts := ds ++ us ++ vs) (by rw [e1, e2]; exact hown) (by
    intro t ht
    rcases List.mem_append.1 ht with ht | ht
    · rcases List.mem_append.1 ht with ht | ht
      · exact (h.es t ht).below hb
      · exact (hu t ht).below hb
    · exact (hv t ht).below hb)
  have e3 : (ds ++ us ++ vs).map tm = L := by
    rw [h.eq, List.map_append, List.map_append, hus, hvs]
    rcases he with he | he
    · subst he; rw [merge_nilL]; simp
    · subst he; rw [merge_nilR]; simp
  rw [e3] at k
  exact k

set_option maxRecDepth 100000 in
set_option maxHeartbeats 2000000 in
theorem bareMerge_any (p n o v : Int) (N : Nat) (fv gv : Value) (fs gs : List Tm) (w : World) (hp : 2 ≤ p ∧ p ≤ 101) (ho : o = 1 ∨ o = 2) (hN0 : 0 < N) (hN : N ≤ 3)
    (tf : ∀ t ∈ fs, Tok p N t) (tg : ∀ t ∈ gs, Tok p N t) (hm : fs.length + gs.length ≤ 2400000000000) (hf : Pl w fv fs) (hg : Pl w gv gs) :
    Calls Tryz.prog 131 #[ringV p n o v, fv, gv] w fun e w' => ∃ u, e = .returned u ∧ Pl w' u (mergeL p o fs gs) ∧ Below w.heap.size w w' := by
  have HF := hid hf
  have HG := hid hg
  have HTF := hid tf
  have HTG := hid tg
  have HO := hid ho
  obtain ⟨hp1, hp2⟩ := hp
  obtain ⟨fa, fc, rfl, _, _⟩ := hf
  obtain ⟨ga, gc, rfl, _, _⟩ := hg
  clear tf tg ho
  obtain ⟨i0, hi, hz0, hz1, hz2⟩ := info_parts Tryz.infoTerm
  go_enter Tryz.func131, Tryz.ntmps131
  go_wp2_with (at_make; refine wpList_make_own _ rfl _ _ 54 rfl (w.heap.size + 1) 57 i0 _ 2 Tryz.underlying54 hi hz0 hz1 .i64 .i64 _ (fs.length + gs.length) rfl rfl (by simp) (by rw [hz2]; omega) (by unfold maxLen; omega) (by simp) ?_; intro w1 hown hgrow; have HX := hid (mergeStart (N := N) (C := fs.length + gs.length) HF.out HG.out HTF.out HTG.out (Nat.le_refl _) hown hgrow); clear hown hgrow)
  have HI := hid (And.intro hi (And.intro hz1 hz2))
  clear hi hz0 hz1 hz2
  obtain ⟨wa, hba, hsz, hbox, hmg⟩ := HX.out
  have HB := hid hba
  have HSZ := hid hsz
  have HBX := hid hbox
  have HM := hid hmg
  have HI2 := HI
  clear HX hba hsz hbox hmg HTF HTG HF HG
  go_loopw [1, 2, 7] (fun x y z wr => ∃ (fs1 gs1 : List Tm) (ds : List TV), z = .slice (some ⟨w.heap.size + 1, 0, none⟩) ds.length (fs.length + gs.length) ∧ Mrg p o N (fs.length + gs.length) wa wr (w.heap.size + 1) (mergeL p o fs gs) x y fs1 gs1 ds) (fun x y _ _ => slLen x + slLen y)
  case atStart => exact ⟨fs, gs, [], rfl, HM.out⟩
  case round =>
    clear HM
    obtain ⟨fs1, gs1, ds, rfl, hm1⟩ := hrel
    have HM := hid hm1
    clear hm1
    by_cases hfin : fs1 = [] ∨ gs1 = []
    · obtain ⟨xa, xc, us, hxv, _, husm, hus, hucs⟩ := HM.out.pf.tvs
      obtain ⟨ya, yc, vs, hyv, _, hvsm, hvs, hvcs⟩ := HM.out.pg.tvs
      have HU1 : Hid (0 < us.length → ∃ b off, xa = some ⟨b, off, none⟩ ∧ ∀ j u, (flat us)[j]? = some u → wr.cell? ⟨b, off + j, none⟩ = some u) := fun h => by
        obtain ⟨b, off, e, hlt, hc⟩ := hucs h
        exact ⟨b, off, e, fun j u hj => by rw [HM.out.below.cell (p := ⟨b, off + j, none⟩) hlt]; exact hc j u hj⟩
      have HV1 : Hid (∀ w2, wr.grownBy w2 (some (w.heap.size + 1)) → 0 < vs.length → ∃ b off, ya = some ⟨b, off, none⟩ ∧ ∀ j u, (flat vs)[j]? = some u → w2.cell? ⟨b, off + j, none⟩ = some u) := fun w2 hg2 h => by
        obtain ⟨b, off, e, hlt, hc⟩ := hvcs h
        have hb2 := HM.out.below.trans (grown_below hg2 (by rw [HSZ.out]; exact Nat.le_refl _) HM.out.below.size)
        exact ⟨b, off, e, fun j u hj => by rw [hb2.cell (p := ⟨b, off + j, none⟩) hlt]; exact hc j u hj⟩
      have HUL : Hid (us.length = fs1.length ∧ vs.length = gs1.length) := ⟨by rw [← husm, List.length_map], by rw [← hvsm, List.length_map]⟩
      have HR : Hid (ds.length + us.length ≤ fs.length + gs.length ∧ ds.length + us.length + vs.length ≤ fs.length + gs.length) := by
        have := HM.out.room
        have := HUL.out
        exact ⟨by omega, by omega⟩
      have HUS := hid (And.intro husm (And.intro hvsm (And.intro hus hvs)))
      have HFIN := hid hfin
      have hzero : us.length = 0 ∨ vs.length = 0 := by
        have := HUL.out
        rcases hfin with h | h
        · left; rw [this.1, h]; rfl
        · right; rw [this.2, h]; rfl
      subst hxv
      subst hyv
      clear hucs hvcs husm hvsm hus hvs hfin
      have HTAC : Hid True := trivial
      by_cases hu0 : 0 < us.length
      · have hv0 : ¬ 0 < vs.length := by omega
        go_wp2_with (at_builtin; first
          | (refine wpList_append_tvs rfl (.tmp 80) (.tmp 81) 54 rfl wa.heap.size 57 i0 Tryz.underlying54 HI.out.1 HI.out.2.1 (w.heap.size + 1) ds.length (fs.length + gs.length) (flat ds) rfl HM.out.own us _ _ rfl HU1.out (flat_one HUS.out.2.2.1) HR.out.1 ?_; intro w2 r1 r2; have R1 := hid r1; have R2 := hid r2; clear r1 r2)
          | (refine wpList_append_tvs rfl (.tmp 82) (.tmp 83) 54 rfl wa.heap.size 57 i0 Tryz.underlying54 HI.out.1 HI.out.2.1 (w.heap.size + 1) (ds.length + us.length) (fs.length + gs.length) (flat ds ++ flat us) rfl R1.out vs _ _ rfl (HV1.out _ R2.out) (flat_one HUS.out.2.2.2) HR.out.2 ?_; intro w3 r3 r4; have R3 := hid r3; have R4 := hid r4; clear r3 r4))
        go_ret
        have F := HM.out.finish HUS.out.1 HUS.out.2.1 HUS.out.2.2.1 HUS.out.2.2.2 (by rw [HSZ.out]; exact Nat.le_refl _) HFIN.out R2.out R4.out R3.out
        exact ⟨_, rfl, F.1, HB.out.trans (F.2.mono HB.out.size)⟩
      · go_wp2_with (at_builtin; first
          | (refine wpList_append_tvs rfl (.tmp 80) (.tmp 81) 54 rfl wa.heap.size 57 i0 Tryz.underlying54 HI.out.1 HI.out.2.1 (w.heap.size + 1) ds.length (fs.length + gs.length) (flat ds) rfl HM.out.own us _ _ rfl HU1.out (flat_one HUS.out.2.2.1) HR.out.1 ?_; intro w2 r1 r2; have R1 := hid r1; have R2 := hid r2; clear r1 r2)
          | (refine wpList_append_tvs rfl (.tmp 82) (.tmp 83) 54 rfl wa.heap.size 57 i0 Tryz.underlying54 HI.out.1 HI.out.2.1 (w.heap.size + 1) (ds.length + us.length) (fs.length + gs.length) (flat ds ++ flat us) rfl R1.out vs _ _ rfl (HV1.out _ R2.out) (flat_one HUS.out.2.2.2) HR.out.2 ?_; intro w3 r3 r4; have R3 := hid r3; have R4 := hid r4; clear r3 r4))
        go_ret
        have F := HM.out.finish HUS.out.1 HUS.out.2.1 HUS.out.2.2.1 HUS.out.2.2.2 (by rw [HSZ.out]; exact Nat.le_refl _) HFIN.out R2.out R4.out R3.out
        exact ⟨_, rfl, F.1, HB.out.trans (F.2.mono HB.out.size)⟩
    · cases fs1 with
      | nil => exact absurd (Or.inl rfl) hfin
      | cons t fs2 =>
      cases gs1 with
      | nil => exact absurd (Or.inr rfl) hfin
      | cons u gs2 =>
        clear hfin
        obtain ⟨b, off, fcap, ev, rfl, hfc, hlt, c0, c1, hse, hone, hpl⟩ := HM.out.pf.head
        obtain ⟨b2, off2, gcap, ev2, rfl, hgc, hlt2, d0, d1, hse2, hone2, hpl2⟩ := HM.out.pg.head
        have HDN := hid HM.out.below
        rw [← HDN.out.cell (p := ⟨b, off, none⟩) hlt] at c0
        rw [← HDN.out.cell (p := ⟨b, off + 1, none⟩) hlt] at c1
        rw [← HDN.out.cell (p := ⟨b2, off2, none⟩) hlt2] at d0
        rw [← HDN.out.cell (p := ⟨b2, off2 + 1, none⟩) hlt2] at d1
        have HSE0 := hid hse
        have HSE20 := hid hse2
        have HSE := hid (hse.below HDN.out)
        have HSE2 := hid (hse2.below HDN.out)
        obtain ⟨ea, ec, rfl, _⟩ := hse
        obtain ⟨ea2, ec2, rfl, _⟩ := hse2
        have HP := hid (And.intro hone hpl)
        have HP2 := hid (And.intro hone2 hpl2)
        have HT := hid (HM.out.tf t (by simp))
        have HU := hid (HM.out.tg u (by simp))
        obtain ⟨bx, bx0, bx1, bx2, bx3⟩ := HBX.out.below HDN.out
        obtain ⟨tc, te⟩ := t
        obtain ⟨uc, ue⟩ := u
        have HBD := hid (ordS_bd o te ue)
        simp only at c0 c1 d0 d1
        clear hone hpl hone2 hpl2
        have hlen0 : 0 < te.length := by have := HT.out.1; simp only at this; omega
        have hlen3 : te.length ≤ 3 := by have := HT.out.1; simp only at this; omega
        have HLL := hid (show te.length = ue.length from HT.out.1.trans HU.out.1.symm)
        have KEEP : Hid (∀ W, Below wr.heap.size wr W → (Hid (Below wr.heap.size wr W) ∧ W.cell? ⟨w.heap.size, 0, none⟩ = some (.int .i64 p) ∧ W.cell? ⟨w.heap.size, 1, none⟩ = some (.int .i64 n) ∧ W.cell? ⟨w.heap.size, 2, none⟩ = some (.int .i64 o) ∧ W.cell? ⟨w.heap.size, 3, none⟩ = some (.int .i64 v) ∧ W.cell? ⟨b, off + 1, none⟩ = some (.slice ea te.length ec) ∧ W.cell? ⟨b2, off2 + 1, none⟩ = some (.slice ea2 ue.length ec2))) :=
          fun W hb => ⟨hb, cell_keep bx0 hb, cell_keep bx1 hb, cell_keep bx2 hb, cell_keep bx3 hb, cell_keep c1 hb, cell_keep d1 hb⟩
        have hroom : ds.length + 1 ≤ fs.length + gs.length := by have := HM.out.room; simp only [List.length_cons] at this; omega
        have hle : (1 : Int) ≤ (fs2.length : Int) + 1 := by omega
        have hle2 : (1 : Int) ≤ (gs2.length : Int) + 1 := by omega
        obtain ⟨A, hA, hplA⟩ := Pl.tail HP.out
        have HPA := hid hplA
        obtain ⟨A2, hA2, hplA2⟩ := Pl.tail HP2.out
        have HPA2 := hid hplA2
        clear hplA hplA2
        by_cases hc1 : ordS o te ue = 1
        · go_wp2
          go_region_held (fun W => Hid (Below wr.heap.size wr W) ∧ W.cell? ⟨w.heap.size, 0, none⟩ = some (.int .i64 p) ∧ W.cell? ⟨w.heap.size, 1, none⟩ = some (.int .i64 n) ∧ W.cell? ⟨w.heap.size, 2, none⟩ = some (.int .i64 o) ∧ W.cell? ⟨w.heap.size, 3, none⟩ = some (.int .i64 v) ∧ W.cell? ⟨b, off + 1, none⟩ = some (.slice ea te.length ec) ∧ W.cell? ⟨b2, off2 + 1, none⟩ = some (.slice ea2 ue.length ec2))
            (first | exact KEEP.out _ (Below.refl _ _).drew | exact KEEP.out _ (below_step (by assumption) hb9 (Nat.le_refl _)))
            (first | (go_at_call 109; refine (bareCompare_any p n o v _ _ te ue _ HO.out hlen0 hlen3 HLL.out HT.out.2.1 HU.out.2.1 ?_ ?_).mono ?_; exact HSE.out.below (Below.refl _ _).drew; exact HSE2.out.below (Below.refl _ _).drew; rintro e w9 ⟨rfl, hb9⟩))
          have hb19 : Below wr.heap.size wr w9 := Hid.out (And.left (by assumption))
          have HM9 := hid (HM.out.next hb19)
          have e0 := cell_keep c0 hb19
          have e1 := cell_keep c1 hb19
          have f0 := cell_keep d0 hb19
          have f1 := cell_keep d1 hb19
          have g0 := cell_keep bx0 hb19
          clear hb9 hb19 c0 c1 d0 d1 KEEP bx0 bx1 bx2 bx3
          have HOWN := hid (ownBlock_lt HM9.out.own ((Below.refl w9.heap.size w9).drew.alloc (Nat.le_refl _) (.cells #[.int .i64 tc, .slice ea te.length ec] 57)))
          go_wp2
          go_region_law (refine step_append_fits rfl (.tmp 62) (.tmp 66) 54 rfl wa.heap.size 57 i0 2 Tryz.underlying54 HI.out.1 HI.out.2.1 (w.heap.size + 1) ds.length (fs.length + gs.length) (flat ds) (by simp [Act.eval, Act.put]) HOWN.out ⟨w9.heap.size, 0, none⟩ 1 1 [.int .i64 tc, .slice ea te.length ec] (by simp [Act.eval, Act.put]) rfl (two_new _ _ _ _) (two_one _ _ _ _) hroom ?_; intro w' r1 r2; have R1 := hid (And.intro r1 r2); clear r1 r2)
          all_goals
            simp only [List.getElem_toArray, List.getElem_cons_succ, List.getElem_cons_zero]
            simp only [Act.put, List.setIfInBounds_toArray, List.set_cons_zero, List.set_cons_succ]
            go_wp2
            go_roundw
            case rel => exact ⟨fs2, (uc, ue) :: gs2, ds ++ [(tc, .slice ea te.length ec, te)], by simp, HM9.out.takeF ((Below.refl w9.heap.size w9).drew.alloc (Nat.le_refl _) _) (by rw [hc1]; omega) R1.out.1 R1.out.2 (by rw [HSZ.out]; omega) HSE0.out HPA.out⟩
            case measure => simp [slLen]
        · by_cases hc2 : ordS o te ue = -1
          · go_wp2
            go_region_held (fun W => Hid (Below wr.heap.size wr W) ∧ W.cell? ⟨w.heap.size, 0, none⟩ = some (.int .i64 p) ∧ W.cell? ⟨w.heap.size, 1, none⟩ = some (.int .i64 n) ∧ W.cell? ⟨w.heap.size, 2, none⟩ = some (.int .i64 o) ∧ W.cell? ⟨w.heap.size, 3, none⟩ = some (.int .i64 v) ∧ W.cell? ⟨b, off + 1, none⟩ = some (.slice ea te.length ec) ∧ W.cell? ⟨b2, off2 + 1, none⟩ = some (.slice ea2 ue.length ec2))
              (first | exact KEEP.out _ (Below.refl _ _).drew | exact KEEP.out _ (below_step (by assumption) hb9 (Nat.le_refl _)))
              (first | (go_at_call 109; refine (bareCompare_any p n o v _ _ te ue _ HO.out hlen0 hlen3 HLL.out HT.out.2.1 HU.out.2.1 ?_ ?_).mono ?_; exact HSE.out.below (Below.refl _ _).drew; exact HSE2.out.below (Below.refl _ _).drew; rintro e w9 ⟨rfl, hb9⟩))
            have hb19 : Below wr.heap.size wr w9 := Hid.out (And.left (by assumption))
            have HM9 := hid (HM.out.next hb19)
            have e0 := cell_keep c0 hb19
            have e1 := cell_keep c1 hb19
            have f0 := cell_keep d0 hb19
            have f1 := cell_keep d1 hb19
            have g0 := cell_keep bx0 hb19
            clear hb9 hb19 c0 c1 d0 d1 KEEP bx0 bx1 bx2 bx3
            have HOWN := hid (ownBlock_lt HM9.out.own ((Below.refl w9.heap.size w9).drew.alloc (Nat.le_refl _) (.cells #[.int .i64 uc, .slice ea2 ue.length ec2] 57)))
            go_wp2
            go_region_law (refine step_append_fits rfl (.tmp 72) (.tmp 76) 54 rfl wa.heap.size 57 i0 2 Tryz.underlying54 HI.out.1 HI.out.2.1 (w.heap.size + 1) ds.length (fs.length + gs.length) (flat ds) (by simp [Act.eval, Act.put]) HOWN.out ⟨w9.heap.size, 0, none⟩ 1 1 [.int .i64 uc, .slice ea2 ue.length ec2] (by simp [Act.eval, Act.put]) rfl (two_new _ _ _ _) (two_one _ _ _ _) hroom ?_; intro w' r1 r2; have R1 := hid (And.intro r1 r2); clear r1 r2)
            all_goals
              simp only [List.getElem_toArray, List.getElem_cons_succ, List.getElem_cons_zero]
              simp only [Act.put, List.setIfInBounds_toArray, List.set_cons_zero, List.set_cons_succ]
              go_wp2
              go_roundw
              case rel => exact ⟨(tc, te) :: fs2, gs2, ds ++ [(uc, .slice ea2 ue.length ec2, ue)], by simp, HM9.out.takeG ((Below.refl w9.heap.size w9).drew.alloc (Nat.le_refl _) _) (by rw [hc2]; omega) R1.out.1 R1.out.2 (by rw [HSZ.out]; omega) HSE20.out HPA2.out⟩
              case measure => simp [slLen]
          · have hc0 : ordS o te ue = 0 := by have := HBD.out; omega
            have HTU := hid (And.intro HT.out.2.2 HU.out.2.2)
            obtain ⟨⟨ht1, ht2⟩, hu1, hu2⟩ := HTU.out
            simp only at ht1 ht2 hu1 hu2
            go_wp2
            go_region_held (fun W => Hid (Below wr.heap.size wr W) ∧ W.cell? ⟨w.heap.size, 0, none⟩ = some (.int .i64 p) ∧ W.cell? ⟨w.heap.size, 1, none⟩ = some (.int .i64 n) ∧ W.cell? ⟨w.heap.size, 2, none⟩ = some (.int .i64 o) ∧ W.cell? ⟨w.heap.size, 3, none⟩ = some (.int .i64 v) ∧ W.cell? ⟨b, off + 1, none⟩ = some (.slice ea te.length ec) ∧ W.cell? ⟨b2, off2 + 1, none⟩ = some (.slice ea2 ue.length ec2))
              (first | exact KEEP.out _ (Below.refl _ _).drew | exact KEEP.out _ (below_step (by assumption) hb9 (Nat.le_refl _)))
              (first | (go_at_call 109; refine (bareCompare_any p n o v _ _ te ue _ HO.out hlen0 hlen3 HLL.out HT.out.2.1 HU.out.2.1 ?_ ?_).mono ?_; exact HSE.out.below (Below.refl _ _).drew; exact HSE2.out.below (Below.refl _ _).drew; rintro e w9 ⟨rfl, hb9⟩))
            have hb19 : Below wr.heap.size wr w9 := Hid.out (And.left (by assumption))
            have HM9 := hid (HM.out.next hb19)
            have e0 := cell_keep c0 hb19
            have e1 := cell_keep c1 hb19
            have f0 := cell_keep d0 hb19
            have f1 := cell_keep d1 hb19
            have g0 := cell_keep bx0 hb19
            clear hb9 hb19 c0 c1 d0 d1 KEEP bx0 bx1 bx2 bx3
            go_wp2
            go_quiet (fail)
            by_cases hz : (tc + uc) % p = 0
            · go_wp2
              go_quiet (fail)
              go_wp2
              go_roundw
              case rel => exact ⟨fs2, gs2, ds, rfl, HM9.out.drop (below_drewN (below_drewN (Below.refl _ _) _) _) hc0 hz HPA.out HPA2.out⟩
              case measure => simp [slLen]; omega
            · have HOWN := hid (ownBlock_lt HM9.out.own ((below_drewN (Below.refl w9.heap.size w9) nq).alloc (Nat.le_refl _) (.cells #[.int .i64 ((tc + uc) % p), .slice ea te.length ec] 57)))
              have e1q := cell_keep e1 (below_drewN (Below.refl w9.heap.size w9) nq)
              go_wp2_with (at_builtin; refine wpList_append_fits _ rfl (.tmp 47) (.tmp 54) 54 rfl wa.heap.size 57 i0 2 Tryz.underlying54 HI.out.1 HI.out.2.1 (w.heap.size + 1) ds.length (fs.length + gs.length) (flat ds) rfl HOWN.out ⟨w9.heap.size, 0, none⟩ 1 1 [.int .i64 ((tc + uc) % p), .slice ea te.length ec] rfl rfl (two_new _ _ _ _) (two_one _ _ _ _) hroom ?_; intro w' r1 r2; have R1 := hid (And.intro r1 r2); clear r1 r2)
              go_quiet (fail)
              go_wp2
              go_roundw
              case rel => exact ⟨fs2, gs2, ds ++ [((tc + uc) % p, .slice ea te.length ec, te)], by simp, (HM9.out.both ((below_drewN (Below.refl w9.heap.size w9) _).alloc (Nat.le_refl _) _) hc0 hz R1.out.1 R1.out.2 (by rw [HSZ.out]; exact Nat.le_refl _) HSE0.out HPA.out HPA2.out).next (below_drewN (Below.refl _ _) _)⟩
              case measure => simp [slLen]; omega

end Go.Proofs.YtkmjmmnnnbjghaaGreat
