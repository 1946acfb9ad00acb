/- Steps of regions that draw; merge. -/
import Derived.Test.YtilogbggilchaaaGreatPF
import Derived.Test.YtilogbggilchaaaGreatM
import Derived.Deep.RegionLaw
import Derived.Test.YtilogbggilchaaaGreatFN
namespace Go.Proofs.YtilogbggilchaaaGreat
set_option linter.unusedSimpArgs false
set_option linter.unusedVariables false
open Go.RowKit
theorem step_append_fits {P : Program} {ops : Array Oper} {o : Oper} {a : Act} {w : World} {K : Act → World → Prop} {Q : Exit → Act → World → Prop} {E : Prop}
    (hg : o.guard = none) (s x : Operand) (t : TypeId) (hop : o.op = Op.call { callee := Callee.builtin Builtin.append, args := #[s, x], argTypes := #[t, t] })
    (base : Nat) (e : TypeId) (i : TypeInfo) (size : Nat) (h1 : P.underlying t = some (.slice e)) (h2 : P.info? e = some i) (h4 : i.size = size)
    (g k cap : Nat) (xs : List Value) (hs : a.eval s = .slice (some ⟨g, 0, none⟩) k cap) (hown : w.ownsRow base e size (.slice (some ⟨g, 0, none⟩) k cap) k xs) (ad : Addr) (m c : Nat) (news : List Value) (hx : a.eval x = .slice (some ad) m c) (hn : news.length = m * size)
    (hc : ∀ j u, news[j]? = some u → w.cell? (ad.add j) = some u) (h1c : ∀ u ∈ news, u.oneCell' = true) (b1 : k + m ≤ cap)
    (hK : ∀ w', w'.ownsRow base e size (.slice (some ⟨g, 0, none⟩) (k + m) cap) (k + m) (xs ++ news) → w.grownBy w' (some g) → K (a.put o.dst (.slice (some ⟨g, 0, none⟩) (k + m) cap)) w') :
    if Region.wanted o (yielded ops a.tmps) = true then Oper.wp P o a w K Q else E := by
  have hw : Region.wanted o (yielded ops a.tmps) = true := by simp [Region.wanted, hg]
  rw [if_pos hw]
  obtain ⟨w', hrun, r1, r2⟩ := run_append_fits (P := P) w base t o.type e i size h1 h2 h4 g k cap xs hown ad m c news hn hc h1c b1
  unfold Oper.wp
  simp [execOp, hop, resolve, invoke, builtin, hs, hx, hrun, Result.andThen]
  exact hK w' r1 r2
theorem step_append_own {P : Program} {ops : Array Oper} {o : Oper} {a : Act} {w : World} {K : Act → World → Prop} {Q : Exit → Act → World → Prop} {E : Prop}
    (hg : o.guard = none) (s x : Operand) (t : TypeId) (hop : o.op = Op.call { callee := Callee.builtin Builtin.append, args := #[s, x], argTypes := #[t, t] })
    (base : Nat) (e : TypeId) (i : TypeInfo) (z : Value) (size bytes : Nat) (ht : P.underlying t = some (.slice e)) (hi : P.info? e = some i) (hz : i.zero = some z)
    (hsize : i.size = size) (hby : i.bytes = bytes) (hzs : z.cells.size = size) (hsz : 0 < size)
    (v : Value) (n : Nat) (xs : List Value) (hs : a.eval s = v) (hown : w.ownsRow base e size v n xs)
    (ad : Addr) (m c : Nat) (news : List Value) (hx : a.eval x = .slice (some ad) m c) (hl : news.length = m * size) (hnews : ∀ j u, news[j]? = some u → w.cell? (ad.add j) = some u) (h1 : ∀ u ∈ news, u.oneCell' = true)
    (h63 : n + m ≤ maxLen) (hbytes : (n + m) * bytes ≤ 140737488355328) (hbase : base ≤ w.heap.size)
    (hK : ∀ v' w', w'.ownsRow base e size v' (n + m) (xs ++ news) → w.grownBy w' v.ownBlock → (v' = .slice none 0 0 ↔ v = .slice none 0 0 ∧ m = 0) → K (a.put o.dst v') w') :
    if Region.wanted o (yielded ops a.tmps) = true then Oper.wp P o a w K Q else E := by
  have hw : Region.wanted o (yielded ops a.tmps) = true := by simp [Region.wanted, hg]
  rw [if_pos hw]
  obtain ⟨v', w', hr, h2, h3, h4⟩ := run_append_own (P := P) w base t o.type e i z size bytes ht hi hz hsize hby hzs hsz v n xs hown ad m c news hl hnews h1 h63 hbytes hbase
  unfold Oper.wp execOp
  simp only [hop, resolve, invoke, builtin, Sem.run_bind, Sem.run_pure, Result.andThen_ok, List.map_toArray, List.map_cons, List.map_nil, hs, hx, hr]
  exact hK v' w' h2 h3 h4

def Tok (p : Int) (N : Nat) (t : Tm) : Prop := t.2.length = N ∧ (∀ x ∈ t.2, 0 ≤ x ∧ x ≤ 40000) ∧ 0 ≤ t.1 ∧ t.1 < p
def slLen : Value → Nat
  | .slice _ n _ => n
  | _ => 0

structure Mrg (p o : Int) (N C : Nat) (w1 wr : World) (g : Nat) (L : List Tm) (fv gv : Value) (fs gs : List Tm) (ds : List TV) : Prop where
  pf : Pl w1 fv fs
  pg : Pl w1 gv gs
  tf : ∀ t ∈ fs, Tok p N t
  tg : ∀ t ∈ gs, Tok p N t
  own : wr.ownsRow w1.heap.size 57 2 (.slice (some ⟨g, 0, none⟩) ds.length C) ds.length (flat ds)
  es : Es w1 ds
  below : Below w1.heap.size w1 wr
  eq : L = ds.map tm ++ mergeL p o fs gs
  room : ds.length + fs.length + gs.length ≤ C

theorem Pl.head {w : World} {v : Value} {t : Tm} {ts : List Tm} (h : Pl w v (t :: ts)) : ∃ b off cap ev, v = .slice (some ⟨b, off, none⟩) (ts.length + 1) cap ∧ ts.length + 1 ≤ cap ∧ b < w.heap.size ∧
    w.cell? ⟨b, off, none⟩ = some (.int .i64 t.1) ∧ w.cell? ⟨b, off + 1, none⟩ = some ev ∧ Sl w ev t.2 ∧ (cap = 1 → ts = []) ∧ Pl w (.slice (some ⟨b, off + 2, none⟩) ts.length (cap - 1)) ts := by
  obtain ⟨a, cap, rfl, hcap, h⟩ := h
  obtain ⟨b, off, rfl, hlt, hc⟩ := h (by simp)
  obtain ⟨c0, ev, c1, hs⟩ := hc 0 (by simp)
  simp only [List.length_cons] at hcap
  refine ⟨b, off, cap, ev, rfl, hcap, hlt, by simpa using c0, by simpa using c1, by simpa using hs, fun e => List.length_eq_zero_iff.1 (by omega), _, _, rfl, by omega, fun hp => ⟨b, off + 2, rfl, hlt, fun i hi => ?_⟩⟩
  obtain ⟨d0, ew, d1, ds⟩ := hc (i + 1) (by simp only [List.length_cons]; omega)
  have e1 : off + (i + 1) * 2 = off + 2 + i * 2 := by omega
  rw [e1] at d0 d1
  exact ⟨by simpa using d0, ew, d1, by simpa using ds⟩
theorem Pl.tail {w : World} {b off cap : Nat} {ts : List Tm} (h : (cap = 1 → ts = []) ∧ Pl w (.slice (some ⟨b, off + 2, none⟩) ts.length (cap - 1)) ts) :
    ∃ A, (if cap = 1 then (some ⟨b, off, none⟩ : Option Addr) else some ⟨b, off + 2, none⟩) = some A ∧ Pl w (.slice (some A) ts.length (cap - 1)) ts := by
  by_cases hc : cap = 1
  · have e := h.1 hc
    subst e
    exact ⟨⟨b, off, none⟩, if_pos hc, _, _, rfl, Nat.zero_le _, fun h => absurd h (by simp)⟩
  · exact ⟨⟨b, off + 2, none⟩, if_neg hc, h.2⟩
theorem cell_keep {W W2 : World} {a : Addr} {x : Value} (h : W.cell? a = some x) (hb : Below W.heap.size W W2) : W2.cell? a = some x := by
  rw [hb.cell (cellLt h)]; exact h
theorem below_step {w W W2 : World} {B : Nat} {Q : Prop} (h : Hid (Below B w W) ∧ Q) (hb : Below W.heap.size W W2) (hB : B ≤ w.heap.size) : Below B w W2 := h.1.out.trans (hb.mono (Nat.le_trans hB h.1.out.size))
theorem Mrg.next {p o : Int} {N C : Nat} {w1 wr w' : World} {g : Nat} {L : List Tm} {fv gv : Value} {fs gs : List Tm} {ds : List TV} (h : Mrg p o N C w1 wr g L fv gv fs gs ds) (hb : Below wr.heap.size wr w') : Mrg p o N C w1 w' g L fv gv fs gs ds :=
  ⟨h.pf, h.pg, h.tf, h.tg, ownBlock_lt h.own hb, h.es, h.below.trans (hb.mono h.below.size), h.eq, h.room⟩

theorem Mrg.takeF {p o : Int} {N C : Nat} {w1 wr w2 w' : World} {g : Nat} {L : List Tm} {fv gv fv' ev : Value} {tc : Int} {te : List Int} {u : Tm} {fs gs : List Tm} {ds : List TV} (h : Mrg p o N C w1 wr g L fv gv ((tc, te) :: fs) (u :: gs) ds) (hb : Below wr.heap.size wr w2) (ho : 0 < ordS o te u.2)
    (hown : w'.ownsRow w1.heap.size 57 2 (.slice (some ⟨g, 0, none⟩) (ds.length + 1) C) (ds.length + 1) (flat ds ++ [.int .i64 tc, ev])) (hg : w2.grownBy w' (some g)) (hgw : w1.heap.size ≤ g) (hs : Sl w1 ev te) (hf : Pl w1 fv' fs) :
    Mrg p o N C w1 w' g L fv' gv fs (u :: gs) (ds ++ [(tc, ev, te)]) := by
  refine ⟨hf, h.pg, fun t ht => h.tf t (by simp [ht]), h.tg, ?_, ?_, ?_, ?_, ?_⟩
  · rw [flat_append, List.length_append]; exact hown
  · intro t ht
    rcases List.mem_append.1 ht with ht | ht
    · exact h.es t ht
    · rw [List.mem_singleton] at ht; subst ht; exact hs
  · have h2 := h.below.trans (hb.mono h.below.size)
    exact h2.trans (grown_below hg hgw h2.size)
  · rw [h.eq, merge_gt (by exact ho), List.map_append]; simp [tm]
  · have := h.room; simp only [List.length_append, List.length_cons, List.length_nil] at this ⊢; omega

theorem Mrg.takeG {p o : Int} {N C : Nat} {w1 wr w2 w' : World} {g : Nat} {L : List Tm} {fv gv gv' ev : Value} {uc : Int} {ue : List Int} {t : Tm} {fs gs : List Tm} {ds : List TV} (h : Mrg p o N C w1 wr g L fv gv (t :: fs) ((uc, ue) :: gs) ds) (hb : Below wr.heap.size wr w2) (ho : ordS o t.2 ue < 0)
    (hown : w'.ownsRow w1.heap.size 57 2 (.slice (some ⟨g, 0, none⟩) (ds.length + 1) C) (ds.length + 1) (flat ds ++ [.int .i64 uc, ev])) (hg : w2.grownBy w' (some g)) (hgw : w1.heap.size ≤ g) (hs : Sl w1 ev ue) (hf : Pl w1 gv' gs) :
    Mrg p o N C w1 w' g L fv gv' (t :: fs) gs (ds ++ [(uc, ev, ue)]) := by
  refine ⟨h.pf, hf, h.tf, fun t ht => h.tg t (by simp [ht]), ?_, ?_, ?_, ?_, ?_⟩
  · rw [flat_append, List.length_append]; exact hown
  · intro t ht
    rcases List.mem_append.1 ht with ht | ht
    · exact h.es t ht
    · rw [List.mem_singleton] at ht; subst ht; exact hs
  · have h2 := h.below.trans (hb.mono h.below.size)
    exact h2.trans (grown_below hg hgw h2.size)
  · rw [h.eq, merge_lt (by exact ho), List.map_append]; simp [tm]
  · have := h.room; simp only [List.length_append, List.length_cons, List.length_nil] at this ⊢; omega
theorem Mrg.both {p o : Int} {N C : Nat} {w1 wr w2 w' : World} {g : Nat} {L : List Tm} {fv gv fv' gv' ev : Value} {tc uc : Int} {te ue : List Int} {fs gs : List Tm} {ds : List TV} (h : Mrg p o N C w1 wr g L fv gv ((tc, te) :: fs) ((uc, ue) :: gs) ds) (hb : Below wr.heap.size wr w2) (ho : ordS o te ue = 0) (hc : (tc + uc) % p ≠ 0)
    (hown : w'.ownsRow w1.heap.size 57 2 (.slice (some ⟨g, 0, none⟩) (ds.length + 1) C) (ds.length + 1) (flat ds ++ [.int .i64 ((tc + uc) % p), ev])) (hg : w2.grownBy w' (some g)) (hgw : w1.heap.size ≤ g) (hs : Sl w1 ev te) (hf : Pl w1 fv' fs) (hf2 : Pl w1 gv' gs) :
    Mrg p o N C w1 w' g L fv' gv' fs gs (ds ++ [((tc + uc) % p, ev, te)]) := by
  refine ⟨hf, hf2, fun t ht => h.tf t (by simp [ht]), fun t ht => h.tg t (by simp [ht]), ?_, ?_, ?_, ?_, ?_⟩
  · rw [flat_append, List.length_append]; exact hown
  · intro t ht
    rcases List.mem_append.1 ht with ht | ht
    · exact h.es t ht
    · rw [List.mem_singleton] at ht; subst ht; exact hs
  · have h2 := h.below.trans (hb.mono h.below.size)
    exact h2.trans (grown_below hg hgw h2.size)
  · rw [h.eq, merge_eq (by exact ho) (by exact hc), List.map_append]; simp [tm]
  · have := h.room; simp only [List.length_append, List.length_cons, List.length_nil] at this ⊢; omega
theorem Mrg.drop {p o : Int} {N C : Nat} {w1 wr w2 : World} {g : Nat} {L : List Tm} {fv gv fv' gv' : Value} {tc uc : Int} {te ue : List Int} {fs gs : List Tm} {ds : List TV} (h : Mrg p o N C w1 wr g L fv gv ((tc, te) :: fs) ((uc, ue) :: gs) ds) (hb : Below wr.heap.size wr w2) (ho : ordS o te ue = 0) (hc : (tc + uc) % p = 0)
    (hf : Pl w1 fv' fs) (hf2 : Pl w1 gv' gs) : Mrg p o N C w1 w2 g L fv' gv' fs gs ds := by
  have k := h.next hb
  refine ⟨hf, hf2, fun t ht => h.tf t (by simp [ht]), fun t ht => h.tg t (by simp [ht]), k.own, k.es, k.below, ?_, ?_⟩
  · rw [h.eq, merge_no (by exact ho) (by exact hc)]
  · have := h.room; simp only [List.length_cons] at this ⊢; omega

theorem Mrg.finish {p o : Int} {N C : Nat} {w1 wr w2 w3 : World} {g : Nat} {L : List Tm} {fv gv : Value} {fs gs : List Tm} {ds us vs : List TV} (h : Mrg p o N C w1 wr g L fv gv fs gs ds) (hus : us.map tm = fs) (hvs : vs.map tm = gs) (hu : Es w1 us) (hv : Es w1 vs)
    (hgw : w1.heap.size ≤ g) (he : fs = [] ∨ gs = []) (g2 : wr.grownBy w2 (some g)) (g3 : w2.grownBy w3 (some g))
    (hown : w3.ownsRow w1.heap.size 57 2 (.slice (some ⟨g, 0, none⟩) (ds.length + us.length + vs.length) C) (ds.length + us.length + vs.length) (flat ds ++ flat us ++ flat vs)) :
    Pl w3 (.slice (some ⟨g, 0, none⟩) (ds.length + us.length + vs.length) C) L ∧ Below w1.heap.size w1 w3 := by
  have hb : Below w1.heap.size w1 w3 := h.below.trans (grown_below (grown_trans g2 g3) hgw h.below.size)
  refine ⟨?_, hb⟩
  have e1 : (ds ++ us ++ vs).length = ds.length + us.length + vs.length := by simp only [List.length_append]
  have e2 : flat (ds ++ us ++ vs) = flat ds ++ flat us ++ flat vs := by rw [flat_append, flat_append]
  have k := own_pl (w := w3) (B := w1.heap.size) (v := .slice (some ⟨g, 0, none⟩) (ds.length + us.length + vs.length) C) (ts := ds ++ us ++ vs) (by rw [e1, e2]; exact hown) (by
    intro t ht
    rcases List.mem_append.1 ht with ht | ht
    · rcases List.mem_append.1 ht with ht | ht
      · exact (h.es t ht).below hb
      · exact (hu t ht).below hb
    · exact (hv t ht).below hb)
  have e3 : (ds ++ us ++ vs).map tm = L := by
    rw [h.eq, List.map_append, List.map_append, hus, hvs]
    rcases he with he | he
    · subst he; rw [merge_nilL]; simp
    · subst he; rw [merge_nilR]; simp
  rw [e3] at k
  exact k
def Bd (ts : List Tm) : Prop := ∀ t ∈ ts, ∀ x ∈ t.2, 0 ≤ x ∧ x ≤ 40000
theorem Bd.merge {p o : Int} {f g : List Tm} (hf : Bd f) (hg : Bd g) : Bd (mergeL p o f g) := by
  intro x hx
  obtain ⟨t, ht, e⟩ := merge_mem f g x hx
  rw [e]
  exact (List.mem_append.1 ht).elim (hf t) (hg t)
structure SumR (p o : Int) (N : Nat) (F : Nat → List Tm) (a k : Nat) (w' : World) (u : Value) (ts : List Tm) : Prop where
  pl : Pl w' u ts
  canon : Canon p o N ts
  same : Same p ts (cat F a k)
  len : ts.length ≤ (cat F a k).length
  bd : Bd ts
theorem SumR.below {p o : Int} {N : Nat} {F : Nat → List Tm} {a k : Nat} {w' w2 : World} {u : Value} {ts : List Tm} (h : SumR p o N F a k w' u ts) (hb : Below w'.heap.size w' w2) : SumR p o N F a k w2 u ts := ⟨h.pl.below hb, h.canon, h.same, h.len, h.bd⟩
theorem SumR.merge {p o : Int} {N : Nat} {F : Nat → List Tm} {a m b : Nat} {w' w2 : World} {u u1 u2 : Value} {ts us : List Tm} (hp : 2 ≤ p) (hm : a ≤ m) (hb : m ≤ b) (h : SumR p o N F a (m - a) w' u1 ts) (k : SumR p o N F m (b - m) w' u2 us) (hu : Pl w2 u (mergeL p o ts us)) : SumR p o N F a (b - a) w2 u (mergeL p o ts us) := by
  have e : cat F a (b - a) = cat F a (m - a) ++ cat F m (b - m) := by
    rw [show b - a = (m - a) + (b - m) by omega, cat_add, show a + (m - a) = m by omega]
  refine ⟨hu, merge_canon hp ts us h.canon k.canon, ?_, ?_, h.bd.merge k.bd⟩
  · rw [e]
    exact (merge_same ts us h.canon.len k.canon.len).trans (h.same.append k.same)
  · rw [e, List.length_append]
    have := merge_length (p := p) (o := o) ts us
    have := h.len
    have := k.len
    omega
theorem getD_memL {α : Type} (xs : List (List α)) (k : Nat) (h : k < xs.length) : xs.getD k [] ∈ xs := by
  rw [List.getD_eq_getElem?_getD, List.getElem?_eq_getElem h]; simp
def Bd2 (ts : List Tm) : Prop := ∀ t ∈ ts, ∀ x ∈ t.2, 0 ≤ x ∧ x ≤ 20000
theorem Bd2.bd {ts : List Tm} (h : Bd2 ts) : Bd ts := fun t ht x hx => by have := h t ht x hx; omega
theorem getD_memT (ts : List Tm) (k : Nat) (h : k < ts.length) : ts.getD k noT ∈ ts := by
  rw [List.getD_eq_getElem?_getD, List.getElem?_eq_getElem h]; simp
theorem zip_bd : ∀ (a b : List Int), (∀ x ∈ a, 0 ≤ x ∧ x ≤ 20000) → (∀ x ∈ b, 0 ≤ x ∧ x ≤ 20000) → ∀ x ∈ zipI (· + ·) a b, 0 ≤ x ∧ x ≤ 40000
  | [], _, _, _, x, hx => by simp [zipI] at hx
  | _ :: _, [], _, _, x, hx => by simp [zipI] at hx
  | a :: ar, b :: br, ha, hb, x, hx => by
    simp only [zipI, List.mem_cons] at hx
    rcases hx with rfl | hx
    · have := ha a (by simp); have := hb b (by simp); omega
    · exact zip_bd ar br (fun y hy => ha y (by simp [hy])) (fun y hy => hb y (by simp [hy])) x hx
end Go.Proofs.YtilogbggilchaaaGreat
