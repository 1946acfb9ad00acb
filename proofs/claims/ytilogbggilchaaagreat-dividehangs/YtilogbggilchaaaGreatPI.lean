/- Steps of regions that draw; merge. -/
import Derived.Test.YtilogbggilchaaaGreatPF
import Derived.Test.YtilogbggilchaaaGreatM
import Derived.Deep.RegionLaw
import Derived.Test.YtilogbggilchaaaGreatFN
namespace Go.Proofs.YtilogbggilchaaaGreat
set_option linter.unusedSimpArgs false
set_option linter.unusedVariables false
open Go.RowKit
theorem step_append_fits {P : Program} {ops : Array Oper} {o : Oper} {a : Act} {w : World} {K : Act → World → Prop} {Q : Exit → Act → World → Prop} {E : Prop}
    (hg : o.guard = none) (s x : Operand) (t : TypeId) (hop : o.op = Op.call { callee := Callee.builtin Builtin.append, args := #[s, x], argTypes := #[t, t] })
    (base : Nat) (e : TypeId) (i : TypeInfo) (size : Nat) (h1 : P.underlying t = some (.slice e)) (h2 : P.info? e = some i) (h4 : i.size = size)
    (g k cap : Nat) (xs : List Value) (hs : a.eval s = .slice (some ⟨g, 0, none⟩) k cap) (hown : w.ownsRow base e size (.slice (some ⟨g, 0, none⟩) k cap) k xs) (ad : Addr) (m c : Nat) (news : List Value) (hx : a.eval x = .slice (some ad) m c) (hn : news.length = m * size)
    (hc : ∀ j u, news[j]? = some u → w.cell? (ad.add j) = some u) (h1c : ∀ u ∈ news, u.oneCell' = true) (b1 : k + m ≤ cap)
    (hK : ∀ w', w'.ownsRow base e size (.slice (some ⟨g, 0, none⟩) (k + m) cap) (k + m) (xs ++ news) → w.grownBy w' (some g) → K (a.put o.dst (.slice (some ⟨g, 0, none⟩) (k + m) cap)) w') :
    if Region.wanted o (yielded ops a.tmps) = true then Oper.wp P o a w K Q else E := by
  have hw : Region.wanted o (yielded ops a.tmps) = true := by simp [Region.wanted, hg]
  rw [if_pos hw]
  obtain ⟨w', hrun, r1, r2⟩ := run_append_fits (P := P) w base t o.type e i size h1 h2 h4 g k cap xs hown ad m c news hn hc h1c b1
  unfold Oper.wp
  simp [execOp, hop, resolve, invoke, builtin, hs, hx, hrun, Result.andThen]
  exact hK w' r1 r2
theorem step_append_own {P : Program} {ops : Array Oper} {o : Oper} {a : Act} {w : World} {K : Act → World → Prop} {Q : Exit → Act → World → Prop} {E : Prop}
    (hg : o.guard = none) (s x : Operand) (t : TypeId) (hop : o.op = Op.call { callee := Callee.builtin Builtin.append, args := #[s, x], argTypes := #[t, t] })
    (base : Nat) (e : TypeId) (i : TypeInfo) (z : Value) (size bytes : Nat) (ht : P.underlying t = some (.slice e)) (hi : P.info? e = some i) (hz : i.zero = some z)
    (hsize : i.size = size) (hby : i.bytes = bytes) (hzs : z.cells.size = size) (hsz : 0 < size)
    (v : Value) (n : Nat) (xs : List Value) (hs : a.eval s = v) (hown : w.ownsRow base e size v n xs)
    (ad : Addr) (m c : Nat) (news : List Value) (hx : a.eval x = .slice (some ad) m c) (hl : news.length = m * size) (hnews : ∀ j u, news[j]? = some u → w.cell? (ad.add j) = some u) (h1 : ∀ u ∈ news, u.oneCell' = true)
    (h63 : n + m ≤ maxLen) (hbytes : (n + m) * bytes ≤ 140737488355328) (hbase : base ≤ w.heap.size)
    (hK : ∀ v' w', w'.ownsRow base e size v' (n + m) (xs ++ news) → w.grownBy w' v.ownBlock → (v' = .slice none 0 0 ↔ v = .slice none 0 0 ∧ m = 0) → K (a.put o.dst v') w') :
    if Region.wanted o (yielded ops a.tmps) = true then Oper.wp P o a w K Q else E := by
  have hw : Region.wanted o (yielded ops a.tmps) = true := by simp [Region.wanted, hg]
  rw [if_pos hw]
  obtain ⟨v', w', hr, h2, h3, h4⟩ := run_append_own (P := P) w base t o.type e i z size bytes ht hi hz hsize hby hzs hsz v n xs hown ad m c news hl hnews h1 h63 hbytes hbase
  unfold Oper.wp execOp
  simp only [hop, resolve, invoke, builtin, Sem.run_bind, Sem.run_pure, Result.andThen_ok, List.map_toArray, List.map_cons, List.map_nil, hs, hx, hr]
  exact hK v' w' h2 h3 h4

def Tok (p : Int) (N : Nat) (t : Tm) : Prop := t.2.length = N ∧ (∀ x ∈ t.2, 0 ≤ x ∧ x ≤ 40000) ∧ 0 ≤ t.1 ∧ t.1 < p
def slLen : Value → Nat
  | .slice _ n _ => n
  | _ => 0

structure Mrg (p o : Int) (N C : Nat) (w1 wr : World) (g : Nat) (L : List Tm) (fv gv : Value) (fs gs : List Tm) (ds : List TV) : Prop where
  pf : Pl w1 fv fs
  pg : Pl w1 gv gs
  tf : ∀ t ∈ fs, Tok p N t
  tg : ∀ t ∈ gs, Tok p N t
  own : wr.ownsRow w1.heap.size 57 2 (.slice (some ⟨g, 0, none⟩) ds.length C) ds.length (flat ds)
  es : Es w1 ds
  below : Below w1.heap.size w1 wr
  eq : L = ds.map tm ++ mergeL p o fs gs
  room : ds.length + fs.length + gs.length ≤ C

theorem Pl.head {w : World} {v : Value} {t : Tm} {ts : List Tm} (h : Pl w v (t :: ts)) : ∃ b off cap ev, v = .slice (some ⟨b, off, none⟩) (ts.length + 1) cap ∧ ts.length + 1 ≤ cap ∧ b < w.heap.size ∧
    w.cell? ⟨b, off, none⟩ = some (.int .i64 t.1) ∧ w.cell? ⟨b, off + 1, none⟩ = some ev ∧ Sl w ev t.2 ∧ (cap = 1 → ts = []) ∧ Pl w (.slice (some ⟨b, off + 2, none⟩) ts.length (cap - 1)) ts := by
  obtain ⟨a, cap, rfl, hcap, h⟩ := h
  obtain ⟨b, off, rfl, hlt, hc⟩ := h (by simp)
  obtain ⟨c0, ev, c1, hs⟩ := hc 0 (by simp)
  simp only [List.length_cons] at hcap
  refine ⟨b, off, cap, ev, rfl, hcap, hlt, by simpa using c0, by simpa using c1, by simpa using hs, fun e => List.length_eq_zero_iff.1 (by omega), _, _, rfl, by omega, fun hp => ⟨b, off + 2, rfl, hlt, fun i hi => ?_⟩⟩
  obtain ⟨d0, ew, d1, ds⟩ := hc (i + 1) (by simp only [List.length_cons]; omega)
  have e1 : off + (i + 1) * 2 = off + 2 + i * 2 := by omega
  rw [e1] at d0 d1
  exact ⟨by simpa using d0, ew, d1, by simpa using ds⟩
theorem Pl.tail {w : World} {b off cap : Nat} {ts : List Tm} (h : (cap = 1 → ts = []) ∧ Pl w (.slice (some ⟨b, off + 2, none⟩) ts.length (cap - 1)) ts) :
    ∃ A, (if cap = 1 then (some ⟨b, off, none⟩ : Option Addr) else some ⟨b, off + 2, none⟩) = some A ∧ Pl w (.slice (some A) ts.length (cap - 1)) ts := by
  by_cases hc : cap = 1
  · have e := h.1 hc
    subst e
    exact ⟨⟨b, off, none⟩, if_pos hc, _, _, rfl, Nat.zero_le _, fun h => absurd h (by simp)⟩
  · exact ⟨⟨b, off + 2, none⟩, if_neg hc, h.2⟩
theorem mergeStart {w w1 : World} {p n o v : Int} {N C : Nat} {T1 : TypeId} {fv gv : Value} {fs gs : List Tm} (hf : Pl w fv fs) (hg : Pl w gv gs) (tf : ∀ t ∈ fs, Tok p N t) (tg : ∀ t ∈ gs, Tok p N t) (hC : fs.length + gs.length ≤ C)
    (h : w1.ownsRow (w.heap.size + 1) 57 2 (.slice (some ⟨(w.alloc (.cells #[.int .i64 p, .int .i64 n, .int .i64 o, .int .i64 v] T1)).heap.size, 0, none⟩) 0 C) 0 [])
    (hgr : (w.alloc (.cells #[.int .i64 p, .int .i64 n, .int .i64 o, .int .i64 v] T1)).grownBy w1 none) :
    ∃ wa, Below w.heap.size w wa ∧ wa.heap.size = w.heap.size + 1 ∧ BoxAt wa w.heap.size p n o v ∧ Mrg p o N C wa w1 (w.heap.size + 1) (mergeL p o fs gs) fv gv fs gs [] := by
  have e : (w.alloc (.cells #[.int .i64 p, .int .i64 n, .int .i64 o, .int .i64 v] T1)).heap.size = w.heap.size + 1 := by simp
  rw [e] at h
  refine ⟨w.alloc (.cells #[.int .i64 p, .int .i64 n, .int .i64 o, .int .i64 v] T1), belowNew, e, BoxAt.new w p n o v T1, ?_⟩
  exact ⟨hf.below belowNew, hg.below belowNew, tf, tg, by rw [e]; exact h, fun t ht => by simp at ht, ⟨hgr.os, hgr.tape, hgr.output, hgr.size, fun k hk => hgr.block k hk (by simp)⟩, by simp, by simp; omega⟩

theorem cell_keep {W W2 : World} {a : Addr} {x : Value} (h : W.cell? a = some x) (hb : Below W.heap.size W W2) : W2.cell? a = some x := by
  rw [hb.cell (cellLt h)]; exact h
theorem below_step {w W W2 : World} {B : Nat} {Q : Prop} (h : Hid (Below B w W) ∧ Q) (hb : Below W.heap.size W W2) (hB : B ≤ w.heap.size) : Below B w W2 := h.1.out.trans (hb.mono (Nat.le_trans hB h.1.out.size))
theorem Mrg.next {p o : Int} {N C : Nat} {w1 wr w' : World} {g : Nat} {L : List Tm} {fv gv : Value} {fs gs : List Tm} {ds : List TV} (h : Mrg p o N C w1 wr g L fv gv fs gs ds) (hb : Below wr.heap.size wr w') : Mrg p o N C w1 w' g L fv gv fs gs ds :=
  ⟨h.pf, h.pg, h.tf, h.tg, ownBlock_lt h.own hb, h.es, h.below.trans (hb.mono h.below.size), h.eq, h.room⟩

theorem two_one (c : Int) (a : Option Addr) (n m : Nat) : ∀ u ∈ [Value.int .i64 c, Value.slice a n m], u.oneCell' = true := by
  intro u hu; simp at hu; rcases hu with rfl | rfl <;> rfl
theorem Mrg.takeF {p o : Int} {N C : Nat} {w1 wr w2 w' : World} {g : Nat} {L : List Tm} {fv gv fv' ev : Value} {tc : Int} {te : List Int} {u : Tm} {fs gs : List Tm} {ds : List TV} (h : Mrg p o N C w1 wr g L fv gv ((tc, te) :: fs) (u :: gs) ds) (hb : Below wr.heap.size wr w2) (ho : 0 < ordS o te u.2)
    (hown : w'.ownsRow w1.heap.size 57 2 (.slice (some ⟨g, 0, none⟩) (ds.length + 1) C) (ds.length + 1) (flat ds ++ [.int .i64 tc, ev])) (hg : w2.grownBy w' (some g)) (hgw : w1.heap.size ≤ g) (hs : Sl w1 ev te) (hf : Pl w1 fv' fs) :
    Mrg p o N C w1 w' g L fv' gv fs (u :: gs) (ds ++ [(tc, ev, te)]) := by
  refine ⟨hf, h.pg, fun t ht => h.tf t (by simp [ht]), h.tg, ?_, ?_, ?_, ?_, ?_⟩
  · rw [flat_append, List.length_append]; exact hown
  · intro t ht
    rcases List.mem_append.1 ht with ht | ht
    · exact h.es t ht
    · rw [List.mem_singleton] at ht; subst ht; exact hs
  · have h2 := h.below.trans (hb.mono h.below.size)
    exact h2.trans (grown_below hg hgw h2.size)
  · rw [h.eq, merge_gt (by exact ho), List.map_append]; simp [tm]
  · have := h.room; simp only [List.length_append, List.length_cons, List.length_nil] at this ⊢; omega

theorem Mrg.takeG {p o : Int} {N C : Nat} {w1 wr w2 w' : World} {g : Nat} {L : List Tm} {fv gv gv' ev : Value} {uc : Int} {ue : List Int} {t : Tm} {fs gs : List Tm} {ds : List TV} (h : Mrg p o N C w1 wr g L fv gv (t :: fs) ((uc, ue) :: gs) ds) (hb : Below wr.heap.size wr w2) (ho : ordS o t.2 ue < 0)
    (hown : w'.ownsRow w1.heap.size 57 2 (.slice (some ⟨g, 0, none⟩) (ds.length + 1) C) (ds.length + 1) (flat ds ++ [.int .i64 uc, ev])) (hg : w2.grownBy w' (some g)) (hgw : w1.heap.size ≤ g) (hs : Sl w1 ev ue) (hf : Pl w1 gv' gs) :
    Mrg p o N C w1 w' g L fv gv' (t :: fs) gs (ds ++ [(uc, ev, ue)]) := by
  refine ⟨h.pf, hf, h.tf, fun t ht => h.tg t (by simp [ht]), ?_, ?_, ?_, ?_, ?_⟩
  · rw [flat_append, List.length_append]; exact hown
  · intro t ht
    rcases List.mem_append.1 ht with ht | ht
    · exact h.es t ht
    · rw [List.mem_singleton] at ht; subst ht; exact hs
  · have h2 := h.below.trans (hb.mono h.below.size)
    exact h2.trans (grown_below hg hgw h2.size)
  · rw [h.eq, merge_lt (by exact ho), List.map_append]; simp [tm]
  · have := h.room; simp only [List.length_append, List.length_cons, List.length_nil] at this ⊢; omega
theorem Mrg.both {p o : Int} {N C : Nat} {w1 wr w2 w' : World} {g : Nat} {L : List Tm} {fv gv fv' gv' ev : Value} {tc uc : Int} {te ue : List Int} {fs gs : List Tm} {ds : List TV} (h : Mrg p o N C w1 wr g L fv gv ((tc, te) :: fs) ((uc, ue) :: gs) ds) (hb : Below wr.heap.size wr w2) (ho : ordS o te ue = 0) (hc : (tc + uc) % p ≠ 0)
    (hown : w'.ownsRow w1.heap.size 57 2 (.slice (some ⟨g, 0, none⟩) (ds.length + 1) C) (ds.length + 1) (flat ds ++ [.int .i64 ((tc + uc) % p), ev])) (hg : w2.grownBy w' (some g)) (hgw : w1.heap.size ≤ g) (hs : Sl w1 ev te) (hf : Pl w1 fv' fs) (hf2 : Pl w1 gv' gs) :
    Mrg p o N C w1 w' g L fv' gv' fs gs (ds ++ [((tc + uc) % p, ev, te)]) := by
  refine ⟨hf, hf2, fun t ht => h.tf t (by simp [ht]), fun t ht => h.tg t (by simp [ht]), ?_, ?_, ?_, ?_, ?_⟩
  · rw [flat_append, List.length_append]; exact hown
  · intro t ht
    rcases List.mem_append.1 ht with ht | ht
    · exact h.es t ht
    · rw [List.mem_singleton] at ht; subst ht; exact hs
  · have h2 := h.below.trans (hb.mono h.below.size)
    exact h2.trans (grown_below hg hgw h2.size)
  · rw [h.eq, merge_eq (by exact ho) (by exact hc), List.map_append]; simp [tm]
  · have := h.room; simp only [List.length_append, List.length_cons, List.length_nil] at this ⊢; omega
theorem Mrg.drop {p o : Int} {N C : Nat} {w1 wr w2 : World} {g : Nat} {L : List Tm} {fv gv fv' gv' : Value} {tc uc : Int} {te ue : List Int} {fs gs : List Tm} {ds : List TV} (h : Mrg p o N C w1 wr g L fv gv ((tc, te) :: fs) ((uc, ue) :: gs) ds) (hb : Below wr.heap.size wr w2) (ho : ordS o te ue = 0) (hc : (tc + uc) % p = 0)
    (hf : Pl w1 fv' fs) (hf2 : Pl w1 gv' gs) : Mrg p o N C w1 w2 g L fv' gv' fs gs ds := by
  have k := h.next hb
  refine ⟨hf, hf2, fun t ht => h.tf t (by simp [ht]), fun t ht => h.tg t (by simp [ht]), k.own, k.es, k.below, ?_, ?_⟩
  · rw [h.eq, merge_no (by exact ho) (by exact hc)]
  · have := h.room; simp only [List.length_cons] at this ⊢; omega

theorem wpList_append_tvs {P : Program} {w : World} {ops : Array Oper} {rest : List Oper} {o : Oper} {a : Act} {Q : Exit → Act → World → Prop} (hgd : o.guard = none) (s x : Operand) (t : TypeId)
    (ho : o.op = .call { callee := .builtin .append, args := #[s, x], argTypes := #[t, t] })
    (base : Nat) (e : TypeId) (i : TypeInfo) (h1 : P.underlying t = some (.slice e)) (h2 : P.info? e = some i) (h4 : i.size = 2)
    (g k cap : Nat) (xs : List Value) (hs : a.eval s = .slice (some ⟨g, 0, none⟩) k cap) (hown : w.ownsRow base e 2 (.slice (some ⟨g, 0, none⟩) k cap) k xs)
    (us : List TV) (ua : Option Addr) (uc : Nat) (hx : a.eval x = .slice ua us.length uc) (hcs : 0 < us.length → ∃ b off, ua = some ⟨b, off, none⟩ ∧ ∀ j u, (flat us)[j]? = some u → w.cell? ⟨b, off + j, none⟩ = some u)
    (hone : ∀ u ∈ flat us, u.oneCell' = true) (b1 : k + us.length ≤ cap)
    (hK : ∀ w', w'.ownsRow base e 2 (.slice (some ⟨g, 0, none⟩) (k + us.length) cap) (k + us.length) (xs ++ flat us) → w.grownBy w' (some g) → wpList P ops Q rest (a.put o.dst (.slice (some ⟨g, 0, none⟩) (k + us.length) cap)) w') :
    wpList P ops Q (o :: rest) a w := by
  by_cases h0 : 0 < us.length
  · obtain ⟨b, off, rfl, hc⟩ := hcs h0
    refine wpList_append_fits w hgd s x t ho base e i 2 h1 h2 h4 g k cap xs hs hown ⟨b, off, none⟩ us.length uc (flat us) hx (flat_len us) (fun j u hj => ?_) hone b1 hK
    have := hc j u hj
    by_cases hj0 : j = 0
    · subst hj0; simpa [Addr.add] using this
    · simpa [Addr.add, hj0] using this
  · have e0 : us = [] := List.length_eq_zero_iff.1 (by omega)
    subst e0
    cases ua with
    | none =>
      refine wpList_append_none_c hgd s x t ho base e i 2 h1 h2 _ k uc xs hs hown hx ?_
      exact hK w (by simpa [flat] using hown) (grown_refl _ _)
    | some ad =>
      refine wpList_append_fits w hgd s x t ho base e i 2 h1 h2 h4 g k cap xs hs hown ad 0 uc [] hx (by simp) (fun j u hj => by simp at hj) (fun u hu => by simp at hu) b1 hK

theorem Mrg.finish {p o : Int} {N C : Nat} {w1 wr w2 w3 : World} {g : Nat} {L : List Tm} {fv gv : Value} {fs gs : List Tm} {ds us vs : List TV} (h : Mrg p o N C w1 wr g L fv gv fs gs ds) (hus : us.map tm = fs) (hvs : vs.map tm = gs) (hu : Es w1 us) (hv : Es w1 vs)
    (hgw : w1.heap.size ≤ g) (he : fs = [] ∨ gs = []) (g2 : wr.grownBy w2 (some g)) (g3 : w2.grownBy w3 (some g))
    (hown : w3.ownsRow w1.heap.size 57 2 (.slice (some ⟨g, 0, none⟩) (ds.length + us.length + vs.length) C) (ds.length + us.length + vs.length) (flat ds ++ flat us ++ flat vs)) :
    Pl w3 (.slice (some ⟨g, 0, none⟩) (ds.length + us.length + vs.length) C) L ∧ Below w1.heap.size w1 w3 := by
  have hb : Below w1.heap.size w1 w3 := h.below.trans (grown_below (grown_trans g2 g3) hgw h.below.size)
  refine ⟨?_, hb⟩
  have e1 : (ds ++ us ++ vs).length = ds.length + us.length + vs.length := by simp only [List.length_append]
  have e2 : flat (ds ++ us ++ vs) = flat ds ++ flat us ++ flat vs := by rw [flat_append, flat_append]
  have k := own_pl (w := w3) (B := w1.heap.size) (v := .slice (some ⟨g, 0, none⟩) (ds.length + us.length + vs.length) C) (ts := ds ++ us ++ vs) (by rw [e1, e2]; exact hown) (by
    intro t ht
    rcases List.mem_append.1 ht with ht | ht
    · rcases List.mem_append.1 ht with ht | ht
      · exact (h.es t ht).below hb
      · exact (hu t ht).below hb
    · exact (hv t ht).below hb)
  have e3 : (ds ++ us ++ vs).map tm = L := by
    rw [h.eq, List.map_append, List.map_append, hus, hvs]
    rcases he with he | he
    · subst he; rw [merge_nilL]; simp
    · subst he; rw [merge_nilR]; simp
  rw [e3] at k
  exact k

set_option maxRecDepth 100000 in
set_option maxHeartbeats 2000000 in
theorem bareMerge_any (p n o v : Int) (N : Nat) (fv gv : Value) (fs gs : List Tm) (w : World) (hp : 2 ≤ p ∧ p ≤ 101) (ho : o = 1 ∨ o = 2) (hN0 : 0 < N) (hN : N ≤ 3)
    (tf : ∀ t ∈ fs, Tok p N t) (tg : ∀ t ∈ gs, Tok p N t) (hm : fs.length + gs.length ≤ 2400000000000) (hf : Pl w fv fs) (hg : Pl w gv gs) :
    Calls Tryz.prog 131 #[ringV p n o v, fv, gv] w fun e w' => ∃ u, e = .returned u ∧ Pl w' u (mergeL p o fs gs) ∧ Below w.heap.size w w' := by
  have HF := hid hf
  have HG := hid hg
  have HTF := hid tf
  have HTG := hid tg
  have HO := hid ho
  obtain ⟨hp1, hp2⟩ := hp
  obtain ⟨fa, fc, rfl, _, _⟩ := hf
  obtain ⟨ga, gc, rfl, _, _⟩ := hg
  clear tf tg ho
  obtain ⟨i0, hi, hz0, hz1, hz2⟩ := info_parts Tryz.infoTerm
  go_enter Tryz.func131, Tryz.ntmps131
  go_wp2_with (at_make; refine wpList_make_own _ rfl _ _ 54 rfl (w.heap.size + 1) 57 i0 _ 2 Tryz.underlying54 hi hz0 hz1 .i64 .i64 _ (fs.length + gs.length) rfl rfl (by simp) (by rw [hz2]; omega) (by unfold maxLen; omega) (by simp) ?_; intro w1 hown hgrow; have HX := hid (mergeStart (N := N) (C := fs.length + gs.length) HF.out HG.out HTF.out HTG.out (Nat.le_refl _) hown hgrow); clear hown hgrow)
  have HI := hid (And.intro hi (And.intro hz1 hz2))
  clear hi hz0 hz1 hz2
  obtain ⟨wa, hba, hsz, hbox, hmg⟩ := HX.out
  have HB := hid hba
  have HSZ := hid hsz
  have HBX := hid hbox
  have HM := hid hmg
  have HI2 := HI
  clear HX hba hsz hbox hmg HTF HTG HF HG
  go_loopw [1, 2, 7] (fun x y z wr => ∃ (fs1 gs1 : List Tm) (ds : List TV), z = .slice (some ⟨w.heap.size + 1, 0, none⟩) ds.length (fs.length + gs.length) ∧ Mrg p o N (fs.length + gs.length) wa wr (w.heap.size + 1) (mergeL p o fs gs) x y fs1 gs1 ds) (fun x y _ _ => slLen x + slLen y)
  case atStart => exact ⟨fs, gs, [], rfl, HM.out⟩
  case round =>
    clear HM
    obtain ⟨fs1, gs1, ds, rfl, hm1⟩ := hrel
    have HM := hid hm1
    clear hm1
    by_cases hfin : fs1 = [] ∨ gs1 = []
    · obtain ⟨xa, xc, us, hxv, _, husm, hus, hucs⟩ := HM.out.pf.tvs
      obtain ⟨ya, yc, vs, hyv, _, hvsm, hvs, hvcs⟩ := HM.out.pg.tvs
      have HU1 : Hid (0 < us.length → ∃ b off, xa = some ⟨b, off, none⟩ ∧ ∀ j u, (flat us)[j]? = some u → wr.cell? ⟨b, off + j, none⟩ = some u) := fun h => by
        obtain ⟨b, off, e, hlt, hc⟩ := hucs h
        exact ⟨b, off, e, fun j u hj => by rw [HM.out.below.cell (p := ⟨b, off + j, none⟩) hlt]; exact hc j u hj⟩
      have HV1 : Hid (∀ w2, wr.grownBy w2 (some (w.heap.size + 1)) → 0 < vs.length → ∃ b off, ya = some ⟨b, off, none⟩ ∧ ∀ j u, (flat vs)[j]? = some u → w2.cell? ⟨b, off + j, none⟩ = some u) := fun w2 hg2 h => by
        obtain ⟨b, off, e, hlt, hc⟩ := hvcs h
        have hb2 := HM.out.below.trans (grown_below hg2 (by rw [HSZ.out]; exact Nat.le_refl _) HM.out.below.size)
        exact ⟨b, off, e, fun j u hj => by rw [hb2.cell (p := ⟨b, off + j, none⟩) hlt]; exact hc j u hj⟩
      have HUL : Hid (us.length = fs1.length ∧ vs.length = gs1.length) := ⟨by rw [← husm, List.length_map], by rw [← hvsm, List.length_map]⟩
      have HR : Hid (ds.length + us.length ≤ fs.length + gs.length ∧ ds.length + us.length + vs.length ≤ fs.length + gs.length) := by
        have := HM.out.room
        have := HUL.out
        exact ⟨by omega, by omega⟩
      have HUS := hid (And.intro husm (And.intro hvsm (And.intro hus hvs)))
      have HFIN := hid hfin
      have hzero : us.length = 0 ∨ vs.length = 0 := by
        have := HUL.out
        rcases hfin with h | h
        · left; rw [this.1, h]; rfl
        · right; rw [this.2, h]; rfl
      subst hxv
      subst hyv
      clear hucs hvcs husm hvsm hus hvs hfin
      have HTAC : Hid True := trivial
      by_cases hu0 : 0 < us.length
      · have hv0 : ¬ 0 < vs.length := by omega
        go_wp2_with (at_builtin; first
          | (refine wpList_append_tvs rfl (.tmp 80) (.tmp 81) 54 rfl wa.heap.size 57 i0 Tryz.underlying54 HI.out.1 HI.out.2.1 (w.heap.size + 1) ds.length (fs.length + gs.length) (flat ds) rfl HM.out.own us _ _ rfl HU1.out (flat_one HUS.out.2.2.1) HR.out.1 ?_; intro w2 r1 r2; have R1 := hid r1; have R2 := hid r2; clear r1 r2)
          | (refine wpList_append_tvs rfl (.tmp 82) (.tmp 83) 54 rfl wa.heap.size 57 i0 Tryz.underlying54 HI.out.1 HI.out.2.1 (w.heap.size + 1) (ds.length + us.length) (fs.length + gs.length) (flat ds ++ flat us) rfl R1.out vs _ _ rfl (HV1.out _ R2.out) (flat_one HUS.out.2.2.2) HR.out.2 ?_; intro w3 r3 r4; have R3 := hid r3; have R4 := hid r4; clear r3 r4))
        go_ret
        have F := HM.out.finish HUS.out.1 HUS.out.2.1 HUS.out.2.2.1 HUS.out.2.2.2 (by rw [HSZ.out]; exact Nat.le_refl _) HFIN.out R2.out R4.out R3.out
        exact ⟨_, rfl, F.1, HB.out.trans (F.2.mono HB.out.size)⟩
      · go_wp2_with (at_builtin; first
          | (refine wpList_append_tvs rfl (.tmp 80) (.tmp 81) 54 rfl wa.heap.size 57 i0 Tryz.underlying54 HI.out.1 HI.out.2.1 (w.heap.size + 1) ds.length (fs.length + gs.length) (flat ds) rfl HM.out.own us _ _ rfl HU1.out (flat_one HUS.out.2.2.1) HR.out.1 ?_; intro w2 r1 r2; have R1 := hid r1; have R2 := hid r2; clear r1 r2)
          | (refine wpList_append_tvs rfl (.tmp 82) (.tmp 83) 54 rfl wa.heap.size 57 i0 Tryz.underlying54 HI.out.1 HI.out.2.1 (w.heap.size + 1) (ds.length + us.length) (fs.length + gs.length) (flat ds ++ flat us) rfl R1.out vs _ _ rfl (HV1.out _ R2.out) (flat_one HUS.out.2.2.2) HR.out.2 ?_; intro w3 r3 r4; have R3 := hid r3; have R4 := hid r4; clear r3 r4))
        go_ret
        have F := HM.out.finish HUS.out.1 HUS.out.2.1 HUS.out.2.2.1 HUS.out.2.2.2 (by rw [HSZ.out]; exact Nat.le_refl _) HFIN.out R2.out R4.out R3.out
        exact ⟨_, rfl, F.1, HB.out.trans (F.2.mono HB.out.size)⟩
    · cases fs1 with
      | nil => exact absurd (Or.inl rfl) hfin
      | cons t fs2 =>
      cases gs1 with
      | nil => exact absurd (Or.inr rfl) hfin
      | cons u gs2 =>
        clear hfin
        obtain ⟨b, off, fcap, ev, rfl, hfc, hlt, c0, c1, hse, hone, hpl⟩ := HM.out.pf.head
        obtain ⟨b2, off2, gcap, ev2, rfl, hgc, hlt2, d0, d1, hse2, hone2, hpl2⟩ := HM.out.pg.head
        have HDN := hid HM.out.below
        rw [← HDN.out.cell (p := ⟨b, off, none⟩) hlt] at c0
        rw [← HDN.out.cell (p := ⟨b, off + 1, none⟩) hlt] at c1
        rw [← HDN.out.cell (p := ⟨b2, off2, none⟩) hlt2] at d0
        rw [← HDN.out.cell (p := ⟨b2, off2 + 1, none⟩) hlt2] at d1
        have HSE0 := hid hse
        have HSE20 := hid hse2
        have HSE := hid (hse.below HDN.out)
        have HSE2 := hid (hse2.below HDN.out)
        obtain ⟨ea, ec, rfl, _⟩ := hse
        obtain ⟨ea2, ec2, rfl, _⟩ := hse2
        have HP := hid (And.intro hone hpl)
        have HP2 := hid (And.intro hone2 hpl2)
        have HT := hid (HM.out.tf t (by simp))
        have HU := hid (HM.out.tg u (by simp))
        obtain ⟨bx, bx0, bx1, bx2, bx3⟩ := HBX.out.below HDN.out
        obtain ⟨tc, te⟩ := t
        obtain ⟨uc, ue⟩ := u
        have HBD := hid (ordS_bd o te ue)
        simp only at c0 c1 d0 d1
        clear hone hpl hone2 hpl2
        have hlen0 : 0 < te.length := by have := HT.out.1; simp only at this; omega
        have hlen3 : te.length ≤ 3 := by have := HT.out.1; simp only at this; omega
        have HLL := hid (show te.length = ue.length from HT.out.1.trans HU.out.1.symm)
        have KEEP : Hid (∀ W, Below wr.heap.size wr W → (Hid (Below wr.heap.size wr W) ∧ W.cell? ⟨w.heap.size, 0, none⟩ = some (.int .i64 p) ∧ W.cell? ⟨w.heap.size, 1, none⟩ = some (.int .i64 n) ∧ W.cell? ⟨w.heap.size, 2, none⟩ = some (.int .i64 o) ∧ W.cell? ⟨w.heap.size, 3, none⟩ = some (.int .i64 v) ∧ W.cell? ⟨b, off + 1, none⟩ = some (.slice ea te.length ec) ∧ W.cell? ⟨b2, off2 + 1, none⟩ = some (.slice ea2 ue.length ec2))) :=
          fun W hb => ⟨hb, cell_keep bx0 hb, cell_keep bx1 hb, cell_keep bx2 hb, cell_keep bx3 hb, cell_keep c1 hb, cell_keep d1 hb⟩
        have hroom : ds.length + 1 ≤ fs.length + gs.length := by have := HM.out.room; simp only [List.length_cons] at this; omega
        have hle : (1 : Int) ≤ (fs2.length : Int) + 1 := by omega
        have hle2 : (1 : Int) ≤ (gs2.length : Int) + 1 := by omega
        obtain ⟨A, hA, hplA⟩ := Pl.tail HP.out
        have HPA := hid hplA
        obtain ⟨A2, hA2, hplA2⟩ := Pl.tail HP2.out
        have HPA2 := hid hplA2
        clear hplA hplA2
        by_cases hc1 : ordS o te ue = 1
        · go_wp2
          go_region_held (fun W => Hid (Below wr.heap.size wr W) ∧ W.cell? ⟨w.heap.size, 0, none⟩ = some (.int .i64 p) ∧ W.cell? ⟨w.heap.size, 1, none⟩ = some (.int .i64 n) ∧ W.cell? ⟨w.heap.size, 2, none⟩ = some (.int .i64 o) ∧ W.cell? ⟨w.heap.size, 3, none⟩ = some (.int .i64 v) ∧ W.cell? ⟨b, off + 1, none⟩ = some (.slice ea te.length ec) ∧ W.cell? ⟨b2, off2 + 1, none⟩ = some (.slice ea2 ue.length ec2))
            (first | exact KEEP.out _ (Below.refl _ _).drew | exact KEEP.out _ (below_step (by assumption) hb9 (Nat.le_refl _)))
            (first | (go_at_call 109; refine (bareCompare_any p n o v _ _ te ue _ HO.out hlen0 hlen3 HLL.out HT.out.2.1 HU.out.2.1 ?_ ?_).mono ?_; exact HSE.out.below (Below.refl _ _).drew; exact HSE2.out.below (Below.refl _ _).drew; rintro e w9 ⟨rfl, hb9⟩))
          have hb19 : Below wr.heap.size wr w9 := Hid.out (And.left (by assumption))
          have HM9 := hid (HM.out.next hb19)
          have e0 := cell_keep c0 hb19
          have e1 := cell_keep c1 hb19
          have f0 := cell_keep d0 hb19
          have f1 := cell_keep d1 hb19
          have g0 := cell_keep bx0 hb19
          clear hb9 hb19 c0 c1 d0 d1 KEEP bx0 bx1 bx2 bx3
          have HOWN := hid (ownBlock_lt HM9.out.own ((Below.refl w9.heap.size w9).drew.alloc (Nat.le_refl _) (.cells #[.int .i64 tc, .slice ea te.length ec] 57)))
          go_wp2
          go_region_law (refine step_append_fits rfl (.tmp 62) (.tmp 66) 54 rfl wa.heap.size 57 i0 2 Tryz.underlying54 HI.out.1 HI.out.2.1 (w.heap.size + 1) ds.length (fs.length + gs.length) (flat ds) (by simp [Act.eval, Act.put]) HOWN.out ⟨w9.heap.size, 0, none⟩ 1 1 [.int .i64 tc, .slice ea te.length ec] (by simp [Act.eval, Act.put]) rfl (two_new _ _ _ _) (two_one _ _ _ _) hroom ?_; intro w' r1 r2; have R1 := hid (And.intro r1 r2); clear r1 r2)
          all_goals
            simp only [List.getElem_toArray, List.getElem_cons_succ, List.getElem_cons_zero]
            simp only [Act.put, List.setIfInBounds_toArray, List.set_cons_zero, List.set_cons_succ]
            go_wp2
            go_roundw
            case rel => exact ⟨fs2, (uc, ue) :: gs2, ds ++ [(tc, .slice ea te.length ec, te)], by simp, HM9.out.takeF ((Below.refl w9.heap.size w9).drew.alloc (Nat.le_refl _) _) (by rw [hc1]; omega) R1.out.1 R1.out.2 (by rw [HSZ.out]; omega) HSE0.out HPA.out⟩
            case measure => simp [slLen]
        · by_cases hc2 : ordS o te ue = -1
          · go_wp2
            go_region_held (fun W => Hid (Below wr.heap.size wr W) ∧ W.cell? ⟨w.heap.size, 0, none⟩ = some (.int .i64 p) ∧ W.cell? ⟨w.heap.size, 1, none⟩ = some (.int .i64 n) ∧ W.cell? ⟨w.heap.size, 2, none⟩ = some (.int .i64 o) ∧ W.cell? ⟨w.heap.size, 3, none⟩ = some (.int .i64 v) ∧ W.cell? ⟨b, off + 1, none⟩ = some (.slice ea te.length ec) ∧ W.cell? ⟨b2, off2 + 1, none⟩ = some (.slice ea2 ue.length ec2))
              (first | exact KEEP.out _ (Below.refl _ _).drew | exact KEEP.out _ (below_step (by assumption) hb9 (Nat.le_refl _)))
              (first | (go_at_call 109; refine (bareCompare_any p n o v _ _ te ue _ HO.out hlen0 hlen3 HLL.out HT.out.2.1 HU.out.2.1 ?_ ?_).mono ?_; exact HSE.out.below (Below.refl _ _).drew; exact HSE2.out.below (Below.refl _ _).drew; rintro e w9 ⟨rfl, hb9⟩))
            have hb19 : Below wr.heap.size wr w9 := Hid.out (And.left (by assumption))
            have HM9 := hid (HM.out.next hb19)
            have e0 := cell_keep c0 hb19
            have e1 := cell_keep c1 hb19
            have f0 := cell_keep d0 hb19
            have f1 := cell_keep d1 hb19
            have g0 := cell_keep bx0 hb19
            clear hb9 hb19 c0 c1 d0 d1 KEEP bx0 bx1 bx2 bx3
            have HOWN := hid (ownBlock_lt HM9.out.own ((Below.refl w9.heap.size w9).drew.alloc (Nat.le_refl _) (.cells #[.int .i64 uc, .slice ea2 ue.length ec2] 57)))
            go_wp2
            go_region_law (refine step_append_fits rfl (.tmp 72) (.tmp 76) 54 rfl wa.heap.size 57 i0 2 Tryz.underlying54 HI.out.1 HI.out.2.1 (w.heap.size + 1) ds.length (fs.length + gs.length) (flat ds) (by simp [Act.eval, Act.put]) HOWN.out ⟨w9.heap.size, 0, none⟩ 1 1 [.int .i64 uc, .slice ea2 ue.length ec2] (by simp [Act.eval, Act.put]) rfl (two_new _ _ _ _) (two_one _ _ _ _) hroom ?_; intro w' r1 r2; have R1 := hid (And.intro r1 r2); clear r1 r2)
            all_goals
              simp only [List.getElem_toArray, List.getElem_cons_succ, List.getElem_cons_zero]
              simp only [Act.put, List.setIfInBounds_toArray, List.set_cons_zero, List.set_cons_succ]
              go_wp2
              go_roundw
              case rel => exact ⟨(tc, te) :: fs2, gs2, ds ++ [(uc, .slice ea2 ue.length ec2, ue)], by simp, HM9.out.takeG ((Below.refl w9.heap.size w9).drew.alloc (Nat.le_refl _) _) (by rw [hc2]; omega) R1.out.1 R1.out.2 (by rw [HSZ.out]; omega) HSE20.out HPA2.out⟩
              case measure => simp [slLen]
          · have hc0 : ordS o te ue = 0 := by have := HBD.out; omega
            have HTU := hid (And.intro HT.out.2.2 HU.out.2.2)
            obtain ⟨⟨ht1, ht2⟩, hu1, hu2⟩ := HTU.out
            simp only at ht1 ht2 hu1 hu2
            go_wp2
            go_region_held (fun W => Hid (Below wr.heap.size wr W) ∧ W.cell? ⟨w.heap.size, 0, none⟩ = some (.int .i64 p) ∧ W.cell? ⟨w.heap.size, 1, none⟩ = some (.int .i64 n) ∧ W.cell? ⟨w.heap.size, 2, none⟩ = some (.int .i64 o) ∧ W.cell? ⟨w.heap.size, 3, none⟩ = some (.int .i64 v) ∧ W.cell? ⟨b, off + 1, none⟩ = some (.slice ea te.length ec) ∧ W.cell? ⟨b2, off2 + 1, none⟩ = some (.slice ea2 ue.length ec2))
              (first | exact KEEP.out _ (Below.refl _ _).drew | exact KEEP.out _ (below_step (by assumption) hb9 (Nat.le_refl _)))
              (first | (go_at_call 109; refine (bareCompare_any p n o v _ _ te ue _ HO.out hlen0 hlen3 HLL.out HT.out.2.1 HU.out.2.1 ?_ ?_).mono ?_; exact HSE.out.below (Below.refl _ _).drew; exact HSE2.out.below (Below.refl _ _).drew; rintro e w9 ⟨rfl, hb9⟩))
            have hb19 : Below wr.heap.size wr w9 := Hid.out (And.left (by assumption))
            have HM9 := hid (HM.out.next hb19)
            have e0 := cell_keep c0 hb19
            have e1 := cell_keep c1 hb19
            have f0 := cell_keep d0 hb19
            have f1 := cell_keep d1 hb19
            have g0 := cell_keep bx0 hb19
            clear hb9 hb19 c0 c1 d0 d1 KEEP bx0 bx1 bx2 bx3
            go_wp2
            go_quiet (fail)
            by_cases hz : (tc + uc) % p = 0
            · go_wp2
              go_quiet (fail)
              go_wp2
              go_roundw
              case rel => exact ⟨fs2, gs2, ds, rfl, HM9.out.drop (below_drewN (below_drewN (Below.refl _ _) _) _) hc0 hz HPA.out HPA2.out⟩
              case measure => simp [slLen]; omega
            · have HOWN := hid (ownBlock_lt HM9.out.own ((below_drewN (Below.refl w9.heap.size w9) nq).alloc (Nat.le_refl _) (.cells #[.int .i64 ((tc + uc) % p), .slice ea te.length ec] 57)))
              have e1q := cell_keep e1 (below_drewN (Below.refl w9.heap.size w9) nq)
              go_wp2_with (at_builtin; refine wpList_append_fits _ rfl (.tmp 47) (.tmp 54) 54 rfl wa.heap.size 57 i0 2 Tryz.underlying54 HI.out.1 HI.out.2.1 (w.heap.size + 1) ds.length (fs.length + gs.length) (flat ds) rfl HOWN.out ⟨w9.heap.size, 0, none⟩ 1 1 [.int .i64 ((tc + uc) % p), .slice ea te.length ec] rfl rfl (two_new _ _ _ _) (two_one _ _ _ _) hroom ?_; intro w' r1 r2; have R1 := hid (And.intro r1 r2); clear r1 r2)
              go_quiet (fail)
              go_wp2
              go_roundw
              case rel => exact ⟨fs2, gs2, ds ++ [((tc + uc) % p, .slice ea te.length ec, te)], by simp, (HM9.out.both ((below_drewN (Below.refl w9.heap.size w9) _).alloc (Nat.le_refl _) _) hc0 hz R1.out.1 R1.out.2 (by rw [HSZ.out]; exact Nat.le_refl _) HSE0.out HPA.out HPA2.out).next (below_drewN (Below.refl _ _) _)⟩
              case measure => simp [slLen]; omega
end Go.Proofs.YtilogbggilchaaaGreat
