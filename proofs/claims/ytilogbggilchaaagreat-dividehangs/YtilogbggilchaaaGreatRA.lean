/- Collect of the reference. -/
import Derived.Test.YtilogbggilchaaaGreatPJ
import Derived.Test.YtilogbggilchaaaGreatQ
import Derived.Deep.CutBlock
import Derived.Deep.DeepCutAuto
namespace Go.Proofs.YtilogbggilchaaaGreat
set_option linter.unusedSimpArgs false
set_option linter.unusedVariables false
open Go.RowKit
theorem ins_pre (p o : Int) (t : Tm) (post : List Tm) : ∀ pre : List Tm, (∀ u ∈ pre, 0 < ordS o u.2 t.2) → ins p o (pre ++ post) t = pre ++ ins p o post t
  | [], _ => rfl
  | u :: pre, h => by
    simp only [List.cons_append, ins]
    rw [if_pos (h u (by simp)), ins_pre p o t post pre (fun x hx => h x (by simp [hx]))]
theorem ins_len1 {p o : Int} {t : Tm} : ∀ out : List Tm, (ins p o out t).length ≤ out.length + 1
  | [] => by simp [ins]
  | u :: out => by
    simp only [ins]
    split
    · have := ins_len1 (p := p) (o := o) (t := t) out; simp only [List.length_cons]; omega
    · split <;> simp only [List.length_cons] <;> omega
theorem fold_len1 {p o : Int} : ∀ (l out : List Tm), (l.foldl (ins p o) out).length ≤ out.length + l.length
  | [], out => by simp
  | t :: l, out => by
    simp only [List.foldl_cons, List.length_cons]
    have h1 := fold_len1 (p := p) (o := o) l (ins p o out t)
    have h2 := ins_len1 (p := p) (o := o) (t := t) out
    omega
theorem ins_tok {p o : Int} {N : Nat} (hp : 2 ≤ p) {t : Tm} (ht : Tok p N t) {out : List Tm} (h : ∀ u ∈ out, Tok p N u) : ∀ x ∈ ins p o out t, Tok p N x := by
  intro x hx
  have hr := ins_range (o := o) hp (t := t) ht.2.2 (out := out) (fun u hu => (h u hu).2.2) x hx
  rcases ins_mem hx with e | ⟨u, hu, e⟩
  · exact ⟨by rw [e]; exact ht.1, by rw [e]; exact ht.2.1, hr⟩
  · exact ⟨by rw [e]; exact (h u hu).1, by rw [e]; exact (h u hu).2.1, hr⟩
theorem fold_tok {p o : Int} {N : Nat} (hp : 2 ≤ p) : ∀ (l out : List Tm), (∀ u ∈ l, Tok p N u) → (∀ u ∈ out, Tok p N u) → ∀ x ∈ l.foldl (ins p o) out, Tok p N x
  | [], out, _, ho => ho
  | t :: l, out, hl, ho => fold_tok hp l (ins p o out t) (fun x hx => hl x (by simp [hx])) (ins_tok hp (hl t (by simp)) ho)

structure Col (Φ : Value → Prop) (p o : Int) (w1 wr : World) (ts : List Tm) (k : Nat) (v : Value) (outs : List TV) : Prop where
  own : wr.ownsRow w1.heap.size 57 2 v outs.length (flat outs)
  es : Es w1 outs
  below : Below w1.heap.size w1 wr
  eq : outs.map tm = (ts.take k).foldl (ins p o) []
  nil : outs = [] → v = .slice none 0 0
  ap : ∀ t ∈ outs, Φ t.2.1
theorem Col.next {Φ : Value → Prop} {p o : Int} {w1 wr w' : World} {ts : List Tm} {k : Nat} {v : Value} {outs : List TV} (h : Col Φ p o w1 wr ts k v outs) (hb : Below wr.heap.size wr w') : Col Φ p o w1 w' ts k v outs :=
  ⟨ownBlock_lt h.own hb, h.es, h.below.trans (hb.mono h.below.size), h.eq, h.nil, h.ap⟩
theorem Col.len {Φ : Value → Prop} {p o : Int} {w1 wr : World} {ts : List Tm} {k : Nat} {v : Value} {outs : List TV} (h : Col Φ p o w1 wr ts k v outs) : outs.length ≤ k := by
  have h1 := fold_len1 (p := p) (o := o) (ts.take k) []
  rw [← h.eq] at h1
  rw [List.length_map] at h1
  have h2 := List.length_take_le k ts
  simp only [List.length_nil] at h1
  omega
theorem Col.tok {Φ : Value → Prop} {p o : Int} {N : Nat} {w1 wr : World} {ts : List Tm} {k : Nat} {v : Value} {outs : List TV} (h : Col Φ p o w1 wr ts k v outs) (hp : 2 ≤ p) (ht : ∀ t ∈ ts, Tok p N t) : ∀ t ∈ outs, Tok p N (tm t) := by
  intro t hm
  have h1 : tm t ∈ outs.map tm := List.mem_map_of_mem hm
  rw [h.eq] at h1
  exact fold_tok hp _ [] (fun u hu => ht u (List.mem_of_mem_take hu)) (fun u hu => by simp at hu) _ h1
theorem Col.at {Φ : Value → Prop} {p o : Int} {w1 wr : World} {ts : List Tm} {k : Nat} {v : Value} {outs : List TV} (h : Col Φ p o w1 wr ts k v outs) (h0 : 0 < outs.length) : ∃ g cap, v = .slice (some ⟨g, 0, none⟩) outs.length cap ∧ outs.length ≤ cap ∧ w1.heap.size ≤ g ∧ g < wr.heap.size ∧ (∀ j, wr.frozen? ⟨g, j, none⟩ = false) ∧
    ∀ j u, (flat outs)[j]? = some u → wr.cell? ⟨g, j, none⟩ = some u := by
  rcases h.own.2 with ⟨h1, h2⟩ | ⟨g, cap, cur, rfl, hg, hh, hn, hm, hcs, ht⟩
  · omega
  · have hlt := World.ownsRow.lt h.own g rfl
    refine ⟨g, cap, rfl, hn, hlt.1, hlt.2, fun j => h.own.frozenAt j, fun j u hj => ?_⟩
    have hjl : j < outs.length * 2 := by
      rw [← flat_len]
      apply Nat.lt_of_not_le; intro hle; rw [List.getElem?_eq_none hle] at hj; simp at hj
    rw [h.own.cellAt j hjl]; exact hj

theorem bytesOk {n m : Nat} (h : n + m ≤ 2400000000000) : n + m ≤ maxLen ∧ (n + m) * 32 ≤ 140737488355328 := ⟨by unfold maxLen; omega, by omega⟩
theorem run_append_tvs {P : Program} (w : World) (base : Nat) (t ty e : TypeId) (i : TypeInfo) (z : Value) (ht : P.underlying t = some (.slice e)) (hi : P.info? e = some i) (hz : i.zero = some z) (hsize : i.size = 2) (hby : i.bytes = 32) (hzs : z.cells.size = 2)
    (v : Value) (n : Nat) (xs : List Value) (hown : w.ownsRow base e 2 v n xs) (us : List TV) (m : Nat) (hm : us.length = m) (ua : Option Addr) (uc : Nat)
    (hcs : 0 < m → ∃ b off, ua = some ⟨b, off, none⟩ ∧ ∀ j u, (flat us)[j]? = some u → w.cell? ⟨b, off + j, none⟩ = some u) (hone : ∀ u ∈ flat us, u.oneCell' = true) (hb : n + m ≤ 2400000000000) (hbase : base ≤ w.heap.size) :
    ∃ v' w', (Builtin.append_ #[t, t] ty #[v, .slice ua m uc]).run P w = .ok v' w' ∧ w'.ownsRow base e 2 v' (n + m) (xs ++ flat us) ∧ w.grownBy w' v.ownBlock := by
  subst hm
  by_cases h0 : 0 < us.length
  · obtain ⟨b, off, rfl, hc⟩ := hcs h0
    obtain ⟨v', w', hr, h2, h3, _⟩ := run_append_own (P := P) w base t ty e i z 2 32 ht hi hz hsize hby hzs (by decide) v n xs hown ⟨b, off, none⟩ us.length uc (flat us) (flat_len us) (fun j u hj => by
      have := hc j u hj
      by_cases hj0 : j = 0
      · subst hj0; simpa [Addr.add] using this
      · simpa [Addr.add, hj0] using this) hone (bytesOk hb).1 (bytesOk hb).2 hbase
    exact ⟨v', w', hr, h2, h3⟩
  · have e0 : us = [] := List.length_eq_zero_iff.1 (by omega)
    subst e0
    cases ua with
    | none => exact ⟨v, w, run_append_none_c w base t ty e i 2 ht hi v n uc xs hown, by simpa [flat] using hown, grown_refl _ _⟩
    | some ad =>
      obtain ⟨v', w', hr, h2, h3, _⟩ := run_append_own (P := P) w base t ty e i z 2 32 ht hi hz hsize hby hzs (by decide) v n xs hown ad 0 uc [] (by simp) (fun j u hj => by simp at hj) (fun u hu => by simp at hu) (bytesOk hb).1 (bytesOk hb).2 hbase
      exact ⟨v', w', hr, h2, h3⟩
theorem wpList_append_tvsO {P : Program} {w : World} {ops : Array Oper} {rest : List Oper} {o : Oper} {a : Act} {Q : Exit → Act → World → Prop} (hgd : o.guard = none) (s x : Operand) (t : TypeId)
    (ho : o.op = .call { callee := .builtin .append, args := #[s, x], argTypes := #[t, t] })
    (base : Nat) (e : TypeId) (i : TypeInfo) (z : Value) (ht : P.underlying t = some (.slice e)) (hi : P.info? e = some i) (hz : i.zero = some z) (hsize : i.size = 2) (hby : i.bytes = 32) (hzs : z.cells.size = 2)
    (v : Value) (n : Nat) (xs : List Value) (hs : a.eval s = v) (hown : w.ownsRow base e 2 v n xs) (us : List TV) (m : Nat) (hm : us.length = m) (ua : Option Addr) (uc : Nat) (hx : a.eval x = .slice ua m uc)
    (hcs : 0 < m → ∃ b off, ua = some ⟨b, off, none⟩ ∧ ∀ j u, (flat us)[j]? = some u → w.cell? ⟨b, off + j, none⟩ = some u) (hone : ∀ u ∈ flat us, u.oneCell' = true) (hb : n + m ≤ 2400000000000) (hbase : base ≤ w.heap.size)
    (hK : ∀ v' w', w'.ownsRow base e 2 v' (n + m) (xs ++ flat us) → w.grownBy w' v.ownBlock → wpList P ops Q rest (a.put o.dst v') w') : wpList P ops Q (o :: rest) a w := by
  refine wpList_plain hgd fun K hK' => ?_
  obtain ⟨v', w', hr, h2, h3⟩ := run_append_tvs (P := P) w base t o.type e i z ht hi hz hsize hby hzs v n xs hown us m hm ua uc hcs hone hb hbase
  unfold Oper.wp execOp
  simp only [ho, resolve, invoke, builtin, Sem.run_bind, Sem.run_pure, Result.andThen_ok, List.map_toArray, List.map_cons, List.map_nil, hs, hx, hr]
  exact hK' _ _ (hK v' w' h2 h3)
theorem step_append_tvs {P : Program} {ops : Array Oper} {o : Oper} {a : Act} {w : World} {K : Act → World → Prop} {Q : Exit → Act → World → Prop} {E : Prop} (hgd : o.guard = none) (s x : Operand) (t : TypeId)
    (ho : o.op = .call { callee := .builtin .append, args := #[s, x], argTypes := #[t, t] })
    (base : Nat) (e : TypeId) (i : TypeInfo) (z : Value) (ht : P.underlying t = some (.slice e)) (hi : P.info? e = some i) (hz : i.zero = some z) (hsize : i.size = 2) (hby : i.bytes = 32) (hzs : z.cells.size = 2)
    (v : Value) (n : Nat) (xs : List Value) (hs : a.eval s = v) (hown : w.ownsRow base e 2 v n xs) (us : List TV) (m : Nat) (hm : us.length = m) (ua : Option Addr) (uc : Nat) (hx : a.eval x = .slice ua m uc)
    (hcs : 0 < m → ∃ b off, ua = some ⟨b, off, none⟩ ∧ ∀ j u, (flat us)[j]? = some u → w.cell? ⟨b, off + j, none⟩ = some u) (hone : ∀ u ∈ flat us, u.oneCell' = true) (hb : n + m ≤ 2400000000000) (hbase : base ≤ w.heap.size)
    (hK : ∀ v' w', w'.ownsRow base e 2 v' (n + m) (xs ++ flat us) → w.grownBy w' v.ownBlock → K (a.put o.dst v') w') :
    if Region.wanted o (yielded ops a.tmps) = true then Oper.wp P o a w K Q else E := by
  have hw : Region.wanted o (yielded ops a.tmps) = true := by simp [Region.wanted, hgd]
  rw [if_pos hw]
  obtain ⟨v', w', hr, h2, h3⟩ := run_append_tvs (P := P) w base t o.type e i z ht hi hz hsize hby hzs v n xs hown us m hm ua uc hcs hone hb hbase
  unfold Oper.wp execOp
  simp only [ho, resolve, invoke, builtin, Sem.run_bind, Sem.run_pure, Result.andThen_ok, List.map_toArray, List.map_cons, List.map_nil, hs, hx, hr]
  exact hK v' w' h2 h3
theorem flat_drop : ∀ (j : Nat) (ts : List TV), flat (ts.drop j) = (flat ts).drop (j * 2)
  | 0, ts => by simp
  | j + 1, [] => by simp [flat]
  | j + 1, t :: ts => by
    rw [flat_cons, show (j + 1) * 2 = j * 2 + 1 + 1 by omega]
    simp only [List.drop_succ_cons]
    exact flat_drop j ts
theorem flat_take : ∀ (j : Nat) (ts : List TV), flat (ts.take j) = (flat ts).take (j * 2)
  | 0, ts => by simp [flat]
  | j + 1, [] => by simp [flat]
  | j + 1, t :: ts => by
    rw [flat_cons, show (j + 1) * 2 = j * 2 + 1 + 1 by omega]
    simp only [List.take_succ_cons, flat_cons]
    rw [flat_take j ts]
theorem flat_set : ∀ (j : Nat) (ts : List TV) (c : Int), j < ts.length → (flat ts).set (j * 2) (.int .i64 c) = flat (ts.set j (c, (ts.getD j noTV).2))
  | _, [], c, h => by simp at h
  | 0, t :: ts, c, _ => by simp [flat_cons]
  | j + 1, t :: ts, c, h => by
    rw [flat_cons, show (j + 1) * 2 = j * 2 + 1 + 1 by omega]
    simp only [List.set_cons_succ, flat_cons]
    rw [flat_set j ts c (by simpa using h)]
    simp
theorem ins_new {p o : Int} {outs : List TV} {j : Nat} {t : TV} (hm : ∀ u ∈ outs.take j, 0 < ordS o u.2.2 t.2.2) (hn : j < outs.length → ¬ 0 < ordS o (outs.getD j noTV).2.2 t.2.2) (hs : ¬ (j < outs.length ∧ (outs.getD j noTV).2.2 = t.2.2)) :
    ins p o (outs.map tm) (tm t) = (outs.take j ++ [t] ++ outs.drop j).map tm := by
  have e : outs.map tm = (outs.take j).map tm ++ (outs.drop j).map tm := by rw [← List.map_append, List.take_append_drop]
  rw [e, ins_pre _ _ _ _ _ (fun u hu => by
    obtain ⟨x, hx, rfl⟩ := List.mem_map.1 hu
    exact hm x hx)]
  rw [List.append_assoc, List.map_append]
  congr 1
  by_cases hj : j < outs.length
  · have e2 : outs.drop j = outs.getD j noTV :: outs.drop (j + 1) := by
      rw [List.drop_eq_getElem_cons hj]; simp [List.getD_eq_getElem?_getD, hj]
    rw [e2]
    simp only [List.map_cons, List.singleton_append, ins]
    rw [if_neg (by exact hn hj), if_neg (by exact fun h => hs ⟨hj, h⟩)]
  · rw [List.drop_eq_nil_of_le (by omega)]; rfl
theorem ins_at {p o : Int} {outs : List TV} {j : Nat} {t : TV} (hm : ∀ u ∈ outs.take j, 0 < ordS o u.2.2 t.2.2) (hj : j < outs.length) (hs : (outs.getD j noTV).2.2 = t.2.2) (hn : ¬ 0 < ordS o (outs.getD j noTV).2.2 t.2.2) :
    ins p o (outs.map tm) (tm t) = (outs.set j (((outs.getD j noTV).1 + t.1) % p, (outs.getD j noTV).2)).map tm := by
  have e : outs.map tm = (outs.take j).map tm ++ (outs.drop j).map tm := by rw [← List.map_append, List.take_append_drop]
  have e3 : outs.set j (((outs.getD j noTV).1 + t.1) % p, (outs.getD j noTV).2) = outs.take j ++ (((outs.getD j noTV).1 + t.1) % p, (outs.getD j noTV).2) :: outs.drop (j + 1) := by
    rw [List.set_eq_take_append_cons_drop, if_pos hj]
  rw [e, ins_pre _ _ _ _ _ (fun u hu => by
    obtain ⟨x, hx, rfl⟩ := List.mem_map.1 hu
    exact hm x hx), e3, List.map_append]
  congr 1
  have e2 : outs.drop j = outs.getD j noTV :: outs.drop (j + 1) := by
    rw [List.drop_eq_getElem_cons hj]; simp [List.getD_eq_getElem?_getD, hj]
  rw [e2]
  simp only [List.map_cons, ins]
  rw [if_neg (by exact hn), if_pos (by exact hs)]
  rfl
theorem Col.grow {Φ : Value → Prop} {p o : Int} {w1 wr w' : World} {ts : List Tm} {k j : Nat} {v v' : Value} {outs : List TV} {t : TV} (h : Col Φ p o w1 wr ts k v outs) (ht : ts.take (k + 1) = ts.take k ++ [tm t]) (hs : Sl w1 t.2.1 t.2.2) (hΦ : Φ t.2.1) (hj : j ≤ outs.length)
    (hm : ∀ u ∈ outs.take j, 0 < ordS o u.2.2 t.2.2) (hn : j < outs.length → ¬ 0 < ordS o (outs.getD j noTV).2.2 t.2.2) (hsm : ¬ (j < outs.length ∧ (outs.getD j noTV).2.2 = t.2.2))
    (hb : Below wr.heap.size wr w') (hown : w'.ownsRow w1.heap.size 57 2 v' (j + 1 + (outs.length - j)) (flat (outs.take j) ++ flat [t] ++ flat (outs.drop j))) : Col Φ p o w1 w' ts (k + 1) v' (outs.take j ++ [t] ++ outs.drop j) := by
  have el : (outs.take j ++ [t] ++ outs.drop j).length = j + 1 + (outs.length - j) := by simp only [List.length_append, List.length_take, List.length_drop, List.length_cons, List.length_nil]; omega
  refine ⟨?_, ?_, h.below.trans (hb.mono h.below.size), ?_, fun e => ?_, ?_⟩
  · rw [el, flat_append, flat_append]; exact hown
  · intro u hu
    rcases List.mem_append.1 hu with hu | hu
    · rcases List.mem_append.1 hu with hu | hu
      · exact h.es u (List.mem_of_mem_take hu)
      · rw [List.mem_singleton] at hu; subst hu; exact hs
    · exact h.es u (List.mem_of_mem_drop hu)
  · rw [ht, List.foldl_append, ← h.eq]
    simp only [List.foldl_cons, List.foldl_nil]
    exact (ins_new hm hn hsm).symm
  · have : (outs.take j ++ [t] ++ outs.drop j).length = 0 := by rw [e]; rfl
    omega
  · intro u hu
    rcases List.mem_append.1 hu with hu | hu
    · rcases List.mem_append.1 hu with hu | hu
      · exact h.ap u (List.mem_of_mem_take hu)
      · rw [List.mem_singleton] at hu; subst hu; exact hΦ
    · exact h.ap u (List.mem_of_mem_drop hu)
theorem Col.put {Φ : Value → Prop} {p o : Int} {w1 wr : World} {ts : List Tm} {k j g cap : Nat} {outs : List TV} {t : TV} {c : Int} (h : Col Φ p o w1 wr ts k (.slice (some ⟨g, 0, none⟩) outs.length cap) outs) (ht : ts.take (k + 1) = ts.take k ++ [tm t]) (hj : j < outs.length)
    (hm : ∀ u ∈ outs.take j, 0 < ordS o u.2.2 t.2.2) (hn : ¬ 0 < ordS o (outs.getD j noTV).2.2 t.2.2) (hs : (outs.getD j noTV).2.2 = t.2.2) (hc : c = ((outs.getD j noTV).1 + t.1) % p) (hg : w1.heap.size ≤ g) :
    Col Φ p o w1 (wr.setCell ⟨g, j * 2, none⟩ (.int .i64 c)) ts (k + 1) (.slice (some ⟨g, 0, none⟩) outs.length cap) (outs.set j (c, (outs.getD j noTV).2)) := by
  have s1 := h.own.stored (j * 2) (.int .i64 c)
  rw [flat_set j outs c hj] at s1
  refine ⟨?_, ?_, h.below.trans (grown_below s1.2 hg h.below.size), ?_, fun e => ?_, ?_⟩
  · rw [List.length_set]; exact s1.1
  · intro u hu
    rcases List.mem_or_eq_of_mem_set hu with hu | hu
    · exact h.es u hu
    · subst hu; have h1 := h.es _ (tv_mem outs j hj); exact h1
  · rw [ht, List.foldl_append, ← h.eq]
    simp only [List.foldl_cons, List.foldl_nil]
    rw [hc]
    exact (ins_at hm hj hs hn).symm
  · have : (outs.set j (c, (outs.getD j noTV).2)).length = 0 := by rw [e]; rfl
    rw [List.length_set] at this
    omega
  · intro u hu
    rcases List.mem_or_eq_of_mem_set hu with hu | hu
    · exact h.ap u hu
    · subst hu; have h1 := h.ap _ (tv_mem outs j hj); exact h1

theorem own_mono {w : World} {B B' : Nat} {T : TypeId} {s : Nat} {v : Value} {n : Nat} {xs : List Value} (h : w.ownsRow B' T s v n xs) (hb : B ≤ B') : w.ownsRow B T s v n xs := by
  obtain ⟨h1, h2⟩ := h
  refine ⟨h1, ?_⟩
  rcases h2 with h2 | ⟨g, c, cur, e, hg, r⟩
  · exact Or.inl h2
  · exact Or.inr ⟨g, c, cur, e, Nat.le_trans hb hg, r⟩
theorem own_grown {w W w' : World} {B : Nat} {T : TypeId} {s : Nat} {v : Value} {n : Nat} {xs : List Value} (h : W.ownsRow B T s v n xs) (hb : Below B w W) (hg : W.grownBy w' v.ownBlock) (hB : B ≤ w.heap.size) : Below B w w' :=
  hb.grown hg (Nat.le_trans hB hb.size) (fun k hk => (World.ownsRow.lt h k hk).1)
theorem own_cells {w W : World} {B : Nat} {T : TypeId} {ra : Option Addr} {n rc : Nat} {us : List TV} (h : w.ownsRow B T 2 (.slice ra n rc) n (flat us)) (hl : us.length = n) (hb : Below w.heap.size w W) (h0 : 0 < n) :
    ∃ b off, ra = some ⟨b, off, none⟩ ∧ ∀ i u, (flat us)[i]? = some u → W.cell? ⟨b, off + i, none⟩ = some u := by
  rcases h.2 with ⟨h1, h2⟩ | ⟨g, cap, cur, hv, hg, hh, hn, hm, hcs, ht⟩
  · omega
  · simp only [Value.slice.injEq] at hv
    obtain ⟨rfl, _, _⟩ := hv
    refine ⟨g, 0, rfl, fun i u hi => ?_⟩
    have hjl : i < n * 2 := by
      rw [← hl, ← flat_len]
      apply Nat.lt_of_not_le; intro hle; rw [List.getElem?_eq_none hle] at hi; simp at hi
    rw [Nat.zero_add]
    exact cell_keep (by rw [h.cellAt i hjl]; exact hi) hb
theorem two_at (w : World) (tc : Int) (ev : Value) (te : List Int) (T : TypeId) : ∀ i u, (flat [(tc, ev, te)])[i]? = some u → (w.alloc (.cells #[.int .i64 tc, ev] T)).cell? ⟨w.heap.size, 0 + i, none⟩ = some u := by
  intro i u hi
  rcases i with _ | _ | i
  · simp [flat] at hi; subst hi; simp [go_sem]
  · simp [flat] at hi; subst hi; simp [go_sem]
  · simp [flat] at hi
end Go.Proofs.YtilogbggilchaaaGreat
