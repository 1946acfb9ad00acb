/- Rows of polynomials of the call's own: their cells are slices, so no polynomial lies in them. -/
import Derived.Test.YtilogbggilchaaaRF
import Derived.Test.YtilogbggilchaaaFM
namespace Go.Proofs.Ytilogbggilchaaa
set_option linter.unusedSimpArgs false
set_option linter.unusedVariables false
open Go.RowKit
def SlK (w : World) (g : Nat) : Prop := ∀ j u, w.cell? ⟨g, j, none⟩ = some u → ∃ a n c, u = .slice a n c
theorem SlK.below {w w' : World} {g : Nat} (h : SlK w g) (hlt : g < w.heap.size) (hb : Below w.heap.size w w') : SlK w' g := by
  intro j u hu
  rw [hb.cell (p := ⟨g, j, none⟩) hlt] at hu
  exact h j u hu
theorem cell_far {w w' : World} {g b o : Nat} (hg : w.grownBy w' (some g)) (hlt : b < w.heap.size) (hne : b ≠ g) : w'.cell? ⟨b, o, none⟩ = w.cell? ⟨b, o, none⟩ :=
  World.cell?_of_block (hg.block b hlt (by simpa using hne))
theorem sl_keep {w w' : World} {g : Nat} (hk : SlK w g) (hg : w.grownBy w' (some g)) {v : Value} {xs : List Int} (h : Sl w v xs) : Sl w' v xs := by
  obtain ⟨a, cap, rfl, h⟩ := h
  refine ⟨a, cap, rfl, fun hp => ?_⟩
  obtain ⟨b, off, rfl, hlt, hc⟩ := h hp
  have hne : b ≠ g := by
    intro e
    subst e
    obtain ⟨_, _, _, hx⟩ := hk _ _ (hc 0 hp)
    cases hx
  exact ⟨b, off, rfl, Nat.lt_of_lt_of_le hlt hg.size, fun i hi => by rw [cell_far hg hlt hne]; exact hc i hi⟩
theorem pl_keep {w w' : World} {g : Nat} (hk : SlK w g) (hg : w.grownBy w' (some g)) {v : Value} {ts : List Tm} (h : Pl w v ts) : Pl w' v ts := by
  obtain ⟨a, cap, rfl, hcap, h⟩ := h
  refine ⟨a, cap, rfl, hcap, fun hp => ?_⟩
  obtain ⟨b, off, rfl, hlt, hc⟩ := h hp
  have hne : b ≠ g := by
    intro e
    subst e
    obtain ⟨_, _, _, hx⟩ := hk _ _ (hc 0 hp).1
    cases hx
  refine ⟨b, off, rfl, Nat.lt_of_lt_of_le hlt hg.size, fun i hi => ?_⟩
  obtain ⟨h1, u, h2, h3⟩ := hc i hi
  exact ⟨by rw [cell_far hg hlt hne]; exact h1, u, by rw [cell_far hg hlt hne]; exact h2, sl_keep hk hg h3⟩

theorem slk_alloc {w : World} {C : Array Value} {T : TypeId} (h : ∀ u ∈ C.toList, ∃ a n c, u = .slice a n c) : SlK (w.alloc (.cells C T)) w.heap.size := by
  intro j u hu
  have e : (w.alloc (.cells C T)).cell? ⟨w.heap.size, j, none⟩ = C[j]? := by
    unfold World.cell?
    rw [show (w.alloc (.cells C T)).heap[w.heap.size]? = some (.cells C T (0, 0)) from heap_alloc_new w _]
    simp
  rw [e] at hu
  exact h u (by rw [Array.mem_toList_iff]; exact Array.mem_of_getElem? hu)
theorem slk_row {w : World} {g : Nat} {C : Array Value} {T : TypeId} (hg : w.heap[g]? = some (.cells C T (0, 0))) (h : ∀ u ∈ C.toList, ∃ a n c, u = .slice a n c) : SlK w g := by
  intro j u hu
  have e : w.cell? ⟨g, j, none⟩ = C[j]? := by
    unfold World.cell?
    rw [hg]
    simp
  rw [e] at hu
  exact h u (by rw [Array.mem_toList_iff]; exact Array.mem_of_getElem? hu)
theorem row_slk {w : World} {g : Nat} {C : Array Value} {T : TypeId} (hg : w.heap[g]? = some (.cells C T (0, 0))) (h : SlK w g) : ∀ u ∈ C.toList, ∃ a n c, u = .slice a n c := by
  intro u hu
  obtain ⟨j, hj, rfl⟩ := List.getElem_of_mem hu
  refine h j _ ?_
  unfold World.cell?
  rw [hg]
  simp at hj ⊢

theorem run_append_slk {P : Program} (w : World) (base : Nat) (t ty e : TypeId) (i : TypeInfo) (ht : P.underlying t = some (.slice e)) (hi : P.info? e = some i) (hz : i.zero = some (.slice none 0 0)) (hsize : i.size = 1) (hby : i.bytes = 24)
    (v : Value) (n : Nat) (xs : List Value) (hown : w.ownsRow base e 1 v n xs) (hk : ∀ g, v.ownBlock = some g → SlK w g)
    (a : Addr) (c : Nat) (u : Value) (hu : ∃ a n c, u = .slice a n c) (hnew : ∀ j x, [u][j]? = some x → w.cell? (a.add j) = some x) (hn : n ≤ 4000000) (hbase : base ≤ w.heap.size) :
    ∃ v' w', (Builtin.append_ #[t, t] ty #[v, .slice (some a) 1 c]).run P w = .ok v' w' ∧ w'.ownsRow base e 1 v' (n + 1) (xs ++ [u]) ∧ w.grownBy w' v.ownBlock ∧ (∀ g, v'.ownBlock = some g → SlK w' g) := by
  have hone : ∀ x ∈ [u], x.oneCell' = true := by
    intro x hx
    rw [List.mem_singleton] at hx
    obtain ⟨_, _, _, e⟩ := hu
    rw [hx, e]; rfl
  obtain ⟨v', w', hr, h2, h3, _⟩ := run_append_own (P := P) w base t ty e i (.slice none 0 0) 1 24 ht hi hz hsize hby rfl (by decide) v n xs hown a 1 c [u] (by simp) hnew hone (by unfold maxLen; omega) (by omega) hbase
  refine ⟨v', w', hr, h2, h3, ?_⟩
  have hzero : ∀ (m : Nat), ∀ x ∈ (Builtin.zeroCells (Value.cells (.slice none 0 0)) m).toList, ∃ a n c, x = .slice a n c := by
    intro m x hx
    simp [Builtin.zeroCells, Value.cells] at hx
    obtain ⟨l, _, hx⟩ := hx
    rw [Nat.mod_one] at hx
    exact ⟨none, 0, 0, by rw [← hx]; rfl⟩
  rcases hown.2 with ⟨rfl, rfl⟩ | ⟨g, cap, cur, rfl, hbg, hg, hnc, hcm, hcs, htake⟩
  · have hr2 := run_append_nil (P := P) w t ty e i (.slice none 0 0) ht hi hz a 1 c [u] (by rw [hsize]; rfl) hnew (by omega) (by omega) (by rw [hby]; omega)
    rw [hr] at hr2
    simp only [Result.ok.injEq] at hr2
    obtain ⟨rfl, rfl⟩ := hr2
    intro g hg
    simp only [Value.ownBlock, Option.some.injEq] at hg
    subst hg
    refine slk_alloc (w := w.drew) (fun x hx => ?_)
    rw [Array.toList_append, List.mem_append] at hx
    rcases hx with hx | hx
    · simp at hx; rw [hx]; exact hu
    · exact hzero _ x hx
  · have hcur := row_slk hg (hk g rfl)
    by_cases hroom : n + 1 ≤ cap
    · have hr2 := run_append_room (P := P) w t ty e i ht hi g n cap cur hg a 1 c [u] (by rw [hsize]; rfl) hnew hone hroom (by rw [hsize, hcs]; simp; omega)
      rw [hr] at hr2
      simp only [Result.ok.injEq] at hr2
      obtain ⟨rfl, rfl⟩ := hr2
      intro g2 hg2
      simp only [Value.ownBlock, Option.some.injEq] at hg2
      subst hg2
      refine slk_row (setRow_heap w g cur _ e _ hg) (fun x hx => ?_)
      rw [List.toList_toArray, List.mem_append, List.mem_append] at hx
      rcases hx with (hx | hx) | hx
      · exact hcur x (List.mem_of_mem_take hx)
      · rw [List.mem_singleton] at hx; rw [hx]; exact hu
      · exact hcur x (List.mem_of_mem_drop hx)
    · have holds : ∀ j x, xs[j]? = some x → w.cell? ((⟨g, 0, none⟩ : Addr).add j) = some x := hown.cells (g := g) rfl
      have hr2 := run_append_grow (P := P) w t ty e i (.slice none 0 0) ht hi hz ⟨g, 0, none⟩ n cap xs (by rw [hsize]; exact hown.1) holds a 1 c [u] (by rw [hsize]; rfl) hnew (by omega) (by omega) (growslice_fits (by omega) (by rw [hby]; omega))
      rw [hr] at hr2
      simp only [Result.ok.injEq] at hr2
      obtain ⟨rfl, rfl⟩ := hr2
      intro g2 hg2
      simp only [Value.ownBlock, Option.some.injEq] at hg2
      subst hg2
      refine slk_alloc (w := w.drew) (fun x hx => ?_)
      rw [Array.toList_append, Array.toList_append, List.mem_append, List.mem_append] at hx
      rcases hx with (hx | hx) | hx
      · rw [List.toList_toArray, ← htake] at hx
        exact hcur x (List.mem_of_mem_take hx)
      · simp at hx; rw [hx]; exact hu
      · exact hzero _ x hx

theorem Try.infoPolyW : (Try.prog.info? 25).map (fun i => (i.zero, i.size, i.bytes)) = some (some (.slice none 0 0), 1, 24) := by kernel_rfl
def nilV : Value := .slice none 0 0
structure PRow (B : Nat) (w : World) (v : Value) (us : List Value) (fss : List (List Tm)) : Prop where
  len : us.length = fss.length
  own : w.ownsRow B 25 1 v fss.length us
  kind : ∀ g, v.ownBlock = some g → SlK w g
  pls : ∀ i, i < fss.length → Pl w (us.getD i nilV) (fss.getD i [])
theorem PRow.next {B : Nat} {w w' : World} {v : Value} {us : List Value} {fss : List (List Tm)} (h : PRow B w v us fss) (hb : Below w.heap.size w w') : PRow B w' v us fss :=
  ⟨h.len, ownBlock_lt h.own hb, fun g hg => (h.kind g hg).below (World.ownsRow.lt h.own g hg).2 hb, fun i hi => (h.pls i hi).below hb⟩
theorem PRow.nil (B : Nat) (w : World) : PRow B w (.slice none 0 0) [] [] :=
  ⟨rfl, World.ownsRow_nil _ _ _ _, fun g hg => by simp [Value.ownBlock] at hg, fun i hi => by simp at hi⟩
theorem PRow.vl {B : Nat} {w : World} {v : Value} {us : List Value} {fss : List (List Tm)} (h : PRow B w v us fss) : Vl w v fss := by
  obtain ⟨a, c, rfl⟩ := own_sl h.own
  refine ⟨a, c, rfl, fun hp => ?_⟩
  obtain ⟨g, rfl, _, hlt, _⟩ := own_at1 h.own 0 hp
  refine ⟨g, 0, rfl, hlt, fun i hi => ?_⟩
  obtain ⟨g2, hg2, _, _, hc⟩ := own_at1 h.own i hi
  simp only [Option.some.injEq, Addr.mk.injEq, and_true] at hg2
  subst hg2
  refine ⟨us.getD i nilV, ?_, h.pls i hi⟩
  rw [Nat.zero_add, hc]
  have : i < us.length := by rw [h.len]; exact hi
  simp [List.getD_eq_getElem?_getD, this]
theorem PRow.snoc {B : Nat} {W W2 : World} {v v2 : Value} {us : List Value} {fss : List (List Tm)} {u : Value} {f : List Tm} (h : PRow B W v us fss) (hu : Pl W u f)
    (h2 : W2.ownsRow B 25 1 v2 (fss.length + 1) (us ++ [u])) (g2 : W.grownBy W2 v.ownBlock) (k2 : ∀ g, v2.ownBlock = some g → SlK W2 g) : PRow B W2 v2 (us ++ [u]) (fss ++ [f]) := by
  have keep : ∀ {x : Value} {ts : List Tm}, Pl W x ts → Pl W2 x ts := by
    intro x ts hx
    cases ho : v.ownBlock with
    | none =>
      rw [ho] at g2
      exact hx.below ⟨g2.os, g2.tape, g2.output, g2.size, fun k hk => g2.block k hk (by simp)⟩
    | some g =>
      rw [ho] at g2
      exact pl_keep (h.kind g ho) g2 hx
  refine ⟨by simp [h.len], by rw [List.length_append]; exact h2, k2, fun i hi => ?_⟩
  rw [List.length_append] at hi
  simp only [List.length_cons, List.length_nil] at hi
  rcases Nat.lt_or_ge i fss.length with hl | hl
  · have e1 : (us ++ [u]).getD i nilV = us.getD i nilV := by simp [List.getD_eq_getElem?_getD, List.getElem?_append_left (show i < us.length by rw [h.len]; exact hl)]
    have e2 : (fss ++ [f]).getD i [] = fss.getD i [] := by simp [List.getD_eq_getElem?_getD, List.getElem?_append_left hl]
    rw [e1, e2]
    exact keep (h.pls i hl)
  · have e : i = fss.length := by omega
    subst e
    have e1 : (us ++ [u]).getD fss.length nilV = u := by rw [← h.len]; simp [List.getD_eq_getElem?_getD]
    have e2 : (fss ++ [f]).getD fss.length [] = f := by simp [List.getD_eq_getElem?_getD]
    rw [e1, e2]
    exact keep hu
theorem PRow.grown {B : Nat} {w W w' : World} {v : Value} {us : List Value} {fss : List (List Tm)} (h : PRow B W v us fss) (hb : Below B w W) (hg : W.grownBy w' v.ownBlock) (hB : B ≤ w.heap.size) : Below B w w' := own_grown h.own hb hg hB

theorem step_append_prow {ops : Array Oper} {o : Oper} {a : Act} {w : World} {K : Act → World → Prop} {Q : Exit → Act → World → Prop} {E : Prop} (hgd : o.guard = none) (s x : Operand) (t : TypeId)
    (ho : o.op = .call { callee := .builtin .append, args := #[s, x], argTypes := #[t, t] }) (ht : Try.prog.underlying t = some (.slice 25))
    (B : Nat) (v : Value) (us : List Value) (fss : List (List Tm)) (hs : a.eval s = v) (h : PRow B w v us fss) (ad : Addr) (c : Nat) (u : Value) (f : List Tm) (hu : Pl w u f) (hx : a.eval x = .slice (some ad) 1 c)
    (hnew : ∀ j y, [u][j]? = some y → w.cell? (ad.add j) = some y) (hn : fss.length ≤ 4000000) (hB : B ≤ w.heap.size)
    (hK : ∀ v' w', PRow B w' v' (us ++ [u]) (fss ++ [f]) → w.grownBy w' v.ownBlock → K (a.put o.dst v') w') :
    if Region.wanted o (yielded ops a.tmps) = true then Oper.wp Try.prog o a w K Q else E := by
  have hw : Region.wanted o (yielded ops a.tmps) = true := by simp [Region.wanted, hgd]
  rw [if_pos hw]
  obtain ⟨i0, hi, hz0, hz1, hz2⟩ := info_parts Try.infoPolyW
  obtain ⟨v', w', hr, h2, h3, h4⟩ := run_append_slk (P := Try.prog) w B t o.type 25 i0 ht hi hz0 hz1 hz2 v fss.length us h.own h.kind ad c u (by obtain ⟨a, c, e, _⟩ := hu; exact ⟨_, _, _, e⟩) hnew hn hB
  unfold Oper.wp execOp
  simp only [ho, resolve, invoke, builtin, Sem.run_bind, Sem.run_pure, Result.andThen_ok, List.map_toArray, List.map_cons, List.map_nil, hs, hx, hr]
  exact hK v' w' (h.snoc hu h2 h3 h4) h3
end Go.Proofs.Ytilogbggilchaaa
