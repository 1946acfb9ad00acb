/- Rows of polynomials of the call's own: their cells are slices, so no polynomial lies in them. -/
import Derived.Test.YtilogbggilchaaaGreatRC
import Derived.Test.YtilogbggilchaaaGreatFN
namespace Go.Proofs.YtilogbggilchaaaGreat
set_option linter.unusedSimpArgs false
set_option linter.unusedVariables false
open Go.RowKit
def SlK (w : World) (g : Nat) : Prop := ∀ j u, w.cell? ⟨g, j, none⟩ = some u → ∃ a n c, u = .slice a n c
theorem SlK.below {w w' : World} {g : Nat} (h : SlK w g) (hlt : g < w.heap.size) (hb : Below w.heap.size w w') : SlK w' g := by
  intro j u hu
  rw [hb.cell (p := ⟨g, j, none⟩) hlt] at hu
  exact h j u hu
theorem cell_far {w w' : World} {g b o : Nat} (hg : w.grownBy w' (some g)) (hlt : b < w.heap.size) (hne : b ≠ g) : w'.cell? ⟨b, o, none⟩ = w.cell? ⟨b, o, none⟩ :=
  World.cell?_of_block (hg.block b hlt (by simpa using hne))
theorem sl_keep {w w' : World} {g : Nat} (hk : SlK w g) (hg : w.grownBy w' (some g)) {v : Value} {xs : List Int} (h : Sl w v xs) : Sl w' v xs := by
  obtain ⟨a, cap, rfl, h⟩ := h
  refine ⟨a, cap, rfl, fun hp => ?_⟩
  obtain ⟨b, off, rfl, hlt, hc⟩ := h hp
  have hne : b ≠ g := by
    intro e
    subst e
    obtain ⟨_, _, _, hx⟩ := hk _ _ (hc 0 hp)
    cases hx
  exact ⟨b, off, rfl, Nat.lt_of_lt_of_le hlt hg.size, fun i hi => by rw [cell_far hg hlt hne]; exact hc i hi⟩
theorem pl_keep {w w' : World} {g : Nat} (hk : SlK w g) (hg : w.grownBy w' (some g)) {v : Value} {ts : List Tm} (h : Pl w v ts) : Pl w' v ts := by
  obtain ⟨a, cap, rfl, hcap, h⟩ := h
  refine ⟨a, cap, rfl, hcap, fun hp => ?_⟩
  obtain ⟨b, off, rfl, hlt, hc⟩ := h hp
  have hne : b ≠ g := by
    intro e
    subst e
    obtain ⟨_, _, _, hx⟩ := hk _ _ (hc 0 hp).1
    cases hx
  refine ⟨b, off, rfl, Nat.lt_of_lt_of_le hlt hg.size, fun i hi => ?_⟩
  obtain ⟨h1, u, h2, h3⟩ := hc i hi
  exact ⟨by rw [cell_far hg hlt hne]; exact h1, u, by rw [cell_far hg hlt hne]; exact h2, sl_keep hk hg h3⟩

theorem slk_alloc {w : World} {C : Array Value} {T : TypeId} (h : ∀ u ∈ C.toList, ∃ a n c, u = .slice a n c) : SlK (w.alloc (.cells C T)) w.heap.size := by
  intro j u hu
  have e : (w.alloc (.cells C T)).cell? ⟨w.heap.size, j, none⟩ = C[j]? := by
    unfold World.cell?
    rw [show (w.alloc (.cells C T)).heap[w.heap.size]? = some (.cells C T (0, 0)) from heap_alloc_new w _]
    simp
  rw [e] at hu
  exact h u (by rw [Array.mem_toList_iff]; exact Array.mem_of_getElem? hu)
theorem slk_row {w : World} {g : Nat} {C : Array Value} {T : TypeId} (hg : w.heap[g]? = some (.cells C T (0, 0))) (h : ∀ u ∈ C.toList, ∃ a n c, u = .slice a n c) : SlK w g := by
  intro j u hu
  have e : w.cell? ⟨g, j, none⟩ = C[j]? := by
    unfold World.cell?
    rw [hg]
    simp
  rw [e] at hu
  exact h u (by rw [Array.mem_toList_iff]; exact Array.mem_of_getElem? hu)
theorem row_slk {w : World} {g : Nat} {C : Array Value} {T : TypeId} (hg : w.heap[g]? = some (.cells C T (0, 0))) (h : SlK w g) : ∀ u ∈ C.toList, ∃ a n c, u = .slice a n c := by
  intro u hu
  obtain ⟨j, hj, rfl⟩ := List.getElem_of_mem hu
  refine h j _ ?_
  unfold World.cell?
  rw [hg]
  simp at hj ⊢

theorem run_append_slk {P : Program} (w : World) (base : Nat) (t ty e : TypeId) (i : TypeInfo) (ht : P.underlying t = some (.slice e)) (hi : P.info? e = some i) (hz : i.zero = some (.slice none 0 0)) (hsize : i.size = 1) (hby : i.bytes = 24)
    (v : Value) (n : Nat) (xs : List Value) (hown : w.ownsRow base e 1 v n xs) (hk : ∀ g, v.ownBlock = some g → SlK w g)
    (a : Addr) (c : Nat) (u : Value) (hu : ∃ a n c, u = .slice a n c) (hnew : ∀ j x, [u][j]? = some x → w.cell? (a.add j) = some x) (hn : n ≤ 1200000000000) (hbase : base ≤ w.heap.size) :
    ∃ v' w', (Builtin.append_ #[t, t] ty #[v, .slice (some a) 1 c]).run P w = .ok v' w' ∧ w'.ownsRow base e 1 v' (n + 1) (xs ++ [u]) ∧ w.grownBy w' v.ownBlock ∧ (∀ g, v'.ownBlock = some g → SlK w' g) := by
  have hone : ∀ x ∈ [u], x.oneCell' = true := by
    intro x hx
    rw [List.mem_singleton] at hx
    obtain ⟨_, _, _, e⟩ := hu
    rw [hx, e]; rfl
  obtain ⟨v', w', hr, h2, h3, _⟩ := run_append_own (P := P) w base t ty e i (.slice none 0 0) 1 24 ht hi hz hsize hby rfl (by decide) v n xs hown a 1 c [u] (by simp) hnew hone (by unfold maxLen; omega) (by omega) hbase
  refine ⟨v', w', hr, h2, h3, ?_⟩
  have hzero : ∀ (m : Nat), ∀ x ∈ (Builtin.zeroCells (Value.cells (.slice none 0 0)) m).toList, ∃ a n c, x = .slice a n c := by
    intro m x hx
    simp [Builtin.zeroCells, Value.cells] at hx
    obtain ⟨l, _, hx⟩ := hx
    rw [Nat.mod_one] at hx
    exact ⟨none, 0, 0, by rw [← hx]; rfl⟩
  rcases hown.2 with ⟨rfl, rfl⟩ | ⟨g, cap, cur, rfl, hbg, hg, hnc, hcm, hcs, htake⟩
  · have hr2 := run_append_nil (P := P) w t ty e i (.slice none 0 0) ht hi hz a 1 c [u] (by rw [hsize]; rfl) hnew (by omega) (by omega) (by rw [hby]; omega)
    rw [hr] at hr2
    simp only [Result.ok.injEq] at hr2
    obtain ⟨rfl, rfl⟩ := hr2
    intro g hg
    simp only [Value.ownBlock, Option.some.injEq] at hg
    subst hg
    refine slk_alloc (w := w.drew) (fun x hx => ?_)
    rw [Array.toList_append, List.mem_append] at hx
    rcases hx with hx | hx
    · simp at hx; rw [hx]; exact hu
    · exact hzero _ x hx
  · have hcur := row_slk hg (hk g rfl)
    by_cases hroom : n + 1 ≤ cap
    · have hr2 := run_append_room (P := P) w t ty e i ht hi g n cap cur hg a 1 c [u] (by rw [hsize]; rfl) hnew hone hroom (by rw [hsize, hcs]; simp; omega)
      rw [hr] at hr2
      simp only [Result.ok.injEq] at hr2
      obtain ⟨rfl, rfl⟩ := hr2
      intro g2 hg2
      simp only [Value.ownBlock, Option.some.injEq] at hg2
      subst hg2
      refine slk_row (setRow_heap w g cur _ e _ hg) (fun x hx => ?_)
      rw [List.toList_toArray, List.mem_append, List.mem_append] at hx
      rcases hx with (hx | hx) | hx
      · exact hcur x (List.mem_of_mem_take hx)
      · rw [List.mem_singleton] at hx; rw [hx]; exact hu
      · exact hcur x (List.mem_of_mem_drop hx)
    · have holds : ∀ j x, xs[j]? = some x → w.cell? ((⟨g, 0, none⟩ : Addr).add j) = some x := hown.cells (g := g) rfl
      have hr2 := run_append_grow (P := P) w t ty e i (.slice none 0 0) ht hi hz ⟨g, 0, none⟩ n cap xs (by rw [hsize]; exact hown.1) holds a 1 c [u] (by rw [hsize]; rfl) hnew (by omega) (by omega) (growslice_fits (by omega) (by rw [hby]; omega))
      rw [hr] at hr2
      simp only [Result.ok.injEq] at hr2
      obtain ⟨rfl, rfl⟩ := hr2
      intro g2 hg2
      simp only [Value.ownBlock, Option.some.injEq] at hg2
      subst hg2
      refine slk_alloc (w := w.drew) (fun x hx => ?_)
      rw [Array.toList_append, Array.toList_append, List.mem_append, List.mem_append] at hx
      rcases hx with (hx | hx) | hx
      · rw [List.toList_toArray, ← htake] at hx
        exact hcur x (List.mem_of_mem_take hx)
      · simp at hx; rw [hx]; exact hu
      · exact hzero _ x hx

theorem Tryz.infoPolyW : (Tryz.prog.info? 54).map (fun i => (i.zero, i.size, i.bytes)) = some (some (.slice none 0 0), 1, 24) := by kernel_rfl
def nilV : Value := .slice none 0 0
structure PRow (B : Nat) (w : World) (v : Value) (us : List Value) (fss : List (List Tm)) : Prop where
  len : us.length = fss.length
  own : w.ownsRow B 54 1 v fss.length us
  kind : ∀ g, v.ownBlock = some g → SlK w g
  pls : ∀ i, i < fss.length → Pl w (us.getD i nilV) (fss.getD i [])
theorem PRow.next {B : Nat} {w w' : World} {v : Value} {us : List Value} {fss : List (List Tm)} (h : PRow B w v us fss) (hb : Below w.heap.size w w') : PRow B w' v us fss :=
  ⟨h.len, ownBlock_lt h.own hb, fun g hg => (h.kind g hg).below (World.ownsRow.lt h.own g hg).2 hb, fun i hi => (h.pls i hi).below hb⟩
theorem PRow.nil (B : Nat) (w : World) : PRow B w (.slice none 0 0) [] [] :=
  ⟨rfl, World.ownsRow_nil _ _ _ _, fun g hg => by simp [Value.ownBlock] at hg, fun i hi => by simp at hi⟩
theorem PRow.vl {B : Nat} {w : World} {v : Value} {us : List Value} {fss : List (List Tm)} (h : PRow B w v us fss) : Vl w v fss := by
  obtain ⟨a, c, rfl⟩ := own_sl h.own
  refine ⟨a, c, rfl, fun hp => ?_⟩
  obtain ⟨g, rfl, _, hlt, _⟩ := own_at1 h.own 0 hp
  refine ⟨g, 0, rfl, hlt, fun i hi => ?_⟩
  obtain ⟨g2, hg2, _, _, hc⟩ := own_at1 h.own i hi
  simp only [Option.some.injEq, Addr.mk.injEq, and_true] at hg2
  subst hg2
  refine ⟨us.getD i nilV, ?_, h.pls i hi⟩
  rw [Nat.zero_add, hc]
  have : i < us.length := by rw [h.len]; exact hi
  simp [List.getD_eq_getElem?_getD, this]
theorem PRow.snoc {B : Nat} {W W2 : World} {v v2 : Value} {us : List Value} {fss : List (List Tm)} {u : Value} {f : List Tm} (h : PRow B W v us fss) (hu : Pl W u f)
    (h2 : W2.ownsRow B 54 1 v2 (fss.length + 1) (us ++ [u])) (g2 : W.grownBy W2 v.ownBlock) (k2 : ∀ g, v2.ownBlock = some g → SlK W2 g) : PRow B W2 v2 (us ++ [u]) (fss ++ [f]) := by
  have keep : ∀ {x : Value} {ts : List Tm}, Pl W x ts → Pl W2 x ts := by
    intro x ts hx
    cases ho : v.ownBlock with
    | none =>
      rw [ho] at g2
      exact hx.below ⟨g2.os, g2.tape, g2.output, g2.size, fun k hk => g2.block k hk (by simp)⟩
    | some g =>
      rw [ho] at g2
      exact pl_keep (h.kind g ho) g2 hx
  refine ⟨by simp [h.len], by rw [List.length_append]; exact h2, k2, fun i hi => ?_⟩
  rw [List.length_append] at hi
  simp only [List.length_cons, List.length_nil] at hi
  rcases Nat.lt_or_ge i fss.length with hl | hl
  · have e1 : (us ++ [u]).getD i nilV = us.getD i nilV := by simp [List.getD_eq_getElem?_getD, List.getElem?_append_left (show i < us.length by rw [h.len]; exact hl)]
    have e2 : (fss ++ [f]).getD i [] = fss.getD i [] := by simp [List.getD_eq_getElem?_getD, List.getElem?_append_left hl]
    rw [e1, e2]
    exact keep (h.pls i hl)
  · have e : i = fss.length := by omega
    subst e
    have e1 : (us ++ [u]).getD fss.length nilV = u := by rw [← h.len]; simp [List.getD_eq_getElem?_getD]
    have e2 : (fss ++ [f]).getD fss.length [] = f := by simp [List.getD_eq_getElem?_getD]
    rw [e1, e2]
    exact keep hu
theorem PRow.grown {B : Nat} {w W w' : World} {v : Value} {us : List Value} {fss : List (List Tm)} (h : PRow B W v us fss) (hb : Below B w W) (hg : W.grownBy w' v.ownBlock) (hB : B ≤ w.heap.size) : Below B w w' := own_grown h.own hb hg hB

theorem step_append_prow {ops : Array Oper} {o : Oper} {a : Act} {w : World} {K : Act → World → Prop} {Q : Exit → Act → World → Prop} {E : Prop} (hgd : o.guard = none) (s x : Operand) (t : TypeId)
    (ho : o.op = .call { callee := .builtin .append, args := #[s, x], argTypes := #[t, t] }) (ht : Tryz.prog.underlying t = some (.slice 54))
    (B : Nat) (v : Value) (us : List Value) (fss : List (List Tm)) (hs : a.eval s = v) (h : PRow B w v us fss) (ad : Addr) (c : Nat) (u : Value) (f : List Tm) (hu : Pl w u f) (hx : a.eval x = .slice (some ad) 1 c)
    (hnew : ∀ j y, [u][j]? = some y → w.cell? (ad.add j) = some y) (hn : fss.length ≤ 1200000000000) (hB : B ≤ w.heap.size)
    (hK : ∀ v' w', PRow B w' v' (us ++ [u]) (fss ++ [f]) → w.grownBy w' v.ownBlock → K (a.put o.dst v') w') :
    if Region.wanted o (yielded ops a.tmps) = true then Oper.wp Tryz.prog o a w K Q else E := by
  have hw : Region.wanted o (yielded ops a.tmps) = true := by simp [Region.wanted, hgd]
  rw [if_pos hw]
  obtain ⟨i0, hi, hz0, hz1, hz2⟩ := info_parts Tryz.infoPolyW
  obtain ⟨v', w', hr, h2, h3, h4⟩ := run_append_slk (P := Tryz.prog) w B t o.type 54 i0 ht hi hz0 hz1 hz2 v fss.length us h.own h.kind ad c u (by obtain ⟨a, c, e, _⟩ := hu; exact ⟨_, _, _, e⟩) hnew hn hB
  unfold Oper.wp execOp
  simp only [ho, resolve, invoke, builtin, Sem.run_bind, Sem.run_pure, Result.andThen_ok, List.map_toArray, List.map_cons, List.map_nil, hs, hx, hr]
  exact hK v' w' (h.snoc hu h2 h3 h4) h3
theorem vl_at {w : World} {a : Option Addr} {c : Nat} {fss : List (List Tm)} (h : Vl w (.slice a fss.length c) fss) (k : Nat) (hk : k < fss.length) : ∃ b off fa fc, a = some ⟨b, off, none⟩ ∧ b < w.heap.size ∧ w.cell? ⟨b, off + k, none⟩ = some (.slice fa (fss.getD k []).length fc) ∧ Pl w (.slice fa (fss.getD k []).length fc) (fss.getD k []) := by
  obtain ⟨a2, c2, e, h1⟩ := h
  obtain ⟨b, off, rfl, hlt, hat⟩ := h1 (by omega)
  simp only [Value.slice.injEq, true_and] at e
  obtain ⟨rfl, rfl⟩ := e
  obtain ⟨v, hc, hp⟩ := hat k hk
  have hp2 := hp
  obtain ⟨fa, fc, rfl, _, _⟩ := hp
  exact ⟨b, off, fa, fc, rfl, hlt, hc, hp2⟩
theorem len_snoc {α : Type} (l : List α) (x : α) : (l ++ [x]).length = l.length + 1 := by simp
theorem take_snocL {α : Type} (l : List (List α)) (k : Nat) (h : k < l.length) : l.take (k + 1) = l.take k ++ [l.getD k []] := by
  rw [List.take_succ_eq_append_getElem h]; simp [List.getD_eq_getElem?_getD, h]
theorem getD_mapL {α : Type} (F : List α → List α) (l : List (List α)) (k : Nat) (h : k < l.length) : (l.map F).getD k [] = F (l.getD k []) := by
  simp [List.getD_eq_getElem?_getD, h]
def sums (p o : Int) (fss gss : List (List Tm)) : List (List Tm) := List.zipWith (fun f g => colL p o (f ++ g)) fss gss
theorem sums_len {p o : Int} {fss gss : List (List Tm)} (h : fss.length = gss.length) : (sums p o fss gss).length = fss.length := by
  unfold sums; rw [List.length_zipWith]; omega
theorem sums_at {p o : Int} {fss gss : List (List Tm)} {k : Nat} (h : fss.length = gss.length) (hk : k < fss.length) : (sums p o fss gss).getD k [] = colL p o (fss.getD k [] ++ gss.getD k []) := by
  unfold sums
  simp [List.getD_eq_getElem?_getD, List.getElem?_zipWith, hk, show k < gss.length by omega]
def prods (p o : Int) (f : List Tm) (gss : List (List Tm)) : List (List Tm) := gss.map fun g => colL p o (prodL p f g)
theorem one_newP (w : World) (x : Value) (T : TypeId) : ∀ j u, [x][j]? = some u → (w.alloc (.cells #[x] T)).cell? ((⟨w.heap.size, 0, none⟩ : Addr).add j) = some u := by
  intro j u hj
  rcases j with _ | j
  · simp at hj; subst hj; simp [Addr.add, go_sem]
  · simp at hj
def Sm (p : Int) (N : Nat) (f : List Tm) : Prop := (∀ t ∈ f, Tok p N t) ∧ f.length ≤ 600000000000
def VlsAt (w : World) (b off : Nat) (vss : List (List (List Tm))) : Prop :=
  ∀ i, i < vss.length → ∃ v, w.cell? ⟨b, off + i, none⟩ = some v ∧ Vl w v (vss.getD i [])
theorem VlsAt.below {w w' : World} {b off : Nat} {vss : List (List (List Tm))} (h : VlsAt w b off vss) (hlt : b < w.heap.size) (hb : Below w.heap.size w w') : VlsAt w' b off vss := by
  intro i hi
  obtain ⟨v, hc, hs⟩ := h i hi
  exact ⟨v, by rw [hb.cell (p := ⟨b, off + i, none⟩) hlt]; exact hc, hs.below hb⟩
def Wl (w : World) (v : Value) (vss : List (List (List Tm))) : Prop :=
  ∃ a cap, v = .slice a vss.length cap ∧ (0 < vss.length → ∃ b off, a = some ⟨b, off, none⟩ ∧ b < w.heap.size ∧ VlsAt w b off vss)
theorem Wl.below {w w' : World} {v : Value} {vss : List (List (List Tm))} (h : Wl w v vss) (hb : Below w.heap.size w w') : Wl w' v vss := by
  obtain ⟨a, cap, rfl, h⟩ := h
  refine ⟨a, cap, rfl, fun hp => ?_⟩
  obtain ⟨b, off, rfl, hlt, hc⟩ := h hp
  exact ⟨b, off, rfl, Nat.lt_of_lt_of_le hlt hb.size, hc.below hlt hb⟩
theorem wl_at {w : World} {a : Option Addr} {c : Nat} {vss : List (List (List Tm))} (h : Wl w (.slice a vss.length c) vss) (k : Nat) (hk : k < vss.length) : ∃ b off va vc, a = some ⟨b, off, none⟩ ∧ b < w.heap.size ∧ w.cell? ⟨b, off + k, none⟩ = some (.slice va (vss.getD k []).length vc) ∧ Vl w (.slice va (vss.getD k []).length vc) (vss.getD k []) := by
  obtain ⟨a2, c2, e, h1⟩ := h
  obtain ⟨b, off, rfl, hlt, hat⟩ := h1 (by omega)
  simp only [Value.slice.injEq, true_and] at e
  obtain ⟨rfl, rfl⟩ := e
  obtain ⟨v, hc, hp⟩ := hat k hk
  have hp2 := hp
  obtain ⟨fa, fc, rfl, _⟩ := hp
  exact ⟨b, off, fa, fc, rfl, hlt, hc, hp2⟩
def firstZ {α : Type} (F : List α → Int) : List (List α) → Int
  | [] => 0
  | a :: r => if F a = 0 then firstZ F r else F a
theorem firstZ_drop {α : Type} (F : List α → Int) (l : List (List α)) (k : Nat) (h : k < l.length) : firstZ F (l.drop k) = if F (l.getD k []) = 0 then firstZ F (l.drop (k + 1)) else F (l.getD k []) := by
  rw [List.drop_eq_getElem_cons h]
  simp [firstZ, List.getD_eq_getElem?_getD, h]
theorem firstZ_ok {α : Type} {F : List α → Int} : ∀ {l : List (List α)}, firstZ F l = 0 → ∀ a ∈ l, F a = 0
  | [], _, a, ha => by simp at ha
  | b :: r, h, a, ha => by
    unfold firstZ at h
    by_cases hb : F b = 0
    · rw [if_pos hb] at h
      rcases List.mem_cons.1 ha with rfl | ha
      · exact hb
      · exact firstZ_ok h a ha
    · rw [if_neg hb] at h; exact absurd h hb
def errVec (p n o rank : Int) (fss : List (List Tm)) : Int := if (fss.length : Int) ≠ rank then 1 else firstOne p n o fss
def errList (p n o rank : Int) (vss : List (List (List Tm))) : Int := if betweenB rank 1 40 = false then 3 else if 60 < vss.length then 2 else firstZ (errVec p n o rank) vss
def errVecs (p n o v rank : Int) (vss : List (List (List Tm))) : Int := if errR p n o v ≠ 0 then errR p n o v else errList p n o rank vss
def badR (fss : List (List Tm)) : Bool := !betweenB (fss.length : Int) 1 40
def unlV (m : Nat) (fss : List (List Tm)) : Bool := decide (fss.length ≠ m)
def errAlike (p n o v : Int) (vss : List (List (List Tm))) : Int :=
  if errR p n o v ≠ 0 then errR p n o v else if vss.any badR then 3 else if vss.any (unlV (vss.getD 0 []).length) then 1 else firstZ (firstOne p n o) vss
theorem unl_no {fss : List (List Tm)} {m : Nat} (h : ((fss.length : Int) != (m : Int)) = false) : unlV m fss = false := by
  have h1 : (fss.length : Int) = m := by simpa using h
  unfold unlV; exact decide_eq_false (by omega)
theorem unl_yes {fss : List (List Tm)} {m : Nat} (h : ((fss.length : Int) != (m : Int)) = true) : unlV m fss = true := by
  have h1 : ¬ (fss.length : Int) = m := by simpa using h
  unfold unlV; exact decide_eq_true (by omega)
theorem take_snocV {α : Type} (l : List (List α)) (k : Nat) (h : k < l.length) : l.take (k + 1) = l.take k ++ [l.getD k []] := by
  rw [List.take_succ_eq_append_getElem h]; simp [List.getD_eq_getElem?_getD, h]
theorem any_takeV {α : Type} (f : List α → Bool) (l : List (List α)) (k : Nat) (h : k < l.length) (h0 : (l.take k).any f = false) (h1 : f (l.getD k []) = false) : (l.take (k + 1)).any f = false := by
  rw [take_snocV _ _ h, List.any_append, h0]; simpa using h1
theorem getD_memV {α : Type} (l : List (List α)) (k : Nat) (h : k < l.length) : l.getD k [] ∈ l := by
  rw [List.getD_eq_getElem?_getD, List.getElem?_eq_getElem h]; simp
theorem any_atV {α : Type} (f : List α → Bool) (l : List (List α)) (k : Nat) (h : k < l.length) (h1 : f (l.getD k []) = true) : l.any f = true := by
  rw [List.any_eq_true]; exact ⟨_, getD_memV l k h, h1⟩
theorem badR_len {vss : List (List (List Tm))} (h : vss.any badR = false) {f : List (List Tm)} (hf : f ∈ vss) : f.length ≤ 1200000000000 := by
  have h1 := List.any_eq_false.1 h f hf
  simp [badR, betweenB] at h1
  omega
def OkP (ws : List Tm) : Prop := ws.length ≤ 2400000000000 ∧ ∀ t ∈ ws, 0 < t.2.length ∧ t.2.length ≤ 3 ∧ ∀ x ∈ t.2, 0 ≤ x ∧ x ≤ 40000
set_option maxRecDepth 100000 in
set_option maxHeartbeats 1000000 in
theorem sameVector_any (x y : Value) (fss : List (List Tm)) (w : World) (hm : fss.length ≤ 1000) (hf : ∀ f ∈ fss, OkP f) (pf : Vl w x fss) (pg : Vl w y fss) :
    Calls Tryz.prog 12 #[x, y] w fun e w' => e = .returned (.bool true) ∧ Below w.heap.size w w' := by
  have HX := hid pf
  have HY := hid pg
  have HF := hid hf
  obtain ⟨ax, cx, rfl, _⟩ := pf
  obtain ⟨ay, cy, rfl, _⟩ := pg
  clear hf
  go_enter Tryz.func12, Tryz.ntmps12
  go_wp2
  go_loopw [5] (fun i wr => ∃ k : Nat, k ≤ fss.length ∧ i = .int .i64 k ∧ Below w.heap.size w wr) (fun i _ => fss.length - (intOf i).toNat)
  case atStart => exact ⟨0, Nat.zero_le _, rfl, Below.refl _ _⟩
  case round =>
    obtain ⟨k, hk, rfl, hbr⟩ := hrel
    have HBR := hid hbr
    clear hbr
    by_cases hk2 : k < fss.length
    · obtain ⟨b, off, fa, fc, rfl, hlt, c0, hpf⟩ := vl_at HX.out k hk2
      obtain ⟨b2, off2, ga, gc, rfl, hlt2, d0, hpg⟩ := vl_at HY.out k hk2
      have HK := hid (HF.out _ (getD_memL fss k hk2))
      generalize fss.getD k [] = f at c0 hpf d0 hpg HK
      have HPF := hid (hpf.below HBR.out)
      have HPG := hid (hpg.below HBR.out)
      have k0 := cell_keep c0 HBR.out
      have k1 := cell_keep d0 HBR.out
      have KEEP : Hid (∀ W, Below wr.heap.size wr W → (Hid (Below wr.heap.size wr W) ∧ W.cell? ⟨b, off + k, none⟩ = some (.slice fa f.length fc) ∧ W.cell? ⟨b2, off2 + k, none⟩ = some (.slice ga f.length gc))) :=
        fun W hb => ⟨hb, cell_keep k0 hb, cell_keep k1 hb⟩
      have HB0 : Hid (Below wr.heap.size wr wr.drew) := (Below.refl _ _).drew
      have HL3 := hid (fun t ht => (HK.out.2 t ht).2.1)
      clear c0 d0 hpf hpg
      go_wp2_with fail
      go_region_held (fun W => Hid (Below wr.heap.size wr W) ∧ W.cell? ⟨b, off + k, none⟩ = some (.slice fa f.length fc) ∧ W.cell? ⟨b2, off2 + k, none⟩ = some (.slice ga f.length gc))
        (first | exact KEEP.out _ HB0.out | exact KEEP.out _ (HB0.out.trans (hb9.mono HB0.out.size)))
        (first | (go_at_call 44; refine (samePoly_any _ _ f f _ HK.out.1 HL3.out ?_ ?_).mono ?_; exact HPF.out.below HB0.out; exact HPG.out.below HB0.out; rw [decide_eq_true rfl]; rintro e w9 ⟨rfl, hb9⟩))
      have HB9 := hid (show Below wr.heap.size wr w9 from HB0.out.trans (hb9.mono HB0.out.size))
      clear hb9
      go_wp2_with fail
      go_roundw
      case rel => exact ⟨k + 1, by omega, by go_num, HBR.out.trans (HB9.out.mono HBR.out.size)⟩
      case measure => simp [intOf]; omega
    · go_wp2
      go_ret
      exact ⟨rfl, HBR.out⟩

def visE (E : Int) (wss : List (List Tm)) : Int := if E ≠ 0 then E else if wss.any greatB then 2 else 0
def visR (E : Int) (wss : List (List Tm)) : List (List Tm) := if visE E wss = 0 then wss else []
theorem Vl.empty (w : World) : Vl w (.slice none 0 0) [] := ⟨none, 0, rfl, fun h => absurd h (by simp)⟩
end Go.Proofs.YtilogbggilchaaaGreat
