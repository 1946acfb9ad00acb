/- The memory of a sum: its rows; what is kept when other blocks are written. -/
import Derived.Test.YtilogbggilchaaaGreatZL
namespace Go.Proofs.YtilogbggilchaaaGreat
set_option linter.unusedSimpArgs false
set_option linter.unusedVariables false
open Go.RowKit
def KdB (Φ : Value → Prop) (w : World) (g : Nat) : Prop := ∀ j u, w.cell? ⟨g, j, none⟩ = some u → Φ u
theorem KdB.below {Φ : Value → Prop} {w w' : World} {g : Nat} (h : KdB Φ w g) (hb : w'.heap[g]? = w.heap[g]?) : KdB Φ w' g := by
  intro j u hu
  rw [World.cell?_of_block (a := ⟨g, j, none⟩) hb] at hu
  exact h j u hu
theorem kdb_alloc {Φ : Value → Prop} {w : World} {C : Array Value} {T : TypeId} (h : ∀ u ∈ C.toList, Φ u) : KdB Φ (w.alloc (.cells C T)) w.heap.size := by
  intro j u hu
  have e : (w.alloc (.cells C T)).cell? ⟨w.heap.size, j, none⟩ = C[j]? := by
    unfold World.cell?
    rw [show (w.alloc (.cells C T)).heap[w.heap.size]? = some (.cells C T (0, 0)) from heap_alloc_new w _]
    simp
  rw [e] at hu
  exact h u (by rw [Array.mem_toList_iff]; exact Array.mem_of_getElem? hu)
theorem kdb_row {Φ : Value → Prop} {w : World} {g : Nat} {C : Array Value} {T : TypeId} (hg : w.heap[g]? = some (.cells C T (0, 0))) (h : ∀ u ∈ C.toList, Φ u) : KdB Φ w g := by
  intro j u hu
  have e : w.cell? ⟨g, j, none⟩ = C[j]? := by
    unfold World.cell?
    rw [hg]
    simp
  rw [e] at hu
  exact h u (by rw [Array.mem_toList_iff]; exact Array.mem_of_getElem? hu)
theorem row_kdb {Φ : Value → Prop} {w : World} {g : Nat} {C : Array Value} {T : TypeId} (hg : w.heap[g]? = some (.cells C T (0, 0))) (h : KdB Φ w g) : ∀ u ∈ C.toList, Φ u := by
  intro u hu
  obtain ⟨j, hj, rfl⟩ := List.getElem_of_mem hu
  refine h j _ ?_
  unfold World.cell?
  rw [hg]
  simp at hj ⊢
theorem kdb_set {Φ : Value → Prop} {w : World} {g j : Nat} {u y : Value} (h : KdB Φ w g) (hu : Φ u) (hy : w.cell? ⟨g, j, none⟩ = some y) : KdB Φ (w.setCell ⟨g, j, none⟩ u) g := by
  intro i x hx
  by_cases e : i = j
  · subst e
    rw [World.cell?_setCell_same _ _ _ hy] at hx
    simp only [Option.some.injEq] at hx
    rw [← hx]; exact hu
  · rw [World.cell?_setCell_other] at hx
    · exact h i x hx
    · intro h2; apply e; simpa using h2.symm
theorem run_append_kdb {P : Program} (w : World) (Φ : Value → Prop) (base : Nat) (t ty e : TypeId) (i : TypeInfo) (z : Value) (size bytes : Nat) (ht : P.underlying t = some (.slice e)) (hi : P.info? e = some i) (hz : i.zero = some z)
    (hsize : i.size = size) (hby : i.bytes = bytes) (hzs : z.cells.size = size) (hsz : 0 < size) (hΦz : ∀ u ∈ z.cells.toList, Φ u)
    (v : Value) (n : Nat) (xs : List Value) (hown : w.ownsRow base e size v n xs) (hk : ∀ g, v.ownBlock = some g → KdB Φ w g)
    (a : Addr) (m c : Nat) (news : List Value) (hm : 0 < m) (hl : news.length = m * size) (hnews : ∀ j u, news[j]? = some u → w.cell? (a.add j) = some u) (h1 : ∀ u ∈ news, u.oneCell' = true) (hΦn : ∀ u ∈ news, Φ u)
    (h63 : n + m ≤ maxLen) (hbytes : (n + m) * bytes ≤ 140737488355328) (hbase : base ≤ w.heap.size) :
    ∃ v' w', (Builtin.append_ #[t, t] ty #[v, .slice (some a) m c]).run P w = .ok v' w' ∧ w'.ownsRow base e size v' (n + m) (xs ++ news) ∧ w.grownBy w' v.ownBlock ∧ (∀ g, v'.ownBlock = some g → KdB Φ w' g) ∧ (v'.ownBlock = v.ownBlock ∨ v'.ownBlock = some w.heap.size) := by
  obtain ⟨v', w', hr, h2, h3, _⟩ := run_append_own (P := P) w base t ty e i z size bytes ht hi hz hsize hby hzs hsz v n xs hown a m c news hl hnews h1 h63 hbytes hbase
  refine ⟨v', w', hr, h2, h3, ?_⟩
  have hsmall : n + m ≤ 9223372036854775807 := by simp only [maxLen] at h63; omega
  have hzero : ∀ (q : Nat), ∀ x ∈ (Builtin.zeroCells z.cells q).toList, Φ x := by
    intro q x hx
    simp [Builtin.zeroCells] at hx
    obtain ⟨l, hl, hx⟩ := hx
    have hlt : l % z.cells.size < z.cells.size := Nat.mod_lt _ (by omega)
    rw [getElem!_pos z.cells _ hlt] at hx
    rw [← hx]
    exact hΦz _ (by simp)
  subst hsize
  subst hby
  rcases hown.2 with ⟨rfl, rfl⟩ | ⟨g, cap, cur, rfl, hbg, hg, hnc, hcm, hcs, htake⟩
  · have hr2 := run_append_nil (P := P) w t ty e i z ht hi hz a m c news hl hnews (by omega) (by omega) (by have hb := hbytes; simp only [Nat.zero_add] at hb; omega)
    rw [hr] at hr2
    simp only [Result.ok.injEq] at hr2
    obtain ⟨rfl, rfl⟩ := hr2
    refine ⟨fun g hg => ?_, Or.inr rfl⟩
    simp only [Value.ownBlock, Option.some.injEq] at hg
    subst hg
    refine kdb_alloc (w := w.drew) (fun x hx => ?_)
    rw [Array.toList_append, List.mem_append] at hx
    rcases hx with hx | hx
    · exact hΦn x (by simpa using hx)
    · exact hzero _ x hx
  · have hcur := row_kdb hg (hk g rfl)
    by_cases hroom : n + m ≤ cap
    · have hfit : n * i.size + news.length ≤ cur.size := by rw [hl, hcs, ← Nat.add_mul]; exact Nat.mul_le_mul_right _ hroom
      have hr2 := run_append_room (P := P) w t ty e i ht hi g n cap cur hg a m c news hl hnews h1 hroom hfit
      rw [hr] at hr2
      simp only [Result.ok.injEq] at hr2
      obtain ⟨rfl, rfl⟩ := hr2
      refine ⟨fun g2 hg2 => ?_, Or.inl rfl⟩
      simp only [Value.ownBlock, Option.some.injEq] at hg2
      subst hg2
      refine kdb_row (setRow_heap w g cur _ e _ hg) (fun x hx => ?_)
      rw [List.toList_toArray, List.mem_append, List.mem_append] at hx
      rcases hx with (hx | hx) | hx
      · exact hcur x (List.mem_of_mem_take hx)
      · exact hΦn x hx
      · exact hcur x (List.mem_of_mem_drop hx)
    · have holds : ∀ j x, xs[j]? = some x → w.cell? ((⟨g, 0, none⟩ : Addr).add j) = some x := hown.cells (g := g) rfl
      have hr2 := run_append_grow (P := P) w t ty e i z ht hi hz ⟨g, 0, none⟩ n cap xs hown.1 holds a m c news hl hnews (by omega) (by omega) (growslice_fits (by omega) hbytes)
      rw [hr] at hr2
      simp only [Result.ok.injEq] at hr2
      obtain ⟨rfl, rfl⟩ := hr2
      refine ⟨fun g2 hg2 => ?_, Or.inr rfl⟩
      simp only [Value.ownBlock, Option.some.injEq] at hg2
      subst hg2
      refine kdb_alloc (w := w.drew) (fun x hx => ?_)
      rw [Array.toList_append, Array.toList_append, List.mem_append, List.mem_append] at hx
      rcases hx with (hx | hx) | hx
      · rw [List.toList_toArray, ← htake] at hx
        exact hcur x (List.mem_of_mem_take hx)
      · exact hΦn x (by simpa using hx)
      · exact hzero _ x hx
structure Frm (S : Nat → Prop) (w w' : World) : Prop where
  os : w'.os = w.os
  tape : w'.tape = w.tape
  output : w'.output = w.output
  size : w.heap.size ≤ w'.heap.size
  block : ∀ k, k < w.heap.size → ¬ S k → w'.heap[k]? = w.heap[k]?
theorem Frm.refl (S : Nat → Prop) (w : World) : Frm S w w := ⟨rfl, rfl, rfl, Nat.le_refl _, fun _ _ _ => rfl⟩
theorem Frm.trans {S T : Nat → Prop} {a b c : World} (h : Frm S a b) (k : Frm T b c) (ht : ∀ x, x < a.heap.size → T x → S x) : Frm S a c :=
  ⟨k.os.trans h.os, k.tape.trans h.tape, k.output.trans h.output, Nat.le_trans h.size k.size, fun i hi hs => (k.block i (Nat.lt_of_lt_of_le hi h.size) (fun x => hs (ht i hi x))).trans (h.block i hi hs)⟩
theorem Frm.wide {S T : Nat → Prop} {a b : World} (h : Frm S a b) (hs : ∀ x, x < a.heap.size → S x → T x) : Frm T a b := ⟨h.os, h.tape, h.output, h.size, fun k hk hT => h.block k hk fun x => hT (hs k hk x)⟩
theorem Frm.of_below {S : Nat → Prop} {a b : World} (h : Below a.heap.size a b) : Frm S a b := ⟨h.os, h.tape, h.output, h.size, fun k hk _ => h.block k hk⟩
theorem Frm.of_grown {S : Nat → Prop} {a b : World} {r : Option Nat} (h : a.grownBy b r) (hs : ∀ g, r = some g → S g) : Frm S a b := ⟨h.os, h.tape, h.output, h.size, fun k hk hS => h.block k hk fun e => hS (hs k e.symm)⟩
theorem Frm.to_below {S : Nat → Prop} {B : Nat} {a b : World} (h : Frm S a b) (hB : B ≤ a.heap.size) (hs : ∀ x, S x → B ≤ x) : Below B a b := ⟨h.os, h.tape, h.output, h.size, fun k hk => h.block k (by omega) fun x => by have := hs k x; omega⟩
theorem Frm.cell {S : Nat → Prop} {a b : World} (h : Frm S a b) {p : Addr} {u : Value} (hc : a.cell? p = some u) (hs : ¬ S p.block) : b.cell? p = some u :=
  (World.cell?_of_block (h.block p.block (World.block_lt_of_cell? a p hc) hs)).trans hc
theorem Frm.own {S : Nat → Prop} {a b : World} (h : Frm S a b) {B : Nat} {T : TypeId} {s : Nat} {v : Value} {n : Nat} {xs : List Value} (ho : a.ownsRow B T s v n xs) (hs : ∀ g, v.ownBlock = some g → ¬ S g) : b.ownsRow B T s v n xs := by
  refine ⟨ho.1, ?_⟩
  rcases ho.2 with hn | ⟨g, cap, cur, rfl, hb, hgg, rest⟩
  · exact .inl hn
  · refine .inr ⟨g, cap, cur, rfl, hb, ?_, rest⟩
    rw [h.block g (Array.getElem?_eq_some_iff.1 hgg).1 (hs g rfl)]
    exact hgg
theorem Frm.kdb {S : Nat → Prop} {Φ : Value → Prop} {a b : World} (h : Frm S a b) {g : Nat} (hk : KdB Φ a g) (hlt : g < a.heap.size) (hs : ¬ S g) : KdB Φ b g := hk.below (h.block g hlt hs)
def NoU (u : Value) : Prop := ∀ x, u ≠ .int .u16 x
theorem slk_nou {w : World} {g : Nat} (h : SlK w g) : KdB NoU w g := fun j u hu x e => by
  obtain ⟨_, _, _, h2⟩ := h j u hu
  rw [h2] at e; cases e
theorem fv_frm {S : Nat → Prop} {a b : World} (h : Frm S a b) (hn : ∀ g, S g → KdB NoU a g) {v : Value} {fs : List Ft} (hf : Fv a v fs) : Fv b v fs := by
  obtain ⟨ad, cap, rfl, hc, h1⟩ := hf
  refine ⟨ad, cap, rfl, hc, fun hp => ?_⟩
  obtain ⟨bl, off, rfl, hlt, hcs⟩ := h1 hp
  have hne : ¬ S bl := by
    intro hs
    cases fs with
    | nil => simp at hp
    | cons t ts => exact hn bl hs _ _ (hcs 1 (.int .u16 t.a) rfl) t.a rfl
  exact ⟨bl, off, rfl, Nat.lt_of_lt_of_le hlt h.size, fun j u hj => h.cell (hcs j u hj) hne⟩
structure RowsW (B : Nat) (w : World) (v : Value) (us : List Value) (rows : List (List Ft)) : Prop where
  len : us.length = rows.length
  own : w.ownsRow B 64 1 v rows.length us
  kind : ∀ g, v.ownBlock = some g → SlK w g
  fvs : ∀ i, i < rows.length → Fv w (us.getD i nilV) (rows.getD i [])
theorem RowsW.frm {B : Nat} {S : Nat → Prop} {w w' : World} {v : Value} {us : List Value} {rows : List (List Ft)} (h : RowsW B w v us rows) (hf : Frm S w w') (hn : ∀ g, S g → KdB NoU w g) (hs : ∀ g, v.ownBlock = some g → ¬ S g) : RowsW B w' v us rows :=
  ⟨h.len, hf.own h.own hs, fun g hg => hf.kdb (h.kind g hg) (World.ownsRow.lt h.own g hg).2 (hs g hg), fun i hi => fv_frm hf hn (h.fvs i hi)⟩
theorem RowsW.next {B : Nat} {w w' : World} {v : Value} {us : List Value} {rows : List (List Ft)} (h : RowsW B w v us rows) (hb : Below w.heap.size w w') : RowsW B w' v us rows :=
  h.frm (S := fun _ => False) (Frm.of_below hb) (fun g hg => hg.elim) (fun g _ hg => hg)
theorem RowsW.nil (B : Nat) (w : World) : RowsW B w (.slice none 0 0) [] [] :=
  ⟨rfl, World.ownsRow_nil _ _ _ _, fun g hg => by simp [Value.ownBlock] at hg, fun i hi => by simp at hi⟩
theorem RowsW.at {B : Nat} {w : World} {v : Value} {us : List Value} {rows : List (List Ft)} (h : RowsW B w v us rows) (i : Nat) (hi : i < rows.length) : ∃ g c, v = .slice (some ⟨g, 0, none⟩) rows.length c ∧ B ≤ g ∧ g < w.heap.size ∧ w.cell? ⟨g, i, none⟩ = some (us.getD i nilV) ∧ w.frozen? ⟨g, i, none⟩ = false := by
  obtain ⟨a, c, rfl⟩ := own_sl h.own
  obtain ⟨g, rfl, _, hlt, hc⟩ := own_at1 h.own i hi
  have hl := World.ownsRow.lt h.own g rfl
  have : i < us.length := by rw [h.len]; exact hi
  exact ⟨g, c, rfl, hl.1, hl.2, by rw [hc]; simp [List.getD_eq_getElem?_getD, this], World.ownsRow.frozenAt h.own i⟩
theorem RowsW.rws {B : Nat} {w : World} {v : Value} {us : List Value} {rows : List (List Ft)} (h : RowsW B w v us rows) : RwsAt w v rows := by
  obtain ⟨a, c, rfl⟩ := own_sl h.own
  refine ⟨a, c, rfl, fun i hi => ?_⟩
  obtain ⟨g, c2, e, _, hlt, hc, _⟩ := h.at i hi
  simp only [Value.slice.injEq] at e
  exact ⟨g, 0, us.getD i nilV, e.1, hlt, by rw [Nat.zero_add]; exact hc, h.fvs i hi⟩
theorem getD_set {α : Type} (l : List α) (i j : Nat) (x d : α) : (l.set i x).getD j d = if i = j ∧ j < l.length then x else l.getD j d := by
  by_cases h : i = j
  · subst h
    by_cases h2 : i < l.length
    · simp [List.getD_eq_getElem?_getD, h2]
    · simp [List.getD_eq_getElem?_getD, h2]
  · simp [List.getD_eq_getElem?_getD, List.getElem?_set_ne h, h]
theorem RowsW.put {B : Nat} {w : World} {g c : Nat} {n : Nat} {us : List Value} {rows : List (List Ft)} (h : RowsW B w (.slice (some ⟨g, 0, none⟩) n c) us rows) (i : Nat) (hi : i < rows.length) (u : Value) (f : List Ft) (hu : Fv w u f) :
    RowsW B (w.setCell ⟨g, i, none⟩ u) (.slice (some ⟨g, 0, none⟩) n c) (us.set i u) (rows.set i f) ∧ w.grownBy (w.setCell ⟨g, i, none⟩ u) (some g) := by
  have hn : n = rows.length := by
    obtain ⟨a, c2, e⟩ := own_sl h.own
    simp only [Value.slice.injEq] at e; exact e.2.1
  subst hn
  have s := World.ownsRow.stored h.own i u
  have hk := slk_nou (h.kind g rfl)
  have hf : Frm (fun k => k = g) w (w.setCell ⟨g, i, none⟩ u) := Frm.of_grown s.2 (fun x e => by simpa using e.symm)
  have hus : ∃ a n c, u = .slice a n c := by obtain ⟨a, c, e, _⟩ := hu; exact ⟨a, _, c, e⟩
  obtain ⟨g2, c2, e2, _, _, hc, _⟩ := h.at i hi
  simp only [Value.slice.injEq, Option.some.injEq, Addr.mk.injEq, true_and, and_true] at e2
  obtain ⟨rfl, _⟩ := e2
  refine ⟨⟨by simp [h.len], by rw [List.length_set]; exact s.1, fun g2 hg2 => ?_, fun j hj => ?_⟩, s.2⟩
  · simp only [Value.ownBlock, Option.some.injEq] at hg2
    subst hg2
    exact kdb_set (h.kind g rfl) hus hc
  · rw [List.length_set] at hj
    rw [getD_set, getD_set, h.len]
    by_cases e : i = j
    · rw [if_pos ⟨e, hj⟩, if_pos ⟨e, hj⟩]
      exact fv_frm hf (fun k e => by subst e; exact hk) hu
    · rw [if_neg (fun h => e h.1), if_neg (fun h => e h.1)]
      exact fv_frm hf (fun k e => by subst e; exact hk) (h.fvs j hj)
theorem RowsW.snoc {B : Nat} {w w2 : World} {v v2 : Value} {us : List Value} {rows : List (List Ft)} {u : Value} (h : RowsW B w v us rows) (hu : Fv w u [])
    (h2 : w2.ownsRow B 64 1 v2 (rows.length + 1) (us ++ [u])) (g2 : w.grownBy w2 v.ownBlock) (k2 : ∀ g, v2.ownBlock = some g → SlK w2 g) : RowsW B w2 v2 (us ++ [u]) (rows ++ [[]]) := by
  have hf : Frm (fun k => v.ownBlock = some k) w w2 := Frm.of_grown g2 (fun x e => e)
  have hn : ∀ g, v.ownBlock = some g → KdB NoU w g := fun g hg => slk_nou (h.kind g hg)
  refine ⟨by simp [h.len], by rw [List.length_append]; exact h2, k2, fun i hi => ?_⟩
  rw [List.length_append] at hi
  simp only [List.length_cons, List.length_nil] at hi
  rcases Nat.lt_or_ge i rows.length with hl | hl
  · have e1 : (us ++ [u]).getD i nilV = us.getD i nilV := by simp [List.getD_eq_getElem?_getD, List.getElem?_append_left (show i < us.length by rw [h.len]; exact hl)]
    have e2 : (rows ++ [[]]).getD i [] = rows.getD i [] := by simp [List.getD_eq_getElem?_getD, List.getElem?_append_left hl]
    rw [e1, e2]
    exact fv_frm hf hn (h.fvs i hl)
  · have e : i = rows.length := by omega
    subst e
    have e1 : (us ++ [u]).getD rows.length nilV = u := by rw [← h.len]; simp [List.getD_eq_getElem?_getD]
    have e2 : (rows ++ [[]]).getD rows.length [] = ([] : List Ft) := by simp [List.getD_eq_getElem?_getD]
    rw [e1, e2]
    exact fv_frm hf hn hu
structure SumW (B : Nat) (w : World) (sb ob : Nat) (rv : Value) (us : List Value) (rows : List (List Ft)) : Prop where
  box : w.ownsRow B 109 2 (.slice (some ⟨sb, 0, none⟩) 1 1) 1 [.pointer (some ⟨ob, 0, none⟩), rv]
  kind : KdB NoU w sb
  rws : RowsW B w rv us rows
theorem SumW.next {B : Nat} {w w' : World} {sb ob : Nat} {rv : Value} {us : List Value} {rows : List (List Ft)} (h : SumW B w sb ob rv us rows) (hb : Below w.heap.size w w') : SumW B w' sb ob rv us rows :=
  ⟨ownBlock_lt h.box hb, h.kind.below (hb.block sb (World.ownsRow.lt h.box sb rfl).2), h.rws.next hb⟩
theorem SumW.apart {B : Nat} {w : World} {sb ob : Nat} {rv : Value} {us : List Value} {rows : List (List Ft)} (h : SumW B w sb ob rv us rows) : rv.ownBlock ≠ some sb := by
  intro e
  rcases own_neT (by decide) h.rws.own h.box with h1 | h1
  · rw [h1] at e; cases e
  · exact h1 (by rw [e]; rfl)
theorem SumW.lt {B : Nat} {w : World} {sb ob : Nat} {rv : Value} {us : List Value} {rows : List (List Ft)} (h : SumW B w sb ob rv us rows) : B ≤ sb ∧ sb < w.heap.size := World.ownsRow.lt h.box sb rfl
theorem SumW.cells {B : Nat} {w : World} {sb ob : Nat} {rv : Value} {us : List Value} {rows : List (List Ft)} (h : SumW B w sb ob rv us rows) : w.cell? ⟨sb, 0, none⟩ = some (.pointer (some ⟨ob, 0, none⟩)) ∧ w.cell? ⟨sb, 1, none⟩ = some rv ∧ w.frozen? ⟨sb, 1, none⟩ = false :=
  ⟨World.ownsRow.cellAt h.box 0 (by omega), World.ownsRow.cellAt h.box 1 (by omega), World.ownsRow.frozenAt h.box 1⟩
theorem SumW.put {B : Nat} {w : World} {sb ob g c n : Nat} {us : List Value} {rows : List (List Ft)} (h : SumW B w sb ob (.slice (some ⟨g, 0, none⟩) n c) us rows) (i : Nat) (hi : i < rows.length) (u : Value) (f : List Ft) (hu : Fv w u f) :
    SumW B (w.setCell ⟨g, i, none⟩ u) sb ob (.slice (some ⟨g, 0, none⟩) n c) (us.set i u) (rows.set i f) ∧ w.grownBy (w.setCell ⟨g, i, none⟩ u) (some g) := by
  have s := h.rws.put i hi u f hu
  have hne : sb ≠ g := fun e => h.apart (by rw [e]; rfl)
  exact ⟨⟨World.ownsRow.kept h.box s.2 (Or.inr (by simpa [Value.ownBlock] using hne)), h.kind.below (s.2.block sb h.lt.2 (by simpa using hne)), s.1⟩, s.2⟩
theorem SumW.grow {B : Nat} {w w2 : World} {sb ob : Nat} {rv v2 : Value} {us : List Value} {rows : List (List Ft)} {u : Value} (h : SumW B w sb ob rv us rows) (hu : Fv w u [])
    (h2 : w2.ownsRow B 64 1 v2 (rows.length + 1) (us ++ [u])) (g2 : w.grownBy w2 rv.ownBlock) (k2 : ∀ g, v2.ownBlock = some g → SlK w2 g) :
    SumW B (w2.setCell ⟨sb, 1, none⟩ v2) sb ob v2 (us ++ [u]) (rows ++ [[]]) := by
  have hr := h.rws.snoc hu h2 g2 k2
  have hb2 := World.ownsRow.kept h.box g2 (Or.inr (by simpa [Value.ownBlock] using fun e => h.apart e.symm))
  have hk2 : KdB NoU w2 sb := h.kind.below (g2.block sb h.lt.2 (fun e => h.apart e.symm))
  have s := World.ownsRow.stored hb2 1 v2
  have hav : ∀ x, v2 ≠ .int .u16 x := by
    obtain ⟨a, c, e⟩ := own_sl hr.own
    rw [e]; exact fun x h => by cases h
  have hf : Frm (fun k => k = sb) w2 (w2.setCell ⟨sb, 1, none⟩ v2) := Frm.of_grown s.2 (fun x e => by simpa using e.symm)
  refine ⟨s.1, kdb_set hk2 hav (World.ownsRow.cellAt hb2 1 (by omega)), hr.frm hf (fun g e => by subst e; exact hk2) fun g hg e => ?_⟩
  subst e
  rcases own_neT (by decide) hr.own hb2 with h1 | h1
  · rw [h1] at hg; cases hg
  · exact h1 (by rw [hg]; rfl)
def SFp (sb : Nat) (rv : Value) (k : Nat) : Prop := k = sb ∨ rv.ownBlock = some k
end Go.Proofs.YtilogbggilchaaaGreat
