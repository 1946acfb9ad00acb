/- Rows of polynomials of the call's own: their cells are slices, so no polynomial lies in them. -/
import Derived.Test.YtkmjmmnnnbjghaaGreatRD
import Derived.Test.YtkmjmmnnnbjghaaGreatM
namespace Go.Proofs.YtkmjmmnnnbjghaaGreat
set_option linter.unusedSimpArgs false
set_option linter.unusedVariables false
open Go.RowKit

/-- All cells of a block are slices. -/
def SlK (w : World) (g : Nat) : Prop := ∀ j u, w.cell? ⟨g, j, none⟩ = some u → ∃ a n c, u = .slice a n c
theorem SlK.below {w w' : World} {g : Nat} (h : SlK w g) (hlt : g < w.heap.size) (hb : Below w.heap.size w w') : SlK w' g := by
  intro j u hu
  rw [hb.cell (p := ⟨g, j, none⟩) hlt] at hu
  exact h j u hu
theorem cell_far {w w' : World} {g b o : Nat} (hg : w.grownBy w' (some g)) (hlt : b < w.heap.size) (hne : b ≠ g) : w'.cell? ⟨b, o, none⟩ = w.cell? ⟨b, o, none⟩ :=
  World.cell?_of_block (hg.block b hlt (by simpa using hne))
theorem sl_keep {w w' : World} {g : Nat} (hk : SlK w g) (hg : w.grownBy w' (some g)) {v : Value} {xs : List Int} (h : Sl w v xs) : Sl w' v xs := by
  obtain ⟨a, cap, rfl, h⟩ := h
  refine ⟨a, cap, rfl, fun hp => ?_⟩
  obtain ⟨b, off, rfl, hlt, hc⟩ := h hp
  have hne : b ≠ g := by
    intro e
    subst e
    obtain ⟨_, _, _, hx⟩ := hk _ _ (hc 0 hp)
    cases hx
  exact ⟨b, off, rfl, Nat.lt_of_lt_of_le hlt hg.size, fun i hi => by rw [cell_far hg hlt hne]; exact hc i hi⟩
theorem pl_keep {w w' : World} {g : Nat} (hk : SlK w g) (hg : w.grownBy w' (some g)) {v : Value} {ts : List Tm} (h : Pl w v ts) : Pl w' v ts := by
  obtain ⟨a, cap, rfl, hcap, h⟩ := h
  refine ⟨a, cap, rfl, hcap, fun hp => ?_⟩
  obtain ⟨b, off, rfl, hlt, hc⟩ := h hp
  have hne : b ≠ g := by
    intro e
    subst e
    obtain ⟨_, _, _, hx⟩ := hk _ _ (hc 0 hp).1
    cases hx
  refine ⟨b, off, rfl, Nat.lt_of_lt_of_le hlt hg.size, fun i hi => ?_⟩
  obtain ⟨h1, u, h2, h3⟩ := hc i hi
  exact ⟨by rw [cell_far hg hlt hne]; exact h1, u, by rw [cell_far hg hlt hne]; exact h2, sl_keep hk hg h3⟩

theorem slk_alloc {w : World} {C : Array Value} {T : TypeId} (h : ∀ u ∈ C.toList, ∃ a n c, u = .slice a n c) : SlK (w.alloc (.cells C T)) w.heap.size := by
  intro j u hu
  have e : (w.alloc (.cells C T)).cell? ⟨w.heap.size, j, none⟩ = C[j]? := by
    unfold World.cell?
    rw [show (w.alloc (.cells C T)).heap[w.heap.size]? = some (.cells C T (0, 0)) from heap_alloc_new w _]
    simp
  rw [e] at hu
  exact h u (by rw [Array.mem_toList_iff]; exact Array.mem_of_getElem? hu)
theorem slk_row {w : World} {g : Nat} {C : Array Value} {T : TypeId} (hg : w.heap[g]? = some (.cells C T (0, 0))) (h : ∀ u ∈ C.toList, ∃ a n c, u = .slice a n c) : SlK w g := by
  intro j u hu
  have e : w.cell? ⟨g, j, none⟩ = C[j]? := by
    unfold World.cell?
    rw [hg]
    simp
  rw [e] at hu
  exact h u (by rw [Array.mem_toList_iff]; exact Array.mem_of_getElem? hu)
theorem row_slk {w : World} {g : Nat} {C : Array Value} {T : TypeId} (hg : w.heap[g]? = some (.cells C T (0, 0))) (h : SlK w g) : ∀ u ∈ C.toList, ∃ a n c, u = .slice a n c := by
  intro u hu
  obtain ⟨j, hj, rfl⟩ := List.getElem_of_mem hu
  refine h j _ ?_
  unfold World.cell?
  rw [hg]
  simp at hj ⊢

/-- One more onto a row of slices: its cells are slices still. -/
theorem run_append_slk {P : Program} (w : World) (base : Nat) (t ty e : TypeId) (i : TypeInfo) (ht : P.underlying t = some (.slice e)) (hi : P.info? e = some i) (hz : i.zero = some (.slice none 0 0)) (hsize : i.size = 1) (hby : i.bytes = 24)
    (v : Value) (n : Nat) (xs : List Value) (hown : w.ownsRow base e 1 v n xs) (hk : ∀ g, v.ownBlock = some g → SlK w g)
    (a : Addr) (c : Nat) (u : Value) (hu : ∃ a n c, u = .slice a n c) (hnew : ∀ j x, [u][j]? = some x → w.cell? (a.add j) = some x) (hn : n ≤ 1200000000000) (hbase : base ≤ w.heap.size) :
    ∃ v' w', (Builtin.append_ #[t, t] ty #[v, .slice (some a) 1 c]).run P w = .ok v' w' ∧ w'.ownsRow base e 1 v' (n + 1) (xs ++ [u]) ∧ w.grownBy w' v.ownBlock ∧ (∀ g, v'.ownBlock = some g → SlK w' g) := by
  have hone : ∀ x ∈ [u], x.oneCell' = true := by
    intro x hx
    rw [List.mem_singleton] at hx
    obtain ⟨_, _, _, e⟩ := hu
    rw [hx, e]; rfl
  obtain ⟨v', w', hr, h2, h3, _⟩ := run_append_own (P := P) w base t ty e i (.slice none 0 0) 1 24 ht hi hz hsize hby rfl (by decide) v n xs hown a 1 c [u] (by simp) hnew hone (by unfold maxLen; omega) (by omega) hbase
  refine ⟨v', w', hr, h2, h3, ?_⟩
  have hzero : ∀ (m : Nat), ∀ x ∈ (Builtin.zeroCells (Value.cells (.slice none 0 0)) m).toList, ∃ a n c, x = .slice a n c := by
    intro m x hx
    simp [Builtin.zeroCells, Value.cells] at hx
    obtain ⟨l, _, hx⟩ := hx
    rw [Nat.mod_one] at hx
    exact ⟨none, 0, 0, by rw [← hx]; rfl⟩
  rcases hown.2 with ⟨rfl, rfl⟩ | ⟨g, cap, cur, rfl, hbg, hg, hnc, hcm, hcs, htake⟩
  · have hr2 := run_append_nil (P := P) w t ty e i (.slice none 0 0) ht hi hz a 1 c [u] (by rw [hsize]; rfl) hnew (by omega) (by omega) (by rw [hby]; omega)
    rw [hr] at hr2
    simp only [Result.ok.injEq] at hr2
    obtain ⟨rfl, rfl⟩ := hr2
    intro g hg
    simp only [Value.ownBlock, Option.some.injEq] at hg
    subst hg
    refine slk_alloc (w := w.drew) (fun x hx => ?_)
    rw [Array.toList_append, List.mem_append] at hx
    rcases hx with hx | hx
    · simp at hx; rw [hx]; exact hu
    · exact hzero _ x hx
  · have hcur := row_slk hg (hk g rfl)
    by_cases hroom : n + 1 ≤ cap
    · have hr2 := run_append_room (P := P) w t ty e i ht hi g n cap cur hg a 1 c [u] (by rw [hsize]; rfl) hnew hone hroom (by rw [hsize, hcs]; simp; omega)
      rw [hr] at hr2
      simp only [Result.ok.injEq] at hr2
      obtain ⟨rfl, rfl⟩ := hr2
      intro g2 hg2
      simp only [Value.ownBlock, Option.some.injEq] at hg2
      subst hg2
      refine slk_row (setRow_heap w g cur _ e _ hg) (fun x hx => ?_)
      rw [List.toList_toArray, List.mem_append, List.mem_append] at hx
      rcases hx with (hx | hx) | hx
      · exact hcur x (List.mem_of_mem_take hx)
      · rw [List.mem_singleton] at hx; rw [hx]; exact hu
      · exact hcur x (List.mem_of_mem_drop hx)
    · have holds : ∀ j x, xs[j]? = some x → w.cell? ((⟨g, 0, none⟩ : Addr).add j) = some x := hown.cells (g := g) rfl
      have hr2 := run_append_grow (P := P) w t ty e i (.slice none 0 0) ht hi hz ⟨g, 0, none⟩ n cap xs (by rw [hsize]; exact hown.1) holds a 1 c [u] (by rw [hsize]; rfl) hnew (by omega) (by omega) (growslice_fits (by omega) (by rw [hby]; omega))
      rw [hr] at hr2
      simp only [Result.ok.injEq] at hr2
      obtain ⟨rfl, rfl⟩ := hr2
      intro g2 hg2
      simp only [Value.ownBlock, Option.some.injEq] at hg2
      subst hg2
      refine slk_alloc (w := w.drew) (fun x hx => ?_)
      rw [Array.toList_append, Array.toList_append, List.mem_append, List.mem_append] at hx
      rcases hx with (hx | hx) | hx
      · rw [List.toList_toArray, ← htake] at hx
        exact hcur x (List.mem_of_mem_take hx)
      · simp at hx; rw [hx]; exact hu
      · exact hzero _ x hx

theorem Tryz.infoPolyW : (Tryz.prog.info? 54).map (fun i => (i.zero, i.size, i.bytes)) = some (some (.slice none 0 0), 1, 24) := by kernel_rfl
def nilV : Value := .slice none 0 0
/-- A row of these polynomials, of the call's own. -/
structure PRow (B : Nat) (w : World) (v : Value) (us : List Value) (fss : List (List Tm)) : Prop where
  len : us.length = fss.length
  own : w.ownsRow B 54 1 v fss.length us
  kind : ∀ g, v.ownBlock = some g → SlK w g
  pls : ∀ i, i < fss.length → Pl w (us.getD i nilV) (fss.getD i [])
theorem PRow.next {B : Nat} {w w' : World} {v : Value} {us : List Value} {fss : List (List Tm)} (h : PRow B w v us fss) (hb : Below w.heap.size w w') : PRow B w' v us fss :=
  ⟨h.len, ownBlock_lt h.own hb, fun g hg => (h.kind g hg).below (World.ownsRow.lt h.own g hg).2 hb, fun i hi => (h.pls i hi).below hb⟩
theorem PRow.nil (B : Nat) (w : World) : PRow B w (.slice none 0 0) [] [] :=
  ⟨rfl, World.ownsRow_nil _ _ _ _, fun g hg => by simp [Value.ownBlock] at hg, fun i hi => by simp at hi⟩
theorem PRow.vl {B : Nat} {w : World} {v : Value} {us : List Value} {fss : List (List Tm)} (h : PRow B w v us fss) : Vl w v fss := by
  obtain ⟨a, c, rfl⟩ := own_sl h.own
  refine ⟨a, c, rfl, fun hp => ?_⟩
  obtain ⟨g, rfl, _, hlt, _⟩ := own_at1 h.own 0 hp
  refine ⟨g, 0, rfl, hlt, fun i hi => ?_⟩
  obtain ⟨g2, hg2, _, _, hc⟩ := own_at1 h.own i hi
  simp only [Option.some.injEq, Addr.mk.injEq, and_true] at hg2
  subst hg2
  refine ⟨us.getD i nilV, ?_, h.pls i hi⟩
  rw [Nat.zero_add, hc]
  have : i < us.length := by rw [h.len]; exact hi
  simp [List.getD_eq_getElem?_getD, this]
theorem PRow.snoc {B : Nat} {W W2 : World} {v v2 : Value} {us : List Value} {fss : List (List Tm)} {u : Value} {f : List Tm} (h : PRow B W v us fss) (hu : Pl W u f)
    (h2 : W2.ownsRow B 54 1 v2 (fss.length + 1) (us ++ [u])) (g2 : W.grownBy W2 v.ownBlock) (k2 : ∀ g, v2.ownBlock = some g → SlK W2 g) : PRow B W2 v2 (us ++ [u]) (fss ++ [f]) := by
  have keep : ∀ {x : Value} {ts : List Tm}, Pl W x ts → Pl W2 x ts := by
    intro x ts hx
    cases ho : v.ownBlock with
    | none =>
      rw [ho] at g2
      exact hx.below ⟨g2.os, g2.tape, g2.output, g2.size, fun k hk => g2.block k hk (by simp)⟩
    | some g =>
      rw [ho] at g2
      exact pl_keep (h.kind g ho) g2 hx
  refine ⟨by simp [h.len], by rw [List.length_append]; exact h2, k2, fun i hi => ?_⟩
  rw [List.length_append] at hi
  simp only [List.length_cons, List.length_nil] at hi
  rcases Nat.lt_or_ge i fss.length with hl | hl
  · have e1 : (us ++ [u]).getD i nilV = us.getD i nilV := by simp [List.getD_eq_getElem?_getD, List.getElem?_append_left (show i < us.length by rw [h.len]; exact hl)]
    have e2 : (fss ++ [f]).getD i [] = fss.getD i [] := by simp [List.getD_eq_getElem?_getD, List.getElem?_append_left hl]
    rw [e1, e2]
    exact keep (h.pls i hl)
  · have e : i = fss.length := by omega
    subst e
    have e1 : (us ++ [u]).getD fss.length nilV = u := by rw [← h.len]; simp [List.getD_eq_getElem?_getD]
    have e2 : (fss ++ [f]).getD fss.length [] = f := by simp [List.getD_eq_getElem?_getD]
    rw [e1, e2]
    exact keep hu
theorem PRow.grown {B : Nat} {w W w' : World} {v : Value} {us : List Value} {fss : List (List Tm)} (h : PRow B W v us fss) (hb : Below B w W) (hg : W.grownBy w' v.ownBlock) (hB : B ≤ w.heap.size) : Below B w w' := own_grown h.own hb hg hB

/-- At a step of a region that draws its order. -/
theorem step_append_prow {ops : Array Oper} {o : Oper} {a : Act} {w : World} {K : Act → World → Prop} {Q : Exit → Act → World → Prop} {E : Prop} (hgd : o.guard = none) (s x : Operand) (t : TypeId)
    (ho : o.op = .call { callee := .builtin .append, args := #[s, x], argTypes := #[t, t] }) (ht : Tryz.prog.underlying t = some (.slice 54))
    (B : Nat) (v : Value) (us : List Value) (fss : List (List Tm)) (hs : a.eval s = v) (h : PRow B w v us fss) (ad : Addr) (c : Nat) (u : Value) (f : List Tm) (hu : Pl w u f) (hx : a.eval x = .slice (some ad) 1 c)
    (hnew : ∀ j y, [u][j]? = some y → w.cell? (ad.add j) = some y) (hn : fss.length ≤ 1200000000000) (hB : B ≤ w.heap.size)
    (hK : ∀ v' w', PRow B w' v' (us ++ [u]) (fss ++ [f]) → w.grownBy w' v.ownBlock → K (a.put o.dst v') w') :
    if Region.wanted o (yielded ops a.tmps) = true then Oper.wp Tryz.prog o a w K Q else E := by
  have hw : Region.wanted o (yielded ops a.tmps) = true := by simp [Region.wanted, hgd]
  rw [if_pos hw]
  obtain ⟨i0, hi, hz0, hz1, hz2⟩ := info_parts Tryz.infoPolyW
  obtain ⟨v', w', hr, h2, h3, h4⟩ := run_append_slk (P := Tryz.prog) w B t o.type 54 i0 ht hi hz0 hz1 hz2 v fss.length us h.own h.kind ad c u (by obtain ⟨a, c, e, _⟩ := hu; exact ⟨_, _, _, e⟩) hnew hn hB
  unfold Oper.wp execOp
  simp only [ho, resolve, invoke, builtin, Sem.run_bind, Sem.run_pure, Result.andThen_ok, List.map_toArray, List.map_cons, List.map_nil, hs, hx, hr]
  exact hK v' w' (h.snoc hu h2 h3 h4) h3

end Go.Proofs.YtkmjmmnnnbjghaaGreat

/- VSum, VTimes of the reference. -/
namespace Go.Proofs.YtkmjmmnnnbjghaaGreat
set_option linter.unusedSimpArgs false
set_option linter.unusedVariables false
open Go.RowKit

theorem vl_at {w : World} {a : Option Addr} {c : Nat} {fss : List (List Tm)} (h : Vl w (.slice a fss.length c) fss) (k : Nat) (hk : k < fss.length) : ∃ b off fa fc, a = some ⟨b, off, none⟩ ∧ b < w.heap.size ∧ w.cell? ⟨b, off + k, none⟩ = some (.slice fa (fss.getD k []).length fc) ∧ Pl w (.slice fa (fss.getD k []).length fc) (fss.getD k []) := by
  obtain ⟨a2, c2, e, h1⟩ := h
  obtain ⟨b, off, rfl, hlt, hat⟩ := h1 (by omega)
  simp only [Value.slice.injEq, true_and] at e
  obtain ⟨rfl, rfl⟩ := e
  obtain ⟨v, hc, hp⟩ := hat k hk
  have hp2 := hp
  obtain ⟨fa, fc, rfl, _, _⟩ := hp
  exact ⟨b, off, fa, fc, rfl, hlt, hc, hp2⟩
theorem len_snoc {α : Type} (l : List α) (x : α) : (l ++ [x]).length = l.length + 1 := by simp
theorem take_snocL {α : Type} (l : List (List α)) (k : Nat) (h : k < l.length) : l.take (k + 1) = l.take k ++ [l.getD k []] := by
  rw [List.take_succ_eq_append_getElem h]; simp [List.getD_eq_getElem?_getD, h]
theorem getD_mapL {α : Type} (F : List α → List α) (l : List (List α)) (k : Nat) (h : k < l.length) : (l.map F).getD k [] = F (l.getD k []) := by
  simp [List.getD_eq_getElem?_getD, h]
def sums (p o : Int) (fss gss : List (List Tm)) : List (List Tm) := List.zipWith (fun f g => colL p o (f ++ g)) fss gss
theorem sums_len {p o : Int} {fss gss : List (List Tm)} (h : fss.length = gss.length) : (sums p o fss gss).length = fss.length := by
  unfold sums; rw [List.length_zipWith]; omega
theorem sums_at {p o : Int} {fss gss : List (List Tm)} {k : Nat} (h : fss.length = gss.length) (hk : k < fss.length) : (sums p o fss gss).getD k [] = colL p o (fss.getD k [] ++ gss.getD k []) := by
  unfold sums
  simp [List.getD_eq_getElem?_getD, List.getElem?_zipWith, hk, show k < gss.length by omega]
def prods (p o : Int) (f : List Tm) (gss : List (List Tm)) : List (List Tm) := gss.map fun g => colL p o (prodL p f g)
theorem one_newP (w : World) (x : Value) (T : TypeId) : ∀ j u, [x][j]? = some u → (w.alloc (.cells #[x] T)).cell? ((⟨w.heap.size, 0, none⟩ : Addr).add j) = some u := by
  intro j u hj
  rcases j with _ | j
  · simp at hj; subst hj; simp [Addr.add, go_sem]
  · simp at hj
/-- A list of terms that may be summed up. -/
def Sm (p : Int) (N : Nat) (f : List Tm) : Prop := (∀ t ∈ f, Tok p N t) ∧ f.length ≤ 600000000000

set_option maxRecDepth 100000 in
set_option maxHeartbeats 2000000 in
theorem vsum_any (p n o v : Int) (N : Nat) (x y : Value) (fss gss : List (List Tm)) (w : World) (hp : 2 ≤ p ∧ p ≤ 101) (ho : o = 1 ∨ o = 2) (hN0 : 0 < N) (hN : N ≤ 3) (hl : fss.length = gss.length) (hm : fss.length ≤ 1000) (hf : ∀ f ∈ fss, Sm p N f) (hg : ∀ g ∈ gss, Sm p N g) (pf : Vl w x fss) (pg : Vl w y gss) :
    Calls Tryz.prog 39 #[ringV p n o v, x, y] w fun e w' => ∃ u, e = .returned u ∧ Vl w' u (sums p o fss gss) ∧ Below w.heap.size w w' := by
  have HX := hid pf
  have HY := hid pg
  have HF := hid hf
  have HG := hid hg
  have HP := hid hp
  have HO := hid ho
  have HL := hid hl
  obtain ⟨ax, cx, rfl, _⟩ := pf
  obtain ⟨ay, cy, rfl, _⟩ := pg
  clear hf hg hp ho hl
  obtain ⟨w1, hw1⟩ : ∃ w1, w1 = w.alloc (.cells #[.int .i64 p, .int .i64 n, .int .i64 o, .int .i64 v] 23) := ⟨_, rfl⟩
  have hbx : BoxAt w1 w.heap.size p n o v := by rw [hw1]; exact BoxAt.new w p n o v _
  have hbw : Below w.heap.size w w1 := by rw [hw1]; exact below_oneG
  have HBX := hid hbx
  have HBW := hid hbw
  clear hbx hbw
  go_enter Tryz.func39, Tryz.ntmps39
  go_wp2_with fail
  rw [← hw1]
  clear hw1
  go_loopw [7, 8] (fun z i wr => ∃ (k : Nat) (us : List Value), k ≤ fss.length ∧ i = .int .i64 k ∧ PRow w1.heap.size wr z us ((sums p o fss gss).take k) ∧ Below w1.heap.size w1 wr) (fun _ i _ => fss.length - (intOf i).toNat)
  case atStart => exact ⟨0, [], Nat.zero_le _, rfl, PRow.nil _ _, Below.refl _ _⟩
  case round =>
    obtain ⟨k, us, hk, rfl, hrow, hbr⟩ := hrel
    have HROW := hid hrow
    have HBR := hid hbr
    obtain ⟨ys, hys⟩ : ∃ ys, (sums p o fss gss).take k = ys := ⟨_, rfl⟩
    have HTL : Hid (ys.length = k) := by show _ = _; rw [← hys, List.length_take, sums_len HL.out]; omega
    rw [hys] at hrow HROW
    have HYS := hid hys
    clear hys
    obtain ⟨za, zc, hz⟩ := own_sl hrow.own
    subst hz
    clear hrow hbr
    by_cases hk2 : k < fss.length
    · have hk3 : k < gss.length := by have := HL.out; omega
      obtain ⟨b, off, fa, fc, rfl, hlt, c0, hpf⟩ := vl_at HX.out k hk2
      obtain ⟨b2, off2, ga, gc, rfl, hlt2, d0, hpg⟩ := vl_at HY.out k hk3
      have hkI : (k : Int) < (gss.length : Int) := by omega
      have HDN := hid (HBW.out.trans (HBR.out.mono HBW.out.size))
      have HTS : Hid ((sums p o fss gss).take (k + 1) = ys ++ [colL p o (fss.getD k [] ++ gss.getD k [])]) := by
        show _ = _
        rw [← HYS.out, take_snocL _ _ (by rw [sums_len HL.out]; exact hk2), sums_at HL.out hk2]
      have HFG := hid (And.intro (HF.out _ (getD_memL fss k hk2)) (HG.out _ (getD_memL gss k hk3)))
      generalize fss.getD k [] = f at c0 hpf HTS HFG
      generalize gss.getD k [] = g at d0 hpg HTS HFG
      have HPF := hid (hpf.below HBW.out)
      have HPG := hid (hpg.below HBW.out)
      clear hpf hpg
      obtain ⟨_, bx0, bx1, bx2, bx3⟩ := HBX.out
      have KEEP : Hid (∀ W, Below w1.heap.size w1 W → (Hid (Below w1.heap.size w1 W) ∧ W.cell? ⟨w.heap.size, 0, none⟩ = some (.int .i64 p) ∧ W.cell? ⟨w.heap.size, 1, none⟩ = some (.int .i64 n) ∧ W.cell? ⟨w.heap.size, 2, none⟩ = some (.int .i64 o) ∧ W.cell? ⟨w.heap.size, 3, none⟩ = some (.int .i64 v) ∧ W.cell? ⟨b, off + k, none⟩ = some (.slice fa f.length fc) ∧ W.cell? ⟨b2, off2 + k, none⟩ = some (.slice ga g.length gc))) :=
        fun W hb => ⟨hb, cell_keep bx0 hb, cell_keep bx1 hb, cell_keep bx2 hb, cell_keep bx3 hb, cell_keep (cell_keep c0 HBW.out) hb, cell_keep (cell_keep d0 HBW.out) hb⟩
      have HB0 : Hid (Below w1.heap.size w1 wr.drew) := HBR.out.drew
      clear bx0 bx1 bx2 bx3 c0 d0
      go_wp2
      go_region_held_law (fun W => Hid (Below w1.heap.size w1 W) ∧ W.cell? ⟨w.heap.size, 0, none⟩ = some (.int .i64 p) ∧ W.cell? ⟨w.heap.size, 1, none⟩ = some (.int .i64 n) ∧ W.cell? ⟨w.heap.size, 2, none⟩ = some (.int .i64 o) ∧ W.cell? ⟨w.heap.size, 3, none⟩ = some (.int .i64 v) ∧ W.cell? ⟨b, off + k, none⟩ = some (.slice fa f.length fc) ∧ W.cell? ⟨b2, off2 + k, none⟩ = some (.slice ga g.length gc))
        (first | exact KEEP.out _ HB0.out | exact KEEP.out _ HB7.out | exact KEEP.out _ (HB6.out.trans (belowNew.mono HB6.out.size)) | exact KEEP.out _ HB6.out)
        (first
          | (refine step_append_prow rfl (.tmp 15) (.tmp 26) 25 rfl Tryz.underlying25 w1.heap.size (.slice za ys.length zc) us ys (by simp [Act.eval, Act.put]) (PR6.out.next belowNew) ⟨w6.heap.size, 0, none⟩ 1 (.slice ua6 (colL p o (f ++ g)).length uc6) (colL p o (f ++ g)) (HU6.out.below belowNew) (by simp [Act.eval, Act.put]) (one_newP _ _ _) (by rw [HTL.out]; omega) (Nat.le_trans HB6.out.size (by simp)) ?_; intro v7 w7 r1 r2; have HB7 := hid (show Below w1.heap.size w1 w7 from (PR6.out.next belowNew).grown (HB6.out.trans (belowNew.mono HB6.out.size)) r2 (Nat.le_refl _)); obtain ⟨va7, vc7, hv7⟩ := own_sl r1.own; rw [len_snoc] at hv7; subst hv7; have HR7 := hid r1; clear r1 r2)
          | (go_at_call 37; refine (refSum_any p n o v N _ _ f g _ HP.out HO.out hN0 hN HFG.out.1.1 HFG.out.2.1 ?_ ?_ ?_).mono ?_; (have h1 := HFG.out.1.2; have h2 := HFG.out.2.2; omega); exact HPF.out.below HB0.out; exact HPG.out.below HB0.out; rintro e w6 ⟨u6, rfl, hu6, hb6⟩; have PR6 := hid (HROW.out.next (((Below.refl wr.heap.size wr).drew).trans hb6)); have HB6 := hid (show Below w1.heap.size w1 w6 from HB0.out.trans (hb6.mono HB0.out.size)); have HU6 := hid hu6; obtain ⟨ua6, uc6, rfl, _, _⟩ := hu6; clear hb6))
      all_goals
        go_wp2
        first
          | exact ⟨⟨k + 1, us ++ [_], by omega, by go_num, by rw [HTS.out]; exact HR7.out, HB7.out⟩, by simp [intOf]; omega⟩
          | (go_roundw
             case rel => exact ⟨k + 1, us ++ [_], by omega, by go_num, by rw [HTS.out]; exact HR7.out, HB7.out⟩
             case measure => simp [intOf]; omega)
    · have e : k = fss.length := by omega
      subst e
      have HE : Hid (sums p o fss gss = ys) := by show _ = _; rw [← HYS.out, List.take_of_length_le (by rw [sums_len HL.out]; exact Nat.le_refl _)]
      have HV := hid HROW.out.vl
      go_wp2
      go_ret
      exact ⟨_, rfl, by rw [HE.out]; exact HV.out, HBW.out.trans (HBR.out.mono HBW.out.size)⟩

set_option maxRecDepth 100000 in
set_option maxHeartbeats 2000000 in
theorem vtimes_any (p n o v : Int) (N : Nat) (x y : Value) (f : List Tm) (gss : List (List Tm)) (w : World) (hp : 2 ≤ p ∧ p ≤ 101) (ho : o = 1 ∨ o = 2) (hN0 : 0 < N) (hN : N ≤ 3) (hm : gss.length ≤ 1000) (hf : Right p o N f) (hg : ∀ g ∈ gss, Right p o N g) (pf : Pl w x f) (pg : Vl w y gss) :
    Calls Tryz.prog 38 #[ringV p n o v, x, y] w fun e w' => ∃ u, e = .returned u ∧ Vl w' u (prods p o f gss) ∧ Below w.heap.size w w' := by
  have HX := hid pf
  have HY := hid pg
  have HF := hid hf
  have HG := hid hg
  have HP := hid hp
  have HO := hid ho
  obtain ⟨ax, cx, rfl, _, _⟩ := pf
  obtain ⟨ay, cy, rfl, _⟩ := pg
  unfold prods
  clear hf hg hp ho
  obtain ⟨w1, hw1⟩ : ∃ w1, w1 = w.alloc (.cells #[.int .i64 p, .int .i64 n, .int .i64 o, .int .i64 v] 23) := ⟨_, rfl⟩
  have hbx : BoxAt w1 w.heap.size p n o v := by rw [hw1]; exact BoxAt.new w p n o v _
  have hbw : Below w.heap.size w w1 := by rw [hw1]; exact below_oneG
  have HBX := hid hbx
  have HBW := hid hbw
  clear hbx hbw
  go_enter Tryz.func38, Tryz.ntmps38
  go_wp2_with fail
  rw [← hw1]
  clear hw1
  go_loopw [7, 8] (fun z i wr => ∃ (k : Nat) (us : List Value), k ≤ gss.length ∧ i = .int .i64 k ∧ PRow w1.heap.size wr z us (((gss.map fun g => colL p o (prodL p f g))).take k) ∧ Below w1.heap.size w1 wr) (fun _ i _ => gss.length - (intOf i).toNat)
  case atStart => exact ⟨0, [], Nat.zero_le _, rfl, PRow.nil _ _, Below.refl _ _⟩
  case round =>
    obtain ⟨k, us, hk, rfl, hrow, hbr⟩ := hrel
    have HROW := hid hrow
    have HBR := hid hbr
    obtain ⟨ys, hys⟩ : ∃ ys, ((gss.map fun g => colL p o (prodL p f g))).take k = ys := ⟨_, rfl⟩
    have HTL : Hid (ys.length = k) := by show _ = _; rw [← hys, List.length_take, List.length_map]; omega
    rw [hys] at hrow HROW
    have HYS := hid hys
    clear hys
    obtain ⟨za, zc, hz⟩ := own_sl hrow.own
    subst hz
    clear hrow hbr
    by_cases hk2 : k < gss.length
    · obtain ⟨b2, off2, ga, gc, rfl, hlt2, d0, hpg⟩ := vl_at HY.out k hk2
      have HDN := hid (HBW.out.trans (HBR.out.mono HBW.out.size))
      have HTS : Hid (((gss.map fun g => colL p o (prodL p f g))).take (k + 1) = ys ++ [colL p o (prodL p f (gss.getD k []))]) := by
        show _ = _
        rw [← HYS.out, take_snocL _ _ (by rw [List.length_map]; exact hk2), getD_mapL (fun g => colL p o (prodL p f g)) _ _ hk2]
      have HGK := hid (HG.out _ (getD_memL gss k hk2))
      generalize gss.getD k [] = g at d0 hpg HTS HGK
      have HPG := hid (hpg.below HBW.out)
      clear hpg
      obtain ⟨_, bx0, bx1, bx2, bx3⟩ := HBX.out
      have KEEP : Hid (∀ W, Below w1.heap.size w1 W → (Hid (Below w1.heap.size w1 W) ∧ W.cell? ⟨w.heap.size, 0, none⟩ = some (.int .i64 p) ∧ W.cell? ⟨w.heap.size, 1, none⟩ = some (.int .i64 n) ∧ W.cell? ⟨w.heap.size, 2, none⟩ = some (.int .i64 o) ∧ W.cell? ⟨w.heap.size, 3, none⟩ = some (.int .i64 v) ∧ W.cell? ⟨b2, off2 + k, none⟩ = some (.slice ga g.length gc))) :=
        fun W hb => ⟨hb, cell_keep bx0 hb, cell_keep bx1 hb, cell_keep bx2 hb, cell_keep bx3 hb, cell_keep (cell_keep d0 HBW.out) hb⟩
      have HB0 : Hid (Below w1.heap.size w1 wr.drew) := HBR.out.drew
      clear bx0 bx1 bx2 bx3 d0
      go_wp2
      go_region_held_law (fun W => Hid (Below w1.heap.size w1 W) ∧ W.cell? ⟨w.heap.size, 0, none⟩ = some (.int .i64 p) ∧ W.cell? ⟨w.heap.size, 1, none⟩ = some (.int .i64 n) ∧ W.cell? ⟨w.heap.size, 2, none⟩ = some (.int .i64 o) ∧ W.cell? ⟨w.heap.size, 3, none⟩ = some (.int .i64 v) ∧ W.cell? ⟨b2, off2 + k, none⟩ = some (.slice ga g.length gc))
        (first | exact KEEP.out _ HB0.out | exact KEEP.out _ HB7.out | exact KEEP.out _ (HB6.out.trans (belowNew.mono HB6.out.size)) | exact KEEP.out _ HB6.out)
        (first
          | (refine step_append_prow rfl (.tmp 15) (.tmp 23) 25 rfl Tryz.underlying25 w1.heap.size (.slice za ys.length zc) us ys (by simp [Act.eval, Act.put]) (PR6.out.next belowNew) ⟨w6.heap.size, 0, none⟩ 1 (.slice ua6 (colL p o (prodL p f g)).length uc6) (colL p o (prodL p f g)) (HU6.out.below belowNew) (by simp [Act.eval, Act.put]) (one_newP _ _ _) (by rw [HTL.out]; omega) (Nat.le_trans HB6.out.size (by simp)) ?_; intro v7 w7 r1 r2; have HB7 := hid (show Below w1.heap.size w1 w7 from (PR6.out.next belowNew).grown (HB6.out.trans (belowNew.mono HB6.out.size)) r2 (Nat.le_refl _)); obtain ⟨va7, vc7, hv7⟩ := own_sl r1.own; rw [len_snoc] at hv7; subst hv7; have HR7 := hid r1; clear r1 r2)
          | (go_at_call 74; refine (refProduct_any p n o v N _ _ f g _ HP.out HO.out hN0 hN HF.out.canon.len HGK.out.canon.len ?_ ?_ HF.out.bd HGK.out.bd HF.out.len HGK.out.len ?_ ?_).mono ?_; exact (fun t ht => ⟨by have := HF.out.canon.coef t ht; omega, (HF.out.canon.coef t ht).2⟩); exact (fun t ht => ⟨by have := HGK.out.canon.coef t ht; omega, (HGK.out.canon.coef t ht).2⟩); exact (HX.out.below HBW.out).below HB0.out; exact HPG.out.below HB0.out; rintro e w6 ⟨u6, rfl, hu6, hb6⟩; have PR6 := hid (HROW.out.next (((Below.refl wr.heap.size wr).drew).trans hb6)); have HB6 := hid (show Below w1.heap.size w1 w6 from HB0.out.trans (hb6.mono HB0.out.size)); have HU6 := hid hu6; obtain ⟨ua6, uc6, rfl, _, _⟩ := hu6; clear hb6))
      all_goals
        go_wp2
        first
          | exact ⟨⟨k + 1, us ++ [_], by omega, by go_num, by rw [HTS.out]; exact HR7.out, HB7.out⟩, by simp [intOf]; omega⟩
          | (go_roundw
             case rel => exact ⟨k + 1, us ++ [_], by omega, by go_num, by rw [HTS.out]; exact HR7.out, HB7.out⟩
             case measure => simp [intOf]; omega)
    · have e : k = gss.length := by omega
      subst e
      have HE : Hid ((gss.map fun g => colL p o (prodL p f g)) = ys) := by show _ = _; rw [← HYS.out, List.take_of_length_le (by rw [List.length_map]; exact Nat.le_refl _)]
      have HV := hid HROW.out.vl
      go_wp2
      go_ret
      exact ⟨_, rfl, by rw [HE.out]; exact HV.out, HBW.out.trans (HBR.out.mono HBW.out.size)⟩

end Go.Proofs.YtkmjmmnnnbjghaaGreat

/- CheckList, CheckVectors, CheckAlike of the reference. -/
namespace Go.Proofs.YtkmjmmnnnbjghaaGreat
set_option linter.unusedSimpArgs false
set_option linter.unusedVariables false
open Go.RowKit

/-- A list of vectors. -/
def VlsAt (w : World) (b off : Nat) (vss : List (List (List Tm))) : Prop :=
  ∀ i, i < vss.length → ∃ v, w.cell? ⟨b, off + i, none⟩ = some v ∧ Vl w v (vss.getD i [])
theorem VlsAt.below {w w' : World} {b off : Nat} {vss : List (List (List Tm))} (h : VlsAt w b off vss) (hlt : b < w.heap.size) (hb : Below w.heap.size w w') : VlsAt w' b off vss := by
  intro i hi
  obtain ⟨v, hc, hs⟩ := h i hi
  exact ⟨v, by rw [hb.cell (p := ⟨b, off + i, none⟩) hlt]; exact hc, hs.below hb⟩
def Wl (w : World) (v : Value) (vss : List (List (List Tm))) : Prop :=
  ∃ a cap, v = .slice a vss.length cap ∧ (0 < vss.length → ∃ b off, a = some ⟨b, off, none⟩ ∧ b < w.heap.size ∧ VlsAt w b off vss)
theorem Wl.below {w w' : World} {v : Value} {vss : List (List (List Tm))} (h : Wl w v vss) (hb : Below w.heap.size w w') : Wl w' v vss := by
  obtain ⟨a, cap, rfl, h⟩ := h
  refine ⟨a, cap, rfl, fun hp => ?_⟩
  obtain ⟨b, off, rfl, hlt, hc⟩ := h hp
  exact ⟨b, off, rfl, Nat.lt_of_lt_of_le hlt hb.size, hc.below hlt hb⟩
theorem wl_at {w : World} {a : Option Addr} {c : Nat} {vss : List (List (List Tm))} (h : Wl w (.slice a vss.length c) vss) (k : Nat) (hk : k < vss.length) : ∃ b off va vc, a = some ⟨b, off, none⟩ ∧ b < w.heap.size ∧ w.cell? ⟨b, off + k, none⟩ = some (.slice va (vss.getD k []).length vc) ∧ Vl w (.slice va (vss.getD k []).length vc) (vss.getD k []) := by
  obtain ⟨a2, c2, e, h1⟩ := h
  obtain ⟨b, off, rfl, hlt, hat⟩ := h1 (by omega)
  simp only [Value.slice.injEq, true_and] at e
  obtain ⟨rfl, rfl⟩ := e
  obtain ⟨v, hc, hp⟩ := hat k hk
  have hp2 := hp
  obtain ⟨fa, fc, rfl, _⟩ := hp
  exact ⟨b, off, fa, fc, rfl, hlt, hc, hp2⟩
/-- The first that is not 0. -/
def firstZ {α : Type} (F : List α → Int) : List (List α) → Int
  | [] => 0
  | a :: r => if F a = 0 then firstZ F r else F a
theorem firstZ_drop {α : Type} (F : List α → Int) (l : List (List α)) (k : Nat) (h : k < l.length) : firstZ F (l.drop k) = if F (l.getD k []) = 0 then firstZ F (l.drop (k + 1)) else F (l.getD k []) := by
  rw [List.drop_eq_getElem_cons h]
  simp [firstZ, List.getD_eq_getElem?_getD, h]
theorem firstZ_ok {α : Type} {F : List α → Int} : ∀ {l : List (List α)}, firstZ F l = 0 → ∀ a ∈ l, F a = 0
  | [], _, a, ha => by simp at ha
  | b :: r, h, a, ha => by
    unfold firstZ at h
    by_cases hb : F b = 0
    · rw [if_pos hb] at h
      rcases List.mem_cons.1 ha with rfl | ha
      · exact hb
      · exact firstZ_ok h a ha
    · rw [if_neg hb] at h; exact absurd h hb
/-- What is told of a vector of a rank. -/
def errVec (p n o rank : Int) (fss : List (List Tm)) : Int := if (fss.length : Int) ≠ rank then 1 else firstOne p n o fss
def errList (p n o rank : Int) (vss : List (List (List Tm))) : Int := if betweenB rank 1 40 = false then 3 else if 60 < vss.length then 2 else firstZ (errVec p n o rank) vss
def errVecs (p n o v rank : Int) (vss : List (List (List Tm))) : Int := if errR p n o v ≠ 0 then errR p n o v else errList p n o rank vss

set_option maxRecDepth 100000 in
set_option maxHeartbeats 2000000 in
theorem checkList_any (p n o v rank : Int) (lv : Value) (vss : List (List (List Tm))) (w : World) (hR : errR p n o v = 0) (hs : Wl w lv vss) :
    Calls Tryz.prog 32 #[ringV p n o v, .int .i64 rank, lv] w fun e w' => e = .returned (.int .i64 (errList p n o rank vss)) ∧ Below w.heap.size w w' := by
  have HS := hid hs
  obtain ⟨la, lc, rfl, _⟩ := hs
  obtain ⟨hpr, hn1, hn2, ho, _⟩ := ring_ok hR
  have HP := hid (errP_bd hpr)
  have HN := hid (And.intro hn1 hn2)
  have HO := hid ho
  obtain ⟨w1, hw1⟩ : ∃ w1, w1 = w.alloc (.cells #[.int .i64 p, .int .i64 n, .int .i64 o, .int .i64 v] 23) := ⟨_, rfl⟩
  have hbx : BoxAt w1 w.heap.size p n o v := by rw [hw1]; exact BoxAt.new w p n o v _
  have hbw : Below w.heap.size w w1 := by rw [hw1]; exact below_oneG
  have HBX := hid hbx
  have HBW := hid hbw
  clear hR hpr ho hbx hbw
  cases hbt : betweenB rank 1 40
  · have HE : Hid (errList p n o rank vss = 3) := by show _ = _; unfold errList; rw [if_pos hbt]
    rw [HE.out]
    go_enter Tryz.func32, Tryz.ntmps32
    go_wp2_with (go_at_call 69; refine (between_any _ _ _ _).mono ?_; rw [hbt]; rintro e w' ⟨rfl, rfl⟩)
    go_ret
    rw [← hw1]
    exact ⟨rfl, HBW.out⟩
  · by_cases hlen : 60 < vss.length
    · have HE : Hid (errList p n o rank vss = 2) := by show _ = _; unfold errList; rw [if_neg (by rw [hbt]; simp), if_pos hlen]
      rw [HE.out]
      go_enter Tryz.func32, Tryz.ntmps32
      go_wp2_with (go_at_call 69; refine (between_any _ _ _ _).mono ?_; rw [hbt]; rintro e w' ⟨rfl, rfl⟩)
      go_ret
      rw [← hw1]
      exact ⟨rfl, HBW.out⟩
    · have HE : Hid (errList p n o rank vss = firstZ (errVec p n o rank) vss) := by show _ = _; unfold errList; rw [if_neg (by rw [hbt]; simp), if_neg hlen]
      rw [HE.out]
      have HRK : Hid (1 ≤ rank ∧ rank ≤ 40) := by simpa [betweenB, Hid] using hbt
      go_enter Tryz.func32, Tryz.ntmps32
      go_wp2_with (go_at_call 69; refine (between_any _ _ _ _).mono ?_; rw [hbt]; rintro e w' ⟨rfl, rfl⟩)
      rw [← hw1]
      clear hw1 hbt
      go_loopw [7] (fun i wr => ∃ k : Nat, k ≤ vss.length ∧ i = .int .i64 k ∧ firstZ (errVec p n o rank) vss = firstZ (errVec p n o rank) (vss.drop k) ∧ Below w1.heap.size w1 wr) (fun i _ => vss.length - (intOf i).toNat)
      case atStart => exact ⟨0, Nat.zero_le _, rfl, rfl, Below.refl _ _⟩
      case round =>
        obtain ⟨k, hk, rfl, her, hbr⟩ := hrel
        have HBR := hid hbr
        have HER0 := hid her
        clear hbr her
        by_cases hk2 : k < vss.length
        · have HER := hid (HER0.out.trans (firstZ_drop (errVec p n o rank) vss k hk2))
          obtain ⟨b, off, va, vc, rfl, hlt, c0, hvl⟩ := wl_at HS.out k hk2
          have HDN := hid (HBW.out.trans (HBR.out.mono HBW.out.size))
          generalize vss.getD k [] = fss at c0 hvl HER
          have HVL := hid hvl
          have d0 := cell_keep c0 HDN.out
          clear hvl
          cases hln : ((fss.length : Int) != rank)
          · have hrk : (fss.length : Int) = rank := by simpa using hln
            subst hrk
            have HEV : Hid (errVec p n o (fss.length : Int) fss = firstOne p n o fss) := by show _ = _; unfold errVec; rw [if_neg (by simp)]
            have hf40 : fss.length ≤ 40 := by have := HRK.out; omega
            clear hln
            go_wp2_with fail
            go_loopw [8] (fun i wm => ∃ j : Nat, j ≤ fss.length ∧ i = .int .i64 j ∧ firstOne p n o fss = firstOne p n o (fss.drop j) ∧ Below w1.heap.size w1 wm) (fun i _ => fss.length - (intOf i).toNat)
            case atStart => exact ⟨0, Nat.zero_le _, rfl, rfl, HBR.out⟩
            case round =>
              clear d0
              obtain ⟨j, hj, rfl, hej, hbm⟩ := hrel
              have HBM := hid hbm
              have HEJ := hid hej
              clear hbm hej
              by_cases hj2 : j < fss.length
              · have HFJ := hid (HEJ.out.trans (firstOne_drop p n o fss j hj2))
                obtain ⟨b2, off2, fa, fc, rfl, hlt2, e0, hpf⟩ := vl_at HVL.out j hj2
                generalize fss.getD j [] = f at e0 hpf HFJ
                have HPF := hid (hpf.below HBW.out)
                obtain ⟨_, bx0, bx1, bx2, bx3⟩ := HBX.out
                have KEEP : Hid (∀ W, Below w1.heap.size w1 W → (Hid (Below w1.heap.size w1 W) ∧ W.cell? ⟨w.heap.size, 0, none⟩ = some (.int .i64 p) ∧ W.cell? ⟨w.heap.size, 1, none⟩ = some (.int .i64 n) ∧ W.cell? ⟨w.heap.size, 2, none⟩ = some (.int .i64 o) ∧ W.cell? ⟨w.heap.size, 3, none⟩ = some (.int .i64 v) ∧ W.cell? ⟨b, off + k, none⟩ = some (.slice (some ⟨b2, off2, none⟩) fss.length vc) ∧ W.cell? ⟨b2, off2 + j, none⟩ = some (.slice fa f.length fc))) :=
                  fun W hb => ⟨hb, cell_keep bx0 hb, cell_keep bx1 hb, cell_keep bx2 hb, cell_keep bx3 hb, cell_keep (cell_keep c0 HBW.out) hb, cell_keep (cell_keep e0 HBW.out) hb⟩
                have HB0 : Hid (Below w1.heap.size w1 wr.drew) := HBM.out.drew
                clear bx0 bx1 bx2 bx3 e0 hpf
                go_wp2_with fail
                go_region_held (fun W => Hid (Below w1.heap.size w1 W) ∧ W.cell? ⟨w.heap.size, 0, none⟩ = some (.int .i64 p) ∧ W.cell? ⟨w.heap.size, 1, none⟩ = some (.int .i64 n) ∧ W.cell? ⟨w.heap.size, 2, none⟩ = some (.int .i64 o) ∧ W.cell? ⟨w.heap.size, 3, none⟩ = some (.int .i64 v) ∧ W.cell? ⟨b, off + k, none⟩ = some (.slice (some ⟨b2, off2, none⟩) fss.length vc) ∧ W.cell? ⟨b2, off2 + j, none⟩ = some (.slice fa f.length fc))
                  (first | exact KEEP.out _ HB0.out | exact KEEP.out _ (HB0.out.trans (hb9.mono HB0.out.size)))
                  (first | (go_at_call 70; refine (checkOne_any p n o v _ f _ HP.out HN.out HO.out ?_).mono ?_; exact HPF.out.below HB0.out; rintro e w9 ⟨rfl, hb9⟩))
                have HB9 := hid (show Below w1.heap.size w1 w9 from HB0.out.trans (hb9.mono HB0.out.size))
                clear hb9
                cases hz : (errOne p n o f != 0)
                · have HZ : Hid (errOne p n o f = 0) := by simpa [Hid] using hz
                  go_wp2_with fail
                  go_roundw
                  case rel => exact ⟨j + 1, by omega, by go_num, by rw [HFJ.out, if_pos HZ.out], HB9.out⟩
                  case measure => simp [intOf]; omega
                · have HZ : Hid (errOne p n o f ≠ 0) := by simpa [Hid] using hz
                  go_wp2_with fail
                  go_ret
                  exact ⟨ret_int (by
                    have h : firstOne p n o fss = errOne p n o f := by rw [HFJ.out, if_neg HZ.out]
                    rw [HER.out, HEV.out, h, if_neg HZ.out]), HBW.out.trans (HB9.out.mono HBW.out.size)⟩
              · have hz : firstOne p n o fss = 0 := by rw [HEJ.out, List.drop_eq_nil_of_le (by omega)]; rfl
                have HZ := hid hz
                clear hz
                go_wp2_with fail
                go_roundw
                case rel => exact ⟨k + 1, by omega, by go_num, by rw [HER.out, HEV.out, if_pos HZ.out], HBM.out⟩
                case measure => simp [intOf]; omega
          · have HEV : Hid (errVec p n o rank fss = 1) := by show _ = _; unfold errVec; rw [if_pos (by simpa using hln)]
            go_wp2_with fail
            go_ret
            exact ⟨ret_int (by rw [HER.out, HEV.out]; simp), HBW.out.trans (HBR.out.mono HBW.out.size)⟩
        · go_wp2
          go_ret
          exact ⟨ret_int (by rw [HER0.out, List.drop_eq_nil_of_le (by omega)]; rfl), HBW.out.trans (HBR.out.mono HBW.out.size)⟩

set_option maxRecDepth 100000 in
set_option maxHeartbeats 1000000 in
theorem checkVectors_any (p n o v rank : Int) (lv : Value) (vss : List (List (List Tm))) (w : World) (hs : Wl w lv vss) :
    Calls Tryz.prog 31 #[ringV p n o v, .int .i64 rank, lv] w fun e w' => e = .returned (.int .i64 (errVecs p n o v rank vss)) ∧ Below w.heap.size w w' := by
  have HS := hid hs
  obtain ⟨la, lc, rfl, _⟩ := hs
  cases hR : (errR p n o v == 0)
  · have HE : Hid (errVecs p n o v rank vss = errR p n o v) := by show _ = _; unfold errVecs; rw [if_pos (by simpa using hR)]
    rw [HE.out]
    go_enter Tryz.func31, Tryz.ntmps31
    go_wp2_with (go_at_call 68; refine (checkRing_any _ _ _ _ _).mono ?_; rintro e w1 ⟨rfl, hb1⟩; have HB1 := hid (show Below w.heap.size w w1 from below_oneG.trans (hb1.mono (by simp))); clear hb1)
    go_ret
    exact ⟨rfl, HB1.out⟩
  · have hR0 : errR p n o v = 0 := by simpa using hR
    have HR := hid hR0
    have HE : Hid (errVecs p n o v rank vss = errList p n o rank vss) := by show _ = _; unfold errVecs; rw [if_neg (by simpa using hR0)]
    rw [HE.out]
    clear hR0
    go_enter Tryz.func31, Tryz.ntmps31
    go_wp2_with fail
    refine (checkRing_any _ _ _ _ _).mono ?_
    rw [HR.out]
    rintro e w1 ⟨rfl, hb1⟩
    have HB1 := hid (show Below w.heap.size w w1 from below_oneG.trans (hb1.mono (by simp)))
    obtain ⟨_, bx0, bx1, bx2, bx3⟩ := (BoxAt.new w p n o v 23).below hb1
    clear hb1
    go_wp2_with fail
    refine (checkList_any p n o v rank _ vss _ HR.out (HS.out.below HB1.out)).mono ?_
    rintro e w2 ⟨rfl, hb2⟩
    have HB2 := hid (HB1.out.trans (hb2.mono HB1.out.size))
    clear hb2
    go_wp2
    go_ret
    exact ⟨rfl, HB2.out⟩

end Go.Proofs.YtkmjmmnnnbjghaaGreat

/- CheckAlike of the reference. -/
namespace Go.Proofs.YtkmjmmnnnbjghaaGreat
set_option linter.unusedSimpArgs false
set_option linter.unusedVariables false
open Go.RowKit

def badR (fss : List (List Tm)) : Bool := !betweenB (fss.length : Int) 1 40
def unlV (m : Nat) (fss : List (List Tm)) : Bool := decide (fss.length ≠ m)
def errAlike (p n o v : Int) (vss : List (List (List Tm))) : Int :=
  if errR p n o v ≠ 0 then errR p n o v else if vss.any badR then 3 else if vss.any (unlV (vss.getD 0 []).length) then 1 else firstZ (firstOne p n o) vss
theorem unl_no {fss : List (List Tm)} {m : Nat} (h : ((fss.length : Int) != (m : Int)) = false) : unlV m fss = false := by
  have h1 : (fss.length : Int) = m := by simpa using h
  unfold unlV; exact decide_eq_false (by omega)
theorem unl_yes {fss : List (List Tm)} {m : Nat} (h : ((fss.length : Int) != (m : Int)) = true) : unlV m fss = true := by
  have h1 : ¬ (fss.length : Int) = m := by simpa using h
  unfold unlV; exact decide_eq_true (by omega)
theorem take_snocV {α : Type} (l : List (List α)) (k : Nat) (h : k < l.length) : l.take (k + 1) = l.take k ++ [l.getD k []] := by
  rw [List.take_succ_eq_append_getElem h]; simp [List.getD_eq_getElem?_getD, h]
theorem any_takeV {α : Type} (f : List α → Bool) (l : List (List α)) (k : Nat) (h : k < l.length) (h0 : (l.take k).any f = false) (h1 : f (l.getD k []) = false) : (l.take (k + 1)).any f = false := by
  rw [take_snocV _ _ h, List.any_append, h0]; simpa using h1
theorem getD_memV {α : Type} (l : List (List α)) (k : Nat) (h : k < l.length) : l.getD k [] ∈ l := by
  rw [List.getD_eq_getElem?_getD, List.getElem?_eq_getElem h]; simp
theorem any_atV {α : Type} (f : List α → Bool) (l : List (List α)) (k : Nat) (h : k < l.length) (h1 : f (l.getD k []) = true) : l.any f = true := by
  rw [List.any_eq_true]; exact ⟨_, getD_memV l k h, h1⟩
theorem badR_len {vss : List (List (List Tm))} (h : vss.any badR = false) {f : List (List Tm)} (hf : f ∈ vss) : f.length ≤ 1200000000000 := by
  have h1 := List.any_eq_false.1 h f hf
  simp [badR, betweenB] at h1
  omega

end Go.Proofs.YtkmjmmnnnbjghaaGreat

/- Plain mathematics: degrees of sums and products. -/
namespace Go.Proofs.YtkmjmmnnnbjghaaGreat
set_option linter.unusedSimpArgs false
set_option linter.unusedVariables false

theorem fold_mem {p o : Int} : ∀ (l out : List Tm) (x : Tm), x ∈ l.foldl (ins p o) out → (∃ y ∈ l, x.2 = y.2) ∨ ∃ u ∈ out, x.2 = u.2
  | [], out, x, h => Or.inr ⟨x, h, rfl⟩
  | t :: l, out, x, h => by
    rcases fold_mem l (ins p o out t) x h with ⟨y, hy, e⟩ | ⟨u, hu, e⟩
    · exact Or.inl ⟨y, by simp [hy], e⟩
    · rcases ins_mem hu with e2 | ⟨y, hy, e2⟩
      · exact Or.inl ⟨t, by simp, by rw [e, e2]⟩
      · exact Or.inr ⟨y, hy, by rw [e, e2]⟩
theorem col_mem {p o : Int} {l : List Tm} {x : Tm} (h : x ∈ colL p o l) : ∃ y ∈ l, x.2 = y.2 := by
  rcases fold_mem l [] x (List.mem_filter.1 h).1 with h | ⟨u, hu, _⟩
  · exact h
  · simp at hu
theorem ordS_sum {o : Int} {xs ys : List Int} (h : 0 < ordS o xs ys) : sumI ys ≤ sumI xs := by
  have h2 := cmpI_vals (sumI xs) (sumI ys)
  unfold ordS at h
  by_cases hz : cmpI (sumI xs) (sumI ys) = 0
  · omega
  · rw [if_neg hz] at h; omega
theorem topF_ge : ∀ (ts : List Tm) (m : Int), m ≤ topF m ts ∧ ∀ x ∈ ts, sumI x.2 ≤ topF m ts
  | [], m => ⟨Int.le_refl _, fun x hx => by simp at hx⟩
  | t :: ts, m => by
    have h := topF_ge ts (if m < sumI t.2 then sumI t.2 else m)
    simp only [topF]
    have hm : m ≤ (if m < sumI t.2 then sumI t.2 else m) ∧ sumI t.2 ≤ (if m < sumI t.2 then sumI t.2 else m) := by split <;> omega
    refine ⟨Int.le_trans hm.1 h.1, fun x hx => ?_⟩
    rcases List.mem_cons.1 hx with rfl | hx
    · exact Int.le_trans hm.2 h.1
    · exact h.2 x hx
theorem topF_le {B : Int} : ∀ (ts : List Tm) (m : Int), (∀ x ∈ ts, sumI x.2 ≤ B) → m ≤ B → topF m ts ≤ B
  | [], m, _, hm => hm
  | t :: ts, m, h, hm => by
    simp only [topF]
    refine topF_le ts _ (fun x hx => h x (by simp [hx])) ?_
    have := h t (by simp)
    split <;> omega
theorem great_small {ts : List Tm} (h : ∀ x ∈ ts, sumI x.2 ≤ 200) : greatB ts = decide (2000 < ts.length) := by
  unfold greatB
  have := topF_le ts (-1) h (by omega)
  rw [decide_eq_false (by omega), Bool.false_or]
theorem great_large {ts : List Tm} {x : Tm} (hx : x ∈ ts) (h : 200 < sumI x.2) : greatB ts = true := by
  unfold greatB
  have := (topF_ge ts (-1)).2 x hx
  rw [decide_eq_true (by omega), Bool.true_or]
theorem right_head {p o : Int} {N : Nat} {t : Tm} {ts : List Tm} (h : Canon p o N (t :: ts)) : ∀ x ∈ t :: ts, sumI x.2 ≤ sumI t.2 := by
  intro x hx
  rcases List.mem_cons.1 hx with rfl | hx
  · exact Int.le_refl _
  · exact ordS_sum (h.falls.1 x hx)
theorem prod_deg {p o : Int} {N : Nat} {t u : Tm} {f g : List Tm} (hf : Canon p o N (t :: f)) (hg : Canon p o N (u :: g)) : ∀ x ∈ colL p o (prodL p (t :: f) (u :: g)), sumI x.2 ≤ sumI t.2 + sumI u.2 := by
  intro x hx
  obtain ⟨y, hy, e⟩ := col_mem hx
  simp only [Go.Proofs.YtkmjmmnnnbjghaaGreat.prodL, prodT, List.mem_flatMap, List.mem_map] at hy
  obtain ⟨a, ha, b, hb, rfl⟩ := hy
  rw [e]
  simp only
  rw [sumI_zip _ _ (by rw [hf.len a ha, hg.len b hb])]
  have h1 := right_head hf a ha
  have h2 := right_head hg b hb
  omega
theorem prod_lead {p o : Int} {N : Nat} (he : errP p = 0) {t u : Tm} {f g : List Tm} (hf : Canon p o N (t :: f)) (hg : Canon p o N (u :: g)) : ∃ x ∈ colL p o (prodL p (t :: f) (u :: g)), x.2 = zipI (· + ·) t.2 u.2 := by
  apply Classical.byContradiction
  intro hno
  have hz : lin (delta (zipI (· + ·) t.2 u.2)) (colL p o (prodL p (t :: f) (u :: g))) = 0 := lin_delta_none (fun x hx e => hno ⟨x, hx, e⟩)
  have hl := lin_col p o (delta (zipI (· + ·) t.2 u.2)) (prodL p (t :: f) (u :: g))
  rw [hz] at hl
  have lt := hf.len t (by simp)
  have lu := hg.len u (by simp)
  have e0 : prodL p (t :: f) (u :: g) = (t.1 * u.1 % p, zipI (· + ·) t.2 u.2) :: (prodT p t g ++ prodL p f (u :: g)) := rfl
  have hne : ∀ x ∈ prodT p t g ++ prodL p f (u :: g), x.2 ≠ zipI (· + ·) t.2 u.2 := by
    intro x hx e
    have pos : 0 < ordS o (zipI (· + ·) t.2 u.2) x.2 := by
      rcases List.mem_append.1 hx with hx | hx
      · simp only [prodT, List.mem_map] at hx
        obtain ⟨b, hb, rfl⟩ := hx
        have lb := hg.len b (by simp [hb])
        simp only
        rw [zip_comm t.2 u.2, zip_comm t.2 b.2, ordS_add o u.2 b.2 t.2 (by omega) (by omega)]
        exact hg.falls.1 b hb
      · simp only [Go.Proofs.YtkmjmmnnnbjghaaGreat.prodL, prodT, List.mem_flatMap, List.mem_map] at hx
        obtain ⟨a, ha, b, hb, rfl⟩ := hx
        have la := hf.len a (by simp [ha])
        have lb := hg.len b hb
        simp only
        have h1 : 0 < ordS o (zipI (· + ·) t.2 u.2) (zipI (· + ·) a.2 u.2) := by
          rw [ordS_add o t.2 a.2 u.2 (by omega) (by omega)]; exact hf.falls.1 a ha
        rcases List.mem_cons.1 hb with rfl | hb
        · exact h1
        · have h2 : 0 < ordS o (zipI (· + ·) a.2 u.2) (zipI (· + ·) a.2 b.2) := by
            rw [zip_comm a.2 u.2, zip_comm a.2 b.2, ordS_add o u.2 b.2 a.2 (by omega) (by omega)]; exact hg.falls.1 b hb
          exact ordS_trans o _ _ _ (by rw [zipI_len _ _ _ (by omega), zipI_len _ _ _ (by omega)]; omega) (by rw [zipI_len _ _ _ (by omega), zipI_len _ _ _ (by omega)]) h1 h2
    rw [e] at pos
    have := (ordS_zero o (zipI (· + ·) t.2 u.2) (zipI (· + ·) t.2 u.2) rfl).2 rfl
    omega
  rw [e0] at hl
  simp only [lin] at hl
  rw [lin_delta_none hne] at hl
  have h1 := prime_mulI he (hf.coef t (by simp)).1 (hf.coef t (by simp)).2 (hg.coef u (by simp)).1 (hg.coef u (by simp)).2
  have h2 : delta (zipI (· + ·) t.2 u.2) (zipI (· + ·) t.2 u.2) = 1 := by unfold delta; rw [if_pos rfl]
  rw [h2] at hl
  have h3 := dvd_neg hl
  have := Int.le_of_dvd (by omega) h3
  omega
/-- Too great: just if the degrees' sum is, or there are too many terms. -/
theorem great_prod {p o : Int} {N : Nat} (he : errP p = 0) {t u : Tm} {f g : List Tm} (hf : Canon p o N (t :: f)) (hg : Canon p o N (u :: g)) :
    greatB (colL p o (prodL p (t :: f) (u :: g))) = (decide (200 < sumI t.2 + sumI u.2) || decide (2000 < (colL p o (prodL p (t :: f) (u :: g))).length)) := by
  by_cases h : 200 < sumI t.2 + sumI u.2
  · obtain ⟨x, hx, e⟩ := prod_lead he hf hg
    rw [great_large hx (by rw [e, sumI_zip _ _ (by rw [hf.len t (by simp), hg.len u (by simp)])]; exact h), decide_eq_true h, Bool.true_or]
  · rw [great_small (fun x hx => by have := prod_deg hf hg x hx; omega), decide_eq_false h, Bool.false_or]
theorem great_none {p o : Int} {f g : List Tm} (h : f = [] ∨ g = []) : colL p o (prodL p f g) = [] := by
  rcases h with rfl | rfl
  · rfl
  · have : prodL p f [] = [] := by
      unfold Go.Proofs.YtkmjmmnnnbjghaaGreat.prodL
      induction f with
      | nil => rfl
      | cons t f ih => simp [prodT]
    rw [this]; rfl
theorem sum_deg {p o : Int} {N : Nat} {f g : List Tm} (hf : Right p o N f) (hg : Right p o N g) : ∀ x ∈ colL p o (f ++ g), sumI x.2 ≤ 200 := by
  intro x hx
  obtain ⟨y, hy, e⟩ := col_mem hx
  rw [e]
  exact (List.mem_append.1 hy).elim (hf.deg y) (hg.deg y)

end Go.Proofs.YtkmjmmnnnbjghaaGreat
