/- Polynomials of which nothing lies in one block; Sum of the reference. -/
import Derived.Test.YtilogbggilchaaaWB
namespace Go.Proofs.Ytilogbggilchaaa
set_option linter.unusedSimpArgs false
set_option linter.unusedVariables false
open Go.RowKit
def PlX (g : Nat) (w : World) (v : Value) (ts : List Tm) : Prop :=
  ∃ (a : Option Addr) (cap : Nat) (us : List TV), v = .slice a us.length cap ∧ us.length ≤ cap ∧ us.map tm = ts ∧ Es w us ∧ (∀ t ∈ us, ApartO (some g) t.2.1) ∧
    (0 < us.length → ∃ b off, a = some ⟨b, off, none⟩ ∧ b < w.heap.size ∧ b ≠ g ∧ ∀ j u, (flat us)[j]? = some u → w.cell? ⟨b, off + j, none⟩ = some u)
theorem PlX.pl {g : Nat} {w : World} {v : Value} {ts : List Tm} (h : PlX g w v ts) : Pl w v ts := by
  obtain ⟨a, cap, us, rfl, hc, rfl, he, _, h1⟩ := h
  refine ⟨a, cap, by rw [List.length_map], by rw [List.length_map]; exact hc, fun hp => ?_⟩
  rw [List.length_map] at hp
  obtain ⟨b, off, rfl, hlt, _, hcs⟩ := h1 hp
  refine ⟨b, off, rfl, hlt, fun i hi => ?_⟩
  rw [List.length_map] at hi
  rw [tm_at us i hi]
  have h2 := flat_at us i hi
  exact ⟨hcs _ _ h2.1, _, hcs _ _ h2.2, he _ (tv_mem us i hi)⟩
theorem PlX.below {g : Nat} {w w' : World} {v : Value} {ts : List Tm} (h : PlX g w v ts) (hb : Below w.heap.size w w') : PlX g w' v ts := by
  obtain ⟨a, cap, us, rfl, hc, hm, he, ha, h1⟩ := h
  refine ⟨a, cap, us, rfl, hc, hm, he.below hb, ha, fun hp => ?_⟩
  obtain ⟨b, off, rfl, hlt, hne, hcs⟩ := h1 hp
  exact ⟨b, off, rfl, Nat.lt_of_lt_of_le hlt hb.size, hne, fun j u hj => cell_keep (hcs j u hj) hb⟩
theorem own_plx {g : Nat} {w : World} {B : Nat} {v : Value} {ts : List TV} (h : w.ownsRow B 34 2 v ts.length (flat ts)) (he : Es w ts) (ha : ∀ t ∈ ts, ApartO (some g) t.2.1) (hg : g < B) : PlX g w v (ts.map tm) := by
  rcases h.2 with ⟨h1, h2⟩ | ⟨b, cap, cur, rfl, hb, hh, hn, hm, hcs, ht⟩
  · exact ⟨none, 0, ts, by rw [h1, h2], by omega, rfl, he, ha, fun hp => by omega⟩
  · have hlt := World.ownsRow.lt h b rfl
    refine ⟨_, cap, ts, rfl, hn, rfl, he, ha, fun hp => ⟨b, 0, rfl, hlt.2, by omega, fun j u hj => ?_⟩⟩
    have hjl : j < ts.length * 2 := by
      rw [← flat_len]
      apply Nat.lt_of_not_le; intro hle; rw [List.getElem?_eq_none hle] at hj; simp at hj
    rw [Nat.zero_add, h.cellAt j hjl]; exact hj
theorem plx_of {g : Nat} {w : World} {v : Value} {ts : List Tm} (h : Pl w v ts) (hn : ∀ t ∈ ts, 0 < t.2.length) (hg : w.heap.size ≤ g) : PlX g w v ts := by
  obtain ⟨a, cap, us, rfl, hc, rfl, he, h1⟩ := h.tvs
  refine ⟨a, cap, us, rfl, hc, rfl, he, fun t ht => ?_, fun hp => ?_⟩
  · obtain ⟨a2, c2, e, h2⟩ := he t ht
    obtain ⟨b, off, rfl, hlt, _⟩ := h2 (hn (tm t) (List.mem_map_of_mem ht))
    intro b2 off2 n c e2 e3
    rw [e] at e2
    simp only [Value.slice.injEq, Option.some.injEq, Addr.mk.injEq] at e2 e3
    omega
  · obtain ⟨b, off, rfl, hlt, hcs⟩ := h1 hp
    exact ⟨b, off, rfl, hlt, by omega, hcs⟩
theorem plx_keep {g g2 : Nat} {w w' : World} (hk : SlK w g2) (hg : w.grownBy w' (some g2)) {v : Value} {ts : List Tm} (h : PlX g w v ts) : PlX g w' v ts := by
  obtain ⟨a, cap, us, rfl, hc, hm, he, ha, h1⟩ := h
  refine ⟨a, cap, us, rfl, hc, hm, fun t ht => sl_keep hk hg (he t ht), ha, fun hp => ?_⟩
  obtain ⟨b, off, rfl, hlt, hne, hcs⟩ := h1 hp
  have hne2 : b ≠ g2 := by
    intro e
    subst e
    obtain ⟨_, _, _, hx⟩ := hk _ _ (hcs _ _ (flat_at us 0 hp).1)
    cases hx
  exact ⟨b, off, rfl, Nat.lt_of_lt_of_le hlt hg.size, hne, fun j u hj => by rw [cell_far hg hlt hne2]; exact hcs j u hj⟩
theorem PlX.grown {g : Nat} {w w' : World} {v : Value} {ts : List Tm} (h : PlX g w v ts) (hg : w.grownBy w' (some g)) : PlX g w' v ts := by
  obtain ⟨a, cap, us, rfl, hc, hm, he, ha, h1⟩ := h
  refine ⟨a, cap, us, rfl, hc, hm, fun t ht => grown_slO hg (he t ht) (ha t ht), ha, fun hp => ?_⟩
  obtain ⟨b, off, rfl, hlt, hne, hcs⟩ := h1 hp
  exact ⟨b, off, rfl, Nat.lt_of_lt_of_le hlt hg.size, hne, fun j u hj => by rw [cell_far hg hlt hne]; exact hcs j u hj⟩

def VlX (g : Nat) (w : World) (v : Value) (fss : List (List Tm)) : Prop :=
  ∃ a cap, v = .slice a fss.length cap ∧ (0 < fss.length → ∃ b off, a = some ⟨b, off, none⟩ ∧ b < w.heap.size ∧ b ≠ g ∧ ∀ i, i < fss.length → ∃ u, w.cell? ⟨b, off + i, none⟩ = some u ∧ PlX g w u (fss.getD i []))
theorem VlX.vl {g : Nat} {w : World} {v : Value} {fss : List (List Tm)} (h : VlX g w v fss) : Vl w v fss := by
  obtain ⟨a, cap, rfl, h1⟩ := h
  refine ⟨a, cap, rfl, fun hp => ?_⟩
  obtain ⟨b, off, rfl, hlt, _, hc⟩ := h1 hp
  refine ⟨b, off, rfl, hlt, fun i hi => ?_⟩
  obtain ⟨u, h2, h3⟩ := hc i hi
  exact ⟨u, h2, h3.pl⟩
theorem VlX.below {g : Nat} {w w' : World} {v : Value} {fss : List (List Tm)} (h : VlX g w v fss) (hb : Below w.heap.size w w') : VlX g w' v fss := by
  obtain ⟨a, cap, rfl, h1⟩ := h
  refine ⟨a, cap, rfl, fun hp => ?_⟩
  obtain ⟨b, off, rfl, hlt, hne, hc⟩ := h1 hp
  refine ⟨b, off, rfl, Nat.lt_of_lt_of_le hlt hb.size, hne, fun i hi => ?_⟩
  obtain ⟨u, h2, h3⟩ := hc i hi
  exact ⟨u, cell_keep h2 hb, h3.below hb⟩
theorem VlX.grown {g : Nat} {w w' : World} {v : Value} {fss : List (List Tm)} (h : VlX g w v fss) (hg : w.grownBy w' (some g)) : VlX g w' v fss := by
  obtain ⟨a, cap, rfl, h1⟩ := h
  refine ⟨a, cap, rfl, fun hp => ?_⟩
  obtain ⟨b, off, rfl, hlt, hne, hc⟩ := h1 hp
  refine ⟨b, off, rfl, Nat.lt_of_lt_of_le hlt hg.size, hne, fun i hi => ?_⟩
  obtain ⟨u, h2, h3⟩ := hc i hi
  exact ⟨u, by rw [cell_far hg hlt hne]; exact h2, h3.grown hg⟩
theorem vlx_of {g : Nat} {w : World} {v : Value} {fss : List (List Tm)} (h : Vl w v fss) (hn : ∀ f ∈ fss, ∀ t ∈ f, 0 < t.2.length) (hg : w.heap.size ≤ g) : VlX g w v fss := by
  obtain ⟨a, cap, rfl, h1⟩ := h
  refine ⟨a, cap, rfl, fun hp => ?_⟩
  obtain ⟨b, off, rfl, hlt, hc⟩ := h1 hp
  refine ⟨b, off, rfl, hlt, by omega, fun i hi => ?_⟩
  obtain ⟨u, h2, h3⟩ := hc i hi
  exact ⟨u, h2, plx_of h3 (hn _ (getD_memL fss i hi)) hg⟩
theorem VlX.nil (g : Nat) (w : World) : VlX g w (.slice none 0 0) [] := ⟨none, 0, rfl, fun h => absurd h (by simp)⟩
theorem vlx_at {g : Nat} {w : World} {a : Option Addr} {c : Nat} {fss : List (List Tm)} (h : VlX g w (.slice a fss.length c) fss) (k : Nat) (hk : k < fss.length) : ∃ b off fa fc, a = some ⟨b, off, none⟩ ∧ b < w.heap.size ∧ w.cell? ⟨b, off + k, none⟩ = some (.slice fa (fss.getD k []).length fc) ∧ PlX g w (.slice fa (fss.getD k []).length fc) (fss.getD k []) := by
  obtain ⟨a2, c2, e, h1⟩ := h
  obtain ⟨b, off, rfl, hlt, _, hat⟩ := h1 (by omega)
  simp only [Value.slice.injEq, true_and] at e
  obtain ⟨rfl, rfl⟩ := e
  obtain ⟨v, hc, hp⟩ := hat k hk
  have hp2 := hp
  obtain ⟨fa, fc, rfl, _, _⟩ := hp.pl
  exact ⟨b, off, fa, fc, rfl, hlt, hc, hp2⟩

structure PRowX (g B : Nat) (w : World) (v : Value) (us : List Value) (fss : List (List Tm)) : Prop where
  row : PRow B w v us fss
  pls : ∀ i, i < fss.length → PlX g w (us.getD i nilV) (fss.getD i [])
theorem PRowX.own {g B : Nat} {w : World} {v : Value} {us : List Value} {fss : List (List Tm)} (h : PRowX g B w v us fss) : w.ownsRow B 25 1 v fss.length us := h.row.own
theorem PRowX.next {g B : Nat} {w w' : World} {v : Value} {us : List Value} {fss : List (List Tm)} (h : PRowX g B w v us fss) (hb : Below w.heap.size w w') : PRowX g B w' v us fss :=
  ⟨h.row.next hb, fun i hi => (h.pls i hi).below hb⟩
theorem PRowX.nil (g B : Nat) (w : World) : PRowX g B w (.slice none 0 0) [] [] := ⟨PRow.nil _ _, fun i hi => by simp at hi⟩
theorem PRowX.vlx {g B : Nat} {w : World} {v : Value} {us : List Value} {fss : List (List Tm)} (h : PRowX g B w v us fss) (hg : g < B) : VlX g w v fss := by
  obtain ⟨a, c, rfl⟩ := own_sl h.row.own
  refine ⟨a, c, rfl, fun hp => ?_⟩
  obtain ⟨b, rfl, hB, hlt, _⟩ := own_at1 h.row.own 0 hp
  refine ⟨b, 0, rfl, hlt, by omega, fun i hi => ?_⟩
  obtain ⟨b2, hb2, _, _, hc⟩ := own_at1 h.row.own i hi
  simp only [Option.some.injEq, Addr.mk.injEq, and_true] at hb2
  subst hb2
  refine ⟨us.getD i nilV, ?_, h.pls i hi⟩
  rw [Nat.zero_add, hc]
  have : i < us.length := by rw [h.row.len]; exact hi
  simp [List.getD_eq_getElem?_getD, this]
theorem PRowX.snoc {g B : Nat} {W W2 : World} {v v2 : Value} {us : List Value} {fss : List (List Tm)} {u : Value} {f : List Tm} (h : PRowX g B W v us fss) (hu : PlX g W u f)
    (h2 : W2.ownsRow B 25 1 v2 (fss.length + 1) (us ++ [u])) (g2 : W.grownBy W2 v.ownBlock) (k2 : ∀ g, v2.ownBlock = some g → SlK W2 g) : PRowX g B W2 v2 (us ++ [u]) (fss ++ [f]) := by
  have keep : ∀ {x : Value} {ts : List Tm}, PlX g W x ts → PlX g W2 x ts := by
    intro x ts hx
    cases ho : v.ownBlock with
    | none =>
      rw [ho] at g2
      exact hx.below ⟨g2.os, g2.tape, g2.output, g2.size, fun k hk => g2.block k hk (by simp)⟩
    | some g =>
      rw [ho] at g2
      exact plx_keep (h.row.kind g ho) g2 hx
  refine ⟨h.row.snoc hu.pl h2 g2 k2, fun i hi => ?_⟩
  rw [List.length_append] at hi
  simp only [List.length_cons, List.length_nil] at hi
  rcases Nat.lt_or_ge i fss.length with hl | hl
  · have e1 : (us ++ [u]).getD i nilV = us.getD i nilV := by simp [List.getD_eq_getElem?_getD, List.getElem?_append_left (show i < us.length by rw [h.row.len]; exact hl)]
    have e2 : (fss ++ [f]).getD i [] = fss.getD i [] := by simp [List.getD_eq_getElem?_getD, List.getElem?_append_left hl]
    rw [e1, e2]
    exact keep (h.pls i hl)
  · have e : i = fss.length := by omega
    subst e
    have e1 : (us ++ [u]).getD fss.length nilV = u := by rw [← h.row.len]; simp [List.getD_eq_getElem?_getD]
    have e2 : (fss ++ [f]).getD fss.length [] = f := by simp [List.getD_eq_getElem?_getD]
    rw [e1, e2]
    exact keep hu
theorem PRowX.grown {g B : Nat} {w W w' : World} {v : Value} {us : List Value} {fss : List (List Tm)} (h : PRowX g B W v us fss) (hb : Below B w W) (hg : W.grownBy w' v.ownBlock) (hB : B ≤ w.heap.size) : Below B w w' := own_grown h.row.own hb hg hB
theorem step_append_prowX {g0 : Nat} {ops : Array Oper} {o : Oper} {a : Act} {w : World} {K : Act → World → Prop} {Q : Exit → Act → World → Prop} {E : Prop} (hgd : o.guard = none) (s x : Operand) (t : TypeId)
    (ho : o.op = .call { callee := .builtin .append, args := #[s, x], argTypes := #[t, t] }) (ht : Try.prog.underlying t = some (.slice 25))
    (B : Nat) (v : Value) (us : List Value) (fss : List (List Tm)) (hs : a.eval s = v) (h : PRowX g0 B w v us fss) (ad : Addr) (c : Nat) (u : Value) (f : List Tm) (hu : PlX g0 w u f) (hx : a.eval x = .slice (some ad) 1 c)
    (hnew : ∀ j y, [u][j]? = some y → w.cell? (ad.add j) = some y) (hn : fss.length ≤ 4000000) (hB : B ≤ w.heap.size)
    (hK : ∀ v' w', PRowX g0 B w' v' (us ++ [u]) (fss ++ [f]) → w.grownBy w' v.ownBlock → K (a.put o.dst v') w') :
    if Region.wanted o (yielded ops a.tmps) = true then Oper.wp Try.prog o a w K Q else E := by
  have hw : Region.wanted o (yielded ops a.tmps) = true := by simp [Region.wanted, hgd]
  rw [if_pos hw]
  obtain ⟨i0, hi, hz0, hz1, hz2⟩ := info_parts Try.infoPolyW
  obtain ⟨v', w', hr, h2, h3, h4⟩ := run_append_slk (P := Try.prog) w B t o.type 25 i0 ht hi hz0 hz1 hz2 v fss.length us h.row.own h.row.kind ad c u (by obtain ⟨a, c, e, _⟩ := hu.pl; exact ⟨_, _, _, e⟩) hnew hn hB
  unfold Oper.wp execOp
  simp only [ho, resolve, invoke, builtin, Sem.run_bind, Sem.run_pure, Result.andThen_ok, List.map_toArray, List.map_cons, List.map_nil, hs, hx, hr]
  exact hK v' w' (h.snoc hu h2 h3 h4) h3
theorem own_tvs {w : World} {B : Nat} {v : Value} {us : List TV} (h : w.ownsRow B 34 2 v us.length (flat us)) : ∃ a c, v = .slice a us.length c ∧ us.length ≤ c ∧ (0 < us.length → ∃ b off, a = some ⟨b, off, none⟩ ∧ b < w.heap.size ∧ ∀ j u, (flat us)[j]? = some u → w.cell? ⟨b, off + j, none⟩ = some u) := by
  rcases h.2 with ⟨h1, h2⟩ | ⟨b, cap, cur, rfl, hb, hh, hn, hm, hcs, ht⟩
  · exact ⟨none, 0, by rw [h1, h2], by omega, fun hp => by omega⟩
  · have hlt := World.ownsRow.lt h b rfl
    refine ⟨_, cap, rfl, hn, fun hp => ⟨b, 0, rfl, hlt.2, fun j u hj => ?_⟩⟩
    have hjl : j < us.length * 2 := by
      rw [← flat_len]
      apply Nat.lt_of_not_le; intro hle; rw [List.getElem?_eq_none hle] at hj; simp at hj
    rw [Nat.zero_add, h.cellAt j hjl]; exact hj

set_option maxRecDepth 100000 in
set_option maxHeartbeats 1000000 in
theorem refSum_plx (g0 : Nat) (p n o v : Int) (N : Nat) (fv gv : Value) (fs gs : List Tm) (w : World) (hg0 : g0 < w.heap.size) (hp : 2 ≤ p ∧ p ≤ 101) (ho : o = 1 ∨ o = 2) (hN0 : 0 < N) (hN : N ≤ 3) (tf : ∀ t ∈ fs, Tok p N t) (tg : ∀ t ∈ gs, Tok p N t) (hm : fs.length + gs.length ≤ 4000000)
    (pf : PlX g0 w fv fs) (pg : PlX g0 w gv gs) :
    Calls Try.prog 35 #[ringV p n o v, fv, gv] w fun e w' => ∃ u, e = .returned u ∧ PlX g0 w' u (colL p o (fs ++ gs)) ∧ Below w.heap.size w w' := by
  obtain ⟨fa, fc, us, rfl, _, hus, hue, hua, hucs⟩ := pf
  obtain ⟨ga, gc, vs, rfl, _, hvs, hve, hva, hvcs⟩ := pg
  have HAP : Hid (∀ t ∈ us ++ vs, ApartO (some g0) t.2.1) := fun t ht => (List.mem_append.1 ht).elim (hua t) (hva t)
  have HG0 := hid hg0
  obtain ⟨ws, hws⟩ : ∃ ws, ws = us ++ vs := ⟨_, rfl⟩
  have HWS := hid hws
  clear hua hva hws hg0
  have hul : us.length = fs.length := by rw [← hus, List.length_map]
  have hvl : vs.length = gs.length := by rw [← hvs, List.length_map]
  have hm' : us.length + vs.length ≤ 4000000 := by omega
  have HT : Hid ((us ++ vs).map tm = fs ++ gs ∧ ∀ t ∈ fs ++ gs, Tok p N t) := ⟨by rw [List.map_append, hus, hvs], fun t ht => (List.mem_append.1 ht).elim (tf t) (tg t)⟩
  have HES := hid (And.intro hue hve)
  obtain ⟨i0, hi, hz0, hz1, hz2⟩ := info_parts Try.infoTerm
  have HI := hid (And.intro hi (And.intro hz0 (And.intro hz1 hz2)))
  obtain ⟨w1, hw1⟩ : ∃ w1, w1 = w.alloc (.cells #[.int .i64 p, .int .i64 n, .int .i64 o, .int .i64 v] 23) := ⟨_, rfl⟩
  have hbx : BoxAt w1 w.heap.size p n o v := by rw [hw1]; exact BoxAt.new w p n o v _
  have hbw : Below w.heap.size w w1 := by rw [hw1]; exact below_oneG
  have HBW := hid hbw
  obtain ⟨_, bx0, bx1, bx2, bx3⟩ := hbx
  have CU : Hid (∀ W, Below w1.heap.size w1 W → 0 < us.length → ∃ b off, fa = some ⟨b, off, none⟩ ∧ ∀ i u, (flat us)[i]? = some u → W.cell? ⟨b, off + i, none⟩ = some u) := fun W hb h => by
    obtain ⟨b, off, e, hlt, _, hc⟩ := hucs h
    exact ⟨b, off, e, fun i u hi => cell_keep (cell_keep (hc i u hi) hbw) hb⟩
  have CV : Hid (∀ W, Below w1.heap.size w1 W → 0 < vs.length → ∃ b off, ga = some ⟨b, off, none⟩ ∧ ∀ i u, (flat vs)[i]? = some u → W.cell? ⟨b, off + i, none⟩ = some u) := fun W hb h => by
    obtain ⟨b, off, e, hlt, _, hc⟩ := hvcs h
    exact ⟨b, off, e, fun i u hi => cell_keep (cell_keep (hc i u hi) hbw) hb⟩
  have KEEP : Hid (∀ W, Below w1.heap.size w1 W → (Hid (Below w1.heap.size w1 W) ∧ W.cell? ⟨w.heap.size, 0, none⟩ = some (.int .i64 p) ∧ W.cell? ⟨w.heap.size, 1, none⟩ = some (.int .i64 n) ∧ W.cell? ⟨w.heap.size, 2, none⟩ = some (.int .i64 o) ∧ W.cell? ⟨w.heap.size, 3, none⟩ = some (.int .i64 v))) :=
    fun W hb => ⟨hb, cell_keep bx0 hb, cell_keep bx1 hb, cell_keep bx2 hb, cell_keep bx3 hb⟩
  have BA := hid (show Below w1.heap.size w1 (w1.drew.alloc (.cells #[] 34)) from (Below.refl w1.heap.size w1).drew.alloc (Nat.le_refl _) _)
  have OA : Hid ((w1.drew.alloc (.cells #[] 34)).ownsRow w1.heap.size 34 2 (.slice (some ⟨w1.heap.size, 0, none⟩) 0 0) 0 []) := World.ownsRow_made w1.drew #[] 0 (Nat.le_refl _) (by decide) (by simp)
  have HP := hid hp
  have HO := hid ho
  clear hus hvs hue hve hucs hvcs tf tg hul hvl hi hz0 hz1 hz2 bx0 bx1 bx2 bx3 hbw hp ho hm
  go_enter Try.func35, Try.ntmps35
  go_wp2_with fail
  rw [← hw1]
  clear hw1
  go_region_held_law (fun W => Hid (Below w1.heap.size w1 W) ∧ W.cell? ⟨w.heap.size, 0, none⟩ = some (.int .i64 p) ∧ W.cell? ⟨w.heap.size, 1, none⟩ = some (.int .i64 n) ∧ W.cell? ⟨w.heap.size, 2, none⟩ = some (.int .i64 o) ∧ W.cell? ⟨w.heap.size, 3, none⟩ = some (.int .i64 v))
    (first | exact KEEP.out _ (Below.refl _ _).drew | exact KEEP.out _ HB9.out | exact KEEP.out _ HB6.out | exact KEEP.out _ HB5.out | exact KEEP.out _ BA.out)
    (first
      | (refine step_append_tvsA rfl (.tmp 8) (.tmp 9) 24 25 rfl w1.heap.size 34 i0 _ Try.underlying24 Try.underlying25 HI.out.1 HI.out.2.1 HI.out.2.2.1 HI.out.2.2.2 rfl (.slice (some ⟨w1.heap.size, 0, none⟩) 0 0) 0 [] (by simp [Act.eval, Act.put]) OA.out us us.length rfl fa fc (by simp [Act.eval, Act.put]) (CU.out _ BA.out) (flat_one HES.out.1) (by omega) BA.out.size ?_; intro v5 w5 r1 r2 _; rw [Nat.zero_add, List.nil_append] at r1; have OWN5 := hid r1; have HB5 := hid (show Below w1.heap.size w1 w5 from own_grown OA.out BA.out r2 (Nat.le_refl _)); obtain ⟨va5, vc5, hv5⟩ := own_sl' r1; subst hv5; clear r1 r2)
      | (refine step_append_tvsA rfl (.tmp 10) (.tmp 11) 24 25 rfl w1.heap.size 34 i0 _ Try.underlying24 Try.underlying25 HI.out.1 HI.out.2.1 HI.out.2.2.1 HI.out.2.2.2 rfl (.slice va5 us.length vc5) us.length (flat us) (by simp [Act.eval, Act.put]) OWN5.out vs vs.length rfl ga gc (by simp [Act.eval, Act.put]) (CV.out _ HB5.out) (flat_one HES.out.2) (by omega) HB5.out.size ?_; intro v6 w6 r1 r2 _; have HB6 := hid (show Below w1.heap.size w1 w6 from own_grown OWN5.out HB5.out r2 (Nat.le_refl _)); have r1b : w6.ownsRow w1.heap.size 34 2 v6 ws.length (flat ws) := (by rw [HWS.out, flat_append, List.length_append]; exact r1); have ES6 : Hid (Es w6 ws) := (by rw [HWS.out]; exact (fun t ht => ((List.mem_append.1 ht).elim (HES.out.1 t) (HES.out.2 t)).below (HBW.out.trans (HB6.out.mono HBW.out.size)))); obtain ⟨va6, vc6, hv6, hcap6, hcs6⟩ := own_tvs r1b; subst hv6; have HC6 := hid (And.intro hcap6 hcs6); clear r1b hcap6 hcs6; clear r1 r2)
      | (go_at_call 68; refine (collect_fp (ApartO (some g0)) p n o v N va6 vc6 ws (fs ++ gs) _ HP.out HO.out hN0 hN HT.out.2 ?_ HC6.out.1 ?_ ES6.out HC6.out.2 ?_).mono ?_; (rw [← HT.out.1, List.length_map, List.length_append]; exact hm'); (rw [HWS.out]; exact HT.out.1); (rw [HWS.out]; exact HAP.out); rintro e w9 ⟨u9, ls9, rfl, ho9, he9, hl9, ha9, hb9⟩; have HB9 := hid (show Below w1.heap.size w1 w9 from HB6.out.trans (hb9.mono HB6.out.size)); have HU9 : Hid (PlX g0 w9 u9 (colL p o (fs ++ gs))) := (by rw [← hl9]; exact own_plx ho9 he9 ha9 (Nat.lt_of_lt_of_le HG0.out (Nat.le_trans HBW.out.size HB6.out.size))); obtain ⟨ua9, uc9, hv9⟩ := own_sl' ho9; subst hv9; clear ho9 he9 hl9 ha9 hb9))
  go_wp2
  go_ret
  exact ⟨_, rfl, HU9.out, HBW.out.trans (HB9.out.mono HBW.out.size)⟩
end Go.Proofs.Ytilogbggilchaaa
