/- A flat term as the layers have it. -/
import Derived.Test.YtkmjmmnnnbjghaaGreatZT
import Derived.Test.YtkmjmmnnnbjghaaGreatWI
namespace Go.Proofs.YtkmjmmnnnbjghaaGreat
set_option linter.unusedSimpArgs false
set_option linter.unusedVariables false
open Go.RowKit

/-- Exponents of which the first ones are made. -/
def halfE (N : Nat) (xs : List Int) (k : Nat) : List Value := ((xs.take k ++ List.replicate (N - k) 0).map (Value.int .i64))
theorem halfE_set (N : Nat) (xs : List Int) (k : Nat) (hl : xs.length = N) (hk : k < N) : (halfE N xs k).set k (.int .i64 (xs.getD k 0)) = halfE N xs (k + 1) := by
  have hlen : (xs.take k).length = k := by rw [List.length_take]; omega
  have e : xs.getD k 0 = xs[k] := by simp [List.getD_eq_getElem?_getD, show k < xs.length by omega]
  unfold halfE
  rw [List.map_append, List.set_append_right _ _ (by rw [List.length_map, hlen]; exact Nat.le_refl _), List.length_map, hlen, Nat.sub_self, show N - k = (N - (k + 1)) + 1 by omega, List.replicate_succ, List.map_cons, List.set_cons_zero, List.take_succ_eq_append_getElem (show k < xs.length by omega), e, List.map_append, List.map_append, List.append_assoc]
  rfl
theorem exs_at (N : Nat) (t : Ft) (k : Nat) (hk : k < N) : (exs N t).getD k 0 = [t.a, t.b, t.d].getD k 0 := by
  unfold exs
  rw [List.getD_eq_getElem?_getD, List.getElem?_take, if_pos hk, List.getD_eq_getElem?_getD]
/-- The worlds of Bare. -/
structure BaW (w wr : World) (N : Nat) (t : Ft) (k : Nat) : Prop where
  below : Below w.heap.size w wr
  box : Bx w.heap.size wr w.heap.size t
  res : wr.ownsRow w.heap.size 57 2 (.slice (some ⟨w.heap.size + 1, 0, none⟩) 1 1) 1 [.int .i64 0, .slice none 0 0]
  row : wr.ownsRow w.heap.size 3 1 (.slice (some ⟨w.heap.size + 1 + 1, 0, none⟩) N N) N (halfE N (exs N t) k)
theorem BaW.put {w wr : World} {N : Nat} {t : Ft} {k : Nat} (h : BaW w wr N t k) (hl : (exs N t).length = N) (hk : k < N) : BaW w (wr.setCell ⟨w.heap.size + 1 + 1, k, none⟩ (.int .i64 ((exs N t).getD k 0))) N t (k + 1) := by
  have s := World.ownsRow.stored h.row k (.int .i64 ((exs N t).getD k 0))
  refine ⟨h.below.trans (grown_below s.2 (by omega) h.below.size), World.ownsRow.kept h.box s.2 (Or.inr (by simp [Value.ownBlock]; omega)), World.ownsRow.kept h.res s.2 (Or.inr (by simp [Value.ownBlock])), ?_⟩
  rw [← halfE_set N _ k hl hk]; exact s.1
theorem BaW.cellE {w wr : World} {N : Nat} {t : Ft} {k : Nat} (h : BaW w wr N t k) (hk : k < N) (h3 : N ≤ 3) : wr.cell? ⟨w.heap.size, 1 + k, none⟩ = some (.int .u16 ((exs N t).getD k 0)) := by
  rw [exs_at N t k hk]
  obtain ⟨y0, y1, y2, y3, y4, y5, y6⟩ := h.box.at
  simp only [Nat.zero_add] at y1 y2 y3
  match k, hk with
  | 0, _ => exact y1
  | 1, _ => exact y2
  | 2, _ => exact y3
  | k + 3, hk => omega

set_option maxRecDepth 100000 in
set_option maxHeartbeats 2000000 in
theorem bare_any (N : Nat) (t : Ft) (w : World) (h0 : 0 < N) (h3 : N ≤ 3) (hb : ∀ x ∈ exs N t, 0 ≤ x ∧ x ≤ 65535) (hc : 0 ≤ t.c ∧ t.c ≤ 255) :
    Calls Tryz.prog 20 #[ftV t, .int .i64 N] w fun e w' => ∃ ev, e = .returned (.agg #[.int .i64 t.c, ev]) ∧ w'.ownsRow w.heap.size 3 1 ev N ((exs N t).map (Value.int .i64)) ∧ Below w.heap.size w w' := by
  have hl : (exs N t).length = N := by unfold exs; rw [List.length_take]; simp; omega
  have HBD := hid hb
  obtain ⟨i0, hi, hz0, hz1, hz2⟩ := info_parts Tryz.infoInt
  obtain ⟨w1, hw1⟩ : ∃ w1, w1 = (w.alloc (.cells #[.int .i64 t.k, .int .u16 t.a, .int .u16 t.b, .int .u16 t.d, .int .u16 t.z, .int .u8 t.pl, .int .u8 t.c] 52)).alloc (.cells #[.int .i64 0, .slice none 0 0] 57) := ⟨_, rfl⟩
  have hs1 : w1.heap.size = w.heap.size + 1 + 1 := by rw [hw1]; simp
  have HST : Hid (∀ w2, w2.ownsRow w1.heap.size 3 1 (.slice (some ⟨w1.heap.size, 0, none⟩) N N) N (madeCells (Value.cells (.int .i64 0)) (N * 1)).toList → w1.grownBy w2 none → BaW w w2 N t 0) := fun w2 q1 q2 => by
    have hb12 : Below w1.heap.size w1 w2 := ⟨q2.os, q2.tape, q2.output, q2.size, fun k hk => q2.block k hk (by simp)⟩
    have hm : (madeCells (Value.cells (.int .i64 0)) (N * 1)).toList = halfE N (exs N t) 0 := by
      unfold halfE madeCells
      apply List.ext_getElem
      · simp
      · intro i h1 h2
        simp [Value.cells, Nat.mod_one]
    rw [hm, hs1] at q1
    have hb1 : Below w.heap.size w w1 := by rw [hw1]; exact below_two
    have hx1 : Bx w.heap.size w1 w.heap.size t := by rw [hw1]; exact Bx.below (box7 (Nat.le_refl _) t) belowNew
    have hr1 : w1.ownsRow w.heap.size 57 2 (.slice (some ⟨w.heap.size + 1, 0, none⟩) 1 1) 1 [.int .i64 0, .slice none 0 0] := by
      have := made_term (w := w.alloc (.cells #[.int .i64 t.k, .int .u16 t.a, .int .u16 t.b, .int .u16 t.d, .int .u16 t.z, .int .u8 t.pl, .int .u8 t.c] 52)) (B := w.heap.size) (by simp) 0 (.slice none 0 0)
      rw [hw1]; simpa using this
    exact ⟨hb1.trans (hb12.mono hb1.size), hx1.below hb12, ownBlock_lt hr1 hb12, own_mono q1 (by omega)⟩
  have HS1 := hid hs1
  clear hb
  unfold ftV
  go_enter Tryz.func20, Tryz.ntmps20
  go_wp2_with (at_make; rw [← hw1]; refine wpList_make_full _ rfl _ _ 55 rfl w1.heap.size 3 i0 _ 1 Tryz.underlying55 hi hz0 hz1 .i64 .i64 _ _ N rfl rfl rfl rfl (by rw [hz2]; omega) (by unfold maxLen; omega) (Nat.le_refl _) ?_; intro w2 hown hgrow; have HX := hid (HST.out w2 hown hgrow); clear hown hgrow)
  clear hw1 HST hs1
  go_loopw [11] (fun i wr => ∃ k : Nat, k ≤ N ∧ i = .int .i64 k ∧ BaW w wr N t k) (fun i _ => N - (intOf i).toNat)
  case atStart => exact ⟨0, Nat.zero_le _, rfl, HX.out⟩
  case round =>
    clear HX
    obtain ⟨k, hk, rfl, hw⟩ := hrel
    have HW := hid hw
    clear hw
    by_cases hk2 : k < N
    · have c1 := HW.out.cellE hk2 h3
      have c2 := World.ownsRow.cellAt HW.out.row k (by omega)
      have hkl : k < (halfE N (exs N t) k).length := by unfold halfE; simp; omega
      rw [List.getElem?_eq_getElem hkl] at c2
      have c3 := World.ownsRow.frozenAt HW.out.row k
      have hxb : 0 ≤ (exs N t).getD k 0 ∧ (exs N t).getD k 0 ≤ 65535 := by
        have : (exs N t).getD k 0 = (exs N t)[k] := by simp [List.getD_eq_getElem?_getD, show k < (exs N t).length by omega]
        rw [this]; exact HBD.out _ (List.getElem_mem _)
      have HP := hid (HW.out.put hl hk2)
      generalize (exs N t).getD k 0 = x at c1 hxb HP
      obtain ⟨hx0, hx1⟩ := hxb
      have wx : IntKind.i64.wrap x = x := by rw [IntKind.wrap_i64]; omega
      generalize (halfE N (exs N t) k)[k] = y at c2
      go_wp2
      go_roundw
      case rel => exact ⟨k + 1, by omega, by go_num, HP.out⟩
      case measure => simp [intOf]; omega
    · have e : k = N := by omega
      subst e
      obtain ⟨y0, y1, y2, y3, y4, y5, y6⟩ := HW.out.box.at
      simp only [Nat.zero_add] at y6
      have r0 : wr.cell? ⟨w.heap.size + 1, 0, none⟩ = some (.int .i64 0) := World.ownsRow.cellAt HW.out.res 0 (by omega)
      have r1 : wr.cell? ⟨w.heap.size + 1, 1, none⟩ = some (.slice none 0 0) := World.ownsRow.cellAt HW.out.res 1 (by omega)
      have q0 := World.ownsRow.frozenAt HW.out.res 0
      have q1 := World.ownsRow.frozenAt HW.out.res 1
      obtain ⟨hc0, hc1⟩ := hc
      have wc : IntKind.i64.wrap t.c = t.c := by rw [IntKind.wrap_i64]; omega
      clear y0 y1 y2 y3 y4 y5
      go_wp2
      have s1 := World.ownsRow.stored HW.out.res 0 (.int .i64 t.c)
      have s2 := s1.1.stored 1 (.slice (some ⟨w.heap.size + 1 + 1, 0, none⟩) k k)
      have hg := grown_trans s1.2 s2.2
      have x0 := World.ownsRow.cellAt s2.1 0 (by omega)
      have x1 := World.ownsRow.cellAt s2.1 1 (by omega)
      have hrow := World.ownsRow.kept HW.out.row hg (Or.inr (by simp [Value.ownBlock]))
      have hfin : halfE k (exs k t) k = (exs k t).map (Value.int .i64) := by
        unfold halfE; rw [Nat.sub_self, List.take_of_length_le (by omega)]; simp
      rw [hfin] at hrow
      refine bodyPost_ret (v := .agg #[.int .i64 t.c, .slice (some ⟨w.heap.size + 1 + 1, 0, none⟩) k k]) (by simp at x0 x1; simp [results, Tryz.results20, go_sem, x0, x1]) rfl ⟨_, rfl, hrow, HW.out.below.trans (grown_below hg (by omega) HW.out.below.size)⟩

end Go.Proofs.YtkmjmmnnnbjghaaGreat

/- Own polynomials that grow: rows of them; what is kept. -/
namespace Go.Proofs.YtkmjmmnnnbjghaaGreat
set_option linter.unusedSimpArgs false
set_option linter.unusedVariables false
open Go.RowKit

/-- A polynomial of the call's own: its terms, each one's exponents a row of its own. -/
structure PolW (B N : Nat) (w : World) (u : Value) (ts : List TV) : Prop where
  own : w.ownsRow B 57 2 u ts.length (flat ts)
  kind : ∀ g, u.ownBlock = some g → KdB NoU w g
  es : ∀ t ∈ ts, w.ownsRow B 3 1 t.2.1 N (t.2.2.map (Value.int .i64))
/-- The type of a block is another one. -/
def NTy (w : World) (T : TypeId) (g : Nat) : Prop := ∀ cur, w.heap[g]? ≠ some (.cells cur T (0, 0))
theorem own_ty {w : World} {B : Nat} {T : TypeId} {s : Nat} {v : Value} {n : Nat} {xs : List Value} (h : w.ownsRow B T s v n xs) {g : Nat} (hg : v.ownBlock = some g) : ∃ cur, w.heap[g]? = some (.cells cur T (0, 0)) := by
  rcases h.2 with ⟨rfl, _⟩ | ⟨g2, cap, cur, rfl, _, hh, _⟩
  · simp [Value.ownBlock] at hg
  · simp only [Value.ownBlock, Option.some.injEq] at hg
    subst hg
    exact ⟨cur, hh⟩
theorem own_nty {w : World} {B : Nat} {T T' : TypeId} {s : Nat} {v : Value} {n : Nat} {xs : List Value} (h : w.ownsRow B T s v n xs) {g : Nat} (hg : v.ownBlock = some g) (hT : T ≠ T') : NTy w T' g := by
  obtain ⟨cur, hh⟩ := own_ty h hg
  intro cur2 e
  rw [hh] at e
  simp only [Option.some.injEq, Obj.cells.injEq] at e
  exact hT e.2.1
theorem PolW.frm {B N : Nat} {S : Nat → Prop} {w w' : World} {u : Value} {ts : List TV} (h : PolW B N w u ts) (hf : Frm S w w') (hu : ∀ g, u.ownBlock = some g → ¬ S g) (hS : ∀ g, S g → NTy w 3 g) : PolW B N w' u ts :=
  ⟨hf.own h.own hu, fun g hg => hf.kdb (h.kind g hg) (World.ownsRow.lt h.own g hg).2 (hu g hg), fun t ht => hf.own (h.es t ht) fun g hg hs => by
    obtain ⟨cur, e⟩ := own_ty (h.es t ht) hg
    exact hS g hs cur e⟩
theorem PolW.next {B N : Nat} {w w' : World} {u : Value} {ts : List TV} (h : PolW B N w u ts) (hb : Below w.heap.size w w') : PolW B N w' u ts :=
  h.frm (S := fun _ => False) (Frm.of_below hb) (fun _ _ h => h) fun _ h => h.elim
theorem PolW.nil (B N : Nat) (w : World) : PolW B N w (.slice none 0 0) [] := ⟨World.ownsRow_nil _ _ _ _, fun g hg => by simp [Value.ownBlock] at hg, fun t ht => by simp at ht⟩
theorem PolW.pl {B N : Nat} {w : World} {u : Value} {ts : List TV} (h : PolW B N w u ts) (hl : ∀ t ∈ ts, t.2.2.length = N) : Pl w u (ts.map tm) := by
  refine own_pl h.own fun t ht => ?_
  exact ownsRow_sl (T := 3) (by rw [hl t ht]; exact h.es t ht)
theorem PolW.snoc {B N : Nat} {w w' : World} {u v : Value} {ts : List TV} {c : Int} {ev : Value} {xs : List Int} (h : PolW B N w u ts) (hev : w.ownsRow B 3 1 ev N (xs.map (Value.int .i64)))
    (h2 : w'.ownsRow B 57 2 v (ts.length + 1) (flat ts ++ [.int .i64 c, ev])) (h3 : w.grownBy w' u.ownBlock) (h4 : ∀ g, v.ownBlock = some g → KdB NoU w' g) : PolW B N w' v (ts ++ [(c, ev, xs)]) := by
  have hf : Frm (fun k => u.ownBlock = some k) w w' := Frm.of_grown h3 fun _ e => e
  have hk : ∀ {z : Value} {n : Nat} {zs : List Value}, w.ownsRow B 3 1 z n zs → w'.ownsRow B 3 1 z n zs := fun {z n zs} hz => hf.own hz fun g hg e => by
    obtain ⟨cur, e2⟩ := own_ty hz hg
    exact own_nty h.own e (by decide) cur e2
  refine ⟨?_, h4, fun t ht => ?_⟩
  · have e : flat (ts ++ [(c, ev, xs)]) = flat ts ++ [.int .i64 c, ev] := by simp [flat]
    rw [e, List.length_append]; exact h2
  · rcases List.mem_append.1 ht with ht | ht
    · exact hk (h.es t ht)
    · rw [List.mem_singleton] at ht; subst ht; exact hk hev
/-- At an append of a term, in a region that draws its order. -/
theorem step_append_pol {ops : Array Oper} {o : Oper} {a : Act} {w : World} {K : Act → World → Prop} {Q : Exit → Act → World → Prop} {E : Prop} (hgd : o.guard = none) (s x : Operand) (t : TypeId)
    (ho : o.op = .call { callee := .builtin .append, args := #[s, x], argTypes := #[t, t] }) (ht : Tryz.prog.underlying t = some (.slice 57))
    (B N : Nat) (u : Value) (ts : List TV) (c : Int) (ev : Value) (xs : List Int) (hs : a.eval s = u) (h : PolW B N w u ts) (hev : w.ownsRow B 3 1 ev N (xs.map (Value.int .i64))) (ad : Addr) (cp : Nat) (hx : a.eval x = .slice (some ad) 1 cp)
    (hnew : ∀ j y, [Value.int .i64 c, ev][j]? = some y → w.cell? (ad.add j) = some y) (hn : ts.length ≤ 1200000000000) (hB : B ≤ w.heap.size)
    (hK : ∀ v' w', PolW B N w' v' (ts ++ [(c, ev, xs)]) → w.grownBy w' u.ownBlock → (v'.ownBlock = u.ownBlock ∨ v'.ownBlock = some w.heap.size) → K (a.put o.dst v') w') :
    if Region.wanted o (yielded ops a.tmps) = true then Oper.wp Tryz.prog o a w K Q else E := by
  have hw : Region.wanted o (yielded ops a.tmps) = true := by simp [Region.wanted, hgd]
  rw [if_pos hw]
  obtain ⟨i0, hi, hz0, hz1, hz2⟩ := info_parts Tryz.infoTerm
  obtain ⟨ea, ec, rfl⟩ := own_sl hev
  have hone : ∀ y ∈ [Value.int .i64 c, .slice ea N ec], y.oneCell' = true := fun y hy => by
    simp only [List.mem_cons, List.not_mem_nil, or_false] at hy
    rcases hy with rfl | rfl <;> rfl
  have hno : ∀ y ∈ [Value.int .i64 c, .slice ea N ec], NoU y := fun y hy x e => by
    simp only [List.mem_cons, List.not_mem_nil, or_false] at hy
    rcases hy with rfl | rfl <;> cases e
  obtain ⟨v', w', hr, h2, h3, h4, h5⟩ := run_append_kdb (P := Tryz.prog) w NoU B t o.type 57 i0 _ 2 32 ht hi hz0 hz1 hz2 rfl (by decide) (fun y hy x e => by simp [Value.cells] at hy; rcases hy with rfl | rfl <;> cases e) u ts.length (flat ts) h.own h.kind ad 1 cp [.int .i64 c, .slice ea N ec] (by decide) rfl hnew hone hno (by unfold maxLen; omega) (by omega) hB
  unfold Oper.wp execOp
  simp only [ho, resolve, invoke, builtin, Sem.run_bind, Sem.run_pure, Result.andThen_ok, List.map_toArray, List.map_cons, List.map_nil, hs, hx, hr]
  exact hK v' w' (h.snoc hev h2 h3 h4) h3 h5

end Go.Proofs.YtkmjmmnnnbjghaaGreat

/- The closure by which a quotient, or what is left, grows. -/
namespace Go.Proofs.YtkmjmmnnnbjghaaGreat
set_option linter.unusedSimpArgs false
set_option linter.unusedVariables false
open Go.RowKit

theorem two_newP (w : World) (c : Int) (ev : Value) (T : TypeId) : ∀ j u, [Value.int .i64 c, ev][j]? = some u → (w.alloc (.cells #[.int .i64 c, ev] T)).cell? ((⟨w.heap.size, 0, none⟩ : Addr).add j) = some u := by
  intro j u hj
  have hadd : (⟨w.heap.size, 0, none⟩ : Addr).add j = ⟨w.heap.size, j, none⟩ := by unfold Addr.add; split <;> simp_all
  rw [hadd, cell_of_row _ w.heap.size j _ T (0, 0) (heap_alloc_new w _)]
  simpa using hj
def okG (n : Nat) (xs : List Int) : Bool := decide (n + 1 ≤ 2000) && decide (sumI xs ≤ 200)

/-- The worlds of the closure: the slot's polynomial has grown. -/
structure GrW (B N : Nat) (w wx : World) (fb b i n rc : Nat) (us : List Value) (ts : List TV) (f : Bool) (t : Ft) (ev v : Value) : Prop where
  pol : PolW B N wx v (ts ++ [(t.c, ev, exs N t)])
  row : wx.ownsRow B 54 1 (.slice (some ⟨b, 0, none⟩) n rc) n (us.set i v)
  kind : SlK wx b
  fit : wx.ownsRow B 4 1 (.slice (some ⟨fb, 0, none⟩) 1 1) 1 [.bool f]
  frm : Frm (fun k => k = b ∨ (us.getD i nilV).ownBlock = some k ∨ k = fb) w wx
  loc : v.ownBlock = (us.getD i nilV).ownBlock ∨ ∃ g, v.ownBlock = some g ∧ w.heap.size ≤ g
theorem GrW.next {B N : Nat} {w wx w' : World} {fb b i n rc : Nat} {us : List Value} {ts : List TV} {f : Bool} {t : Ft} {ev v : Value} (h : GrW B N w wx fb b i n rc us ts f t ev v) (hb : Below wx.heap.size wx w') : GrW B N w w' fb b i n rc us ts f t ev v :=
  ⟨h.pol.next hb, ownBlock_lt h.row hb, KdB.below h.kind (hb.block b (World.ownsRow.lt h.row b rfl).2), ownBlock_lt h.fit hb, h.frm.trans (Frm.of_below (S := fun _ => False) hb) (fun _ _ h => h.elim), h.loc⟩
theorem GrW.fits {B N : Nat} {w wx : World} {fb b i n rc : Nat} {us : List Value} {ts : List TV} {f : Bool} {t : Ft} {ev v : Value} (h : GrW B N w wx fb b i n rc us ts f t ev v) (f2 : Bool) : GrW B N w (wx.setCell ⟨fb, 0, none⟩ (.bool f2)) fb b i n rc us ts f2 t ev v := by
  have s := World.ownsRow.stored h.fit 0 (.bool f2)
  have hf : Frm (fun k => k = fb) wx (wx.setCell ⟨fb, 0, none⟩ (.bool f2)) := Frm.of_grown s.2 fun x e => by simpa using e.symm
  have hnb : b ≠ fb := fun e => by
    have := own_neT (by decide) h.row h.fit
    simp [Value.ownBlock, e] at this
  refine ⟨h.pol.frm hf (fun g hg e => ?_) (fun g e => ?_), hf.own h.row (fun g hg e => ?_), hf.kdb h.kind (World.ownsRow.lt h.row b rfl).2 hnb, s.1, h.frm.trans hf (fun x _ e => Or.inr (Or.inr e)), h.loc⟩
  · subst e
    rcases own_neT (by decide) h.pol.own h.fit with h1 | h1
    · rw [h1] at hg; cases hg
    · exact h1 (by rw [hg]; rfl)
  · subst e; exact own_nty h.fit rfl (by decide)
  · simp only [Value.ownBlock, Option.some.injEq] at hg; omega
set_option maxRecDepth 100000 in
set_option maxHeartbeats 2000000 in
theorem grow_any (B N rb fb b i n rc : Nat) (p o ov : Int) (us : List Value) (ts : List TV) (f0 : Bool) (t : Ft) (w : World) (h0 : 0 < N) (h3 : N ≤ 3) (hbd : ∀ x ∈ exs N t, 0 ≤ x ∧ x ≤ 40000) (hc : 0 ≤ t.c ∧ t.c ≤ 255) (hB : B ≤ w.heap.size) (hr : BoxAt w rb p N o ov)
    (hfb : w.ownsRow B 4 1 (.slice (some ⟨fb, 0, none⟩) 1 1) 1 [.bool f0]) (hrow : w.ownsRow B 54 1 (.slice (some ⟨b, 0, none⟩) n rc) n us) (hk : SlK w b) (hi : i < n) (hp : PolW B N w (us.getD i nilV) ts) (hn : ts.length ≤ 2000) :
    Calls Tryz.prog 19 #[.pointer (some ⟨b, i, none⟩), ftV t, .pointer (some ⟨rb, 0, none⟩), .pointer (some ⟨fb, 0, none⟩)] w fun e w' => e = .returned (.bool (okG ts.length (exs N t))) ∧ ∃ ev v, GrW B N w w' fb b i n rc us ts (okG ts.length (exs N t)) t ev v := by
  have HP := hid hp
  have HFB := hid hfb
  have HROW := hid hrow
  have HK := hid hk
  obtain ⟨ua, uc, hu⟩ := own_sl hp.own
  have hcell : w.cell? ⟨b, i, none⟩ = some (us.getD i nilV) := by
    have hl : us.length = n * 1 := hrow.1
    rw [World.ownsRow.cellAt hrow i (by omega), List.getD_eq_getElem?_getD, List.getElem?_eq_getElem (by omega)]; rfl
  rw [hu] at hcell
  have HC := hid hcell
  have HU := hid hu
  obtain ⟨hrlt, r0, r1, r2, r3⟩ := hr
  have HR1 := hid r1
  obtain ⟨w1, hw1⟩ : ∃ w1, w1 = w.alloc (.cells #[.int .i64 t.k, .int .u16 t.a, .int .u16 t.b, .int .u16 t.d, .int .u16 t.z, .int .u8 t.pl, .int .u8 t.c] 52) := ⟨_, rfl⟩
  have HB1 : Hid (Below w.heap.size w w1) := by rw [hw1]; exact belowNew
  have HX1 : Hid (Bx w.heap.size w1 w.heap.size t) := by rw [hw1]; exact box7 (Nat.le_refl _) t
  have HBA := hid (fun (W : World) => bare_any N t W h0 h3 (fun x hx => by have := hbd x hx; omega) hc)
  unfold ftV at HBA ⊢
  obtain ⟨y0, y1, y2, y3, y4, y5, y6⟩ := HX1.out.at
  simp only [Nat.zero_add] at y0 y1 y2 y3 y4 y5 y6
  have z1 := cell_keep HC.out HB1.out
  have z2 := cell_keep HR1.out HB1.out
  clear hp hfb hrow hk hu hcell r0 r1 r2 r3
  go_enter Tryz.func19, Tryz.ntmps19
  go_wp2_with fail
  rw [← hw1]
  clear hw1
  have STEP : Hid (∀ w8 ev8 v9 w9, Below w1.heap.size w1 w8 → PolW B N w9 v9 (ts ++ [(t.c, ev8, exs N t)]) → (w8.alloc (.cells #[.int .i64 t.c, ev8] 57)).grownBy w9 (Value.slice ua ts.length uc).ownBlock → (v9.ownBlock = (Value.slice ua ts.length uc).ownBlock ∨ v9.ownBlock = some (w8.alloc (.cells #[.int .i64 t.c, ev8] 57)).heap.size) →
      w9.cell? ⟨b, i, none⟩ = some (.slice ua ts.length uc) ∧ w9.frozen? ⟨b, i, none⟩ = false ∧ GrW B N w (w9.setCell ⟨b, i, none⟩ v9) fb b i n rc us ts f0 t ev8 v9) := fun w8 ev8 v9 w9 q0 q1 q2 q3 => by
    have hb : Below w.heap.size w (w8.alloc (.cells #[.int .i64 t.c, ev8] 57)) := (HB1.out.trans (q0.mono HB1.out.size)).trans (belowNew.mono (HB1.out.trans (q0.mono HB1.out.size)).size)
    have hro := ownBlock_lt HROW.out hb
    have hbo := ownBlock_lt HFB.out hb
    have hpo := HP.out.next hb
    rw [HU.out] at hpo
    have hr9 := World.ownsRow.kept hro q2 (own_neT (by decide) hro hpo.own)
    have hf9 := World.ownsRow.kept hbo q2 (own_neT (by decide) hbo hpo.own)
    have hk9 : SlK w9 b := by
      refine KdB.below (KdB.below HK.out (hb.block b (World.ownsRow.lt HROW.out b rfl).2)) (q2.block b (World.ownsRow.lt hro b rfl).2 ?_)
      rcases own_neT (T := 54) (T' := 57) (by decide) hro hpo.own with h | h
      · simp [Value.ownBlock] at h
      · exact h
    have hc9 : w9.cell? ⟨b, i, none⟩ = some (.slice ua ts.length uc) := by rw [World.ownsRow.cellAt hr9 i (by omega), ← HU.out, List.getD_eq_getElem?_getD, List.getElem?_eq_getElem (by have := hr9.1; omega)]; rfl
    have s := World.ownsRow.stored hr9 i v9
    have hfs : Frm (fun k => k = b) w9 (w9.setCell ⟨b, i, none⟩ v9) := Frm.of_grown s.2 fun x e => by simpa using e.symm
    have hvs : ∃ a n c, v9 = .slice a n c := by obtain ⟨a, c, e⟩ := own_sl q1.own; exact ⟨a, _, c, e⟩
    refine ⟨hc9, World.ownsRow.frozenAt hr9 i, q1.frm hfs (fun g hg e => ?_) (fun g e => ?_), s.1, kdb_set hk9 hvs hc9, hfs.own hf9 (fun g hg e => ?_), ?_, ?_⟩
    · subst e
      rcases own_neT (by decide) q1.own hr9 with h1 | h1
      · rw [h1] at hg; cases hg
      · exact h1 (by rw [hg]; rfl)
    · subst e; exact own_nty hr9 rfl (by decide)
    · subst e
      simp only [Value.ownBlock, Option.some.injEq] at hg
      have := own_neT (by decide) hf9 hr9
      simp [Value.ownBlock, hg] at this
    · exact ((Frm.of_below (S := fun k => k = b ∨ (us.getD i nilV).ownBlock = some k ∨ k = fb) hb).trans (Frm.of_grown (S := fun k => k = b ∨ (us.getD i nilV).ownBlock = some k ∨ k = fb) q2 (fun x e => Or.inr (Or.inl (by rw [HU.out]; exact e)))) (fun _ _ h => h)).trans hfs (fun x _ e => Or.inl e)
    · rw [HU.out]
      rcases q3 with q3 | q3
      · exact Or.inl q3
      · exact Or.inr ⟨_, q3, by have := hb.size; omega⟩
  go_upto_region 1 with fail
  go_cut [] from 7 to 17 (fun wx => ∃ ev v, GrW B N w wx fb b i n rc us ts f0 t ev v)
  case first =>
    go_region_law (first
    | (go_simp; refine (HBA.out _).mono ?_; rintro e w8 ⟨ev8, rfl, q1, q2⟩; have HB8 : Hid (Below w1.heap.size w1 w8) := (by first | exact q2 | exact ((Below.refl _ _).drew).trans q2); have HE8 := hid (own_mono q1 (show B ≤ _ by have := HB1.out.size; first | omega | (simp; omega))); clear q1 q2; obtain ⟨ea8, ec8, he8⟩ := own_sl HE8.out; subst he8; have HB8a : Hid (Below w.heap.size w (w8.alloc (.cells #[.int .i64 t.c, .slice ea8 N ec8] 57))) := ((HB1.out.trans (HB8.out.mono HB1.out.size)).trans (belowNew.mono (HB1.out.trans (HB8.out.mono HB1.out.size)).size)); have e1 := cell_keep z1 HB8.out; have e2 := cell_keep e1 (belowNew (A := .cells #[.int .i64 t.c, .slice ea8 N ec8] 57)); have HA8 := hid (HP.out.next HB8a.out); rw [HU.out] at HA8; have HE9 := hid (ownBlock_lt HE8.out (belowNew (A := .cells #[.int .i64 t.c, .slice ea8 N ec8] 57))); dsimp only)
    | (refine step_append_pol rfl (.tmp 10) (.tmp 15) 54 rfl Tryz.underlying54 B N (.slice ua ts.length uc) ts t.c (.slice ea8 N ec8) (exs N t) (by simp [Act.eval, Act.put]) HA8.out HE9.out ⟨w8.heap.size, 0, none⟩ 1 (by simp [Act.eval, Act.put]) (two_newP _ _ _ _) (by omega) (by have := HB8a.out.size; omega) ?_; intro v9 w9 q1 q2 q3; obtain ⟨va9, vc9, hv9⟩ := own_sl q1.own; rw [List.length_append, List.length_singleton] at hv9; subst hv9; have S9 := hid (STEP.out w8 _ _ w9 HB8.out q1 q2 q3); clear q1 q2 q3; have d1 := S9.out.1; have d2 := S9.out.2.1))
    all_goals
      go_wp2_with fail
      go_meet
      exact ⟨_, _, S9.out.2.2⟩
  case rest =>
    obtain ⟨ev, v, hg⟩ := hcut
    have HG := hid hg
    obtain ⟨va, vc, hv⟩ := own_sl hg.pol.own
    rw [List.length_append, List.length_singleton] at hv
    subst hv
    clear hg y0 y1 y2 y3 y4 y5 y6 z1 z2
    have HV := hid (HG.out.pol.es (t.c, ev, exs N t) (by simp))
    have hxl : (exs N t).length = N := by unfold exs; rw [List.length_take]; simp; omega
    obtain ⟨ea, ec, he⟩ := own_sl HV.out
    simp only at he
    subst he
    obtain ⟨eb, he2, _, helt, _⟩ := own_at1 HV.out 0 h0
    subst he2
    have HIN : Hid (IntsAt wc eb 0 (exs N t)) := fun k hk => by
      have hc := World.ownsRow.cellAt HV.out k (by omega)
      rw [Nat.zero_add, hc, List.getElem?_map, List.getElem?_eq_getElem (by omega), List.getD_eq_getElem?_getD, List.getElem?_eq_getElem (by omega)]; rfl
    obtain ⟨g9, hg9⟩ : ∃ g9, va = some ⟨g9, 0, none⟩ := by
      rcases HG.out.pol.own.2 with ⟨_, h⟩ | ⟨g, cap, cur, e, _⟩
      · simp at h
      · simp only [Value.slice.injEq] at e; exact ⟨g, e.1⟩
    subst hg9
    have c1 : wc.cell? ⟨b, i, none⟩ = some (.slice (some ⟨g9, 0, none⟩) (ts.length + 1) vc) := by
      have h := World.ownsRow.cellAt HG.out.row i (by omega)
      rw [h]
      have hl := HG.out.row.1
      rw [List.length_set] at hl
      rw [List.getElem?_set_self (by omega)]
    have c2 : wc.cell? ⟨g9, ts.length * 2 + 1, none⟩ = some (.slice (some ⟨eb, 0, none⟩) N ec) := by
      have hown := HG.out.pol.own
      rw [List.length_append, List.length_singleton] at hown
      have h := World.ownsRow.cellAt hown (ts.length * 2 + 1) (by omega)
      rw [h]
      have e : flat (ts ++ [(t.c, .slice (some ⟨eb, 0, none⟩) N ec, exs N t)]) = flat ts ++ [.int .i64 t.c, .slice (some ⟨eb, 0, none⟩) N ec] := by simp [flat]
      have hfl : (flat ts).length = ts.length * 2 := flat_len ts
      rw [e, List.getElem?_append_right (by omega), hfl, show ts.length * 2 + 1 - ts.length * 2 = 1 by omega]; rfl
    have c3 := World.ownsRow.cellAt HG.out.fit 0 (by omega)
    have c4 := World.ownsRow.frozenAt HG.out.fit 0
    have HDE : Hid (∀ W, Below wc.heap.size wc W → Calls Tryz.prog 21 #[.slice (some ⟨eb, 0, none⟩) N ec] W fun e w' => e = .returned (.int .i64 (sumI (exs N t))) ∧ w' = W) := fun W hb => by
      have h := degree_any (exs N t) eb 0 ec W (fun x hx => by have := hbd x hx; omega) (by omega) (fun k hk => by have := HIN.out k hk; exact cell_keep this hb)
      rw [hxl] at h
      exact h
    have HB0 : Hid (Below wc.heap.size wc wc.drew) := (Below.refl _ _).drew
    have HFI := hid (fun f2 => (HG.out.next HB0.out).fits f2)
    have wsub : IntKind.i64.wrap (ts.length : Int) = ts.length := by rw [IntKind.wrap_i64]; omega
    have hq1 : (0 : Int) ≤ (ts.length : Int) := by omega
    have hq2 : (ts.length : Int) < (ts.length : Int) + 1 := by omega
    have hq3 : ((ts.length : Int)).toNat = ts.length := by omega
    by_cases hlen : ts.length + 1 ≤ 2000
    · have hlenI : (ts.length : Int) + 1 ≤ 2000 := by omega
      have hlenD : decide ((ts.length : Int) + 1 ≤ 2000) = true := decide_eq_true hlenI
      by_cases hdg : sumI (exs N t) ≤ 200
      · have HOK : Hid (okG ts.length (exs N t) = true) := by show _ = _; simp [okG, hlen, hdg]
        have hdgD : decide (sumI (exs N t) ≤ 200) = true := decide_eq_true hdg
        clear hlen
        go_wp2_with fail
        go_region_with (go_at_call 21; refine (HDE.out _ HB0.out).mono ?_; rintro e w8 ⟨rfl, rfl⟩)
        all_goals
          go_wp2
          go_ret
          rw [HOK.out]
          exact ⟨rfl, _, _, by first | exact HFI.out true | exact (HG.out.fits true).next ((Below.refl _ _).drew) | exact HG.out.fits true⟩
      · have HOK : Hid (okG ts.length (exs N t) = false) := by show _ = _; simp [okG, hlen, hdg]
        have hdgD : decide (sumI (exs N t) ≤ 200) = false := decide_eq_false hdg
        clear hlen
        go_wp2_with fail
        go_region_with (go_at_call 21; refine (HDE.out _ HB0.out).mono ?_; rintro e w8 ⟨rfl, rfl⟩)
        all_goals
          go_wp2
          go_ret
          rw [HOK.out]
          exact ⟨rfl, _, _, by first | exact HFI.out false | exact (HG.out.fits false).next ((Below.refl _ _).drew) | exact HG.out.fits false⟩
    · have hlenI : ¬ (ts.length : Int) + 1 ≤ 2000 := by omega
      have hlenD : decide ((ts.length : Int) + 1 ≤ 2000) = false := decide_eq_false hlenI
      have HOK : Hid (okG ts.length (exs N t) = false) := by show _ = _; simp [okG, hlen]
      clear hlen
      go_wp2_with fail
      go_region
      all_goals
        go_wp2
        go_ret
        rw [HOK.out]
        exact ⟨rfl, _, _, by first | exact HFI.out false | exact (HG.out.fits false).next ((Below.refl _ _).drew) | exact HG.out.fits false⟩

end Go.Proofs.YtkmjmmnnnbjghaaGreat

/- Quotients, and what is left, in memory. -/
namespace Go.Proofs.YtkmjmmnnnbjghaaGreat
set_option linter.unusedSimpArgs false
set_option linter.unusedVariables false
open Go.RowKit

def upd {α : Type} (f : Bool → α) (s : Bool) (x : α) : Bool → α := fun s' => if s' = s then x else f s'
theorem upd_same {α : Type} (f : Bool → α) (s : Bool) (x : α) : upd f s x s = x := by simp [upd]
theorem upd_ne {α : Type} (f : Bool → α) {s s' : Bool} (x : α) (h : s' ≠ s) : upd f s x s' = f s' := by simp [upd, h]
/-- Two rows of own polynomials, all apart: quotients (true), what is left (false). -/
structure QW (B N : Nat) (w : World) (rv : Bool → Value) (us : Bool → List Value) (tss : Bool → List (List TV)) : Prop where
  len : ∀ s, (us s).length = (tss s).length
  own : ∀ s, w.ownsRow B 54 1 (rv s) (tss s).length (us s)
  kind : ∀ s g, (rv s).ownBlock = some g → SlK w g
  pol : ∀ s i, i < (tss s).length → PolW B N w ((us s).getD i nilV) ((tss s).getD i [])
  rap : ∀ g, (rv true).ownBlock = some g → (rv false).ownBlock ≠ some g
  sap : ∀ s i s' j, i < (tss s).length → j < (tss s').length → ¬ (s = s' ∧ i = j) → ∀ g, ((us s).getD i nilV).ownBlock = some g → ((us s').getD j nilV).ownBlock ≠ some g
  lens : ∀ s i, ∀ t ∈ (tss s).getD i [], t.2.2.length = N
theorem QW.rne {B N : Nat} {w : World} {rv : Bool → Value} {us : Bool → List Value} {tss : Bool → List (List TV)} (h : QW B N w rv us tss) {s s' : Bool} (hs : s ≠ s') : ∀ g, (rv s).ownBlock = some g → (rv s').ownBlock ≠ some g := by
  intro g hg e
  cases s <;> cases s'
  · exact hs rfl
  · exact h.rap g e hg
  · exact h.rap g hg e
  · exact hs rfl
theorem QW.frm {B N : Nat} {S : Nat → Prop} {w w' : World} {rv : Bool → Value} {us : Bool → List Value} {tss : Bool → List (List TV)} (h : QW B N w rv us tss) (hf : Frm S w w') (hp : ∀ g, S g → NTy w 54 g) (ht : ∀ g, S g → NTy w 57 g) (hi : ∀ g, S g → NTy w 3 g) : QW B N w' rv us tss := by
  have hrow : ∀ s g, (rv s).ownBlock = some g → ¬ S g := fun s g hg hs => by
    obtain ⟨cur, e⟩ := own_ty (h.own s) hg
    exact hp g hs cur e
  refine ⟨h.len, fun s => hf.own (h.own s) (hrow s), fun s g hg => hf.kdb (h.kind s g hg) (World.ownsRow.lt (h.own s) g hg).2 (hrow s g hg), fun s i hl => (h.pol s i hl).frm hf (fun g hg hs => ?_) hi, h.rap, h.sap, h.lens⟩
  obtain ⟨cur, e⟩ := own_ty (h.pol s i hl).own hg
  exact ht g hs cur e
theorem QW.next {B N : Nat} {w w' : World} {rv : Bool → Value} {us : Bool → List Value} {tss : Bool → List (List TV)} (h : QW B N w rv us tss) (hb : Below w.heap.size w w') : QW B N w' rv us tss :=
  h.frm (S := fun _ => False) (Frm.of_below hb) (fun _ h => h.elim) (fun _ h => h.elim) fun _ h => h.elim
/-- One of them has grown. -/
theorem QW.grow {B N : Nat} {w w' : World} {rv : Bool → Value} {us : Bool → List Value} {tss : Bool → List (List TV)} (h : QW B N w rv us tss) {s : Bool} {fb b i n rc : Nat} {f0 f : Bool} {t : Ft} {ev v : Value} (hi : i < (tss s).length) (hv : rv s = .slice (some ⟨b, 0, none⟩) n rc) (hn : n = (tss s).length) (hx : (exs N t).length = N)
    (hfb : w.ownsRow B 4 1 (.slice (some ⟨fb, 0, none⟩) 1 1) 1 [.bool f0]) (hg : GrW B N w w' fb b i n rc (us s) ((tss s).getD i []) f t ev v) :
    QW B N w' rv (upd us s ((us s).set i v)) (upd tss s ((tss s).set i ((tss s).getD i [] ++ [(t.c, ev, exs N t)]))) := by
  subst hn
  have hbs : (rv s).ownBlock = some b := by rw [hv]; rfl
  have hb := h.own s
  have hS : ∀ g, (g = b ∨ ((us s).getD i nilV).ownBlock = some g ∨ g = fb) → NTy w 3 g := fun g hgS => by
    rcases hgS with rfl | e | rfl
    · exact own_nty hb hbs (by decide)
    · exact own_nty (h.pol s i hi).own e (by decide)
    · exact own_nty hfb rfl (by decide)
  have hrow : ∀ s', s' ≠ s → ∀ g, (rv s').ownBlock = some g → ¬ (g = b ∨ ((us s).getD i nilV).ownBlock = some g ∨ g = fb) := fun s' hs' g hg2 hgS => by
    obtain ⟨cur, e⟩ := own_ty (h.own s') hg2
    rcases hgS with rfl | e2 | rfl
    · exact h.rne hs' g hg2 hbs
    · exact own_nty (h.pol s i hi).own e2 (by decide) cur e
    · exact own_nty hfb rfl (by decide) cur e
  have hpol : ∀ s' j, j < (tss s').length → ¬ (s = s' ∧ i = j) → PolW B N w' ((us s').getD j nilV) ((tss s').getD j []) := fun s' j hj hne =>
    (h.pol s' j hj).frm hg.frm (fun g hg2 hgS => by
      obtain ⟨cur, e⟩ := own_ty (h.pol s' j hj).own hg2
      rcases hgS with rfl | e2 | rfl
      · exact own_nty hb hbs (by decide) cur e
      · exact h.sap s i s' j hi hj hne g e2 hg2
      · exact own_nty hfb rfl (by decide) cur e) hS
  have hlt : ∀ s' j, j < (tss s').length → ∀ g, ((us s').getD j nilV).ownBlock = some g → g < w.heap.size := fun s' j hj g hg2 => (World.ownsRow.lt (h.pol s' j hj).own g hg2).2
  have hul : ∀ s' j, (upd us s ((us s).set i v) s').getD j nilV = if s' = s ∧ i = j ∧ j < (us s).length then v else (us s').getD j nilV := fun s' j => by
    by_cases e : s' = s
    · subst e; rw [upd_same, getD_set]
      by_cases e2 : i = j ∧ j < (us s').length
      · rw [if_pos e2, if_pos ⟨rfl, e2⟩]
      · rw [if_neg e2, if_neg fun h => e2 h.2]
    · rw [upd_ne _ _ e, if_neg fun h => e h.1]
  have htl : ∀ s' j, (upd tss s ((tss s).set i ((tss s).getD i [] ++ [(t.c, ev, exs N t)])) s').getD j [] = if s' = s ∧ i = j ∧ j < (tss s).length then (tss s).getD i [] ++ [(t.c, ev, exs N t)] else (tss s').getD j [] := fun s' j => by
    by_cases e : s' = s
    · subst e; rw [upd_same, getD_set]
      by_cases e2 : i = j ∧ j < (tss s').length
      · rw [if_pos e2, if_pos ⟨rfl, e2⟩]
      · rw [if_neg e2, if_neg fun h => e2 h.2]
    · rw [upd_ne _ _ e, if_neg fun h => e h.1]
  have hlen : ∀ s', (upd tss s ((tss s).set i ((tss s).getD i [] ++ [(t.c, ev, exs N t)])) s').length = (tss s').length := fun s' => by
    by_cases e : s' = s
    · subst e; rw [upd_same, List.length_set]
    · rw [upd_ne _ _ e]
  refine ⟨fun s' => ?_, fun s' => ?_, fun s' g hg2 => ?_, fun s' j hj => ?_, h.rap, fun s1 i1 s2 j2 h1 h2 hne g e1 => ?_, fun s' j x hx2 => ?_⟩
  · rw [hlen]
    by_cases e : s' = s
    · subst e; rw [upd_same, List.length_set]; exact h.len s'
    · rw [upd_ne _ _ e]; exact h.len s'
  · rw [hlen]
    by_cases e : s' = s
    · subst e; rw [upd_same, hv]; exact hg.row
    · rw [upd_ne _ _ e]; exact hg.frm.own (h.own s') (hrow s' e)
  · by_cases e : s' = s
    · subst e
      rw [hbs] at hg2
      simp only [Option.some.injEq] at hg2
      subst hg2; exact hg.kind
    · exact hg.frm.kdb (h.kind s' g hg2) (World.ownsRow.lt (h.own s') g hg2).2 (hrow s' e g hg2)
  · rw [hlen] at hj
    rw [hul, htl, h.len]
    by_cases e : s' = s ∧ i = j ∧ j < (tss s).length
    · rw [if_pos e, if_pos e]; exact hg.pol
    · rw [if_neg e, if_neg e]
      exact hpol s' j hj fun h4 => e ⟨h4.1.symm, h4.2, by rw [h4.1]; exact hj⟩
  · rw [hlen] at h1 h2
    rw [hul, h.len] at e1 ⊢
    by_cases ea : s1 = s ∧ i = i1 ∧ i1 < (tss s).length
    · rw [if_pos ea] at e1
      have eb : ¬ (s2 = s ∧ i = j2 ∧ j2 < (tss s).length) := fun h4 => hne ⟨ea.1.trans h4.1.symm, ea.2.1.symm.trans h4.2.1⟩
      rw [if_neg eb]
      rcases hg.loc with hl | ⟨g2, hl, hge⟩
      · rw [hl] at e1
        exact h.sap s i s2 j2 hi h2 (fun h4 => hne ⟨ea.1.trans h4.1, ea.2.1.symm.trans h4.2⟩) g e1
      · rw [hl] at e1
        simp only [Option.some.injEq] at e1
        intro e2
        have := hlt s2 j2 h2 g e2
        omega
    · rw [if_neg ea] at e1
      by_cases eb : s2 = s ∧ i = j2 ∧ j2 < (tss s).length
      · rw [if_pos eb]
        rcases hg.loc with hl | ⟨g2, hl, hge⟩
        · rw [hl]
          have := h.sap s1 i1 s2 j2 h1 h2 hne g e1
          rw [eb.1, ← eb.2.1] at this; exact this
        · rw [hl]
          intro e2
          simp only [Option.some.injEq] at e2
          have := hlt s1 i1 h1 g e1
          omega
      · rw [if_neg eb]
        exact h.sap s1 i1 s2 j2 h1 h2 hne g e1
  · rw [htl] at hx2
    split at hx2
    · rcases List.mem_append.1 hx2 with hx2 | hx2
      · exact h.lens s i x hx2
      · rw [List.mem_singleton] at hx2; subst hx2; exact hx
    · exact h.lens s' j x hx2
theorem QW.vl {B N : Nat} {w : World} {rv : Bool → Value} {us : Bool → List Value} {tss : Bool → List (List TV)} (h : QW B N w rv us tss) (s : Bool) : Vl w (rv s) ((tss s).map (List.map tm)) := by
  have hp : PRow B w (rv s) (us s) ((tss s).map (List.map tm)) := by
    refine ⟨by rw [List.length_map]; exact h.len s, by rw [List.length_map]; exact h.own s, h.kind s, fun i hi => ?_⟩
    rw [List.length_map] at hi
    have e : ((tss s).map (List.map tm)).getD i [] = ((tss s).getD i []).map tm := by simp [List.getD_eq_getElem?_getD, hi]
    rw [e]
    exact (h.pol s i hi).pl (h.lens s i)
  exact hp.vl

end Go.Proofs.YtkmjmmnnnbjghaaGreat

/- The closures of Divide. -/
namespace Go.Proofs.YtkmjmmnnnbjghaaGreat
set_option linter.unusedSimpArgs false
set_option linter.unusedVariables false
open Go.RowKit

def growV (rb fb : Nat) : Value := .func (.func 19) #[] #[.pointer (some ⟨rb, 0, none⟩), .pointer (some ⟨fb, 0, none⟩)]
/-- What the closures share. -/
structure EnW (n0 N : Nat) (w : World) (rb qb lb fb gb : Nat) (rv : Bool → Value) (us : Bool → List Value) (tss : Bool → List (List TV)) (f : Bool) : Prop where
  q : w.ownsRow n0 24 1 (.slice (some ⟨qb, 0, none⟩) 1 1) 1 [rv true]
  l : w.ownsRow n0 25 1 (.slice (some ⟨lb, 0, none⟩) 1 1) 1 [rv false]
  fit : w.ownsRow n0 4 1 (.slice (some ⟨fb, 0, none⟩) 1 1) 1 [.bool f]
  g : w.ownsRow n0 60 1 (.slice (some ⟨gb, 0, none⟩) 1 1) 1 [growV rb fb]
  qw : QW n0 N w rv us tss
/-- Blocks of none of the types that the closures share. -/
def NQ (w : World) (k : Nat) : Prop := NTy w 24 k ∧ NTy w 25 k ∧ NTy w 4 k ∧ NTy w 60 k ∧ NTy w 54 k ∧ NTy w 57 k ∧ NTy w 3 k
/-- Blocks that a sum has nothing in. -/
def GS (n0 : Nat) (w : World) (k : Nat) : Prop := n0 ≤ k ∧ KdB NoU w k ∧ NTy w 109 k ∧ NTy w 64 k ∧ NTy w 52 k
theorem own_frmT {S : Nat → Prop} {w w' : World} (hf : Frm S w w') {B : Nat} {T : TypeId} {s : Nat} {v : Value} {n : Nat} {xs : List Value} (h : w.ownsRow B T s v n xs) (hS : ∀ g, S g → NTy w T g) : w'.ownsRow B T s v n xs :=
  hf.own h fun g hg hs => by
    obtain ⟨cur, e⟩ := own_ty h hg
    exact hS g hs cur e
theorem EnW.frm {n0 N : Nat} {S : Nat → Prop} {w w' : World} {rb qb lb fb gb : Nat} {rv : Bool → Value} {us : Bool → List Value} {tss : Bool → List (List TV)} {f : Bool} (h : EnW n0 N w rb qb lb fb gb rv us tss f) (hf : Frm S w w') (hS : ∀ g, S g → NQ w g) : EnW n0 N w' rb qb lb fb gb rv us tss f :=
  ⟨own_frmT hf h.q fun g hg => (hS g hg).1, own_frmT hf h.l fun g hg => (hS g hg).2.1, own_frmT hf h.fit fun g hg => (hS g hg).2.2.1, own_frmT hf h.g fun g hg => (hS g hg).2.2.2.1, h.qw.frm hf (fun g hg => (hS g hg).2.2.2.2.1) (fun g hg => (hS g hg).2.2.2.2.2.1) fun g hg => (hS g hg).2.2.2.2.2.2⟩
theorem EnW.next {n0 N : Nat} {w w' : World} {rb qb lb fb gb : Nat} {rv : Bool → Value} {us : Bool → List Value} {tss : Bool → List (List TV)} {f : Bool} (h : EnW n0 N w rb qb lb fb gb rv us tss f) (hb : Below w.heap.size w w') : EnW n0 N w' rb qb lb fb gb rv us tss f :=
  h.frm (S := fun _ => False) (Frm.of_below hb) fun _ h => h.elim
theorem EnW.grow {n0 N : Nat} {w w' : World} {rb qb lb fb gb : Nat} {rv : Bool → Value} {us : Bool → List Value} {tss : Bool → List (List TV)} {f f2 : Bool} (h : EnW n0 N w rb qb lb fb gb rv us tss f) {s : Bool} {b i n rc : Nat} {t : Ft} {ev v : Value} (hi : i < (tss s).length) (hv : rv s = .slice (some ⟨b, 0, none⟩) n rc) (hn : n = (tss s).length) (hx : (exs N t).length = N)
    (hg : GrW n0 N w w' fb b i n rc (us s) ((tss s).getD i []) f2 t ev v) :
    EnW n0 N w' rb qb lb fb gb rv (upd us s ((us s).set i v)) (upd tss s ((tss s).set i ((tss s).getD i [] ++ [(t.c, ev, exs N t)]))) f2 ∧ Frm (GS n0 w) w w' := by
  have hb := h.qw.own s
  have hbs : (rv s).ownBlock = some b := by rw [hv]; rfl
  have hty : ∀ {T : TypeId} {g : Nat}, T ≠ 54 → T ≠ 57 → T ≠ 4 → (g = b ∨ ((us s).getD i nilV).ownBlock = some g ∨ g = fb) → NTy w T g := fun {T g} h1 h2 h3 hgS => by
    rcases hgS with rfl | e | rfl
    · exact own_nty hb hbs (fun e => h1 e.symm)
    · exact own_nty (h.qw.pol s i hi).own e (fun e => h2 e.symm)
    · exact own_nty h.fit rfl (fun e => h3 e.symm)
  refine ⟨⟨own_frmT hg.frm h.q fun g hgS => hty (by decide) (by decide) (by decide) hgS, own_frmT hg.frm h.l fun g hgS => hty (by decide) (by decide) (by decide) hgS, hg.fit, own_frmT hg.frm h.g fun g hgS => hty (by decide) (by decide) (by decide) hgS, h.qw.grow hi hv hn hx h.fit hg⟩, hg.frm.wide fun k hk hkS => ⟨?_, ?_, hty (by decide) (by decide) (by decide) hkS, hty (by decide) (by decide) (by decide) hkS, hty (by decide) (by decide) (by decide) hkS⟩⟩
  · rcases hkS with rfl | e | rfl
    · exact (World.ownsRow.lt hb _ hbs).1
    · exact (World.ownsRow.lt (h.qw.pol s i hi).own k e).1
    · exact (World.ownsRow.lt h.fit _ rfl).1
  · rcases hkS with rfl | e | rfl
    · exact slk_nou (h.qw.kind s _ hbs)
    · exact (h.qw.pol s i hi).kind k e
    · intro j u hu x e
      rcases h.fit.2 with ⟨h4, _⟩ | ⟨g2, cap, cur, h4, _, hh, hn1, _, hcs, ht⟩
      · simp at h4
      · simp only [Value.slice.injEq, Option.some.injEq, Addr.mk.injEq, true_and, and_true] at h4
        obtain ⟨rfl, rfl⟩ := h4
        rw [cell_of_row w _ j cur 4 (0, 0) hh] at hu
        have hj : j < cur.size := by
          apply Nat.lt_of_not_le; intro hle
          rw [Array.getElem?_eq_none hle] at hu; cases hu
        have h0 : j = 0 := by omega
        subst h0
        have : cur.toList = [.bool f] := by
          rw [← ht, List.take_of_length_le (by simp; omega)]
        have h5 : cur[0]? = some (.bool f) := by rw [← Array.getElem?_toList, this]; rfl
        rw [h5] at hu
        simp only [Option.some.injEq] at hu
        rw [← hu] at e; cases e

set_option maxRecDepth 100000 in
theorem find_any (p : Int) (B db : Nat) (v : Value) (ds : List De) (t : Ft) (w : World) (hc : w.cell? ⟨db, 0, none⟩ = some v) (hd : DvsW p B w v ds) (hn : ds.length ≤ 1000) :
    Calls Tryz.prog 25 #[ftV t, .pointer (some ⟨db, 0, none⟩)] w fun e w' => e = .returned (ptrD v (fI t ds)) ∧ Below w.heap.size w w' := by
  obtain ⟨w1, hw1⟩ : ∃ w1, w1 = w.alloc (.cells #[.int .i64 t.k, .int .u16 t.a, .int .u16 t.b, .int .u16 t.d, .int .u16 t.z, .int .u8 t.pl, .int .u8 t.c] 52) := ⟨_, rfl⟩
  have HB1 : Hid (Below w.heap.size w w1) := by rw [hw1]; exact belowNew
  have HX1 : Hid (Bx w.heap.size w1 w.heap.size t) := by rw [hw1]; exact box7 (Nat.le_refl _) t
  have HFI := hid (first_any p B v ds t w1 (hd.next HB1.out) hn)
  obtain ⟨y0, y1, y2, y3, y4, y5, y6⟩ := HX1.out.at
  simp only [Nat.zero_add] at y0 y1 y2 y3 y4 y5 y6
  have z1 := cell_keep hc HB1.out
  obtain ⟨va, vc, rfl⟩ := own_sl hd.own
  clear hd hc
  unfold ftV at HFI ⊢
  go_enter Tryz.func25, Tryz.ntmps25
  go_upto_region 1 with fail
  rw [← hw1]
  clear hw1
  go_wp2_with (go_at_call 26; refine HFI.out.mono ?_; rintro e w9 ⟨rfl, hb9⟩; have HB9 := hid hb9; clear hb9)
  go_ret
  exact ⟨rfl, HB1.out.trans (HB9.out.mono HB1.out.size)⟩

/-- What has grown: the polynomial of one place of one row, by one term. -/
def gro (tss : Bool → List (List TV)) (s : Bool) (i : Nat) (t : Ft) (ev : Value) (N : Nat) : Bool → List (List TV) := upd tss s ((tss s).set i ((tss s).getD i [] ++ [(t.c, ev, exs N t)]))
theorem growCl_any (n0 N rb qb lb fb gb b i n rc : Nat) (p o ov : Int) (rv : Bool → Value) (us : Bool → List Value) (tss : Bool → List (List TV)) (f : Bool) (s : Bool) (t : Ft) (w : World) (h0 : 0 < N) (h3 : N ≤ 3) (hbd : ∀ x ∈ exs N t, 0 ≤ x ∧ x ≤ 40000) (hc : 0 ≤ t.c ∧ t.c ≤ 255) (hB : n0 ≤ w.heap.size) (hr : BoxAt w rb p N o ov)
    (he : EnW n0 N w rb qb lb fb gb rv us tss f) (hv : rv s = .slice (some ⟨b, 0, none⟩) n rc) (hi : i < (tss s).length) (hn : ((tss s).getD i []).length ≤ 2000) :
    Calls Tryz.prog 19 #[.pointer (some ⟨b, i, none⟩), ftV t, .pointer (some ⟨rb, 0, none⟩), .pointer (some ⟨fb, 0, none⟩)] w fun e w' => e = .returned (.bool (okG ((tss s).getD i []).length (exs N t))) ∧ ∃ us2 ev, EnW n0 N w' rb qb lb fb gb rv us2 (gro tss s i t ev N) (okG ((tss s).getD i []).length (exs N t)) ∧ Frm (GS n0 w) w w' := by
  have hown := he.qw.own s
  have hnn : n = (tss s).length := by
    obtain ⟨a, c, e⟩ := own_sl hown
    rw [hv] at e; simp only [Value.slice.injEq] at e; exact e.2.1
  have hx : (exs N t).length = N := by unfold exs; rw [List.length_take]; simp; omega
  subst hnn
  rw [hv] at hown
  refine (grow_any n0 N rb fb b i _ rc p o ov (us s) ((tss s).getD i []) f t w h0 h3 hbd hc hB hr he.fit hown (he.qw.kind s b (by rw [hv]; rfl)) hi (he.qw.pol s i hi) hn).mono ?_
  rintro e w' ⟨rfl, ev, v, hg⟩
  have h := he.grow hi hv rfl hx hg
  exact ⟨rfl, _, ev, h.1, h.2⟩

end Go.Proofs.YtkmjmmnnnbjghaaGreat

/- What holds from round to round of the division: the sum beside the reference's vector. -/
namespace Go.Proofs.YtkmjmmnnnbjghaaGreat
set_option linter.unusedSimpArgs false
set_option linter.unusedVariables false
open Go.RowKit

theorem idx_inj {a b c d a2 b2 c2 d2 : Int} (h0 : 0 ≤ a) (h1 : 0 ≤ b) (h2 : 0 ≤ c) (h3 : 0 ≤ d) (h4 : b + c + d ≤ 400) (g0 : 0 ≤ a2) (g1 : 0 ≤ b2) (g2 : 0 ≤ c2) (g3 : 0 ≤ d2) (g4 : b2 + c2 + d2 ≤ 400) (e : (a * 64481201 + (b * 160801 + (c * 401 + d))).toNat = (a2 * 64481201 + (b2 * 160801 + (c2 * 401 + d2))).toNat) : a = a2 ∧ b = b2 ∧ c = c2 ∧ d = d2 := by
  have q1 : 0 ≤ c * 401 + d ∧ c * 401 + d < 160801 := by omega
  have q2 : 0 ≤ c2 * 401 + d2 ∧ c2 * 401 + d2 < 160801 := by omega
  have q3 : 0 ≤ b * 160801 + (c * 401 + d) ∧ b * 160801 + (c * 401 + d) < 64481201 := by omega
  have q4 : 0 ≤ b2 * 160801 + (c2 * 401 + d2) ∧ b2 * 160801 + (c2 * 401 + d2) < 64481201 := by omega
  have e1 : a = a2 ∧ b * 160801 + (c * 401 + d) = b2 * 160801 + (c2 * 401 + d2) := by
    generalize b * 160801 + (c * 401 + d) = x at e q3
    generalize b2 * 160801 + (c2 * 401 + d2) = y at e q4
    omega
  have e2 : b = b2 ∧ c * 401 + d = c2 * 401 + d2 := by
    have := e1.2
    generalize c * 401 + d = x at this q1
    generalize c2 * 401 + d2 = y at this q2
    omega
  have e3 : c = c2 ∧ d = d2 := by omega
  exact ⟨e1.1, e2.1, e3.1, e3.2⟩
/-- Rows that fall are not long. -/
theorem gd_len {o ov : Int} {N R : Nat} (hR : R ≤ 40) : ∀ r, Dn r → (∀ t ∈ r, Gd o ov N R 400 t) → r.length ≤ 100000000000 := by
  intro r hd hg
  let idx : Ft → Nat := fun t => (t.pl * 64481201 + (t.a * 160801 + (t.b * 401 + t.d))).toNat
  have hn : (r.map idx).Nodup := by
    rw [List.nodup_iff_pairwise_ne, List.pairwise_map]
    refine List.Pairwise.imp_of_mem (R := fun a b : Ft => b.k < a.k) (fun {a b} ha hb hlt e => ?_) hd
    have ga := hg a ha
    have gb := hg b hb
    obtain ⟨k1, a1, b1, d1, s1, z1, p1, q1, _, _⟩ := ga
    obtain ⟨k2, a2, b2, d2, s2, z2, p2, q2, _, _⟩ := gb
    have e2 := idx_inj p1 a1 b1 d1 s1 p2 a2 b2 d2 s2 e
    have e3 : exs N a = exs N b := by unfold exs; rw [e2.2.1, e2.2.2.1, e2.2.2.2]
    rw [k1, k2, e3, e2.1] at hlt
    omega
  have hb : ∀ x ∈ r.map idx, x < 100000000000 := fun x hx => by
    obtain ⟨t, ht, rfl⟩ := List.mem_map.1 hx
    obtain ⟨k1, a1, b1, d1, s1, z1, p1, q1, _, _⟩ := hg t ht
    simp only [idx]
    omega
  have := nodup_le _ _ hn hb
  rwa [List.length_map] at this
/-- The sum, one term of it taken, beside the vector that is divided. -/
structure PV (p o ov : Int) (N R : Nat) (r : Option Ft) (rows : List (List Ft)) (s : DS) : Prop where
  ok : Rok p (Gd o ov N R 400) rows
  none : r = none → leadF o ov s.v s.v.length = none
  some : ∀ t, r = some t → leadF o ov s.v s.v.length = some (t.pl.toNat, (t.c, exs N t)) ∧ Gd o ov N R 400 t ∧ 0 < t.c ∧ t.c < p ∧ ∀ k, p ∣ cnt k rows.flatten + (if k = t.k then t.c else 0) - cv o ov k s.v R
theorem nx_pv {p o ov : Int} {N R : Nat} (hx : RCx p o ov N R) {lss : List (List (List Tm))} {s : DS} (h : DInv p o ov N R lss s) {rows rows2 : List (List Ft)} {r : Option Ft} (hr : Rok p (Gd o ov N R 400) rows) (hrep : Rep p o ov R rows s.v) (hn : Nx p rows r rows2) : PV p o ov N R r rows2 s ∧ rows2.length = rows.length := by
  have hD : ∀ i, i < R → Dg ov i ≤ 16000 := fun i hi => by have := (Dg_bd (ov := ov) hx.r i hi).2; omega
  obtain ⟨hp1, hp2⟩ := errP_bd hx.pr
  obtain ⟨r1, r2, _⟩ := Nx.spec hp1 (G := Gd o ov N R 400) (fun x t => Gd.alk x t) hn hr
  refine ⟨⟨r1, fun e => ?_, fun t e => ?_⟩, r2⟩
  · subst e; exact ls_none hx h.vok h.vl hD hr hrep hn
  · subst e
    obtain ⟨a, _, _, b, c, d, e⟩ := ls_some hx (by omega) h.vok h.vl hD hr hrep hn
    exact ⟨a, b, c, d, e⟩
/-- Quotients and what is left, as the reference has them. -/
structure QS (tss : Bool → List (List TV)) (s : DS) : Prop where
  q : (tss true).map (List.map tm) = s.q
  l : (tss false).map (List.map tm) = s.l
/-- None is too great. -/
def Sml (tss : Bool → List (List TV)) : Prop := ∀ s i, ((tss s).getD i []).length ≤ 2000 ∧ ∀ t ∈ (tss s).getD i [], sumI t.2.2 ≤ 200
/-- One is too great. -/
def Grt (tss : Bool → List (List TV)) : Prop := ∃ s i, i < (tss s).length ∧ (2000 < ((tss s).getD i []).length ∨ ∃ t ∈ (tss s).getD i [], 200 < sumI t.2.2)
theorem map_setT (l : List (List TV)) (i : Nat) (x : TV) : (l.set i (l.getD i [] ++ [x])).map (List.map tm) = (l.map (List.map tm)).set i ((l.map (List.map tm)).getD i [] ++ [tm x]) := by
  rw [List.map_set]
  congr 1
  rw [List.map_append]
  congr 1
  by_cases h : i < l.length
  · simp [List.getD_eq_getElem?_getD, h]
  · simp [List.getD_eq_getElem?_getD, h]
theorem qs_left {tss : Bool → List (List TV)} {s s2 : DS} (h : QS tss s) {i N : Nat} {t : Ft} {ev : Value} (hq : s2.q = s.q) (hl : s2.l = s.l.set i (s.l.getD i [] ++ [(t.c, exs N t)])) : QS (gro tss false i t ev N) s2 := by
  refine ⟨?_, ?_⟩
  · unfold gro; rw [upd_ne _ _ (by decide), h.q, hq]
  · unfold gro; rw [upd_same, map_setT, h.l, hl]; rfl
theorem qs_taken {tss : Bool → List (List TV)} {s s2 : DS} (h : QS tss s) {i N : Nat} {t : Ft} {ev : Value} (hl : s2.l = s.l) (hq : s2.q = s.q.set i (s.q.getD i [] ++ [(t.c, exs N t)])) : QS (gro tss true i t ev N) s2 := by
  refine ⟨?_, ?_⟩
  · unfold gro; rw [upd_same, map_setT, h.q, hq]; rfl
  · unfold gro; rw [upd_ne _ _ (by decide), h.l, hl]
theorem gro_at (tss : Bool → List (List TV)) (s : Bool) (i : Nat) (t : Ft) (ev : Value) (N : Nat) (s' : Bool) (j : Nat) : (gro tss s i t ev N s').getD j [] = if s' = s ∧ i = j ∧ j < (tss s).length then (tss s).getD i [] ++ [(t.c, ev, exs N t)] else (tss s').getD j [] := by
  unfold gro
  by_cases e : s' = s
  · subst e; rw [upd_same, getD_set]
    by_cases e2 : i = j ∧ j < (tss s').length
    · rw [if_pos e2, if_pos ⟨rfl, e2⟩]
    · rw [if_neg e2, if_neg fun h => e2 h.2]
  · rw [upd_ne _ _ e, if_neg fun h => e h.1]
theorem gro_len (tss : Bool → List (List TV)) (s : Bool) (i : Nat) (t : Ft) (ev : Value) (N : Nat) (s' : Bool) : (gro tss s i t ev N s').length = (tss s').length := by
  unfold gro
  by_cases e : s' = s
  · subst e; rw [upd_same, List.length_set]
  · rw [upd_ne _ _ e]
theorem sml_gro {tss : Bool → List (List TV)} (h : Sml tss) {s : Bool} {i N : Nat} {t : Ft} {ev : Value} (hok : okG ((tss s).getD i []).length (exs N t) = true) : Sml (gro tss s i t ev N) := by
  simp only [okG, Bool.and_eq_true, decide_eq_true_eq] at hok
  intro s' j
  rw [gro_at]
  split
  · rw [List.length_append]
    refine ⟨by simpa using hok.1, fun x hx => ?_⟩
    rcases List.mem_append.1 hx with hx | hx
    · exact (h s i).2 x hx
    · rw [List.mem_singleton] at hx; subst hx; exact hok.2
  · exact h s' j
theorem grt_gro {tss : Bool → List (List TV)} {s : Bool} {i N : Nat} {t : Ft} {ev : Value} (hi : i < (tss s).length) (hok : okG ((tss s).getD i []).length (exs N t) = false) : Grt (gro tss s i t ev N) := by
  refine ⟨s, i, by rw [gro_len]; exact hi, ?_⟩
  rw [gro_at, if_pos ⟨rfl, rfl, hi⟩, List.length_append]
  simp only [okG, Bool.and_eq_false_iff, decide_eq_false_iff_not] at hok
  rcases hok with h | h
  · left; simp only [List.length_cons, List.length_nil]; omega
  · right; exact ⟨(t.c, ev, exs N t), by simp, by simp only; omega⟩
/-- What is taken away, as the program scales it. -/
theorem rok_mul {p o ov : Int} {N R : Nat} (hx : RCx p o ov N R) {r : List Ft} {bt : Ft} {more : Int} (hd : Dn r) (hc : ∀ t ∈ r, 0 < t.c ∧ t.c < p) (hg : ∀ t ∈ r, Gd o ov N R 200 t) (ba : 0 ≤ bt.a) (bb : 0 ≤ bt.b) (bd : 0 ≤ bt.d) (bz : bt.z = 0) (bs : bt.a + bt.b + bt.d ≤ 200) (b1 : N ≤ 1 → bt.b = 0) (b2 : N ≤ 2 → bt.d = 0) (bc : 0 < bt.c ∧ bt.c < p) (hm : more = addK o (exs N bt)) : Rok p (Gd o ov N R 400) [r.map (mulF p more bt)] := by
  refine ⟨fun f hf => ?_, fun f hf t ht => ?_, fun f hf t ht => ?_⟩ <;> (rw [List.mem_singleton] at hf; subst hf)
  · unfold Dn
    rw [List.pairwise_map]
    exact hd.imp fun {a b} h => by simp only [mulF]; omega
  · obtain ⟨x, hx2, rfl⟩ := List.mem_map.1 ht
    have := prime_mulI hx.pr (show 1 ≤ x.c by have := hc x hx2; omega) (hc x hx2).2 (show 1 ≤ bt.c by omega) bc.2
    simp only [mulF]; omega
  · obtain ⟨x, hx2, rfl⟩ := List.mem_map.1 ht
    obtain ⟨k1, a1, b1', d1, s1, z1, p1, q1, n1, n2⟩ := hg x hx2
    have hex : exs N (mulF p more bt x) = zipI (· + ·) (exs N bt) (exs N x) := by
      have hN : N = 1 ∨ N = 2 ∨ N = 3 := by have := hx.n0; have := hx.n3; omega
      rcases hN with rfl | rfl | rfl <;> simp [exs, mulF, zipI] <;> omega
    have hlb : (exs N bt).length = N := by unfold exs; rw [List.length_take]; simp; have := hx.n3; omega
    have hlx : (exs N x).length = N := by unfold exs; rw [List.length_take]; simp; have := hx.n3; omega
    refine ⟨?_, by simp only [mulF]; omega, by simp only [mulF]; omega, by simp only [mulF]; omega, by simp only [mulF]; omega, by simp only [mulF]; omega, by simp only [mulF]; exact p1, by simp only [mulF]; exact q1, fun h => by simp only [mulF]; have := n1 h; have := b1 h; omega, fun h => by simp only [mulF]; have := n2 h; have := b2 h; omega⟩
    rw [hex]
    show x.k + more = keyL o ov x.pl _
    unfold keyL
    rw [addK_zip hx.n3 hlb hlx, k1, hm]
    unfold keyL; omega

end Go.Proofs.YtkmjmmnnnbjghaaGreat
