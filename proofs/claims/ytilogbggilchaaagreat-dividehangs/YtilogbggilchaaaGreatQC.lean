/- Own polynomials that grow: rows of them; what is kept. -/
import Derived.Test.YtilogbggilchaaaGreatZT
namespace Go.Proofs.YtilogbggilchaaaGreat
set_option linter.unusedSimpArgs false
set_option linter.unusedVariables false
open Go.RowKit
structure PolW (B N : Nat) (w : World) (u : Value) (ts : List TV) : Prop where
  own : w.ownsRow B 57 2 u ts.length (flat ts)
  kind : ∀ g, u.ownBlock = some g → KdB NoU w g
  es : ∀ t ∈ ts, w.ownsRow B 3 1 t.2.1 N (t.2.2.map (Value.int .i64))
def NTy (w : World) (T : TypeId) (g : Nat) : Prop := ∀ cur, w.heap[g]? ≠ some (.cells cur T (0, 0))
theorem own_ty {w : World} {B : Nat} {T : TypeId} {s : Nat} {v : Value} {n : Nat} {xs : List Value} (h : w.ownsRow B T s v n xs) {g : Nat} (hg : v.ownBlock = some g) : ∃ cur, w.heap[g]? = some (.cells cur T (0, 0)) := by
  rcases h.2 with ⟨rfl, _⟩ | ⟨g2, cap, cur, rfl, _, hh, _⟩
  · simp [Value.ownBlock] at hg
  · simp only [Value.ownBlock, Option.some.injEq] at hg
    subst hg
    exact ⟨cur, hh⟩
theorem own_nty {w : World} {B : Nat} {T T' : TypeId} {s : Nat} {v : Value} {n : Nat} {xs : List Value} (h : w.ownsRow B T s v n xs) {g : Nat} (hg : v.ownBlock = some g) (hT : T ≠ T') : NTy w T' g := by
  obtain ⟨cur, hh⟩ := own_ty h hg
  intro cur2 e
  rw [hh] at e
  simp only [Option.some.injEq, Obj.cells.injEq] at e
  exact hT e.2.1
theorem PolW.frm {B N : Nat} {S : Nat → Prop} {w w' : World} {u : Value} {ts : List TV} (h : PolW B N w u ts) (hf : Frm S w w') (hu : ∀ g, u.ownBlock = some g → ¬ S g) (hS : ∀ g, S g → NTy w 3 g) : PolW B N w' u ts :=
  ⟨hf.own h.own hu, fun g hg => hf.kdb (h.kind g hg) (World.ownsRow.lt h.own g hg).2 (hu g hg), fun t ht => hf.own (h.es t ht) fun g hg hs => by
    obtain ⟨cur, e⟩ := own_ty (h.es t ht) hg
    exact hS g hs cur e⟩
theorem PolW.next {B N : Nat} {w w' : World} {u : Value} {ts : List TV} (h : PolW B N w u ts) (hb : Below w.heap.size w w') : PolW B N w' u ts :=
  h.frm (S := fun _ => False) (Frm.of_below hb) (fun _ _ h => h) fun _ h => h.elim
theorem PolW.nil (B N : Nat) (w : World) : PolW B N w (.slice none 0 0) [] := ⟨World.ownsRow_nil _ _ _ _, fun g hg => by simp [Value.ownBlock] at hg, fun t ht => by simp at ht⟩
theorem PolW.pl {B N : Nat} {w : World} {u : Value} {ts : List TV} (h : PolW B N w u ts) (hl : ∀ t ∈ ts, t.2.2.length = N) : Pl w u (ts.map tm) := by
  refine own_pl h.own fun t ht => ?_
  exact ownsRow_sl (T := 3) (by rw [hl t ht]; exact h.es t ht)
theorem PolW.snoc {B N : Nat} {w w' : World} {u v : Value} {ts : List TV} {c : Int} {ev : Value} {xs : List Int} (h : PolW B N w u ts) (hev : w.ownsRow B 3 1 ev N (xs.map (Value.int .i64)))
    (h2 : w'.ownsRow B 57 2 v (ts.length + 1) (flat ts ++ [.int .i64 c, ev])) (h3 : w.grownBy w' u.ownBlock) (h4 : ∀ g, v.ownBlock = some g → KdB NoU w' g) : PolW B N w' v (ts ++ [(c, ev, xs)]) := by
  have hf : Frm (fun k => u.ownBlock = some k) w w' := Frm.of_grown h3 fun _ e => e
  have hk : ∀ {z : Value} {n : Nat} {zs : List Value}, w.ownsRow B 3 1 z n zs → w'.ownsRow B 3 1 z n zs := fun {z n zs} hz => hf.own hz fun g hg e => by
    obtain ⟨cur, e2⟩ := own_ty hz hg
    exact own_nty h.own e (by decide) cur e2
  refine ⟨?_, h4, fun t ht => ?_⟩
  · have e : flat (ts ++ [(c, ev, xs)]) = flat ts ++ [.int .i64 c, ev] := by simp [flat]
    rw [e, List.length_append]; exact h2
  · rcases List.mem_append.1 ht with ht | ht
    · exact hk (h.es t ht)
    · rw [List.mem_singleton] at ht; subst ht; exact hk hev
theorem step_append_pol {ops : Array Oper} {o : Oper} {a : Act} {w : World} {K : Act → World → Prop} {Q : Exit → Act → World → Prop} {E : Prop} (hgd : o.guard = none) (s x : Operand) (t : TypeId)
    (ho : o.op = .call { callee := .builtin .append, args := #[s, x], argTypes := #[t, t] }) (ht : Tryz.prog.underlying t = some (.slice 57))
    (B N : Nat) (u : Value) (ts : List TV) (c : Int) (ev : Value) (xs : List Int) (hs : a.eval s = u) (h : PolW B N w u ts) (hev : w.ownsRow B 3 1 ev N (xs.map (Value.int .i64))) (ad : Addr) (cp : Nat) (hx : a.eval x = .slice (some ad) 1 cp)
    (hnew : ∀ j y, [Value.int .i64 c, ev][j]? = some y → w.cell? (ad.add j) = some y) (hn : ts.length ≤ 1200000000000) (hB : B ≤ w.heap.size)
    (hK : ∀ v' w', PolW B N w' v' (ts ++ [(c, ev, xs)]) → w.grownBy w' u.ownBlock → (v'.ownBlock = u.ownBlock ∨ v'.ownBlock = some w.heap.size) → K (a.put o.dst v') w') :
    if Region.wanted o (yielded ops a.tmps) = true then Oper.wp Tryz.prog o a w K Q else E := by
  have hw : Region.wanted o (yielded ops a.tmps) = true := by simp [Region.wanted, hgd]
  rw [if_pos hw]
  obtain ⟨i0, hi, hz0, hz1, hz2⟩ := info_parts Tryz.infoTerm
  obtain ⟨ea, ec, rfl⟩ := own_sl hev
  have hone : ∀ y ∈ [Value.int .i64 c, .slice ea N ec], y.oneCell' = true := fun y hy => by
    simp only [List.mem_cons, List.not_mem_nil, or_false] at hy
    rcases hy with rfl | rfl <;> rfl
  have hno : ∀ y ∈ [Value.int .i64 c, .slice ea N ec], NoU y := fun y hy x e => by
    simp only [List.mem_cons, List.not_mem_nil, or_false] at hy
    rcases hy with rfl | rfl <;> cases e
  obtain ⟨v', w', hr, h2, h3, h4, h5⟩ := run_append_kdb (P := Tryz.prog) w NoU B t o.type 57 i0 _ 2 32 ht hi hz0 hz1 hz2 rfl (by decide) (fun y hy x e => by simp [Value.cells] at hy; rcases hy with rfl | rfl <;> cases e) u ts.length (flat ts) h.own h.kind ad 1 cp [.int .i64 c, .slice ea N ec] (by decide) rfl hnew hone hno (by unfold maxLen; omega) (by omega) hB
  unfold Oper.wp execOp
  simp only [ho, resolve, invoke, builtin, Sem.run_bind, Sem.run_pure, Result.andThen_ok, List.map_toArray, List.map_cons, List.map_nil, hs, hx, hr]
  exact hK v' w' (h.snoc hev h2 h3 h4) h3 h5
theorem two_newP (w : World) (c : Int) (ev : Value) (T : TypeId) : ∀ j u, [Value.int .i64 c, ev][j]? = some u → (w.alloc (.cells #[.int .i64 c, ev] T)).cell? ((⟨w.heap.size, 0, none⟩ : Addr).add j) = some u := by
  intro j u hj
  have hadd : (⟨w.heap.size, 0, none⟩ : Addr).add j = ⟨w.heap.size, j, none⟩ := by unfold Addr.add; split <;> simp_all
  rw [hadd, cell_of_row _ w.heap.size j _ T (0, 0) (heap_alloc_new w _)]
  simpa using hj
def okG (n : Nat) (xs : List Int) : Bool := decide (n + 1 ≤ 2000) && decide (sumI xs ≤ 200)

structure GrW (B N : Nat) (w wx : World) (fb b i n rc : Nat) (us : List Value) (ts : List TV) (f : Bool) (t : Ft) (ev v : Value) : Prop where
  pol : PolW B N wx v (ts ++ [(t.c, ev, exs N t)])
  row : wx.ownsRow B 54 1 (.slice (some ⟨b, 0, none⟩) n rc) n (us.set i v)
  kind : SlK wx b
  fit : wx.ownsRow B 4 1 (.slice (some ⟨fb, 0, none⟩) 1 1) 1 [.bool f]
  frm : Frm (fun k => k = b ∨ (us.getD i nilV).ownBlock = some k ∨ k = fb) w wx
  loc : v.ownBlock = (us.getD i nilV).ownBlock ∨ ∃ g, v.ownBlock = some g ∧ w.heap.size ≤ g
theorem GrW.next {B N : Nat} {w wx w' : World} {fb b i n rc : Nat} {us : List Value} {ts : List TV} {f : Bool} {t : Ft} {ev v : Value} (h : GrW B N w wx fb b i n rc us ts f t ev v) (hb : Below wx.heap.size wx w') : GrW B N w w' fb b i n rc us ts f t ev v :=
  ⟨h.pol.next hb, ownBlock_lt h.row hb, KdB.below h.kind (hb.block b (World.ownsRow.lt h.row b rfl).2), ownBlock_lt h.fit hb, h.frm.trans (Frm.of_below (S := fun _ => False) hb) (fun _ _ h => h.elim), h.loc⟩
theorem GrW.fits {B N : Nat} {w wx : World} {fb b i n rc : Nat} {us : List Value} {ts : List TV} {f : Bool} {t : Ft} {ev v : Value} (h : GrW B N w wx fb b i n rc us ts f t ev v) (f2 : Bool) : GrW B N w (wx.setCell ⟨fb, 0, none⟩ (.bool f2)) fb b i n rc us ts f2 t ev v := by
  have s := World.ownsRow.stored h.fit 0 (.bool f2)
  have hf : Frm (fun k => k = fb) wx (wx.setCell ⟨fb, 0, none⟩ (.bool f2)) := Frm.of_grown s.2 fun x e => by simpa using e.symm
  have hnb : b ≠ fb := fun e => by
    have := own_neT (by decide) h.row h.fit
    simp [Value.ownBlock, e] at this
  refine ⟨h.pol.frm hf (fun g hg e => ?_) (fun g e => ?_), hf.own h.row (fun g hg e => ?_), hf.kdb h.kind (World.ownsRow.lt h.row b rfl).2 hnb, s.1, h.frm.trans hf (fun x _ e => Or.inr (Or.inr e)), h.loc⟩
  · subst e
    rcases own_neT (by decide) h.pol.own h.fit with h1 | h1
    · rw [h1] at hg; cases hg
    · exact h1 (by rw [hg]; rfl)
  · subst e; exact own_nty h.fit rfl (by decide)
  · simp only [Value.ownBlock, Option.some.injEq] at hg; omega
set_option maxRecDepth 100000 in
set_option maxHeartbeats 2000000 in
theorem grow_any (B N rb fb b i n rc : Nat) (p o ov : Int) (us : List Value) (ts : List TV) (f0 : Bool) (t : Ft) (w : World) (h0 : 0 < N) (h3 : N ≤ 3) (hbd : ∀ x ∈ exs N t, 0 ≤ x ∧ x ≤ 40000) (hc : 0 ≤ t.c ∧ t.c ≤ 255) (hB : B ≤ w.heap.size) (hr : BoxAt w rb p N o ov)
    (hfb : w.ownsRow B 4 1 (.slice (some ⟨fb, 0, none⟩) 1 1) 1 [.bool f0]) (hrow : w.ownsRow B 54 1 (.slice (some ⟨b, 0, none⟩) n rc) n us) (hk : SlK w b) (hi : i < n) (hp : PolW B N w (us.getD i nilV) ts) (hn : ts.length ≤ 2000) :
    Calls Tryz.prog 19 #[.pointer (some ⟨b, i, none⟩), ftV t, .pointer (some ⟨rb, 0, none⟩), .pointer (some ⟨fb, 0, none⟩)] w fun e w' => e = .returned (.bool (okG ts.length (exs N t))) ∧ ∃ ev v, GrW B N w w' fb b i n rc us ts (okG ts.length (exs N t)) t ev v := by
  have HP := hid hp
  have HFB := hid hfb
  have HROW := hid hrow
  have HK := hid hk
  obtain ⟨ua, uc, hu⟩ := own_sl hp.own
  have hcell : w.cell? ⟨b, i, none⟩ = some (us.getD i nilV) := by
    have hl : us.length = n * 1 := hrow.1
    rw [World.ownsRow.cellAt hrow i (by omega), List.getD_eq_getElem?_getD, List.getElem?_eq_getElem (by omega)]; rfl
  rw [hu] at hcell
  have HC := hid hcell
  have HU := hid hu
  obtain ⟨hrlt, r0, r1, r2, r3⟩ := hr
  have HR1 := hid r1
  obtain ⟨w1, hw1⟩ : ∃ w1, w1 = w.alloc (.cells #[.int .i64 t.k, .int .u16 t.a, .int .u16 t.b, .int .u16 t.d, .int .u16 t.z, .int .u8 t.pl, .int .u8 t.c] 52) := ⟨_, rfl⟩
  have HB1 : Hid (Below w.heap.size w w1) := by rw [hw1]; exact belowNew
  have HX1 : Hid (Bx w.heap.size w1 w.heap.size t) := by rw [hw1]; exact box7 (Nat.le_refl _) t
  have HBA := hid (fun (W : World) => bare_any N t W h0 h3 (fun x hx => by have := hbd x hx; omega) hc)
  unfold ftV at HBA ⊢
  obtain ⟨y0, y1, y2, y3, y4, y5, y6⟩ := HX1.out.at
  simp only [Nat.zero_add] at y0 y1 y2 y3 y4 y5 y6
  have z1 := cell_keep HC.out HB1.out
  have z2 := cell_keep HR1.out HB1.out
  clear hp hfb hrow hk hu hcell r0 r1 r2 r3
  go_enter Tryz.func19, Tryz.ntmps19
  go_wp2_with fail
  rw [← hw1]
  clear hw1
  have STEP : Hid (∀ w8 ev8 v9 w9, Below w1.heap.size w1 w8 → PolW B N w9 v9 (ts ++ [(t.c, ev8, exs N t)]) → (w8.alloc (.cells #[.int .i64 t.c, ev8] 57)).grownBy w9 (Value.slice ua ts.length uc).ownBlock → (v9.ownBlock = (Value.slice ua ts.length uc).ownBlock ∨ v9.ownBlock = some (w8.alloc (.cells #[.int .i64 t.c, ev8] 57)).heap.size) →
      w9.cell? ⟨b, i, none⟩ = some (.slice ua ts.length uc) ∧ w9.frozen? ⟨b, i, none⟩ = false ∧ GrW B N w (w9.setCell ⟨b, i, none⟩ v9) fb b i n rc us ts f0 t ev8 v9) := fun w8 ev8 v9 w9 q0 q1 q2 q3 => by
    have hb : Below w.heap.size w (w8.alloc (.cells #[.int .i64 t.c, ev8] 57)) := (HB1.out.trans (q0.mono HB1.out.size)).trans (belowNew.mono (HB1.out.trans (q0.mono HB1.out.size)).size)
    have hro := ownBlock_lt HROW.out hb
    have hbo := ownBlock_lt HFB.out hb
    have hpo := HP.out.next hb
    rw [HU.out] at hpo
    have hr9 := World.ownsRow.kept hro q2 (own_neT (by decide) hro hpo.own)
    have hf9 := World.ownsRow.kept hbo q2 (own_neT (by decide) hbo hpo.own)
    have hk9 : SlK w9 b := by
      refine KdB.below (KdB.below HK.out (hb.block b (World.ownsRow.lt HROW.out b rfl).2)) (q2.block b (World.ownsRow.lt hro b rfl).2 ?_)
      rcases own_neT (T := 54) (T' := 57) (by decide) hro hpo.own with h | h
      · simp [Value.ownBlock] at h
      · exact h
    have hc9 : w9.cell? ⟨b, i, none⟩ = some (.slice ua ts.length uc) := by rw [World.ownsRow.cellAt hr9 i (by omega), ← HU.out, List.getD_eq_getElem?_getD, List.getElem?_eq_getElem (by have := hr9.1; omega)]; rfl
    have s := World.ownsRow.stored hr9 i v9
    have hfs : Frm (fun k => k = b) w9 (w9.setCell ⟨b, i, none⟩ v9) := Frm.of_grown s.2 fun x e => by simpa using e.symm
    have hvs : ∃ a n c, v9 = .slice a n c := by obtain ⟨a, c, e⟩ := own_sl q1.own; exact ⟨a, _, c, e⟩
    refine ⟨hc9, World.ownsRow.frozenAt hr9 i, q1.frm hfs (fun g hg e => ?_) (fun g e => ?_), s.1, kdb_set hk9 hvs hc9, hfs.own hf9 (fun g hg e => ?_), ?_, ?_⟩
    · subst e
      rcases own_neT (by decide) q1.own hr9 with h1 | h1
      · rw [h1] at hg; cases hg
      · exact h1 (by rw [hg]; rfl)
    · subst e; exact own_nty hr9 rfl (by decide)
    · subst e
      simp only [Value.ownBlock, Option.some.injEq] at hg
      have := own_neT (by decide) hf9 hr9
      simp [Value.ownBlock, hg] at this
    · exact ((Frm.of_below (S := fun k => k = b ∨ (us.getD i nilV).ownBlock = some k ∨ k = fb) hb).trans (Frm.of_grown (S := fun k => k = b ∨ (us.getD i nilV).ownBlock = some k ∨ k = fb) q2 (fun x e => Or.inr (Or.inl (by rw [HU.out]; exact e)))) (fun _ _ h => h)).trans hfs (fun x _ e => Or.inl e)
    · rw [HU.out]
      rcases q3 with q3 | q3
      · exact Or.inl q3
      · exact Or.inr ⟨_, q3, by have := hb.size; omega⟩
  go_upto_region 1 with fail
  go_cut [] from 7 to 17 (fun wx => ∃ ev v, GrW B N w wx fb b i n rc us ts f0 t ev v)
  case first =>
    go_region_law (first
    | (go_simp; refine (HBA.out _).mono ?_; rintro e w8 ⟨ev8, rfl, q1, q2⟩; have HB8 : Hid (Below w1.heap.size w1 w8) := (by first | exact q2 | exact ((Below.refl _ _).drew).trans q2); have HE8 := hid (own_mono q1 (show B ≤ _ by have := HB1.out.size; first | omega | (simp; omega))); clear q1 q2; obtain ⟨ea8, ec8, he8⟩ := own_sl HE8.out; subst he8; have HB8a : Hid (Below w.heap.size w (w8.alloc (.cells #[.int .i64 t.c, .slice ea8 N ec8] 57))) := ((HB1.out.trans (HB8.out.mono HB1.out.size)).trans (belowNew.mono (HB1.out.trans (HB8.out.mono HB1.out.size)).size)); have e1 := cell_keep z1 HB8.out; have e2 := cell_keep e1 (belowNew (A := .cells #[.int .i64 t.c, .slice ea8 N ec8] 57)); have HA8 := hid (HP.out.next HB8a.out); rw [HU.out] at HA8; have HE9 := hid (ownBlock_lt HE8.out (belowNew (A := .cells #[.int .i64 t.c, .slice ea8 N ec8] 57))); dsimp only)
    | (refine step_append_pol rfl (.tmp 10) (.tmp 15) 54 rfl Tryz.underlying54 B N (.slice ua ts.length uc) ts t.c (.slice ea8 N ec8) (exs N t) (by simp [Act.eval, Act.put]) HA8.out HE9.out ⟨w8.heap.size, 0, none⟩ 1 (by simp [Act.eval, Act.put]) (two_newP _ _ _ _) (by omega) (by have := HB8a.out.size; omega) ?_; intro v9 w9 q1 q2 q3; obtain ⟨va9, vc9, hv9⟩ := own_sl q1.own; rw [List.length_append, List.length_singleton] at hv9; subst hv9; have S9 := hid (STEP.out w8 _ _ w9 HB8.out q1 q2 q3); clear q1 q2 q3; have d1 := S9.out.1; have d2 := S9.out.2.1))
    all_goals
      go_wp2_with fail
      go_meet
      exact ⟨_, _, S9.out.2.2⟩
  case rest =>
    obtain ⟨ev, v, hg⟩ := hcut
    have HG := hid hg
    obtain ⟨va, vc, hv⟩ := own_sl hg.pol.own
    rw [List.length_append, List.length_singleton] at hv
    subst hv
    clear hg y0 y1 y2 y3 y4 y5 y6 z1 z2
    have HV := hid (HG.out.pol.es (t.c, ev, exs N t) (by simp))
    have hxl : (exs N t).length = N := by unfold exs; rw [List.length_take]; simp; omega
    obtain ⟨ea, ec, he⟩ := own_sl HV.out
    simp only at he
    subst he
    obtain ⟨eb, he2, _, helt, _⟩ := own_at1 HV.out 0 h0
    subst he2
    have HIN : Hid (IntsAt wc eb 0 (exs N t)) := fun k hk => by
      have hc := World.ownsRow.cellAt HV.out k (by omega)
      rw [Nat.zero_add, hc, List.getElem?_map, List.getElem?_eq_getElem (by omega), List.getD_eq_getElem?_getD, List.getElem?_eq_getElem (by omega)]; rfl
    obtain ⟨g9, hg9⟩ : ∃ g9, va = some ⟨g9, 0, none⟩ := by
      rcases HG.out.pol.own.2 with ⟨_, h⟩ | ⟨g, cap, cur, e, _⟩
      · simp at h
      · simp only [Value.slice.injEq] at e; exact ⟨g, e.1⟩
    subst hg9
    have c1 : wc.cell? ⟨b, i, none⟩ = some (.slice (some ⟨g9, 0, none⟩) (ts.length + 1) vc) := by
      have h := World.ownsRow.cellAt HG.out.row i (by omega)
      rw [h]
      have hl := HG.out.row.1
      rw [List.length_set] at hl
      rw [List.getElem?_set_self (by omega)]
    have c2 : wc.cell? ⟨g9, ts.length * 2 + 1, none⟩ = some (.slice (some ⟨eb, 0, none⟩) N ec) := by
      have hown := HG.out.pol.own
      rw [List.length_append, List.length_singleton] at hown
      have h := World.ownsRow.cellAt hown (ts.length * 2 + 1) (by omega)
      rw [h]
      have e : flat (ts ++ [(t.c, .slice (some ⟨eb, 0, none⟩) N ec, exs N t)]) = flat ts ++ [.int .i64 t.c, .slice (some ⟨eb, 0, none⟩) N ec] := by simp [flat]
      have hfl : (flat ts).length = ts.length * 2 := flat_len ts
      rw [e, List.getElem?_append_right (by omega), hfl, show ts.length * 2 + 1 - ts.length * 2 = 1 by omega]; rfl
    have c3 := World.ownsRow.cellAt HG.out.fit 0 (by omega)
    have c4 := World.ownsRow.frozenAt HG.out.fit 0
    have HDE : Hid (∀ W, Below wc.heap.size wc W → Calls Tryz.prog 21 #[.slice (some ⟨eb, 0, none⟩) N ec] W fun e w' => e = .returned (.int .i64 (sumI (exs N t))) ∧ w' = W) := fun W hb => by
      have h := degree_any (exs N t) eb 0 ec W (fun x hx => by have := hbd x hx; omega) (by omega) (fun k hk => by have := HIN.out k hk; exact cell_keep this hb)
      rw [hxl] at h
      exact h
    have HB0 : Hid (Below wc.heap.size wc wc.drew) := (Below.refl _ _).drew
    have HFI := hid (fun f2 => (HG.out.next HB0.out).fits f2)
    have wsub : IntKind.i64.wrap (ts.length : Int) = ts.length := by rw [IntKind.wrap_i64]; omega
    have hq1 : (0 : Int) ≤ (ts.length : Int) := by omega
    have hq2 : (ts.length : Int) < (ts.length : Int) + 1 := by omega
    have hq3 : ((ts.length : Int)).toNat = ts.length := by omega
    by_cases hlen : ts.length + 1 ≤ 2000
    · have hlenI : (ts.length : Int) + 1 ≤ 2000 := by omega
      have hlenD : decide ((ts.length : Int) + 1 ≤ 2000) = true := decide_eq_true hlenI
      by_cases hdg : sumI (exs N t) ≤ 200
      · have HOK : Hid (okG ts.length (exs N t) = true) := by show _ = _; simp [okG, hlen, hdg]
        have hdgD : decide (sumI (exs N t) ≤ 200) = true := decide_eq_true hdg
        clear hlen
        go_wp2_with fail
        go_region_with (go_at_call 21; refine (HDE.out _ HB0.out).mono ?_; rintro e w8 ⟨rfl, rfl⟩)
        all_goals
          go_wp2
          go_ret
          rw [HOK.out]
          exact ⟨rfl, _, _, by first | exact HFI.out true | exact (HG.out.fits true).next ((Below.refl _ _).drew) | exact HG.out.fits true⟩
      · have HOK : Hid (okG ts.length (exs N t) = false) := by show _ = _; simp [okG, hlen, hdg]
        have hdgD : decide (sumI (exs N t) ≤ 200) = false := decide_eq_false hdg
        clear hlen
        go_wp2_with fail
        go_region_with (go_at_call 21; refine (HDE.out _ HB0.out).mono ?_; rintro e w8 ⟨rfl, rfl⟩)
        all_goals
          go_wp2
          go_ret
          rw [HOK.out]
          exact ⟨rfl, _, _, by first | exact HFI.out false | exact (HG.out.fits false).next ((Below.refl _ _).drew) | exact HG.out.fits false⟩
    · have hlenI : ¬ (ts.length : Int) + 1 ≤ 2000 := by omega
      have hlenD : decide ((ts.length : Int) + 1 ≤ 2000) = false := decide_eq_false hlenI
      have HOK : Hid (okG ts.length (exs N t) = false) := by show _ = _; simp [okG, hlen]
      clear hlen
      go_wp2_with fail
      go_region
      all_goals
        go_wp2
        go_ret
        rw [HOK.out]
        exact ⟨rfl, _, _, by first | exact HFI.out false | exact (HG.out.fits false).next ((Below.refl _ _).drew) | exact HG.out.fits false⟩
end Go.Proofs.YtilogbggilchaaaGreat
