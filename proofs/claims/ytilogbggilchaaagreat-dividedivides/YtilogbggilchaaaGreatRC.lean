/- Sum of the reference. -/
import Derived.Test.YtilogbggilchaaaGreatRB
import Derived.Deep.RegionHeldLaw
import Derived.Maps.AppendAt
namespace Go.Proofs.YtilogbggilchaaaGreat
set_option linter.unusedSimpArgs false
set_option linter.unusedVariables false
open Go.RowKit
theorem append_types {P : Program} {w : World} {t u ty e : TypeId} {i : TypeInfo} {v x : Value} (ht : P.underlying t = some (.slice e)) (hu : P.underlying u = some (.slice e)) (hi : P.info? e = some i) :
    (Builtin.append_ #[t, u] ty #[v, x]).run P w = (Builtin.append_ #[t, t] ty #[v, x]).run P w := by
  cases v <;> simp [Builtin.append_, run_underlying ht, run_underlying hu, sizeOf, typeInfo, hi]
theorem run_append_tvsA {P : Program} (w : World) (base : Nat) (t t2 ty e : TypeId) (i : TypeInfo) (z : Value) (ht : P.underlying t = some (.slice e)) (ht2 : P.underlying t2 = some (.slice e)) (hi : P.info? e = some i) (hz : i.zero = some z) (hsize : i.size = 2) (hby : i.bytes = 32) (hzs : z.cells.size = 2)
    (v : Value) (n : Nat) (xs : List Value) (hown : w.ownsRow base e 2 v n xs) (us : List TV) (m : Nat) (hm : us.length = m) (ua : Option Addr) (uc : Nat)
    (hcs : 0 < m → ∃ b off, ua = some ⟨b, off, none⟩ ∧ ∀ j u, (flat us)[j]? = some u → w.cell? ⟨b, off + j, none⟩ = some u) (hone : ∀ u ∈ flat us, u.oneCell' = true) (hb : n + m ≤ 2400000000000) (hbase : base ≤ w.heap.size) :
    ∃ v' w', (Builtin.append_ #[t, t2] ty #[v, .slice ua m uc]).run P w = .ok v' w' ∧ w'.ownsRow base e 2 v' (n + m) (xs ++ flat us) ∧ w.grownBy w' v.ownBlock ∧ (v'.ownBlock = v.ownBlock ∨ v'.ownBlock = some w.heap.size) := by
  rw [append_types ht ht2 hi]
  subst hm
  by_cases h0 : 0 < us.length
  · obtain ⟨b, off, rfl, hc⟩ := hcs h0
    obtain ⟨v', w', hr, h2, h3, _, h5⟩ := run_append_own_at (P := P) w base t ty e i z 2 32 ht hi hz hsize hby hzs (by decide) v n xs hown ⟨b, off, none⟩ us.length uc (flat us) (flat_len us) (fun j u hj => by
      have := hc j u hj
      by_cases hj0 : j = 0
      · subst hj0; simpa [Addr.add] using this
      · simpa [Addr.add, hj0] using this) hone (bytesOk hb).1 (bytesOk hb).2 hbase
    exact ⟨v', w', hr, h2, h3, h5⟩
  · have e0 : us = [] := List.length_eq_zero_iff.1 (by omega)
    subst e0
    cases ua with
    | none => exact ⟨v, w, run_append_none_c w base t ty e i 2 ht hi v n uc xs hown, by simpa [flat] using hown, grown_refl _ _, Or.inl rfl⟩
    | some ad =>
      obtain ⟨v', w', hr, h2, h3, _, h5⟩ := run_append_own_at (P := P) w base t ty e i z 2 32 ht hi hz hsize hby hzs (by decide) v n xs hown ad 0 uc [] (by simp) (fun j u hj => by simp at hj) (fun u hu => by simp at hu) (bytesOk hb).1 (bytesOk hb).2 hbase
      exact ⟨v', w', hr, h2, h3, h5⟩
theorem step_append_tvsA {P : Program} {ops : Array Oper} {o : Oper} {a : Act} {w : World} {K : Act → World → Prop} {Q : Exit → Act → World → Prop} {E : Prop} (hgd : o.guard = none) (s x : Operand) (t t2 : TypeId)
    (ho : o.op = .call { callee := .builtin .append, args := #[s, x], argTypes := #[t, t2] })
    (base : Nat) (e : TypeId) (i : TypeInfo) (z : Value) (ht : P.underlying t = some (.slice e)) (ht2 : P.underlying t2 = some (.slice e)) (hi : P.info? e = some i) (hz : i.zero = some z) (hsize : i.size = 2) (hby : i.bytes = 32) (hzs : z.cells.size = 2)
    (v : Value) (n : Nat) (xs : List Value) (hs : a.eval s = v) (hown : w.ownsRow base e 2 v n xs) (us : List TV) (m : Nat) (hm : us.length = m) (ua : Option Addr) (uc : Nat) (hx : a.eval x = .slice ua m uc)
    (hcs : 0 < m → ∃ b off, ua = some ⟨b, off, none⟩ ∧ ∀ j u, (flat us)[j]? = some u → w.cell? ⟨b, off + j, none⟩ = some u) (hone : ∀ u ∈ flat us, u.oneCell' = true) (hb : n + m ≤ 2400000000000) (hbase : base ≤ w.heap.size)
    (hK : ∀ v' w', w'.ownsRow base e 2 v' (n + m) (xs ++ flat us) → w.grownBy w' v.ownBlock → (v'.ownBlock = v.ownBlock ∨ v'.ownBlock = some w.heap.size) → K (a.put o.dst v') w') :
    if Region.wanted o (yielded ops a.tmps) = true then Oper.wp P o a w K Q else E := by
  have hw : Region.wanted o (yielded ops a.tmps) = true := by simp [Region.wanted, hgd]
  rw [if_pos hw]
  obtain ⟨v', w', hr, h2, h3, h4⟩ := run_append_tvsA (P := P) w base t t2 o.type e i z ht ht2 hi hz hsize hby hzs v n xs hown us m hm ua uc hcs hone hb hbase
  unfold Oper.wp execOp
  simp only [ho, resolve, invoke, builtin, Sem.run_bind, Sem.run_pure, Result.andThen_ok, List.map_toArray, List.map_cons, List.map_nil, hs, hx, hr]
  exact hK v' w' h2 h3 h4

set_option maxRecDepth 100000 in
set_option maxHeartbeats 1000000 in
theorem refSum_any (p n o v : Int) (N : Nat) (fv gv : Value) (fs gs : List Tm) (w : World) (hp : 2 ≤ p ∧ p ≤ 101) (ho : o = 1 ∨ o = 2) (hN0 : 0 < N) (hN : N ≤ 3) (tf : ∀ t ∈ fs, Tok p N t) (tg : ∀ t ∈ gs, Tok p N t) (hm : fs.length + gs.length ≤ 1200000000000)
    (pf : Pl w fv fs) (pg : Pl w gv gs) :
    Calls Tryz.prog 37 #[ringV p n o v, fv, gv] w fun e w' => ∃ u, e = .returned u ∧ Pl w' u (colL p o (fs ++ gs)) ∧ Below w.heap.size w w' := by
  obtain ⟨fa, fc, us, rfl, _, hus, hue, hucs⟩ := pf.tvs
  obtain ⟨ga, gc, vs, rfl, _, hvs, hve, hvcs⟩ := pg.tvs
  have hul : us.length = fs.length := by rw [← hus, List.length_map]
  have hvl : vs.length = gs.length := by rw [← hvs, List.length_map]
  have hm' : us.length + vs.length ≤ 1200000000000 := by omega
  have HT : Hid ((us ++ vs).map tm = fs ++ gs ∧ ∀ t ∈ fs ++ gs, Tok p N t) := ⟨by rw [List.map_append, hus, hvs], fun t ht => (List.mem_append.1 ht).elim (tf t) (tg t)⟩
  have HES := hid (And.intro hue hve)
  obtain ⟨i0, hi, hz0, hz1, hz2⟩ := info_parts Tryz.infoTerm
  have HI := hid (And.intro hi (And.intro hz0 (And.intro hz1 hz2)))
  obtain ⟨w1, hw1⟩ : ∃ w1, w1 = w.alloc (.cells #[.int .i64 p, .int .i64 n, .int .i64 o, .int .i64 v] 23) := ⟨_, rfl⟩
  have hbx : BoxAt w1 w.heap.size p n o v := by rw [hw1]; exact BoxAt.new w p n o v _
  have hbw : Below w.heap.size w w1 := by rw [hw1]; exact below_oneG
  have HBW := hid hbw
  obtain ⟨_, bx0, bx1, bx2, bx3⟩ := hbx
  have CU : Hid (∀ W, Below w1.heap.size w1 W → 0 < us.length → ∃ b off, fa = some ⟨b, off, none⟩ ∧ ∀ i u, (flat us)[i]? = some u → W.cell? ⟨b, off + i, none⟩ = some u) := fun W hb h => by
    obtain ⟨b, off, e, hlt, hc⟩ := hucs h
    exact ⟨b, off, e, fun i u hi => cell_keep (cell_keep (hc i u hi) hbw) hb⟩
  have CV : Hid (∀ W, Below w1.heap.size w1 W → 0 < vs.length → ∃ b off, ga = some ⟨b, off, none⟩ ∧ ∀ i u, (flat vs)[i]? = some u → W.cell? ⟨b, off + i, none⟩ = some u) := fun W hb h => by
    obtain ⟨b, off, e, hlt, hc⟩ := hvcs h
    exact ⟨b, off, e, fun i u hi => cell_keep (cell_keep (hc i u hi) hbw) hb⟩
  have KEEP : Hid (∀ W, Below w1.heap.size w1 W → (Hid (Below w1.heap.size w1 W) ∧ W.cell? ⟨w.heap.size, 0, none⟩ = some (.int .i64 p) ∧ W.cell? ⟨w.heap.size, 1, none⟩ = some (.int .i64 n) ∧ W.cell? ⟨w.heap.size, 2, none⟩ = some (.int .i64 o) ∧ W.cell? ⟨w.heap.size, 3, none⟩ = some (.int .i64 v))) :=
    fun W hb => ⟨hb, cell_keep bx0 hb, cell_keep bx1 hb, cell_keep bx2 hb, cell_keep bx3 hb⟩
  have BA := hid (show Below w1.heap.size w1 (w1.drew.alloc (.cells #[] 57)) from (Below.refl w1.heap.size w1).drew.alloc (Nat.le_refl _) _)
  have OA : Hid ((w1.drew.alloc (.cells #[] 57)).ownsRow w1.heap.size 57 2 (.slice (some ⟨w1.heap.size, 0, none⟩) 0 0) 0 []) := World.ownsRow_made w1.drew #[] 0 (Nat.le_refl _) (by decide) (by simp)
  have HP := hid hp
  have HO := hid ho
  clear pf pg hus hvs hue hve hucs hvcs tf tg hul hvl hi hz0 hz1 hz2 bx0 bx1 bx2 bx3 hbw hp ho hm
  go_enter Tryz.func37, Tryz.ntmps37
  go_wp2_with fail
  rw [← hw1]
  clear hw1
  go_region_held_law (fun W => Hid (Below w1.heap.size w1 W) ∧ W.cell? ⟨w.heap.size, 0, none⟩ = some (.int .i64 p) ∧ W.cell? ⟨w.heap.size, 1, none⟩ = some (.int .i64 n) ∧ W.cell? ⟨w.heap.size, 2, none⟩ = some (.int .i64 o) ∧ W.cell? ⟨w.heap.size, 3, none⟩ = some (.int .i64 v))
    (first | exact KEEP.out _ (Below.refl _ _).drew | exact KEEP.out _ HB9.out | exact KEEP.out _ HB6.out | exact KEEP.out _ HB5.out | exact KEEP.out _ BA.out)
    (first
      | (refine step_append_tvsA rfl (.tmp 8) (.tmp 9) 53 54 rfl w1.heap.size 57 i0 _ Tryz.underlying53 Tryz.underlying54 HI.out.1 HI.out.2.1 HI.out.2.2.1 HI.out.2.2.2 rfl (.slice (some ⟨w1.heap.size, 0, none⟩) 0 0) 0 [] (by simp [Act.eval, Act.put]) OA.out us us.length rfl fa fc (by simp [Act.eval, Act.put]) (CU.out _ BA.out) (flat_one HES.out.1) (by omega) BA.out.size ?_; intro v5 w5 r1 r2 _; rw [Nat.zero_add, List.nil_append] at r1; have OWN5 := hid r1; have HB5 := hid (show Below w1.heap.size w1 w5 from own_grown OA.out BA.out r2 (Nat.le_refl _)); obtain ⟨va5, vc5, hv5⟩ := own_sl' r1; subst hv5; clear r1 r2)
      | (refine step_append_tvsA rfl (.tmp 10) (.tmp 11) 53 54 rfl w1.heap.size 57 i0 _ Tryz.underlying53 Tryz.underlying54 HI.out.1 HI.out.2.1 HI.out.2.2.1 HI.out.2.2.2 rfl (.slice va5 us.length vc5) us.length (flat us) (by simp [Act.eval, Act.put]) OWN5.out vs vs.length rfl ga gc (by simp [Act.eval, Act.put]) (CV.out _ HB5.out) (flat_one HES.out.2) (by omega) HB5.out.size ?_; intro v6 w6 r1 r2 _; have HB6 := hid (show Below w1.heap.size w1 w6 from own_grown OWN5.out HB5.out r2 (Nat.le_refl _)); have PL6 : Hid (Pl w6 v6 (fs ++ gs)) := (by rw [← HT.out.1]; exact own_pl (B := w1.heap.size) (by rw [flat_append, List.length_append]; exact r1) (fun t ht => ((List.mem_append.1 ht).elim (HES.out.1 t) (HES.out.2 t)).below (HBW.out.trans (HB6.out.mono HBW.out.size)))); obtain ⟨va6, vc6, hv6⟩ := own_sl' r1; subst hv6; clear r1 r2)
      | (go_at_call 73; refine (collect_any p n o v N _ (fs ++ gs) _ HP.out HO.out hN0 hN HT.out.2 ?_ PL6.out).mono ?_; (rw [← HT.out.1, List.length_map, List.length_append]; exact hm'); rintro e w9 ⟨u9, rfl, hu9, hb9⟩; have HB9 := hid (show Below w1.heap.size w1 w9 from HB6.out.trans (hb9.mono HB6.out.size)); have HU9 := hid hu9; obtain ⟨ua9, uc9, rfl, _, _⟩ := hu9; clear hb9))
  go_wp2
  go_ret
  exact ⟨_, rfl, HU9.out, HBW.out.trans (HB9.out.mono HBW.out.size)⟩
set_option maxHeartbeats 1000000 in
theorem putTimesO_any (xs ys : List Int) (b off cap b2 off2 cap2 : Nat) (w : World) (hm : xs.length ≤ 3) (hxy : xs.length = ys.length)
    (hbx : ∀ x ∈ xs, 0 ≤ x ∧ x ≤ 20000) (hby : ∀ x ∈ ys, 0 ≤ x ∧ x ≤ 20000) (hlt : b < w.heap.size) (hlt2 : b2 < w.heap.size) (hc : IntsAt w b off xs) (hc2 : IntsAt w b2 off2 ys) :
    Calls Tryz.prog 36 #[.slice (some ⟨b, off, none⟩) xs.length cap, .slice (some ⟨b2, off2, none⟩) ys.length cap2, .int .i64 1] w fun e w' =>
      ∃ u, e = .returned u ∧ w'.ownsRow w.heap.size 3 1 u (zipI (· + ·) xs ys).length ((zipI (· + ·) xs ys).map (Value.int .i64)) ∧ Below w.heap.size w w' := by
  have HC := hid hc
  have HC2 := hid hc2
  have HBX := hid hbx
  have HBY := hid hby
  have HLZ := hid (zipI_len (· + ·) xs ys hxy)
  rw [← hxy]
  have HXY := hid hxy
  clear hc hc2 hbx hby hxy
  obtain ⟨i0, hi, hz0, hz1, hz2⟩ := info_parts Tryz.info_int
  go_enter Tryz.func36, Tryz.ntmps36
  go_wp2
  go_loopw [7, 8] (fun v i wr => ∃ k : Nat, k ≤ xs.length ∧ i = .int .i64 k ∧ wr.ownsRow w.heap.size 3 1 v k (((zipI (· + ·) xs ys).take k).map (Value.int .i64)) ∧ Below w.heap.size w wr) (fun _ i _ => xs.length - (intOf i).toNat)
  case atStart => exact ⟨0, Nat.zero_le _, rfl, World.ownsRow_nil _ _ _ _, Below.refl _ _⟩
  case round =>
    obtain ⟨k, hk, rfl, hown, hbr⟩ := hrel
    have HOWN := hid hown
    have HBR := hid hbr
    by_cases hk2 : k < xs.length
    · have hcell := HC.out k hk2
      have hcell2 := HC2.out k (by rw [← HXY.out]; exact hk2)
      have HZ := hid (zipI_at (· + ·) xs ys HXY.out k hk2)
      have hx := HBX.out _ (getD_mem xs k hk2)
      have hy := HBY.out _ (getD_mem ys k (by rw [← HXY.out]; exact hk2))
      generalize xs.getD k 0 = x at hcell HZ hx
      generalize ys.getD k 0 = y at hcell2 HZ hy
      rw [← hbr.cell (p := ⟨b, off + k, none⟩) hlt] at hcell
      rw [← hbr.cell (p := ⟨b2, off2 + k, none⟩) hlt2] at hcell2
      have hsz := hbr.size
      obtain ⟨hx1, hx2⟩ := hx
      obtain ⟨hy1, hy2⟩ := hy
      clear hown hbr
      go_wp2_with (at_builtin; refine wpList_append_own _ rfl _ _ 55 rfl w.heap.size 3 i0 (.int .i64 0) 1 8 Tryz.underlying55 hi hz0 hz1 hz2 rfl (by decide) _ _ _ rfl (HOWN.out.alloc _) ⟨wr.heap.size, 0, none⟩ 1 1 [.int .i64 (x + y)] rfl rfl (cell_one_new _ _ _) (one_cell1 _) (by unfold maxLen; omega) (by omega) (by simp; omega) ?_)
      intro v' w1 hown' hgrow _
      rw [← List.map_take] at hown'
      have R := put_step (zs := zipI (· + ·) xs ys) (by rw [HLZ.out]; exact hk2) (HZ.out.trans rfl) HBR.out HOWN.out hown' hgrow
      have R2 := hid R
      clear hown' hgrow R
      go_wp2
      go_roundw
      case rel => exact ⟨k + 1, by omega, by go_num, R2.out.1, R2.out.2⟩
      case measure => simp [intOf]; omega
    · go_wp2
      go_ret
      have e1 : k = (zipI (· + ·) xs ys).length := by rw [HLZ.out]; omega
      subst e1
      have h2 := HOWN.out
      rw [List.take_of_length_le (Nat.le_refl _)] at h2
      exact ⟨_, rfl, h2, HBR.out⟩


theorem putTimesO_sl (x y : Value) (xs ys : List Int) (w : World) (h0 : 0 < xs.length) (hm : xs.length ≤ 3) (hxy : xs.length = ys.length) (hbx : ∀ x ∈ xs, 0 ≤ x ∧ x ≤ 20000) (hby : ∀ x ∈ ys, 0 ≤ x ∧ x ≤ 20000) (hs : Sl w x xs) (hs2 : Sl w y ys) :
    Calls Tryz.prog 36 #[x, y, .int .i64 1] w fun e w' => ∃ u, e = .returned u ∧ w'.ownsRow w.heap.size 3 1 u (zipI (· + ·) xs ys).length ((zipI (· + ·) xs ys).map (Value.int .i64)) ∧ Below w.heap.size w w' := by
  obtain ⟨a, cap, rfl, h1⟩ := hs
  obtain ⟨a2, cap2, rfl, h2⟩ := hs2
  obtain ⟨b, off, rfl, hlt, hc⟩ := h1 h0
  obtain ⟨b2, off2, rfl, hlt2, hc2⟩ := h2 (by omega)
  exact putTimesO_any xs ys b off cap b2 off2 cap2 w hm hxy hbx hby hlt hlt2 hc hc2
def ApartO (r : Option Nat) (v : Value) : Prop := ∀ b off n c, v = .slice (some ⟨b, off, none⟩) n c → some b ≠ r
theorem grown_slO {w w' : World} {r : Option Nat} {v : Value} {xs : List Int} (h : w.grownBy w' r) (hs : Sl w v xs) (hne : ApartO r v) : Sl w' v xs := by
  obtain ⟨a, cap, rfl, h1⟩ := hs
  refine ⟨a, cap, rfl, fun hp => ?_⟩
  obtain ⟨b, off, rfl, hlt, hc⟩ := h1 hp
  exact ⟨b, off, rfl, Nat.lt_of_lt_of_le hlt h.size, fun i hi => h.cell (hc i hi) (hne b off _ _ rfl)⟩
structure Prd (N : Nat) (w1 wr : World) (v : Value) (ls : List TV) : Prop where
  own : wr.ownsRow w1.heap.size 57 2 v ls.length (flat ls)
  es : Es wr ls
  ap : ∀ t ∈ ls, ApartO v.ownBlock t.2.1
  ln : ∀ t ∈ ls, t.2.2.length = N
  below : Below w1.heap.size w1 wr
theorem Prd.next {N : Nat} {w1 wr w' : World} {v : Value} {ls : List TV} (h : Prd N w1 wr v ls) (hb : Below wr.heap.size wr w') : Prd N w1 w' v ls :=
  ⟨ownBlock_lt h.own hb, h.es.below hb, h.ap, h.ln, h.below.trans (hb.mono h.below.size)⟩
theorem Prd.add {N : Nat} {w1 wr w' : World} {v v' : Value} {ls : List TV} {t : TV} (hN : 0 < N) (h : Prd N w1 wr v ls) (hs : Sl wr t.2.1 t.2.2) (hl : t.2.2.length = N) (ha : ApartO v.ownBlock t.2.1)
    (hown : w'.ownsRow w1.heap.size 57 2 v' (ls.length + 1) (flat ls ++ flat [t])) (hg : wr.grownBy w' v.ownBlock) (hloc : v'.ownBlock = v.ownBlock ∨ v'.ownBlock = some wr.heap.size) : Prd N w1 w' v' (ls ++ [t]) := by
  have hall : ∀ u ∈ ls ++ [t], Sl wr u.2.1 u.2.2 ∧ ApartO v.ownBlock u.2.1 ∧ u.2.2.length = N := by
    intro u hu
    rcases List.mem_append.1 hu with hu | hu
    · exact ⟨h.es u hu, h.ap u hu, h.ln u hu⟩
    · rw [List.mem_singleton] at hu; subst hu; exact ⟨hs, ha, hl⟩
  refine ⟨by rw [flat_append, List.length_append]; exact hown, fun u hu => grown_slO hg (hall u hu).1 (hall u hu).2.1, fun u hu => ?_, fun u hu => (hall u hu).2.2, own_grown h.own h.below hg (Nat.le_refl _)⟩
  rcases hloc with e | e
  · rw [e]; exact (hall u hu).2.1
  · rw [e]
    intro b off n c hv hb
    obtain ⟨a, cap, hv2, h1⟩ := (hall u hu).1
    obtain ⟨b2, off2, hv3, hlt, _⟩ := h1 (by rw [(hall u hu).2.2]; exact hN)
    rw [hv2, hv3] at hv
    simp only [Value.slice.injEq, Option.some.injEq, Addr.mk.injEq] at hv hb
    omega
theorem own_apartO {w : World} {B : Nat} {T : TypeId} {s : Nat} {u v : Value} {n m : Nat} {xs ys : List Value} {W : World} {B2 : Nat} {T2 : TypeId} {s2 : Nat} (h : w.ownsRow B T s u n xs) (k : W.ownsRow B2 T2 s2 v m ys) (hB : W.heap.size ≤ B) : ApartO v.ownBlock u := by
  intro b off n c e hb
  have hu : u.ownBlock = some b := by rw [e]; rfl
  have h1 := (World.ownsRow.lt h b hu).1
  have h2 := (World.ownsRow.lt k b hb.symm).2
  omega
theorem prodL_take (p : Int) (fs gs : List Tm) (i : Nat) (h : i < fs.length) : prodL p (fs.take (i + 1)) gs = prodL p (fs.take i) gs ++ prodT p (fs.getD i noT) gs := by
  rw [List.take_succ_eq_append_getElem h, prodL_append]
  congr 1
  simp [Go.Proofs.YtilogbggilchaaaGreat.prodL, List.getD_eq_getElem?_getD, h]
theorem prodT_snoc (p : Int) (t : Tm) (gs : List Tm) (k : Nat) (h : k < gs.length) : prodT p t (gs.take (k + 1)) = prodT p t (gs.take k) ++ [(t.1 * (gs.getD k noT).1 % p, zipI (· + ·) t.2 (gs.getD k noT).2)] := by
  rw [List.take_succ_eq_append_getElem h]
  unfold prodT
  rw [List.map_append]
  congr 1
  simp [List.getD_eq_getElem?_getD, h]
theorem prodL_len (p : Int) (fs gs : List Tm) : (prodL p fs gs).length = fs.length * gs.length := by
  induction fs with
  | nil => simp [Go.Proofs.YtilogbggilchaaaGreat.prodL]
  | cons t fs ih =>
    have e : prodL p (t :: fs) gs = prodT p t gs ++ prodL p fs gs := rfl
    rw [e, List.length_append, ih]
    simp [prodT, Nat.add_mul]; omega
theorem prodL_tok {p : Int} {N : Nat} (hp : 2 ≤ p) {fs gs : List Tm} (lf : Len N fs) (lg : Len N gs) (bf : Bd2 fs) (bg : Bd2 gs) : ∀ t ∈ prodL p fs gs, Tok p N t := by
  intro t ht
  simp only [Go.Proofs.YtilogbggilchaaaGreat.prodL, prodT, List.mem_flatMap, List.mem_map] at ht
  obtain ⟨a, ha, b, hb, rfl⟩ := ht
  refine ⟨by simp only; rw [zipI_len _ _ _ (by rw [lf a ha, lg b hb])]; exact lf a ha, zip_bd _ _ (bf a ha) (bg b hb), Int.emod_nonneg _ (by omega), Int.emod_lt_of_pos _ (by omega)⟩
theorem two_len_mul {i k a b : Nat} (hi : i < a) (hk : k ≤ b) (ha : a ≤ 2000) (hb : b ≤ 2000) : i * b + k ≤ 1200000000000 := by
  have h1 : (i + 1) * b ≤ 2000 * 2000 := Nat.mul_le_mul (by omega) hb
  rw [Nat.add_mul] at h1; omega

set_option maxRecDepth 100000 in
set_option maxHeartbeats 2000000 in
theorem refProduct_any (p n o v : Int) (N : Nat) (fv gv : Value) (fs gs : List Tm) (w : World) (hp : 2 ≤ p ∧ p ≤ 101) (ho : o = 1 ∨ o = 2) (hN0 : 0 < N) (hN : N ≤ 3) (lf : Len N fs) (lg : Len N gs) (cf : ∀ t ∈ fs, 0 ≤ t.1 ∧ t.1 < p) (cg : ∀ t ∈ gs, 0 ≤ t.1 ∧ t.1 < p) (bf : Bd2 fs) (bg : Bd2 gs)
    (hlf : fs.length ≤ 2000) (hlg : gs.length ≤ 2000) (pf : Pl w fv fs) (pg : Pl w gv gs) :
    Calls Tryz.prog 74 #[ringV p n o v, fv, gv] w fun e w' => ∃ u, e = .returned u ∧ Pl w' u (colL p o (prodL p fs gs)) ∧ Below w.heap.size w w' := by
  have HF := hid (And.intro lf (And.intro cf bf))
  have HG := hid (And.intro lg (And.intro cg bg))
  have HO := hid ho
  obtain ⟨hp1, hp2⟩ := hp
  obtain ⟨fa, fc, rfl, _, hfc⟩ := pf
  obtain ⟨ga, gc, rfl, _, hgc⟩ := pg
  have HFC := hid hfc
  have HGC := hid hgc
  obtain ⟨i0, hi, hz0, hz1, hz2⟩ := info_parts Tryz.infoTerm
  have HI := hid (And.intro hi (And.intro hz0 (And.intro hz1 hz2)))
  obtain ⟨w1, hw1⟩ : ∃ w1, w1 = w.alloc (.cells #[.int .i64 p, .int .i64 n, .int .i64 o, .int .i64 v] 23) := ⟨_, rfl⟩
  have hbx : BoxAt w1 w.heap.size p n o v := by rw [hw1]; exact BoxAt.new w p n o v _
  have hbw : Below w.heap.size w w1 := by rw [hw1]; exact below_oneG
  have HBX := hid hbx
  have HBW := hid hbw
  clear hfc hgc lf lg cf cg bf bg ho hi hz0 hz1 hz2 hbx hbw
  go_enter Tryz.func74, Tryz.ntmps74
  go_wp2_with fail
  rw [← hw1]
  clear hw1
  go_loopw [7, 8] (fun z i wr => ∃ (ii : Nat) (ls : List TV), ii ≤ fs.length ∧ i = .int .i64 ii ∧ ls.map tm = prodL p (fs.take ii) gs ∧ Prd N w1 wr z ls) (fun _ i _ => fs.length - (intOf i).toNat)
  case atStart => exact ⟨0, [], Nat.zero_le _, rfl, rfl, World.ownsRow_nil _ _ _ _, fun t ht => by simp at ht, fun t ht => by simp at ht, fun t ht => by simp at ht, Below.refl _ _⟩
  case round =>
    obtain ⟨wo, hwo⟩ : ∃ wo : World, wo = wr := ⟨_, rfl⟩
    subst hwo
    obtain ⟨ii, ls0, hi1, rfl, heq0, hprd0⟩ := hrel
    have HE0 := hid heq0
    have HP0 := hid hprd0
    obtain ⟨za0, zc0, hz0⟩ := own_sl' hprd0.own
    subst hz0
    clear heq0 hprd0
    by_cases hi2 : ii < fs.length
    · go_wp2
      go_loopw [7, 9] (fun z i wr => ∃ (k : Nat) (ls : List TV), k ≤ gs.length ∧ i = .int .i64 k ∧ ls.map tm = prodL p (fs.take ii) gs ++ prodT p (fs.getD ii noT) (gs.take k) ∧ Prd N w1 wr z ls) (fun _ i _ => gs.length - (intOf i).toNat)
      case atStart => exact ⟨0, ls0, Nat.zero_le _, rfl, by rw [HE0.out]; simp [prodT], HP0.out⟩
      case round =>
        obtain ⟨k, ls, hk1, rfl, heq, hprd⟩ := hrel
        have HE := hid heq
        have HPR := hid hprd
        obtain ⟨za, zc, hz⟩ := own_sl' hprd.own
        subst hz
        clear heq hprd
        by_cases hk2 : k < gs.length
        · obtain ⟨b, off, rfl, hlt, hat⟩ := HFC.out (by omega)
          obtain ⟨b2, off2, rfl, hlt2, hat2⟩ := HGC.out (by omega)
          obtain ⟨c0, ev, c1, hse⟩ := hat ii hi2
          obtain ⟨d0, ev2, d1, hse2⟩ := hat2 k hk2
          have HLL : Hid (ls.length ≤ 1200000000000) := by
            have h1 : (ls.map tm).length = _ := congrArg List.length HE.out
            rw [List.length_map, List.length_append, prodL_len] at h1
            simp only [prodT, List.length_map, List.length_take] at h1
            have h2 := two_len_mul (i := ii) (k := k) (a := fs.length) (b := gs.length) hi2 hk1 hlf hlg
            rw [Nat.min_eq_left hi1, Nat.min_eq_left hk1] at h1
            show _ ≤ _
            omega
          have HTF := hid (And.intro (HF.out.1 _ (getD_memT fs ii hi2)) (And.intro (HF.out.2.1 _ (getD_memT fs ii hi2)) (HF.out.2.2 _ (getD_memT fs ii hi2))))
          have HTG := hid (And.intro (HG.out.1 _ (getD_memT gs k hk2)) (And.intro (HG.out.2.1 _ (getD_memT gs k hk2)) (HG.out.2.2 _ (getD_memT gs k hk2))))
          have HSN := hid (prodT_snoc p (fs.getD ii noT) gs k hk2)
          generalize hft : fs.getD ii noT = t at c0 hse HTF HSN HE
          have HFT := hid hft
          generalize gs.getD k noT = u at d0 hse2 HTG HSN
          obtain ⟨tc, te⟩ := t
          obtain ⟨uc, ue⟩ := u
          have HDN := hid (HBW.out.trans (HPR.out.below.mono HBW.out.size))
          have HSE := hid (hse.below HDN.out)
          have HSE2 := hid (hse2.below HDN.out)
          obtain ⟨ea, ec, rfl, _⟩ := hse
          obtain ⟨ea2, ec2, rfl, _⟩ := hse2
          simp only at c0 c1 d0 d1
          have hte0 : 0 < te.length := by have := HTF.out.1; simp only at this; omega
          have hte3 : te.length ≤ 3 := by have := HTF.out.1; simp only at this; omega
          have HLE : Hid (te.length = ue.length) := HTF.out.1.trans HTG.out.1.symm
          have htc : 0 ≤ tc ∧ tc < p := HTF.out.2.1
          have huc : 0 ≤ uc ∧ uc < p := HTG.out.2.1
          obtain ⟨hm1, hm2⟩ := mulBd (a := tc) (b := uc) ⟨by omega, by omega, by omega, by omega⟩
          have HPT := hid (fun (W : World) (h1 : Sl W (.slice ea te.length ec) te) (h2 : Sl W (.slice ea2 ue.length ec2) ue) => putTimesO_sl _ _ te ue W hte0 hte3 HLE.out HTF.out.2.2 HTG.out.2.2 h1 h2)
          obtain ⟨_, bx0, _, _, _⟩ := HBX.out
          have KEEP : Hid (∀ W, Below w1.heap.size w1 W → (Hid (Below w1.heap.size w1 W) ∧ W.cell? ⟨w.heap.size, 0, none⟩ = some (.int .i64 p) ∧ W.cell? ⟨b, off + ii * 2, none⟩ = some (.int .i64 tc) ∧ W.cell? ⟨b, off + ii * 2 + 1, none⟩ = some (.slice ea te.length ec) ∧ W.cell? ⟨b2, off2 + k * 2, none⟩ = some (.int .i64 uc) ∧ W.cell? ⟨b2, off2 + k * 2 + 1, none⟩ = some (.slice ea2 ue.length ec2))) :=
            fun W hb => ⟨hb, cell_keep bx0 hb, cell_keep (cell_keep c0 HBW.out) hb, cell_keep (cell_keep c1 HBW.out) hb, cell_keep (cell_keep d0 HBW.out) hb, cell_keep (cell_keep d1 HBW.out) hb⟩
          clear hft hat hat2 c0 c1 d0 d1 bx0 htc huc
          go_wp2
          go_region_held_law (fun W => Hid (Below w1.heap.size w1 W) ∧ W.cell? ⟨w.heap.size, 0, none⟩ = some (.int .i64 p) ∧ W.cell? ⟨b, off + ii * 2, none⟩ = some (.int .i64 tc) ∧ W.cell? ⟨b, off + ii * 2 + 1, none⟩ = some (.slice ea te.length ec) ∧ W.cell? ⟨b2, off2 + k * 2, none⟩ = some (.int .i64 uc) ∧ W.cell? ⟨b2, off2 + k * 2 + 1, none⟩ = some (.slice ea2 ue.length ec2))
            (first | exact KEEP.out _ HPR.out.below.drew | exact KEEP.out _ PR7.out.below | exact KEEP.out _ (PR6.out.next belowNew).below | exact KEEP.out _ PR6.out.below)
            (first
              | (refine step_append_tvsA rfl (.tmp 22) (.tmp 49) 53 53 rfl w1.heap.size 57 i0 _ Tryz.underlying53 Tryz.underlying53 HI.out.1 HI.out.2.1 HI.out.2.2.1 HI.out.2.2.2 rfl (.slice za ls.length zc) ls.length (flat ls) (by simp [Act.eval, Act.put]) (PR6.out.next belowNew).own [(tc * uc % p, .slice ua6 (zipI (· + ·) te ue).length uc6, zipI (· + ·) te ue)] 1 rfl (some ⟨w6.heap.size, 0, none⟩) 1 (by simp [Act.eval, Act.put]) (fun _ => ⟨w6.heap.size, 0, rfl, two_at w6 (tc * uc % p) (.slice ua6 (zipI (· + ·) te ue).length uc6) (zipI (· + ·) te ue) 57⟩) ONE6.out (by have := HLL.out; omega) (Nat.le_trans PR6.out.below.size (by simp)) ?_; intro v7 w7 r1 r2 r3; have PR7 := hid (Prd.add hN0 (PR6.out.next belowNew) (SL6.out.below belowNew) LN6.out AP6.out r1 r2 r3); obtain ⟨va7, vc7, hv7⟩ := own_sl' r1; subst hv7; clear r1 r2 r3)
              | (go_at_call 36; refine (HPT.out _ ?_ ?_).mono ?_; exact HSE.out.below (Below.refl _ _).drew; exact HSE2.out.below (Below.refl _ _).drew; rintro e w6 ⟨u6, rfl, hu6, hb6⟩; have PR6 := hid (HPR.out.next (((Below.refl wr.heap.size wr).drew).trans hb6)); have AP6 := hid (own_apartO hu6 HPR.out.own (Nat.le_refl _)); have SL6 := hid (ownsRow_sl hu6); have LN6 : Hid ((zipI (· + ·) te ue).length = N) := ((zipI_len _ _ _ HLE.out).trans HTF.out.1); obtain ⟨ua6, uc6, hv6⟩ := own_sl' hu6; subst hv6; have ONE6 := hid (flat_one (w := w6) (ts := [(tc * uc % p, .slice ua6 (zipI (· + ·) te ue).length uc6, zipI (· + ·) te ue)]) (fun u hu => (by rw [List.mem_singleton] at hu; subst hu; exact SL6.out))); clear hu6 hb6))
          all_goals
            go_wp2
            first
              | exact ⟨⟨k + 1, ls ++ [_], by omega, by go_num, by rw [List.map_append, HE.out, HSN.out]; simp [tm], PR7.out⟩, by simp [intOf]; omega⟩
              | (go_roundw; (case rel => exact ⟨k + 1, ls ++ [_], by omega, by go_num, by rw [List.map_append, HE.out, HSN.out]; simp [tm], PR7.out⟩); case measure => simp [intOf]; omega)
        · have e : k = gs.length := by omega
          subst e
          go_wp2
          go_roundw
          case rel => exact ⟨ii + 1, ls, by omega, by go_num, by rw [HE.out, prodL_take p fs gs ii hi2, List.take_of_length_le (Nat.le_refl _)], HPR.out⟩
          case measure => simp [intOf]; omega
    · have e : ii = fs.length := by omega
      subst e
      have HEF : Hid (ls0.map tm = prodL p fs gs) := by show _ = _; rw [HE0.out, List.take_of_length_le (Nat.le_refl _)]
      have HPL : Hid (Pl wo (.slice za0 ls0.length zc0) (prodL p fs gs)) := by rw [← HEF.out]; exact own_pl HP0.out.own HP0.out.es
      have HLL : Hid ((prodL p fs gs).length ≤ 1200000000000) := by
        show _ ≤ _
        rw [prodL_len]
        exact Nat.le_trans (Nat.mul_le_mul hlf hlg) (by decide)
      have HTK := hid (prodL_tok (p := p) (N := N) hp1 HF.out.1 HG.out.1 HF.out.2.2 HG.out.2.2)
      obtain ⟨_, bx0, bx1, bx2, bx3⟩ := HBX.out.below HP0.out.below
      go_wp2_with fail
      refine (collect_any p n o v N _ (prodL p fs gs) _ ⟨hp1, hp2⟩ HO.out hN0 hN HTK.out HLL.out HPL.out).mono ?_
      rintro e w9 ⟨u9, rfl, hu9, hb9⟩
      have HU9 := hid hu9
      have HB9 := hid ((HBW.out.trans (HP0.out.below.mono HBW.out.size)).trans (hb9.mono (HBW.out.trans (HP0.out.below.mono HBW.out.size)).size))
      obtain ⟨ua9, uc9, rfl, _, _⟩ := hu9
      clear hb9
      go_wp2
      go_ret
      exact ⟨_, rfl, HU9.out, HB9.out⟩
end Go.Proofs.YtilogbggilchaaaGreat
