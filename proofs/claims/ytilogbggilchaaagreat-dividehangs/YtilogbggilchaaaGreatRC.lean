/- Sum of the reference. -/
import Derived.Test.YtilogbggilchaaaGreatRB
import Derived.Deep.RegionHeldLaw
import Derived.Maps.AppendAt
namespace Go.Proofs.YtilogbggilchaaaGreat
set_option linter.unusedSimpArgs false
set_option linter.unusedVariables false
open Go.RowKit
theorem append_types {P : Program} {w : World} {t u ty e : TypeId} {i : TypeInfo} {v x : Value} (ht : P.underlying t = some (.slice e)) (hu : P.underlying u = some (.slice e)) (hi : P.info? e = some i) :
    (Builtin.append_ #[t, u] ty #[v, x]).run P w = (Builtin.append_ #[t, t] ty #[v, x]).run P w := by
  cases v <;> simp [Builtin.append_, run_underlying ht, run_underlying hu, sizeOf, typeInfo, hi]
theorem run_append_tvsA {P : Program} (w : World) (base : Nat) (t t2 ty e : TypeId) (i : TypeInfo) (z : Value) (ht : P.underlying t = some (.slice e)) (ht2 : P.underlying t2 = some (.slice e)) (hi : P.info? e = some i) (hz : i.zero = some z) (hsize : i.size = 2) (hby : i.bytes = 32) (hzs : z.cells.size = 2)
    (v : Value) (n : Nat) (xs : List Value) (hown : w.ownsRow base e 2 v n xs) (us : List TV) (m : Nat) (hm : us.length = m) (ua : Option Addr) (uc : Nat)
    (hcs : 0 < m → ∃ b off, ua = some ⟨b, off, none⟩ ∧ ∀ j u, (flat us)[j]? = some u → w.cell? ⟨b, off + j, none⟩ = some u) (hone : ∀ u ∈ flat us, u.oneCell' = true) (hb : n + m ≤ 2400000000000) (hbase : base ≤ w.heap.size) :
    ∃ v' w', (Builtin.append_ #[t, t2] ty #[v, .slice ua m uc]).run P w = .ok v' w' ∧ w'.ownsRow base e 2 v' (n + m) (xs ++ flat us) ∧ w.grownBy w' v.ownBlock ∧ (v'.ownBlock = v.ownBlock ∨ v'.ownBlock = some w.heap.size) := by
  rw [append_types ht ht2 hi]
  subst hm
  by_cases h0 : 0 < us.length
  · obtain ⟨b, off, rfl, hc⟩ := hcs h0
    obtain ⟨v', w', hr, h2, h3, _, h5⟩ := run_append_own_at (P := P) w base t ty e i z 2 32 ht hi hz hsize hby hzs (by decide) v n xs hown ⟨b, off, none⟩ us.length uc (flat us) (flat_len us) (fun j u hj => by
      have := hc j u hj
      by_cases hj0 : j = 0
      · subst hj0; simpa [Addr.add] using this
      · simpa [Addr.add, hj0] using this) hone (bytesOk hb).1 (bytesOk hb).2 hbase
    exact ⟨v', w', hr, h2, h3, h5⟩
  · have e0 : us = [] := List.length_eq_zero_iff.1 (by omega)
    subst e0
    cases ua with
    | none => exact ⟨v, w, run_append_none_c w base t ty e i 2 ht hi v n uc xs hown, by simpa [flat] using hown, grown_refl _ _, Or.inl rfl⟩
    | some ad =>
      obtain ⟨v', w', hr, h2, h3, _, h5⟩ := run_append_own_at (P := P) w base t ty e i z 2 32 ht hi hz hsize hby hzs (by decide) v n xs hown ad 0 uc [] (by simp) (fun j u hj => by simp at hj) (fun u hu => by simp at hu) (bytesOk hb).1 (bytesOk hb).2 hbase
      exact ⟨v', w', hr, h2, h3, h5⟩
theorem step_append_tvsA {P : Program} {ops : Array Oper} {o : Oper} {a : Act} {w : World} {K : Act → World → Prop} {Q : Exit → Act → World → Prop} {E : Prop} (hgd : o.guard = none) (s x : Operand) (t t2 : TypeId)
    (ho : o.op = .call { callee := .builtin .append, args := #[s, x], argTypes := #[t, t2] })
    (base : Nat) (e : TypeId) (i : TypeInfo) (z : Value) (ht : P.underlying t = some (.slice e)) (ht2 : P.underlying t2 = some (.slice e)) (hi : P.info? e = some i) (hz : i.zero = some z) (hsize : i.size = 2) (hby : i.bytes = 32) (hzs : z.cells.size = 2)
    (v : Value) (n : Nat) (xs : List Value) (hs : a.eval s = v) (hown : w.ownsRow base e 2 v n xs) (us : List TV) (m : Nat) (hm : us.length = m) (ua : Option Addr) (uc : Nat) (hx : a.eval x = .slice ua m uc)
    (hcs : 0 < m → ∃ b off, ua = some ⟨b, off, none⟩ ∧ ∀ j u, (flat us)[j]? = some u → w.cell? ⟨b, off + j, none⟩ = some u) (hone : ∀ u ∈ flat us, u.oneCell' = true) (hb : n + m ≤ 2400000000000) (hbase : base ≤ w.heap.size)
    (hK : ∀ v' w', w'.ownsRow base e 2 v' (n + m) (xs ++ flat us) → w.grownBy w' v.ownBlock → (v'.ownBlock = v.ownBlock ∨ v'.ownBlock = some w.heap.size) → K (a.put o.dst v') w') :
    if Region.wanted o (yielded ops a.tmps) = true then Oper.wp P o a w K Q else E := by
  have hw : Region.wanted o (yielded ops a.tmps) = true := by simp [Region.wanted, hgd]
  rw [if_pos hw]
  obtain ⟨v', w', hr, h2, h3, h4⟩ := run_append_tvsA (P := P) w base t t2 o.type e i z ht ht2 hi hz hsize hby hzs v n xs hown us m hm ua uc hcs hone hb hbase
  unfold Oper.wp execOp
  simp only [ho, resolve, invoke, builtin, Sem.run_bind, Sem.run_pure, Result.andThen_ok, List.map_toArray, List.map_cons, List.map_nil, hs, hx, hr]
  exact hK v' w' h2 h3 h4

set_option maxRecDepth 100000 in
set_option maxHeartbeats 1000000 in
theorem refSum_any (p n o v : Int) (N : Nat) (fv gv : Value) (fs gs : List Tm) (w : World) (hp : 2 ≤ p ∧ p ≤ 101) (ho : o = 1 ∨ o = 2) (hN0 : 0 < N) (hN : N ≤ 3) (tf : ∀ t ∈ fs, Tok p N t) (tg : ∀ t ∈ gs, Tok p N t) (hm : fs.length + gs.length ≤ 1200000000000)
    (pf : Pl w fv fs) (pg : Pl w gv gs) :
    Calls Tryz.prog 37 #[ringV p n o v, fv, gv] w fun e w' => ∃ u, e = .returned u ∧ Pl w' u (colL p o (fs ++ gs)) ∧ Below w.heap.size w w' := by
  obtain ⟨fa, fc, us, rfl, _, hus, hue, hucs⟩ := pf.tvs
  obtain ⟨ga, gc, vs, rfl, _, hvs, hve, hvcs⟩ := pg.tvs
  have hul : us.length = fs.length := by rw [← hus, List.length_map]
  have hvl : vs.length = gs.length := by rw [← hvs, List.length_map]
  have hm' : us.length + vs.length ≤ 1200000000000 := by omega
  have HT : Hid ((us ++ vs).map tm = fs ++ gs ∧ ∀ t ∈ fs ++ gs, Tok p N t) := ⟨by rw [List.map_append, hus, hvs], fun t ht => (List.mem_append.1 ht).elim (tf t) (tg t)⟩
  have HES := hid (And.intro hue hve)
  obtain ⟨i0, hi, hz0, hz1, hz2⟩ := info_parts Tryz.infoTerm
  have HI := hid (And.intro hi (And.intro hz0 (And.intro hz1 hz2)))
  obtain ⟨w1, hw1⟩ : ∃ w1, w1 = w.alloc (.cells #[.int .i64 p, .int .i64 n, .int .i64 o, .int .i64 v] 23) := ⟨_, rfl⟩
  have hbx : BoxAt w1 w.heap.size p n o v := by rw [hw1]; exact BoxAt.new w p n o v _
  have hbw : Below w.heap.size w w1 := by rw [hw1]; exact below_oneG
  have HBW := hid hbw
  obtain ⟨_, bx0, bx1, bx2, bx3⟩ := hbx
  have CU : Hid (∀ W, Below w1.heap.size w1 W → 0 < us.length → ∃ b off, fa = some ⟨b, off, none⟩ ∧ ∀ i u, (flat us)[i]? = some u → W.cell? ⟨b, off + i, none⟩ = some u) := fun W hb h => by
    obtain ⟨b, off, e, hlt, hc⟩ := hucs h
    exact ⟨b, off, e, fun i u hi => cell_keep (cell_keep (hc i u hi) hbw) hb⟩
  have CV : Hid (∀ W, Below w1.heap.size w1 W → 0 < vs.length → ∃ b off, ga = some ⟨b, off, none⟩ ∧ ∀ i u, (flat vs)[i]? = some u → W.cell? ⟨b, off + i, none⟩ = some u) := fun W hb h => by
    obtain ⟨b, off, e, hlt, hc⟩ := hvcs h
    exact ⟨b, off, e, fun i u hi => cell_keep (cell_keep (hc i u hi) hbw) hb⟩
  have KEEP : Hid (∀ W, Below w1.heap.size w1 W → (Hid (Below w1.heap.size w1 W) ∧ W.cell? ⟨w.heap.size, 0, none⟩ = some (.int .i64 p) ∧ W.cell? ⟨w.heap.size, 1, none⟩ = some (.int .i64 n) ∧ W.cell? ⟨w.heap.size, 2, none⟩ = some (.int .i64 o) ∧ W.cell? ⟨w.heap.size, 3, none⟩ = some (.int .i64 v))) :=
    fun W hb => ⟨hb, cell_keep bx0 hb, cell_keep bx1 hb, cell_keep bx2 hb, cell_keep bx3 hb⟩
  have BA := hid (show Below w1.heap.size w1 (w1.drew.alloc (.cells #[] 57)) from (Below.refl w1.heap.size w1).drew.alloc (Nat.le_refl _) _)
  have OA : Hid ((w1.drew.alloc (.cells #[] 57)).ownsRow w1.heap.size 57 2 (.slice (some ⟨w1.heap.size, 0, none⟩) 0 0) 0 []) := World.ownsRow_made w1.drew #[] 0 (Nat.le_refl _) (by decide) (by simp)
  have HP := hid hp
  have HO := hid ho
  clear pf pg hus hvs hue hve hucs hvcs tf tg hul hvl hi hz0 hz1 hz2 bx0 bx1 bx2 bx3 hbw hp ho hm
  go_enter Tryz.func37, Tryz.ntmps37
  go_wp2_with fail
  rw [← hw1]
  clear hw1
  go_region_held_law (fun W => Hid (Below w1.heap.size w1 W) ∧ W.cell? ⟨w.heap.size, 0, none⟩ = some (.int .i64 p) ∧ W.cell? ⟨w.heap.size, 1, none⟩ = some (.int .i64 n) ∧ W.cell? ⟨w.heap.size, 2, none⟩ = some (.int .i64 o) ∧ W.cell? ⟨w.heap.size, 3, none⟩ = some (.int .i64 v))
    (first | exact KEEP.out _ (Below.refl _ _).drew | exact KEEP.out _ HB9.out | exact KEEP.out _ HB6.out | exact KEEP.out _ HB5.out | exact KEEP.out _ BA.out)
    (first
      | (refine step_append_tvsA rfl (.tmp 8) (.tmp 9) 53 54 rfl w1.heap.size 57 i0 _ Tryz.underlying53 Tryz.underlying54 HI.out.1 HI.out.2.1 HI.out.2.2.1 HI.out.2.2.2 rfl (.slice (some ⟨w1.heap.size, 0, none⟩) 0 0) 0 [] (by simp [Act.eval, Act.put]) OA.out us us.length rfl fa fc (by simp [Act.eval, Act.put]) (CU.out _ BA.out) (flat_one HES.out.1) (by omega) BA.out.size ?_; intro v5 w5 r1 r2 _; rw [Nat.zero_add, List.nil_append] at r1; have OWN5 := hid r1; have HB5 := hid (show Below w1.heap.size w1 w5 from own_grown OA.out BA.out r2 (Nat.le_refl _)); obtain ⟨va5, vc5, hv5⟩ := own_sl' r1; subst hv5; clear r1 r2)
      | (refine step_append_tvsA rfl (.tmp 10) (.tmp 11) 53 54 rfl w1.heap.size 57 i0 _ Tryz.underlying53 Tryz.underlying54 HI.out.1 HI.out.2.1 HI.out.2.2.1 HI.out.2.2.2 rfl (.slice va5 us.length vc5) us.length (flat us) (by simp [Act.eval, Act.put]) OWN5.out vs vs.length rfl ga gc (by simp [Act.eval, Act.put]) (CV.out _ HB5.out) (flat_one HES.out.2) (by omega) HB5.out.size ?_; intro v6 w6 r1 r2 _; have HB6 := hid (show Below w1.heap.size w1 w6 from own_grown OWN5.out HB5.out r2 (Nat.le_refl _)); have PL6 : Hid (Pl w6 v6 (fs ++ gs)) := (by rw [← HT.out.1]; exact own_pl (B := w1.heap.size) (by rw [flat_append, List.length_append]; exact r1) (fun t ht => ((List.mem_append.1 ht).elim (HES.out.1 t) (HES.out.2 t)).below (HBW.out.trans (HB6.out.mono HBW.out.size)))); obtain ⟨va6, vc6, hv6⟩ := own_sl' r1; subst hv6; clear r1 r2)
      | (go_at_call 73; refine (collect_any p n o v N _ (fs ++ gs) _ HP.out HO.out hN0 hN HT.out.2 ?_ PL6.out).mono ?_; (rw [← HT.out.1, List.length_map, List.length_append]; exact hm'); rintro e w9 ⟨u9, rfl, hu9, hb9⟩; have HB9 := hid (show Below w1.heap.size w1 w9 from HB6.out.trans (hb9.mono HB6.out.size)); have HU9 := hid hu9; obtain ⟨ua9, uc9, rfl, _, _⟩ := hu9; clear hb9))
  go_wp2
  go_ret
  exact ⟨_, rfl, HU9.out, HBW.out.trans (HB9.out.mono HBW.out.size)⟩
set_option maxHeartbeats 1000000 in
theorem putTimesO_any (xs ys : List Int) (b off cap b2 off2 cap2 : Nat) (w : World) (hm : xs.length ≤ 3) (hxy : xs.length = ys.length)
    (hbx : ∀ x ∈ xs, 0 ≤ x ∧ x ≤ 20000) (hby : ∀ x ∈ ys, 0 ≤ x ∧ x ≤ 20000) (hlt : b < w.heap.size) (hlt2 : b2 < w.heap.size) (hc : IntsAt w b off xs) (hc2 : IntsAt w b2 off2 ys) :
    Calls Tryz.prog 36 #[.slice (some ⟨b, off, none⟩) xs.length cap, .slice (some ⟨b2, off2, none⟩) ys.length cap2, .int .i64 1] w fun e w' =>
      ∃ u, e = .returned u ∧ w'.ownsRow w.heap.size 3 1 u (zipI (· + ·) xs ys).length ((zipI (· + ·) xs ys).map (Value.int .i64)) ∧ Below w.heap.size w w' := by
  have HC := hid hc
  have HC2 := hid hc2
  have HBX := hid hbx
  have HBY := hid hby
  have HLZ := hid (zipI_len (· + ·) xs ys hxy)
  rw [← hxy]
  have HXY := hid hxy
  clear hc hc2 hbx hby hxy
  obtain ⟨i0, hi, hz0, hz1, hz2⟩ := info_parts Tryz.info_int
  go_enter Tryz.func36, Tryz.ntmps36
  go_wp2
  go_loopw [7, 8] (fun v i wr => ∃ k : Nat, k ≤ xs.length ∧ i = .int .i64 k ∧ wr.ownsRow w.heap.size 3 1 v k (((zipI (· + ·) xs ys).take k).map (Value.int .i64)) ∧ Below w.heap.size w wr) (fun _ i _ => xs.length - (intOf i).toNat)
  case atStart => exact ⟨0, Nat.zero_le _, rfl, World.ownsRow_nil _ _ _ _, Below.refl _ _⟩
  case round =>
    obtain ⟨k, hk, rfl, hown, hbr⟩ := hrel
    have HOWN := hid hown
    have HBR := hid hbr
    by_cases hk2 : k < xs.length
    · have hcell := HC.out k hk2
      have hcell2 := HC2.out k (by rw [← HXY.out]; exact hk2)
      have HZ := hid (zipI_at (· + ·) xs ys HXY.out k hk2)
      have hx := HBX.out _ (getD_mem xs k hk2)
      have hy := HBY.out _ (getD_mem ys k (by rw [← HXY.out]; exact hk2))
      generalize xs.getD k 0 = x at hcell HZ hx
      generalize ys.getD k 0 = y at hcell2 HZ hy
      rw [← hbr.cell (p := ⟨b, off + k, none⟩) hlt] at hcell
      rw [← hbr.cell (p := ⟨b2, off2 + k, none⟩) hlt2] at hcell2
      have hsz := hbr.size
      obtain ⟨hx1, hx2⟩ := hx
      obtain ⟨hy1, hy2⟩ := hy
      clear hown hbr
      go_wp2_with (at_builtin; refine wpList_append_own _ rfl _ _ 55 rfl w.heap.size 3 i0 (.int .i64 0) 1 8 Tryz.underlying55 hi hz0 hz1 hz2 rfl (by decide) _ _ _ rfl (HOWN.out.alloc _) ⟨wr.heap.size, 0, none⟩ 1 1 [.int .i64 (x + y)] rfl rfl (cell_one_new _ _ _) (one_cell1 _) (by unfold maxLen; omega) (by omega) (by simp; omega) ?_)
      intro v' w1 hown' hgrow _
      rw [← List.map_take] at hown'
      have R := put_step (zs := zipI (· + ·) xs ys) (by rw [HLZ.out]; exact hk2) (HZ.out.trans rfl) HBR.out HOWN.out hown' hgrow
      have R2 := hid R
      clear hown' hgrow R
      go_wp2
      go_roundw
      case rel => exact ⟨k + 1, by omega, by go_num, R2.out.1, R2.out.2⟩
      case measure => simp [intOf]; omega
    · go_wp2
      go_ret
      have e1 : k = (zipI (· + ·) xs ys).length := by rw [HLZ.out]; omega
      subst e1
      have h2 := HOWN.out
      rw [List.take_of_length_le (Nat.le_refl _)] at h2
      exact ⟨_, rfl, h2, HBR.out⟩


theorem putTimesO_sl (x y : Value) (xs ys : List Int) (w : World) (h0 : 0 < xs.length) (hm : xs.length ≤ 3) (hxy : xs.length = ys.length) (hbx : ∀ x ∈ xs, 0 ≤ x ∧ x ≤ 20000) (hby : ∀ x ∈ ys, 0 ≤ x ∧ x ≤ 20000) (hs : Sl w x xs) (hs2 : Sl w y ys) :
    Calls Tryz.prog 36 #[x, y, .int .i64 1] w fun e w' => ∃ u, e = .returned u ∧ w'.ownsRow w.heap.size 3 1 u (zipI (· + ·) xs ys).length ((zipI (· + ·) xs ys).map (Value.int .i64)) ∧ Below w.heap.size w w' := by
  obtain ⟨a, cap, rfl, h1⟩ := hs
  obtain ⟨a2, cap2, rfl, h2⟩ := hs2
  obtain ⟨b, off, rfl, hlt, hc⟩ := h1 h0
  obtain ⟨b2, off2, rfl, hlt2, hc2⟩ := h2 (by omega)
  exact putTimesO_any xs ys b off cap b2 off2 cap2 w hm hxy hbx hby hlt hlt2 hc hc2
def ApartO (r : Option Nat) (v : Value) : Prop := ∀ b off n c, v = .slice (some ⟨b, off, none⟩) n c → some b ≠ r
theorem grown_slO {w w' : World} {r : Option Nat} {v : Value} {xs : List Int} (h : w.grownBy w' r) (hs : Sl w v xs) (hne : ApartO r v) : Sl w' v xs := by
  obtain ⟨a, cap, rfl, h1⟩ := hs
  refine ⟨a, cap, rfl, fun hp => ?_⟩
  obtain ⟨b, off, rfl, hlt, hc⟩ := h1 hp
  exact ⟨b, off, rfl, Nat.lt_of_lt_of_le hlt h.size, fun i hi => h.cell (hc i hi) (hne b off _ _ rfl)⟩
structure Prd (N : Nat) (w1 wr : World) (v : Value) (ls : List TV) : Prop where
  own : wr.ownsRow w1.heap.size 57 2 v ls.length (flat ls)
  es : Es wr ls
  ap : ∀ t ∈ ls, ApartO v.ownBlock t.2.1
  ln : ∀ t ∈ ls, t.2.2.length = N
  below : Below w1.heap.size w1 wr
theorem Prd.next {N : Nat} {w1 wr w' : World} {v : Value} {ls : List TV} (h : Prd N w1 wr v ls) (hb : Below wr.heap.size wr w') : Prd N w1 w' v ls :=
  ⟨ownBlock_lt h.own hb, h.es.below hb, h.ap, h.ln, h.below.trans (hb.mono h.below.size)⟩
theorem Prd.add {N : Nat} {w1 wr w' : World} {v v' : Value} {ls : List TV} {t : TV} (hN : 0 < N) (h : Prd N w1 wr v ls) (hs : Sl wr t.2.1 t.2.2) (hl : t.2.2.length = N) (ha : ApartO v.ownBlock t.2.1)
    (hown : w'.ownsRow w1.heap.size 57 2 v' (ls.length + 1) (flat ls ++ flat [t])) (hg : wr.grownBy w' v.ownBlock) (hloc : v'.ownBlock = v.ownBlock ∨ v'.ownBlock = some wr.heap.size) : Prd N w1 w' v' (ls ++ [t]) := by
  have hall : ∀ u ∈ ls ++ [t], Sl wr u.2.1 u.2.2 ∧ ApartO v.ownBlock u.2.1 ∧ u.2.2.length = N := by
    intro u hu
    rcases List.mem_append.1 hu with hu | hu
    · exact ⟨h.es u hu, h.ap u hu, h.ln u hu⟩
    · rw [List.mem_singleton] at hu; subst hu; exact ⟨hs, ha, hl⟩
  refine ⟨by rw [flat_append, List.length_append]; exact hown, fun u hu => grown_slO hg (hall u hu).1 (hall u hu).2.1, fun u hu => ?_, fun u hu => (hall u hu).2.2, own_grown h.own h.below hg (Nat.le_refl _)⟩
  rcases hloc with e | e
  · rw [e]; exact (hall u hu).2.1
  · rw [e]
    intro b off n c hv hb
    obtain ⟨a, cap, hv2, h1⟩ := (hall u hu).1
    obtain ⟨b2, off2, hv3, hlt, _⟩ := h1 (by rw [(hall u hu).2.2]; exact hN)
    rw [hv2, hv3] at hv
    simp only [Value.slice.injEq, Option.some.injEq, Addr.mk.injEq] at hv hb
    omega
theorem own_apartO {w : World} {B : Nat} {T : TypeId} {s : Nat} {u v : Value} {n m : Nat} {xs ys : List Value} {W : World} {B2 : Nat} {T2 : TypeId} {s2 : Nat} (h : w.ownsRow B T s u n xs) (k : W.ownsRow B2 T2 s2 v m ys) (hB : W.heap.size ≤ B) : ApartO v.ownBlock u := by
  intro b off n c e hb
  have hu : u.ownBlock = some b := by rw [e]; rfl
  have h1 := (World.ownsRow.lt h b hu).1
  have h2 := (World.ownsRow.lt k b hb.symm).2
  omega
theorem prodL_take (p : Int) (fs gs : List Tm) (i : Nat) (h : i < fs.length) : prodL p (fs.take (i + 1)) gs = prodL p (fs.take i) gs ++ prodT p (fs.getD i noT) gs := by
  rw [List.take_succ_eq_append_getElem h, prodL_append]
  congr 1
  simp [Go.Proofs.YtilogbggilchaaaGreat.prodL, List.getD_eq_getElem?_getD, h]
theorem prodT_snoc (p : Int) (t : Tm) (gs : List Tm) (k : Nat) (h : k < gs.length) : prodT p t (gs.take (k + 1)) = prodT p t (gs.take k) ++ [(t.1 * (gs.getD k noT).1 % p, zipI (· + ·) t.2 (gs.getD k noT).2)] := by
  rw [List.take_succ_eq_append_getElem h]
  unfold prodT
  rw [List.map_append]
  congr 1
  simp [List.getD_eq_getElem?_getD, h]
theorem prodL_len (p : Int) (fs gs : List Tm) : (prodL p fs gs).length = fs.length * gs.length := by
  induction fs with
  | nil => simp [Go.Proofs.YtilogbggilchaaaGreat.prodL]
  | cons t fs ih =>
    have e : prodL p (t :: fs) gs = prodT p t gs ++ prodL p fs gs := rfl
    rw [e, List.length_append, ih]
    simp [prodT, Nat.add_mul]; omega
theorem prodL_tok {p : Int} {N : Nat} (hp : 2 ≤ p) {fs gs : List Tm} (lf : Len N fs) (lg : Len N gs) (bf : Bd2 fs) (bg : Bd2 gs) : ∀ t ∈ prodL p fs gs, Tok p N t := by
  intro t ht
  simp only [Go.Proofs.YtilogbggilchaaaGreat.prodL, prodT, List.mem_flatMap, List.mem_map] at ht
  obtain ⟨a, ha, b, hb, rfl⟩ := ht
  refine ⟨by simp only; rw [zipI_len _ _ _ (by rw [lf a ha, lg b hb])]; exact lf a ha, zip_bd _ _ (bf a ha) (bg b hb), Int.emod_nonneg _ (by omega), Int.emod_lt_of_pos _ (by omega)⟩
theorem two_len_mul {i k a b : Nat} (hi : i < a) (hk : k ≤ b) (ha : a ≤ 2000) (hb : b ≤ 2000) : i * b + k ≤ 1200000000000 := by
  have h1 : (i + 1) * b ≤ 2000 * 2000 := Nat.mul_le_mul (by omega) hb
  rw [Nat.add_mul] at h1; omega

set_option maxRecDepth 100000 in
set_option maxHeartbeats 2000000 in
theorem refProduct_any (p n o v : Int) (N : Nat) (fv gv : Value) (fs gs : List Tm) (w : World) (hp : 2 ≤ p ∧ p ≤ 101) (ho : o = 1 ∨ o = 2) (hN0 : 0 < N) (hN : N ≤ 3) (lf : Len N fs) (lg : Len N gs) (cf : ∀ t ∈ fs, 0 ≤ t.1 ∧ t.1 < p) (cg : ∀ t ∈ gs, 0 ≤ t.1 ∧ t.1 < p) (bf : Bd2 fs) (bg : Bd2 gs)
    (hlf : fs.length ≤ 2000) (hlg : gs.length ≤ 2000) (pf : Pl w fv fs) (pg : Pl w gv gs) :
    Calls Tryz.prog 74 #[ringV p n o v, fv, gv] w fun e w' => ∃ u, e = .returned u ∧ Pl w' u (colL p o (prodL p fs gs)) ∧ Below w.heap.size w w' := by
  have HF := hid (And.intro lf (And.intro cf bf))
  have HG := hid (And.intro lg (And.intro cg bg))
  have HO := hid ho
  obtain ⟨hp1, hp2⟩ := hp
  obtain ⟨fa, fc, rfl, _, hfc⟩ := pf
  obtain ⟨ga, gc, rfl, _, hgc⟩ := pg
  have HFC := hid hfc
  have HGC := hid hgc
  obtain ⟨i0, hi, hz0, hz1, hz2⟩ := info_parts Tryz.infoTerm
  have HI := hid (And.intro hi (And.intro hz0 (And.intro hz1 hz2)))
  obtain ⟨w1, hw1⟩ : ∃ w1, w1 = w.alloc (.cells #[.int .i64 p, .int .i64 n, .int .i64 o, .int .i64 v] 23) := ⟨_, rfl⟩
  have hbx : BoxAt w1 w.heap.size p n o v := by rw [hw1]; exact BoxAt.new w p n o v _
  have hbw : Below w.heap.size w w1 := by rw [hw1]; exact below_oneG
  have HBX := hid hbx
  have HBW := hid hbw
  clear hfc hgc lf lg cf cg bf bg ho hi hz0 hz1 hz2 hbx hbw
  go_enter Tryz.func74, Tryz.ntmps74
  go_wp2_with fail
  rw [← hw1]
  clear hw1
  go_loopw [7, 8] (fun z i wr => ∃ (ii : Nat) (ls : List TV), ii ≤ fs.length ∧ i = .int .i64 ii ∧ ls.map tm = prodL p (fs.take ii) gs ∧ Prd N w1 wr z ls) (fun _ i _ => fs.length - (intOf i).toNat)
  case atStart => exact ⟨0, [], Nat.zero_le _, rfl, rfl, World.ownsRow_nil _ _ _ _, fun t ht => by simp at ht, fun t ht => by simp at ht, fun t ht => by simp at ht, Below.refl _ _⟩
  case round =>
    obtain ⟨wo, hwo⟩ : ∃ wo : World, wo = wr := ⟨_, rfl⟩
    subst hwo
    obtain ⟨ii, ls0, hi1, rfl, heq0, hprd0⟩ := hrel
    have HE0 := hid heq0
    have HP0 := hid hprd0
    obtain ⟨za0, zc0, hz0⟩ := own_sl' hprd0.own
    subst hz0
    clear heq0 hprd0
    by_cases hi2 : ii < fs.length
    · go_wp2
      go_loopw [7, 9] (fun z i wr => ∃ (k : Nat) (ls : List TV), k ≤ gs.length ∧ i = .int .i64 k ∧ ls.map tm = prodL p (fs.take ii) gs ++ prodT p (fs.getD ii noT) (gs.take k) ∧ Prd N w1 wr z ls) (fun _ i _ => gs.length - (intOf i).toNat)
      case atStart => exact ⟨0, ls0, Nat.zero_le _, rfl, by rw [HE0.out]; simp [prodT], HP0.out⟩
      case round =>
        obtain ⟨k, ls, hk1, rfl, heq, hprd⟩ := hrel
        have HE := hid heq
        have HPR := hid hprd
        obtain ⟨za, zc, hz⟩ := own_sl' hprd.own
        subst hz
        clear heq hprd
        by_cases hk2 : k < gs.length
        · obtain ⟨b, off, rfl, hlt, hat⟩ := HFC.out (by omega)
          obtain ⟨b2, off2, rfl, hlt2, hat2⟩ := HGC.out (by omega)
          obtain ⟨c0, ev, c1, hse⟩ := hat ii hi2
          obtain ⟨d0, ev2, d1, hse2⟩ := hat2 k hk2
          have HLL : Hid (ls.length ≤ 1200000000000) := by
            have h1 : (ls.map tm).length = _ := congrArg List.length HE.out
            rw [List.length_map, List.length_append, prodL_len] at h1
            simp only [prodT, List.length_map, List.length_take] at h1
            have h2 := two_len_mul (i := ii) (k := k) (a := fs.length) (b := gs.length) hi2 hk1 hlf hlg
            rw [Nat.min_eq_left hi1, Nat.min_eq_left hk1] at h1
            show _ ≤ _
            omega
          have HTF := hid (And.intro (HF.out.1 _ (getD_memT fs ii hi2)) (And.intro (HF.out.2.1 _ (getD_memT fs ii hi2)) (HF.out.2.2 _ (getD_memT fs ii hi2))))
          have HTG := hid (And.intro (HG.out.1 _ (getD_memT gs k hk2)) (And.intro (HG.out.2.1 _ (getD_memT gs k hk2)) (HG.out.2.2 _ (getD_memT gs k hk2))))
          have HSN := hid (prodT_snoc p (fs.getD ii noT) gs k hk2)
          generalize hft : fs.getD ii noT = t at c0 hse HTF HSN HE
          have HFT := hid hft
          generalize gs.getD k noT = u at d0 hse2 HTG HSN
          obtain ⟨tc, te⟩ := t
          obtain ⟨uc, ue⟩ := u
          have HDN := hid (HBW.out.trans (HPR.out.below.mono HBW.out.size))
          have HSE := hid (hse.below HDN.out)
          have HSE2 := hid (hse2.below HDN.out)
          obtain ⟨ea, ec, rfl, _⟩ := hse
          obtain ⟨ea2, ec2, rfl, _⟩ := hse2
          simp only at c0 c1 d0 d1
          have hte0 : 0 < te.length := by have := HTF.out.1; simp only at this; omega
          have hte3 : te.length ≤ 3 := by have := HTF.out.1; simp only at this; omega
          have HLE : Hid (te.length = ue.length) := HTF.out.1.trans HTG.out.1.symm
          have htc : 0 ≤ tc ∧ tc < p := HTF.out.2.1
          have huc : 0 ≤ uc ∧ uc < p := HTG.out.2.1
          obtain ⟨hm1, hm2⟩ := mulBd (a := tc) (b := uc) ⟨by omega, by omega, by omega, by omega⟩
          have HPT := hid (fun (W : World) (h1 : Sl W (.slice ea te.length ec) te) (h2 : Sl W (.slice ea2 ue.length ec2) ue) => putTimesO_sl _ _ te ue W hte0 hte3 HLE.out HTF.out.2.2 HTG.out.2.2 h1 h2)
          obtain ⟨_, bx0, _, _, _⟩ := HBX.out
          have KEEP : Hid (∀ W, Below w1.heap.size w1 W → (Hid (Below w1.heap.size w1 W) ∧ W.cell? ⟨w.heap.size, 0, none⟩ = some (.int .i64 p) ∧ W.cell? ⟨b, off + ii * 2, none⟩ = some (.int .i64 tc) ∧ W.cell? ⟨b, off + ii * 2 + 1, none⟩ = some (.slice ea te.length ec) ∧ W.cell? ⟨b2, off2 + k * 2, none⟩ = some (.int .i64 uc) ∧ W.cell? ⟨b2, off2 + k * 2 + 1, none⟩ = some (.slice ea2 ue.length ec2))) :=
            fun W hb => ⟨hb, cell_keep bx0 hb, cell_keep (cell_keep c0 HBW.out) hb, cell_keep (cell_keep c1 HBW.out) hb, cell_keep (cell_keep d0 HBW.out) hb, cell_keep (cell_keep d1 HBW.out) hb⟩
          clear hft hat hat2 c0 c1 d0 d1 bx0 htc huc
          go_wp2
          go_region_held_law (fun W => Hid (Below w1.heap.size w1 W) ∧ W.cell? ⟨w.heap.size, 0, none⟩ = some (.int .i64 p) ∧ W.cell? ⟨b, off + ii * 2, none⟩ = some (.int .i64 tc) ∧ W.cell? ⟨b, off + ii * 2 + 1, none⟩ = some (.slice ea te.length ec) ∧ W.cell? ⟨b2, off2 + k * 2, none⟩ = some (.int .i64 uc) ∧ W.cell? ⟨b2, off2 + k * 2 + 1, none⟩ = some (.slice ea2 ue.length ec2))
            (first | exact KEEP.out _ HPR.out.below.drew | exact KEEP.out _ PR7.out.below | exact KEEP.out _ (PR6.out.next belowNew).below | exact KEEP.out _ PR6.out.below)
            (first
              | (refine step_append_tvsA rfl (.tmp 22) (.tmp 49) 53 53 rfl w1.heap.size 57 i0 _ Tryz.underlying53 Tryz.underlying53 HI.out.1 HI.out.2.1 HI.out.2.2.1 HI.out.2.2.2 rfl (.slice za ls.length zc) ls.length (flat ls) (by simp [Act.eval, Act.put]) (PR6.out.next belowNew).own [(tc * uc % p, .slice ua6 (zipI (· + ·) te ue).length uc6, zipI (· + ·) te ue)] 1 rfl (some ⟨w6.heap.size, 0, none⟩) 1 (by simp [Act.eval, Act.put]) (fun _ => ⟨w6.heap.size, 0, rfl, two_at w6 (tc * uc % p) (.slice ua6 (zipI (· + ·) te ue).length uc6) (zipI (· + ·) te ue) 57⟩) ONE6.out (by have := HLL.out; omega) (Nat.le_trans PR6.out.below.size (by simp)) ?_; intro v7 w7 r1 r2 r3; have PR7 := hid (Prd.add hN0 (PR6.out.next belowNew) (SL6.out.below belowNew) LN6.out AP6.out r1 r2 r3); obtain ⟨va7, vc7, hv7⟩ := own_sl' r1; subst hv7; clear r1 r2 r3)
              | (go_at_call 36; refine (HPT.out _ ?_ ?_).mono ?_; exact HSE.out.below (Below.refl _ _).drew; exact HSE2.out.below (Below.refl _ _).drew; rintro e w6 ⟨u6, rfl, hu6, hb6⟩; have PR6 := hid (HPR.out.next (((Below.refl wr.heap.size wr).drew).trans hb6)); have AP6 := hid (own_apartO hu6 HPR.out.own (Nat.le_refl _)); have SL6 := hid (ownsRow_sl hu6); have LN6 : Hid ((zipI (· + ·) te ue).length = N) := ((zipI_len _ _ _ HLE.out).trans HTF.out.1); obtain ⟨ua6, uc6, hv6⟩ := own_sl' hu6; subst hv6; have ONE6 := hid (flat_one (w := w6) (ts := [(tc * uc % p, .slice ua6 (zipI (· + ·) te ue).length uc6, zipI (· + ·) te ue)]) (fun u hu => (by rw [List.mem_singleton] at hu; subst hu; exact SL6.out))); clear hu6 hb6))
          all_goals
            go_wp2
            first
              | exact ⟨⟨k + 1, ls ++ [_], by omega, by go_num, by rw [List.map_append, HE.out, HSN.out]; simp [tm], PR7.out⟩, by simp [intOf]; omega⟩
              | (go_roundw; (case rel => exact ⟨k + 1, ls ++ [_], by omega, by go_num, by rw [List.map_append, HE.out, HSN.out]; simp [tm], PR7.out⟩); case measure => simp [intOf]; omega)
        · have e : k = gs.length := by omega
          subst e
          go_wp2
          go_roundw
          case rel => exact ⟨ii + 1, ls, by omega, by go_num, by rw [HE.out, prodL_take p fs gs ii hi2, List.take_of_length_le (Nat.le_refl _)], HPR.out⟩
          case measure => simp [intOf]; omega
    · have e : ii = fs.length := by omega
      subst e
      have HEF : Hid (ls0.map tm = prodL p fs gs) := by show _ = _; rw [HE0.out, List.take_of_length_le (Nat.le_refl _)]
      have HPL : Hid (Pl wo (.slice za0 ls0.length zc0) (prodL p fs gs)) := by rw [← HEF.out]; exact own_pl HP0.out.own HP0.out.es
      have HLL : Hid ((prodL p fs gs).length ≤ 1200000000000) := by
        show _ ≤ _
        rw [prodL_len]
        exact Nat.le_trans (Nat.mul_le_mul hlf hlg) (by decide)
      have HTK := hid (prodL_tok (p := p) (N := N) hp1 HF.out.1 HG.out.1 HF.out.2.2 HG.out.2.2)
      obtain ⟨_, bx0, bx1, bx2, bx3⟩ := HBX.out.below HP0.out.below
      go_wp2_with fail
      refine (collect_any p n o v N _ (prodL p fs gs) _ ⟨hp1, hp2⟩ HO.out hN0 hN HTK.out HLL.out HPL.out).mono ?_
      rintro e w9 ⟨u9, rfl, hu9, hb9⟩
      have HU9 := hid hu9
      have HB9 := hid ((HBW.out.trans (HP0.out.below.mono HBW.out.size)).trans (hb9.mono (HBW.out.trans (HP0.out.below.mono HBW.out.size)).size))
      obtain ⟨ua9, uc9, rfl, _, _⟩ := hu9
      clear hb9
      go_wp2
      go_ret
      exact ⟨_, rfl, HU9.out, HB9.out⟩
def okPrev (o : Int) (q : Option (List Int)) (e : List Int) : Bool :=
  match q with
  | some x => moreB o x e
  | none => true
def errFrom (p n o : Int) : Option (List Int) → List Tm → Int
  | _, [] => 0
  | q, t :: ts => if betweenB t.1 1 (p - 1) = false then 3 else if errM n t.2 ≠ 0 then errM n t.2 else if okPrev o q t.2 = false then 4 else errFrom p n o (some t.2) ts
def prevE (ts : List Tm) : Nat → Option (List Int)
  | 0 => none
  | k + 1 => some (ts.getD k noT).2
theorem errFrom_drop (p n o : Int) (ts : List Tm) (k : Nat) (h : k < ts.length) (q : Option (List Int)) : errFrom p n o q (ts.drop k) =
    if betweenB (ts.getD k noT).1 1 (p - 1) = false then 3 else if errM n (ts.getD k noT).2 ≠ 0 then errM n (ts.getD k noT).2 else if okPrev o q (ts.getD k noT).2 = false then 4 else errFrom p n o (prevE ts (k + 1)) (ts.drop (k + 1)) := by
  rw [List.drop_eq_getElem_cons h]
  have e : ts.getD k noT = ts[k] := by simp [List.getD_eq_getElem?_getD, h]
  rw [prevE, e]
  rfl
def errOne (p n o : Int) (ts : List Tm) : Int := if 2000 < ts.length then 2 else errFrom p n o none ts
theorem errFrom_ok {p o : Int} {N : Nat} : ∀ (ts : List Tm) (q : Option (List Int)), errFrom p N o q ts = 0 → (∀ e, q = some e → e.length = N) → (∀ t ∈ ts, (1 ≤ t.1 ∧ t.1 < p) ∧ errM N t.2 = 0) ∧ Falls o ts ∧ (∀ e t ts', q = some e → ts = t :: ts' → 0 < ordS o e t.2)
  | [], q, _, _ => ⟨fun t ht => by simp at ht, trivial, fun e t ts' _ h => by simp at h⟩
  | t :: ts, q, h, hq => by
    have hu : errFrom p N o q (t :: ts) = if betweenB t.1 1 (p - 1) = false then 3 else if errM N t.2 ≠ 0 then errM N t.2 else if okPrev o q t.2 = false then 4 else errFrom p N o (some t.2) ts := rfl
    rw [hu] at h
    clear hu
    by_cases h1 : betweenB t.1 1 (p - 1) = false
    · rw [if_pos h1] at h; omega
    rw [if_neg h1] at h
    by_cases h2 : errM N t.2 ≠ 0
    · rw [if_pos h2] at h; exact absurd h h2
    rw [if_neg h2] at h
    by_cases h3 : okPrev o q t.2 = false
    · rw [if_pos h3] at h; omega
    rw [if_neg h3] at h
    have h2' : errM N t.2 = 0 := by omega
    have hl : t.2.length = N := by have := (errM_ok h2').1; omega
    obtain ⟨i1, i2, i3⟩ := errFrom_ok ts (some t.2) h (fun e he => by simp at he; rw [← he]; exact hl)
    have hb : 1 ≤ t.1 ∧ t.1 < p := by simp [betweenB] at h1; omega
    refine ⟨fun u hu => ?_, ⟨fun u hu => ?_, i2⟩, fun e u ts' he hu => ?_⟩
    · rcases List.mem_cons.1 hu with rfl | hu
      · exact ⟨hb, h2'⟩
      · exact i1 u hu
    · cases ts with
      | nil => simp at hu
      | cons x xs =>
        have hx := i3 t.2 x xs rfl rfl
        rcases List.mem_cons.1 hu with rfl | hu
        · exact hx
        · have l1 : x.2.length = N := by have := (errM_ok (i1 x (by simp)).2).1; omega
          have l2 : u.2.length = N := by have := (errM_ok (i1 u (by simp [hu])).2).1; omega
          exact ordS_trans o t.2 x.2 u.2 (by omega) (by omega) hx (i2.1 u hu)
    · rw [he] at h3
      simp only [List.cons.injEq] at hu
      obtain ⟨rfl, _⟩ := hu
      simpa [okPrev, moreB] using h3
structure Right (p o : Int) (N : Nat) (ts : List Tm) : Prop where
  canon : Canon p o N ts
  bd : Bd2 ts
  len : ts.length ≤ 2000
  deg : ∀ t ∈ ts, sumI t.2 ≤ 200
theorem errOne_ok {p o : Int} {N : Nat} {ts : List Tm} (h : errOne p N o ts = 0) : Right p o N ts := by
  unfold errOne at h
  split at h
  · omega
  rename_i hl
  obtain ⟨h1, h2, _⟩ := errFrom_ok ts none h (fun e he => by simp at he)
  refine ⟨⟨fun t ht => ?_, h2, fun t ht => (h1 t ht).1⟩, fun t ht x hx => by have h9 := (errM_ok (h1 t ht).2).2.1 x hx; omega, by omega, fun t ht => (errM_ok (h1 t ht).2).2.2⟩
  have := (errM_ok (h1 t ht).2).1
  omega
theorem wrapPred {k : Nat} (h : 0 < k) (h2 : k ≤ 2000) : IntKind.i64.wrap ((k : Int) - 1) = (k : Int) - 1 := by
  rw [IntKind.wrap_i64]; omega
theorem predFacts {k n : Nat} (h : 0 < k) (h2 : k < n) : (0 : Int) ≤ (k : Int) - 1 ∧ (k : Int) - 1 < (n : Int) ∧ ((k : Int) - 1).toNat = k - 1 ∧ (1 : Int) ≤ (k : Int) ∧ (k : Int) ≤ (n : Int) ∧ ¬ (k : Int) < 1 ∧ ¬ (n : Int) ≤ (k : Int) - 1 := ⟨by omega, by omega, by omega, by omega, by omega, by omega, by omega⟩
theorem emptyRight (p o : Int) (N : Nat) : Right p o N [] := ⟨⟨fun t ht => by simp at ht, trivial, fun t ht => by simp at ht⟩, fun t ht => by simp at ht, by simp, fun t ht => by simp at ht⟩
def firstOne (p n o : Int) : List (List Tm) → Int
  | [] => 0
  | f :: r => if errOne p n o f = 0 then firstOne p n o r else errOne p n o f
theorem firstOne_drop (p n o : Int) (fss : List (List Tm)) (k : Nat) (h : k < fss.length) :
    firstOne p n o (fss.drop k) = if errOne p n o (fss.getD k []) = 0 then firstOne p n o (fss.drop (k + 1)) else errOne p n o (fss.getD k []) := by
  rw [List.drop_eq_getElem_cons h]
  simp [firstOne, List.getD_eq_getElem?_getD, h]
def errPolys (p n o v : Int) (fss : List (List Tm)) : Int := if errR p n o v = 0 then firstOne p n o fss else errR p n o v
theorem firstOne_ok {p n o : Int} : ∀ {fss : List (List Tm)}, firstOne p n o fss = 0 → ∀ f ∈ fss, errOne p n o f = 0
  | [], _, f, hf => by simp at hf
  | g :: r, h, f, hf => by
    unfold firstOne at h
    by_cases hg : errOne p n o g = 0
    · rw [if_pos hg] at h
      rcases List.mem_cons.1 hf with rfl | hf
      · exact hg
      · exact firstOne_ok h f hf
    · rw [if_neg hg] at h; exact absurd h hg
theorem errPolys_ok {p n o v : Int} {fss : List (List Tm)} (h : errPolys p n o v fss = 0) : errR p n o v = 0 ∧ ∀ f ∈ fss, errOne p n o f = 0 := by
  unfold errPolys at h
  by_cases hr : errR p n o v = 0
  · rw [if_pos hr] at h; exact ⟨hr, firstOne_ok h⟩
  · rw [if_neg hr] at h; exact absurd h hr
theorem take_sameT {fs gs : List Tm} {k : Nat} (h : k < fs.length) (h2 : k < gs.length) (ht : fs.take k = gs.take k) (he : fs.getD k noT = gs.getD k noT) : fs.take (k + 1) = gs.take (k + 1) := by
  rw [List.take_succ_eq_append_getElem h, List.take_succ_eq_append_getElem h2, ht]
  simp [List.getD_eq_getElem?_getD, h, h2] at he
  rw [he]

set_option maxRecDepth 100000 in
set_option maxHeartbeats 1000000 in
theorem samePoly_any (x y : Value) (fs gs : List Tm) (w : World) (hm : fs.length ≤ 2400000000000) (hl : ∀ t ∈ fs, t.2.length ≤ 3) (pf : Pl w x fs) (pg : Pl w y gs) :
    Calls Tryz.prog 44 #[x, y] w fun e w' => e = .returned (.bool (decide (fs = gs))) ∧ Below w.heap.size w w' := by
  obtain ⟨fa, fc, rfl, _, hfc⟩ := pf
  obtain ⟨ga, gc, rfl, _, hgc⟩ := pg
  have HFC := hid hfc
  have HGC := hid hgc
  have HL := hid hl
  clear hfc hgc hl
  by_cases hne : fs.length = gs.length
  · have HNE := hid hne
    rw [← hne]
    clear hne
    go_enter Tryz.func44, Tryz.ntmps44
    go_wp2
    go_loopw [5] (fun i wr => ∃ k : Nat, k ≤ fs.length ∧ i = .int .i64 k ∧ fs.take k = gs.take k ∧ Below w.heap.size w wr) (fun i _ => fs.length - (intOf i).toNat)
    case atStart => exact ⟨0, Nat.zero_le _, rfl, rfl, Below.refl _ _⟩
    case round =>
      obtain ⟨k, hk, rfl, htk, hbr⟩ := hrel
      have HTK := hid htk
      have HBR := hid hbr
      clear htk hbr
      by_cases hk2 : k < fs.length
      · have hk3 : k < gs.length := by rw [← HNE.out]; exact hk2
        obtain ⟨b, off, rfl, hlt, hat⟩ := HFC.out (by omega)
        obtain ⟨b2, off2, rfl, hlt2, hat2⟩ := HGC.out (by omega)
        obtain ⟨c0, ev, c1, hse⟩ := hat k hk2
        obtain ⟨d0, ev2, d1, hse2⟩ := hat2 k hk3
        have HTS := hid (fun h => take_sameT hk2 hk3 HTK.out h)
        have HNS : Hid (fs.getD k noT ≠ gs.getD k noT → fs ≠ gs) := fun h e => h (by rw [e])
        have HL3 := hid (HL.out _ (getD_memT fs k hk2))
        generalize fs.getD k noT = t at c0 hse HTS HNS HL3
        generalize gs.getD k noT = u at d0 hse2 HTS HNS
        obtain ⟨tc, te⟩ := t
        obtain ⟨uc, ue⟩ := u
        have HSE := hid (hse.below HBR.out)
        have HSE2 := hid (hse2.below HBR.out)
        obtain ⟨ea, ec, rfl, _⟩ := hse
        obtain ⟨ea2, ec2, rfl, _⟩ := hse2
        simp only at c0 c1 d0 d1
        have k0 := cell_keep c0 HBR.out
        have k1 := cell_keep c1 HBR.out
        have m0 := cell_keep d0 HBR.out
        have m1 := cell_keep d1 HBR.out
        have hkI : (k : Int) < (gs.length : Int) := by omega
        clear hat hat2 c0 c1 d0 d1
        cases hc : (tc != uc)
        · have KEEP : Hid (∀ W, Below wr.heap.size wr W → (Hid (Below wr.heap.size wr W) ∧ W.cell? ⟨b, off + k * 2, none⟩ = some (.int .i64 tc) ∧ W.cell? ⟨b, off + k * 2 + 1, none⟩ = some (.slice ea te.length ec) ∧ W.cell? ⟨b2, off2 + k * 2, none⟩ = some (.int .i64 uc) ∧ W.cell? ⟨b2, off2 + k * 2 + 1, none⟩ = some (.slice ea2 ue.length ec2))) :=
            fun W hb => ⟨hb, cell_keep k0 hb, cell_keep k1 hb, cell_keep m0 hb, cell_keep m1 hb⟩
          have HE1 : Hid (tc = uc) := hid (by simpa using hc)
          go_wp2_with fail
          go_region_held (fun W => Hid (Below wr.heap.size wr W) ∧ W.cell? ⟨b, off + k * 2, none⟩ = some (.int .i64 tc) ∧ W.cell? ⟨b, off + k * 2 + 1, none⟩ = some (.slice ea te.length ec) ∧ W.cell? ⟨b2, off2 + k * 2, none⟩ = some (.int .i64 uc) ∧ W.cell? ⟨b2, off2 + k * 2 + 1, none⟩ = some (.slice ea2 ue.length ec2))
            (first | exact KEEP.out _ (Below.refl _ _).drew | exact KEEP.out _ (below_step (by assumption) hb9 (Nat.le_refl _)))
            (first | (go_at_call 76; refine (sameInts_any _ _ te ue _ HL3.out ?_ ?_).mono ?_; exact HSE.out.below (Below.refl _ _).drew; exact HSE2.out.below (Below.refl _ _).drew; rintro e w9 ⟨rfl, hd9⟩; have hb9 := below_ndraws (Below.refl wr.drew.heap.size wr.drew) hd9))
          have hb19 : Below wr.heap.size wr w9 := Hid.out (And.left (by assumption))
          have HB9 := hid (HBR.out.trans (hb19.mono HBR.out.size))
          clear hb9 hd9 hb19 KEEP
          cases hsm : sameB te ue
          · go_wp2_with fail
            go_ret
            refine ⟨ret_bool ?_, HB9.out⟩
            have h1 : te ≠ ue := by simpa [sameB] using hsm
            exact (decide_eq_false (HNS.out (fun e => h1 (by injection e)))).symm
          · have HEQ : Hid ((tc, te) = (uc, ue)) := by
              have h1 : te = ue := by simpa [sameB] using hsm
              show _ = _
              rw [HE1.out, h1]
            go_wp2_with fail
            go_roundw
            case rel => exact ⟨k + 1, by omega, by go_num, HTS.out HEQ.out, HB9.out⟩
            case measure => simp [intOf]; omega
        · have e1 : tc ≠ uc := by simpa using hc
          go_wp2_with fail
          go_quiet (fail)
          go_wp2_with fail
          go_ret
          exact ⟨ret_bool (decide_eq_false (HNS.out (fun e => e1 (by injection e)))).symm, below_drewN HBR.out _⟩
      · go_wp2
        go_ret
        refine ⟨ret_bool (decide_eq_true ?_).symm, HBR.out⟩
        have h := HTK.out
        rw [List.take_of_length_le (by omega), List.take_of_length_le (by rw [← HNE.out]; omega)] at h
        exact h
  · have hne2 : ((fs.length : Int) != (gs.length : Int)) = true := by simpa using (fun e : (fs.length : Int) = gs.length => hne (by omega))
    have HD : Hid (decide (fs = gs) = false) := decide_eq_false (fun e => hne (by rw [e]))
    rw [HD.out]
    clear hne
    go_enter Tryz.func44, Tryz.ntmps44
    go_wp2
    go_ret
    exact ⟨rfl, Below.refl _ _⟩

def topF (m : Int) : List Tm → Int
  | [] => m
  | t :: ts => topF (if m < sumI t.2 then sumI t.2 else m) ts
def greatB (fs : List Tm) : Bool := decide (200 < topF (-1) fs) || decide (2000 < fs.length)
end Go.Proofs.YtilogbggilchaaaGreat
namespace Go.Proofs.YtilogbggilchaaaGreat
set_option linter.unusedSimpArgs false
set_option linter.unusedVariables false
theorem fold_mem {p o : Int} : ∀ (l out : List Tm) (x : Tm), x ∈ l.foldl (ins p o) out → (∃ y ∈ l, x.2 = y.2) ∨ ∃ u ∈ out, x.2 = u.2
  | [], out, x, h => Or.inr ⟨x, h, rfl⟩
  | t :: l, out, x, h => by
    rcases fold_mem l (ins p o out t) x h with ⟨y, hy, e⟩ | ⟨u, hu, e⟩
    · exact Or.inl ⟨y, by simp [hy], e⟩
    · rcases ins_mem hu with e2 | ⟨y, hy, e2⟩
      · exact Or.inl ⟨t, by simp, by rw [e, e2]⟩
      · exact Or.inr ⟨y, hy, by rw [e, e2]⟩
theorem col_mem {p o : Int} {l : List Tm} {x : Tm} (h : x ∈ colL p o l) : ∃ y ∈ l, x.2 = y.2 := by
  rcases fold_mem l [] x (List.mem_filter.1 h).1 with h | ⟨u, hu, _⟩
  · exact h
  · simp at hu
theorem ordS_sum {o : Int} {xs ys : List Int} (h : 0 < ordS o xs ys) : sumI ys ≤ sumI xs := by
  have h2 := cmpI_vals (sumI xs) (sumI ys)
  unfold ordS at h
  by_cases hz : cmpI (sumI xs) (sumI ys) = 0
  · omega
  · rw [if_neg hz] at h; omega
theorem topF_ge : ∀ (ts : List Tm) (m : Int), m ≤ topF m ts ∧ ∀ x ∈ ts, sumI x.2 ≤ topF m ts
  | [], m => ⟨Int.le_refl _, fun x hx => by simp at hx⟩
  | t :: ts, m => by
    have h := topF_ge ts (if m < sumI t.2 then sumI t.2 else m)
    simp only [topF]
    have hm : m ≤ (if m < sumI t.2 then sumI t.2 else m) ∧ sumI t.2 ≤ (if m < sumI t.2 then sumI t.2 else m) := by split <;> omega
    refine ⟨Int.le_trans hm.1 h.1, fun x hx => ?_⟩
    rcases List.mem_cons.1 hx with rfl | hx
    · exact Int.le_trans hm.2 h.1
    · exact h.2 x hx
theorem topF_le {B : Int} : ∀ (ts : List Tm) (m : Int), (∀ x ∈ ts, sumI x.2 ≤ B) → m ≤ B → topF m ts ≤ B
  | [], m, _, hm => hm
  | t :: ts, m, h, hm => by
    simp only [topF]
    refine topF_le ts _ (fun x hx => h x (by simp [hx])) ?_
    have := h t (by simp)
    split <;> omega
theorem great_small {ts : List Tm} (h : ∀ x ∈ ts, sumI x.2 ≤ 200) : greatB ts = decide (2000 < ts.length) := by
  unfold greatB
  have := topF_le ts (-1) h (by omega)
  rw [decide_eq_false (by omega), Bool.false_or]
theorem great_large {ts : List Tm} {x : Tm} (hx : x ∈ ts) (h : 200 < sumI x.2) : greatB ts = true := by
  unfold greatB
  have := (topF_ge ts (-1)).2 x hx
  rw [decide_eq_true (by omega), Bool.true_or]
theorem right_head {p o : Int} {N : Nat} {t : Tm} {ts : List Tm} (h : Canon p o N (t :: ts)) : ∀ x ∈ t :: ts, sumI x.2 ≤ sumI t.2 := by
  intro x hx
  rcases List.mem_cons.1 hx with rfl | hx
  · exact Int.le_refl _
  · exact ordS_sum (h.falls.1 x hx)
theorem prod_deg {p o : Int} {N : Nat} {t u : Tm} {f g : List Tm} (hf : Canon p o N (t :: f)) (hg : Canon p o N (u :: g)) : ∀ x ∈ colL p o (prodL p (t :: f) (u :: g)), sumI x.2 ≤ sumI t.2 + sumI u.2 := by
  intro x hx
  obtain ⟨y, hy, e⟩ := col_mem hx
  simp only [Go.Proofs.YtilogbggilchaaaGreat.prodL, prodT, List.mem_flatMap, List.mem_map] at hy
  obtain ⟨a, ha, b, hb, rfl⟩ := hy
  rw [e]
  simp only
  rw [sumI_zip _ _ (by rw [hf.len a ha, hg.len b hb])]
  have h1 := right_head hf a ha
  have h2 := right_head hg b hb
  omega
theorem prod_lead {p o : Int} {N : Nat} (he : errP p = 0) {t u : Tm} {f g : List Tm} (hf : Canon p o N (t :: f)) (hg : Canon p o N (u :: g)) : ∃ x ∈ colL p o (prodL p (t :: f) (u :: g)), x.2 = zipI (· + ·) t.2 u.2 := by
  apply Classical.byContradiction
  intro hno
  have hz : lin (delta (zipI (· + ·) t.2 u.2)) (colL p o (prodL p (t :: f) (u :: g))) = 0 := lin_delta_none (fun x hx e => hno ⟨x, hx, e⟩)
  have hl := lin_col p o (delta (zipI (· + ·) t.2 u.2)) (prodL p (t :: f) (u :: g))
  rw [hz] at hl
  have lt := hf.len t (by simp)
  have lu := hg.len u (by simp)
  have e0 : prodL p (t :: f) (u :: g) = (t.1 * u.1 % p, zipI (· + ·) t.2 u.2) :: (prodT p t g ++ prodL p f (u :: g)) := rfl
  have hne : ∀ x ∈ prodT p t g ++ prodL p f (u :: g), x.2 ≠ zipI (· + ·) t.2 u.2 := by
    intro x hx e
    have pos : 0 < ordS o (zipI (· + ·) t.2 u.2) x.2 := by
      rcases List.mem_append.1 hx with hx | hx
      · simp only [prodT, List.mem_map] at hx
        obtain ⟨b, hb, rfl⟩ := hx
        have lb := hg.len b (by simp [hb])
        simp only
        rw [zip_comm t.2 u.2, zip_comm t.2 b.2, ordS_add o u.2 b.2 t.2 (by omega) (by omega)]
        exact hg.falls.1 b hb
      · simp only [Go.Proofs.YtilogbggilchaaaGreat.prodL, prodT, List.mem_flatMap, List.mem_map] at hx
        obtain ⟨a, ha, b, hb, rfl⟩ := hx
        have la := hf.len a (by simp [ha])
        have lb := hg.len b hb
        simp only
        have h1 : 0 < ordS o (zipI (· + ·) t.2 u.2) (zipI (· + ·) a.2 u.2) := by
          rw [ordS_add o t.2 a.2 u.2 (by omega) (by omega)]; exact hf.falls.1 a ha
        rcases List.mem_cons.1 hb with rfl | hb
        · exact h1
        · have h2 : 0 < ordS o (zipI (· + ·) a.2 u.2) (zipI (· + ·) a.2 b.2) := by
            rw [zip_comm a.2 u.2, zip_comm a.2 b.2, ordS_add o u.2 b.2 a.2 (by omega) (by omega)]; exact hg.falls.1 b hb
          exact ordS_trans o _ _ _ (by rw [zipI_len _ _ _ (by omega), zipI_len _ _ _ (by omega)]; omega) (by rw [zipI_len _ _ _ (by omega), zipI_len _ _ _ (by omega)]) h1 h2
    rw [e] at pos
    have := (ordS_zero o (zipI (· + ·) t.2 u.2) (zipI (· + ·) t.2 u.2) rfl).2 rfl
    omega
  rw [e0] at hl
  simp only [lin] at hl
  rw [lin_delta_none hne] at hl
  have h1 := prime_mulI he (hf.coef t (by simp)).1 (hf.coef t (by simp)).2 (hg.coef u (by simp)).1 (hg.coef u (by simp)).2
  have h2 : delta (zipI (· + ·) t.2 u.2) (zipI (· + ·) t.2 u.2) = 1 := by unfold delta; rw [if_pos rfl]
  rw [h2] at hl
  have h3 := dvd_neg hl
  have := Int.le_of_dvd (by omega) h3
  omega
theorem great_prod {p o : Int} {N : Nat} (he : errP p = 0) {t u : Tm} {f g : List Tm} (hf : Canon p o N (t :: f)) (hg : Canon p o N (u :: g)) :
    greatB (colL p o (prodL p (t :: f) (u :: g))) = (decide (200 < sumI t.2 + sumI u.2) || decide (2000 < (colL p o (prodL p (t :: f) (u :: g))).length)) := by
  by_cases h : 200 < sumI t.2 + sumI u.2
  · obtain ⟨x, hx, e⟩ := prod_lead he hf hg
    rw [great_large hx (by rw [e, sumI_zip _ _ (by rw [hf.len t (by simp), hg.len u (by simp)])]; exact h), decide_eq_true h, Bool.true_or]
  · rw [great_small (fun x hx => by have := prod_deg hf hg x hx; omega), decide_eq_false h, Bool.false_or]
theorem great_none {p o : Int} {f g : List Tm} (h : f = [] ∨ g = []) : colL p o (prodL p f g) = [] := by
  rcases h with rfl | rfl
  · rfl
  · have : prodL p f [] = [] := by
      unfold Go.Proofs.YtilogbggilchaaaGreat.prodL
      induction f with
      | nil => rfl
      | cons t f ih => simp [prodT]
    rw [this]; rfl
theorem sum_deg {p o : Int} {N : Nat} {f g : List Tm} (hf : Right p o N f) (hg : Right p o N g) : ∀ x ∈ colL p o (f ++ g), sumI x.2 ≤ 200 := by
  intro x hx
  obtain ⟨y, hy, e⟩ := col_mem hx
  rw [e]
  exact (List.mem_append.1 hy).elim (hf.deg y) (hg.deg y)
end Go.Proofs.YtilogbggilchaaaGreat
