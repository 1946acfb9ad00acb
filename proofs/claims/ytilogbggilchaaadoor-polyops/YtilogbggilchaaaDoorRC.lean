/- Sum of the reference. -/
import Derived.Test.YtilogbggilchaaaDoorRB
import Derived.Deep.RegionHeldLaw
import Derived.Maps.AppendAt
namespace Go.Proofs.YtilogbggilchaaaDoor
set_option linter.unusedSimpArgs false
set_option linter.unusedVariables false
open Go.RowKit
theorem append_types {P : Program} {w : World} {t u ty e : TypeId} {i : TypeInfo} {v x : Value} (ht : P.underlying t = some (.slice e)) (hu : P.underlying u = some (.slice e)) (hi : P.info? e = some i) :
    (Builtin.append_ #[t, u] ty #[v, x]).run P w = (Builtin.append_ #[t, t] ty #[v, x]).run P w := by
  cases v <;> simp [Builtin.append_, run_underlying ht, run_underlying hu, sizeOf, typeInfo, hi]
theorem run_append_tvsA {P : Program} (w : World) (base : Nat) (t t2 ty e : TypeId) (i : TypeInfo) (z : Value) (ht : P.underlying t = some (.slice e)) (ht2 : P.underlying t2 = some (.slice e)) (hi : P.info? e = some i) (hz : i.zero = some z) (hsize : i.size = 2) (hby : i.bytes = 32) (hzs : z.cells.size = 2)
    (v : Value) (n : Nat) (xs : List Value) (hown : w.ownsRow base e 2 v n xs) (us : List TV) (m : Nat) (hm : us.length = m) (ua : Option Addr) (uc : Nat)
    (hcs : 0 < m → ∃ b off, ua = some ⟨b, off, none⟩ ∧ ∀ j u, (flat us)[j]? = some u → w.cell? ⟨b, off + j, none⟩ = some u) (hone : ∀ u ∈ flat us, u.oneCell' = true) (hb : n + m ≤ 8000000) (hbase : base ≤ w.heap.size) :
    ∃ v' w', (Builtin.append_ #[t, t2] ty #[v, .slice ua m uc]).run P w = .ok v' w' ∧ w'.ownsRow base e 2 v' (n + m) (xs ++ flat us) ∧ w.grownBy w' v.ownBlock ∧ (v'.ownBlock = v.ownBlock ∨ v'.ownBlock = some w.heap.size) := by
  rw [append_types ht ht2 hi]
  subst hm
  by_cases h0 : 0 < us.length
  · obtain ⟨b, off, rfl, hc⟩ := hcs h0
    obtain ⟨v', w', hr, h2, h3, _, h5⟩ := run_append_own_at (P := P) w base t ty e i z 2 32 ht hi hz hsize hby hzs (by decide) v n xs hown ⟨b, off, none⟩ us.length uc (flat us) (flat_len us) (fun j u hj => by
      have := hc j u hj
      by_cases hj0 : j = 0
      · subst hj0; simpa [Addr.add] using this
      · simpa [Addr.add, hj0] using this) hone (bytesOk hb).1 (bytesOk hb).2 hbase
    exact ⟨v', w', hr, h2, h3, h5⟩
  · have e0 : us = [] := List.length_eq_zero_iff.1 (by omega)
    subst e0
    cases ua with
    | none => exact ⟨v, w, run_append_none_c w base t ty e i 2 ht hi v n uc xs hown, by simpa [flat] using hown, grown_refl _ _, Or.inl rfl⟩
    | some ad =>
      obtain ⟨v', w', hr, h2, h3, _, h5⟩ := run_append_own_at (P := P) w base t ty e i z 2 32 ht hi hz hsize hby hzs (by decide) v n xs hown ad 0 uc [] (by simp) (fun j u hj => by simp at hj) (fun u hu => by simp at hu) (bytesOk hb).1 (bytesOk hb).2 hbase
      exact ⟨v', w', hr, h2, h3, h5⟩
theorem step_append_tvsA {P : Program} {ops : Array Oper} {o : Oper} {a : Act} {w : World} {K : Act → World → Prop} {Q : Exit → Act → World → Prop} {E : Prop} (hgd : o.guard = none) (s x : Operand) (t t2 : TypeId)
    (ho : o.op = .call { callee := .builtin .append, args := #[s, x], argTypes := #[t, t2] })
    (base : Nat) (e : TypeId) (i : TypeInfo) (z : Value) (ht : P.underlying t = some (.slice e)) (ht2 : P.underlying t2 = some (.slice e)) (hi : P.info? e = some i) (hz : i.zero = some z) (hsize : i.size = 2) (hby : i.bytes = 32) (hzs : z.cells.size = 2)
    (v : Value) (n : Nat) (xs : List Value) (hs : a.eval s = v) (hown : w.ownsRow base e 2 v n xs) (us : List TV) (m : Nat) (hm : us.length = m) (ua : Option Addr) (uc : Nat) (hx : a.eval x = .slice ua m uc)
    (hcs : 0 < m → ∃ b off, ua = some ⟨b, off, none⟩ ∧ ∀ j u, (flat us)[j]? = some u → w.cell? ⟨b, off + j, none⟩ = some u) (hone : ∀ u ∈ flat us, u.oneCell' = true) (hb : n + m ≤ 8000000) (hbase : base ≤ w.heap.size)
    (hK : ∀ v' w', w'.ownsRow base e 2 v' (n + m) (xs ++ flat us) → w.grownBy w' v.ownBlock → (v'.ownBlock = v.ownBlock ∨ v'.ownBlock = some w.heap.size) → K (a.put o.dst v') w') :
    if Region.wanted o (yielded ops a.tmps) = true then Oper.wp P o a w K Q else E := by
  have hw : Region.wanted o (yielded ops a.tmps) = true := by simp [Region.wanted, hgd]
  rw [if_pos hw]
  obtain ⟨v', w', hr, h2, h3, h4⟩ := run_append_tvsA (P := P) w base t t2 o.type e i z ht ht2 hi hz hsize hby hzs v n xs hown us m hm ua uc hcs hone hb hbase
  unfold Oper.wp execOp
  simp only [ho, resolve, invoke, builtin, Sem.run_bind, Sem.run_pure, Result.andThen_ok, List.map_toArray, List.map_cons, List.map_nil, hs, hx, hr]
  exact hK v' w' h2 h3 h4

set_option maxRecDepth 100000 in
set_option maxHeartbeats 1000000 in
theorem refSum_any (p n o v : Int) (N : Nat) (fv gv : Value) (fs gs : List Tm) (w : World) (hp : 2 ≤ p ∧ p ≤ 101) (ho : o = 1 ∨ o = 2) (hN0 : 0 < N) (hN : N ≤ 3) (tf : ∀ t ∈ fs, Tok p N t) (tg : ∀ t ∈ gs, Tok p N t) (hm : fs.length + gs.length ≤ 4000000)
    (pf : Pl w fv fs) (pg : Pl w gv gs) :
    Calls Tryd.prog 9 #[ringV p n o v, fv, gv] w fun e w' => ∃ u, e = .returned u ∧ Pl w' u (colL p o (fs ++ gs)) ∧ Below w.heap.size w w' := by
  obtain ⟨fa, fc, us, rfl, _, hus, hue, hucs⟩ := pf.tvs
  obtain ⟨ga, gc, vs, rfl, _, hvs, hve, hvcs⟩ := pg.tvs
  have hul : us.length = fs.length := by rw [← hus, List.length_map]
  have hvl : vs.length = gs.length := by rw [← hvs, List.length_map]
  have hm' : us.length + vs.length ≤ 4000000 := by omega
  have HT : Hid ((us ++ vs).map tm = fs ++ gs ∧ ∀ t ∈ fs ++ gs, Tok p N t) := ⟨by rw [List.map_append, hus, hvs], fun t ht => (List.mem_append.1 ht).elim (tf t) (tg t)⟩
  have HES := hid (And.intro hue hve)
  obtain ⟨i0, hi, hz0, hz1, hz2⟩ := info_parts Tryd.infoTerm
  have HI := hid (And.intro hi (And.intro hz0 (And.intro hz1 hz2)))
  obtain ⟨w1, hw1⟩ : ∃ w1, w1 = w.alloc (.cells #[.int .i64 p, .int .i64 n, .int .i64 o, .int .i64 v] 23) := ⟨_, rfl⟩
  have hbx : BoxAt w1 w.heap.size p n o v := by rw [hw1]; exact BoxAt.new w p n o v _
  have hbw : Below w.heap.size w w1 := by rw [hw1]; exact below_oneG
  have HBW := hid hbw
  obtain ⟨_, bx0, bx1, bx2, bx3⟩ := hbx
  have CU : Hid (∀ W, Below w1.heap.size w1 W → 0 < us.length → ∃ b off, fa = some ⟨b, off, none⟩ ∧ ∀ i u, (flat us)[i]? = some u → W.cell? ⟨b, off + i, none⟩ = some u) := fun W hb h => by
    obtain ⟨b, off, e, hlt, hc⟩ := hucs h
    exact ⟨b, off, e, fun i u hi => cell_keep (cell_keep (hc i u hi) hbw) hb⟩
  have CV : Hid (∀ W, Below w1.heap.size w1 W → 0 < vs.length → ∃ b off, ga = some ⟨b, off, none⟩ ∧ ∀ i u, (flat vs)[i]? = some u → W.cell? ⟨b, off + i, none⟩ = some u) := fun W hb h => by
    obtain ⟨b, off, e, hlt, hc⟩ := hvcs h
    exact ⟨b, off, e, fun i u hi => cell_keep (cell_keep (hc i u hi) hbw) hb⟩
  have KEEP : Hid (∀ W, Below w1.heap.size w1 W → (Hid (Below w1.heap.size w1 W) ∧ W.cell? ⟨w.heap.size, 0, none⟩ = some (.int .i64 p) ∧ W.cell? ⟨w.heap.size, 1, none⟩ = some (.int .i64 n) ∧ W.cell? ⟨w.heap.size, 2, none⟩ = some (.int .i64 o) ∧ W.cell? ⟨w.heap.size, 3, none⟩ = some (.int .i64 v))) :=
    fun W hb => ⟨hb, cell_keep bx0 hb, cell_keep bx1 hb, cell_keep bx2 hb, cell_keep bx3 hb⟩
  have BA := hid (show Below w1.heap.size w1 (w1.drew.alloc (.cells #[] 55)) from (Below.refl w1.heap.size w1).drew.alloc (Nat.le_refl _) _)
  have OA : Hid ((w1.drew.alloc (.cells #[] 55)).ownsRow w1.heap.size 55 2 (.slice (some ⟨w1.heap.size, 0, none⟩) 0 0) 0 []) := World.ownsRow_made w1.drew #[] 0 (Nat.le_refl _) (by decide) (by simp)
  have HP := hid hp
  have HO := hid ho
  clear pf pg hus hvs hue hve hucs hvcs tf tg hul hvl hi hz0 hz1 hz2 bx0 bx1 bx2 bx3 hbw hp ho hm
  go_enter Tryd.func9, Tryd.ntmps9
  go_wp2_with fail
  rw [← hw1]
  clear hw1
  go_region_held_law (fun W => Hid (Below w1.heap.size w1 W) ∧ W.cell? ⟨w.heap.size, 0, none⟩ = some (.int .i64 p) ∧ W.cell? ⟨w.heap.size, 1, none⟩ = some (.int .i64 n) ∧ W.cell? ⟨w.heap.size, 2, none⟩ = some (.int .i64 o) ∧ W.cell? ⟨w.heap.size, 3, none⟩ = some (.int .i64 v))
    (first | exact KEEP.out _ (Below.refl _ _).drew | exact KEEP.out _ HB9.out | exact KEEP.out _ HB6.out | exact KEEP.out _ HB5.out | exact KEEP.out _ BA.out)
    (first
      | (refine step_append_tvsA rfl (.tmp 8) (.tmp 9) 24 25 rfl w1.heap.size 55 i0 _ Tryd.underlying24 Tryd.underlying25 HI.out.1 HI.out.2.1 HI.out.2.2.1 HI.out.2.2.2 rfl (.slice (some ⟨w1.heap.size, 0, none⟩) 0 0) 0 [] (by simp [Act.eval, Act.put]) OA.out us us.length rfl fa fc (by simp [Act.eval, Act.put]) (CU.out _ BA.out) (flat_one HES.out.1) (by omega) BA.out.size ?_; intro v5 w5 r1 r2 _; rw [Nat.zero_add, List.nil_append] at r1; have OWN5 := hid r1; have HB5 := hid (show Below w1.heap.size w1 w5 from own_grown OA.out BA.out r2 (Nat.le_refl _)); obtain ⟨va5, vc5, hv5⟩ := own_sl' r1; subst hv5; clear r1 r2)
      | (refine step_append_tvsA rfl (.tmp 10) (.tmp 11) 24 25 rfl w1.heap.size 55 i0 _ Tryd.underlying24 Tryd.underlying25 HI.out.1 HI.out.2.1 HI.out.2.2.1 HI.out.2.2.2 rfl (.slice va5 us.length vc5) us.length (flat us) (by simp [Act.eval, Act.put]) OWN5.out vs vs.length rfl ga gc (by simp [Act.eval, Act.put]) (CV.out _ HB5.out) (flat_one HES.out.2) (by omega) HB5.out.size ?_; intro v6 w6 r1 r2 _; have HB6 := hid (show Below w1.heap.size w1 w6 from own_grown OWN5.out HB5.out r2 (Nat.le_refl _)); have PL6 : Hid (Pl w6 v6 (fs ++ gs)) := (by rw [← HT.out.1]; exact own_pl (B := w1.heap.size) (by rw [flat_append, List.length_append]; exact r1) (fun t ht => ((List.mem_append.1 ht).elim (HES.out.1 t) (HES.out.2 t)).below (HBW.out.trans (HB6.out.mono HBW.out.size)))); obtain ⟨va6, vc6, hv6⟩ := own_sl' r1; subst hv6; clear r1 r2)
      | (go_at_call 18; refine (collect_any p n o v N _ (fs ++ gs) _ HP.out HO.out hN0 hN HT.out.2 ?_ PL6.out).mono ?_; (rw [← HT.out.1, List.length_map, List.length_append]; exact hm'); rintro e w9 ⟨u9, rfl, hu9, hb9⟩; have HB9 := hid (show Below w1.heap.size w1 w9 from HB6.out.trans (hb9.mono HB6.out.size)); have HU9 := hid hu9; obtain ⟨ua9, uc9, rfl, _, _⟩ := hu9; clear hb9))
  go_wp2
  go_ret
  exact ⟨_, rfl, HU9.out, HBW.out.trans (HB9.out.mono HBW.out.size)⟩
end Go.Proofs.YtilogbggilchaaaDoor
