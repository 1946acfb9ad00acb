/- scale, by a term. -/
import Derived.Test.YtilogbggilchaaaDoorPG
import Derived.Test.YtilogbggilchaaaDoorH
namespace Go.Proofs.YtilogbggilchaaaDoor
set_option linter.unusedSimpArgs false
set_option linter.unusedVariables false
open Go.RowKit
theorem prodT_take (p : Int) (b : Tm) (us : List TV) (k : Nat) (h : k < us.length) : prodT p b ((us.take (k + 1)).map tm) = prodT p b ((us.take k).map tm) ++ [(b.1 * (us.getD k noTV).1 % p, zipI (· + ·) b.2 (us.getD k noTV).2.2)] := by
  rw [take_tm us k h]; simp [prodT, tm]
theorem Half.down {w w2 wr : World} {g n : Nat} {us : List TV} (h : Half w2 wr g n us) (hb : Below w.heap.size w w2) : Below w.heap.size w wr := hb.trans (h.below.mono hb.size)
theorem mulBd {a b : Int} (h : 0 ≤ a ∧ a ≤ 101 ∧ 0 ≤ b ∧ b ≤ 101) : 0 ≤ a * b ∧ a * b ≤ 10201 := by
  obtain ⟨h1, h2, h3, h4⟩ := h
  refine ⟨Int.mul_nonneg h1 h3, ?_⟩
  have := Int.mul_le_mul h2 h4 h3 (by omega : (0 : Int) ≤ 101)
  omega

theorem scaleStart {w w1 : World} {p n o v bc : Int} {bv : Value} {T1 T2 : TypeId} {m : Nat} {z : Array Value}
    (h : w1.ownsRow (w.heap.size + 1 + 1) 55 2 (.slice (some ⟨((w.alloc (.cells #[.int .i64 p, .int .i64 n, .int .i64 o, .int .i64 v] T1)).alloc (.cells #[.int .i64 bc, bv] T2)).heap.size, 0, none⟩) m m) m (madeCells z (m * 2)).toList)
    (hg : ((w.alloc (.cells #[.int .i64 p, .int .i64 n, .int .i64 o, .int .i64 v] T1)).alloc (.cells #[.int .i64 bc, bv] T2)).grownBy w1 none) :
    ∃ w2, Below w.heap.size w w2 ∧ w2.heap.size = w.heap.size + 1 + 1 ∧ w2.cell? ⟨w.heap.size, 0, none⟩ = some (.int .i64 p) ∧ w2.cell? ⟨w.heap.size + 1, 0, none⟩ = some (.int .i64 bc) ∧ w2.cell? ⟨w.heap.size + 1, 1, none⟩ = some bv ∧ Half w2 w1 (w.heap.size + 1 + 1) m [] := by
  refine ⟨(w.alloc (.cells #[.int .i64 p, .int .i64 n, .int .i64 o, .int .i64 v] T1)).alloc (.cells #[.int .i64 bc, bv] T2), below_two, by simp, by simp [go_sem], by simp [go_sem], by simp [go_sem], ?_⟩
  have e : ((w.alloc (.cells #[.int .i64 p, .int .i64 n, .int .i64 o, .int .i64 v] T1)).alloc (.cells #[.int .i64 bc, bv] T2)).heap.size = w.heap.size + 1 + 1 := by simp
  have k := Half.made (w := (w.alloc (.cells #[.int .i64 p, .int .i64 n, .int .i64 o, .int .i64 v] T1)).alloc (.cells #[.int .i64 bc, bv] T2)) (n := m) (z := z) (by rw [e]; rw [e] at h; exact h) hg
  rw [e] at k
  exact k

set_option maxHeartbeats 2000000 in
theorem bareScale_any (p n o v bc : Int) (bv : Value) (be : List Int) (fv : Value) (ts : List Tm) (w : World) (hp : 2 ≤ p ∧ p ≤ 101) (hbc : 0 ≤ bc ∧ bc < p) (h0 : 0 < be.length) (hbl : be.length ≤ 3)
    (hbe : ∀ x ∈ be, 0 ≤ x ∧ x ≤ 200) (hts : ∀ t ∈ ts, t.2.length = be.length ∧ (∀ x ∈ t.2, 0 ≤ x ∧ x ≤ 200) ∧ 0 ≤ t.1 ∧ t.1 < p) (hm : ts.length ≤ 4000000) (hs : Sl w bv be) (hf : Pl w fv ts) :
    Calls Tryd.prog 59 #[ringV p n o v, .agg #[.int .i64 bc, bv], fv] w fun e w' => ∃ u, e = .returned u ∧ Pl w' u (prodT p (bc, be) ts) ∧ Below w.heap.size w w' := by
  obtain ⟨a, cap, us, rfl, _, hus, hes, hcs⟩ := hf.tvs
  obtain ⟨ba, bcap, rfl, hbs⟩ := hs
  obtain ⟨bb, boff, rfl, hblt, hbint⟩ := hbs h0
  have hul : us.length = ts.length := by rw [← hus, List.length_map]
  have HUS := hid hus
  have HES := hid hes
  have HCS := hid hcs
  have HBE := hid hbe
  have HBI := hid hbint
  have HTS : Hid (∀ t ∈ us, t.2.2.length = be.length ∧ (∀ x ∈ t.2.2, 0 ≤ x ∧ x ≤ 200) ∧ 0 ≤ t.1 ∧ t.1 < p) := fun t ht => hts (tm t) (by rw [← hus]; exact List.mem_map_of_mem ht)
  have hm' : us.length ≤ 4000000 := by omega
  clear hf hus hes hcs hts hm hul hbs hbe hbint
  obtain ⟨i0, hi, hz0, hz1, hz2⟩ := info_parts Tryd.infoTerm
  obtain ⟨hp1, hp2⟩ := hp
  obtain ⟨hc1, hc2⟩ := hbc
  go_enter Tryd.func59, Tryd.ntmps59
  go_wp2_with (at_make; refine wpList_make_full _ rfl _ _ 25 rfl (w.heap.size + 1 + 1) 55 i0 _ 2 Tryd.underlying25 hi hz0 hz1 .i64 .i64 _ _ us.length rfl rfl rfl rfl (by rw [hz2]; omega) (by unfold maxLen; omega) (by simp) ?_; intro w1 hown hgrow; have HX := hid (scaleStart hown hgrow); clear hown hgrow)
  clear hi hz0 hz1 hz2
  obtain ⟨w2, hb2, hsz, kp, kc, kv, hh⟩ := HX.out
  have HB2 := hid hb2
  have HK := hid (And.intro hsz (And.intro kp (And.intro kc kv)))
  have HH0 := hid hh
  clear HX hb2 hsz kp kc kv hh
  go_loopw [17] (fun i wr => ∃ k : Nat, k ≤ us.length ∧ i = .int .i64 k ∧ ∃ vs : List TV, vs.length = k ∧ vs.map tm = prodT p (bc, be) ((us.take k).map tm) ∧ Half w2 wr (w.heap.size + 1 + 1) us.length vs) (fun i _ => us.length - (intOf i).toNat)
  case atStart => exact ⟨0, Nat.zero_le _, rfl, [], rfl, rfl, HH0.out⟩
  case round =>
    clear HH0
    obtain ⟨wo, hwo⟩ : ∃ wo : World, wo = wr := ⟨_, rfl⟩
    subst hwo
    obtain ⟨k, hk, rfl, vs, hvk, hvt, hh⟩ := hrel
    have HH := hid hh
    clear hh
    by_cases hk2 : k < us.length
    · obtain ⟨b, off, rfl, hlt, hcell⟩ := HCS.out (by omega)
      have hf := flat_at us k hk2
      have c0 := hcell _ _ hf.1
      have c1 := hcell _ _ hf.2
      have HDN := hid (HH.out.down HB2.out)
      rw [← HDN.out.cell (p := ⟨b, off + k * 2, none⟩) hlt] at c0
      rw [← Nat.add_assoc, ← HDN.out.cell (p := ⟨b, off + k * 2 + 1, none⟩) hlt] at c1
      have HSL := hid (HES.out _ (tv_mem us k hk2))
      have HT := hid (prodT_take p (bc, be) us k hk2)
      have HLE := hid (HTS.out _ (tv_mem us k hk2))
      generalize us.getD k noTV = t at c0 c1 HSL HT HLE
      obtain ⟨tc, tv, te⟩ := t
      obtain ⟨ea, ec, he, hei⟩ := HSL.out
      simp only at c0 c1 he
      subst he
      subst hvk
      have hte : te.length ≤ 3 := by have := HLE.out.1; simp only at this; omega
      have hte0 : 0 < te.length := by have := HLE.out.1; simp only at this; omega
      obtain ⟨eb, eoff, rfl, helt, heint⟩ := hei hte0
      have HEI := hid heint
      clear hf hcell hei heint
      obtain ⟨w3, hw3⟩ : ∃ w3, w3 = wo.alloc (.cells #[.int .i64 tc, .slice (some ⟨eb, eoff, none⟩) te.length ec] 55) := ⟨_, rfl⟩
      have hb3 : Below wo.heap.size wo w3 := by rw [hw3]; exact belowNew
      have hs3 : w3.heap.size = wo.heap.size + 1 := by rw [hw3]; simp
      have q0 : w3.cell? ⟨wo.heap.size, 0, none⟩ = some (.int .i64 tc) := by rw [hw3]; simp [go_sem]
      have q1 : w3.cell? ⟨wo.heap.size, 1, none⟩ = some (.slice (some ⟨eb, eoff, none⟩) te.length ec) := by rw [hw3]; simp [go_sem]
      have hwl : w.heap.size + 1 + 1 < wo.heap.size := HH.out.lt
      have H3 := hid (HH.out.next hb3)
      have HD3 := hid (HDN.out.trans (hb3.mono HDN.out.size))
      have HQ := hid (And.intro q0 q1)
      have HS3 := hid (And.intro hs3 hwl)
      have HB3 := hid hb3
      have HW3 := hid hw3
      clear q0 q1 hs3 hwl hb3 hw3
      have HLZ := hid (zipI_len (· + ·) be te HLE.out.1.symm)
      have hmk := fun (w : World) => run_make_row' (P := Tryd.prog) 36 3 (.int .i64 0) 8 Tryd.underlying36 Tryd.info_int rfl .i64 .i64 te.length (by omega) (by omega) w
      go_wp2
      clear hmk c0 c1
      go_loopw [28] (fun i wx => ∃ j : Nat, j ≤ te.length ∧ i = .int .i64 j ∧ OwnK w3 wx te.length j (zipI (· + ·) be te)) (fun i _ => te.length - (intOf i).toNat)
      case atStart => exact ⟨0, Nat.zero_le _, rfl, by rw [HW3.out]; exact OwnK.start _ _ _⟩
      case round =>
        obtain ⟨j, hj, rfl, hown⟩ := hrel
        have HO := hid hown
        clear hown
        by_cases hj2 : j < te.length
        · have hjb : j < be.length := by have := HLE.out.1; omega
          have HXD := hid (HD3.out.trans (HO.out.1.mono HD3.out.size))
          have x0 := HBI.out j hjb
          have x1 := HEI.out j hj2
          have HZ := hid (zipI_at (· + ·) be te HLE.out.1.symm j hjb)
          have hx := HBE.out _ (getD_mem be j hjb)
          have hy := HLE.out.2.1 _ (getD_mem te j hj2)
          generalize be.getD j 0 = x at x0 HZ hx
          generalize te.getD j 0 = y at x1 HZ hy
          rw [← HXD.out.cell (p := ⟨bb, boff + j, none⟩) hblt] at x0
          rw [← HXD.out.cell (p := ⟨eb, eoff + j, none⟩) helt] at x1
          have b1 := HK.out.2.2.2
          rw [← H3.out.below.cell (p := ⟨w.heap.size + 1, 1, none⟩) (by rw [HK.out.1]; simp), ← HO.out.1.cell (p := ⟨w.heap.size + 1, 1, none⟩) (by have := HS3.out; simp only; omega)] at b1
          have b2 := HQ.out.2
          rw [← HO.out.1.cell (p := ⟨wo.heap.size, 1, none⟩) (by have := HS3.out; simp only; omega)] at b2
          obtain ⟨hsome, hfr⟩ := HO.out.2.2.1 j hj2
          rw [HS3.out.1] at hsome hfr
          obtain ⟨u, hu⟩ := Option.isSome_iff_exists.1 hsome
          obtain ⟨hx1, hx2⟩ := hx
          obtain ⟨hy1, hy2⟩ := hy
          clear hsome
          go_wp2
          go_region
          all_goals
            go_wp2
            go_roundw
            case rel => exact ⟨j + 1, by omega, by go_num, by have h := (HO.out.step hj2 _ HZ.out.symm).drawn; rw [HS3.out.1] at h; exact h⟩
            case measure => simp [intOf]; omega
        · have e : j = te.length := by omega
          subst e
          have HXB := hid (HB3.out.trans (HO.out.1.mono HB3.out.size))
          have HHx := hid (HH.out.next HXB.out)
          have HSx : Hid (Sl wr (.slice (some ⟨wo.heap.size + 1, 0, none⟩) te.length te.length) (zipI (· + ·) be te)) := by
            have h : OwnK w3 wr (zipI (· + ·) be te).length (zipI (· + ·) be te).length (zipI (· + ·) be te) := by rw [HLZ.out, ← HLE.out.1]; exact HO.out
            have h2 := h.sl
            rw [HS3.out.1, HLZ.out, ← HLE.out.1] at h2
            exact h2
          have b0 := HK.out.2.2.1
          rw [← H3.out.below.cell (p := ⟨w.heap.size + 1, 0, none⟩) (by rw [HK.out.1]; simp), ← HO.out.1.cell (p := ⟨w.heap.size + 1, 0, none⟩) (by have := HS3.out; simp only; omega)] at b0
          have r0 := HK.out.2.1
          rw [← H3.out.below.cell (p := ⟨w.heap.size, 0, none⟩) (by rw [HK.out.1]; simp; omega), ← HO.out.1.cell (p := ⟨w.heap.size, 0, none⟩) (by have := HS3.out; simp only; omega)] at r0
          have t0 := HQ.out.1
          rw [← HO.out.1.cell (p := ⟨wo.heap.size, 0, none⟩) (by have := HS3.out; simp only; omega)] at t0
          obtain ⟨x0, x1, y0, y1, z0, z1⟩ := HHx.out.cells hk2
          have hmul := mulBd (a := bc) (b := tc) ⟨by omega, by omega, HLE.out.2.2.1, by have := HLE.out.2.2.2; omega⟩
          obtain ⟨hm1, hm2⟩ := hmul
          have HAP : Hid (Apart (w.heap.size + 1 + 1) (.slice (some ⟨wo.heap.size + 1, 0, none⟩) te.length te.length)) := by
            intro b' off' n' c' e' hb'
            simp only [Value.slice.injEq, Option.some.injEq, Addr.mk.injEq] at e'
            have := HS3.out.2
            omega
          go_wp2
          go_roundw
          case rel => exact ⟨vs.length + 1, by omega, by go_num, vs ++ [_], by simp, by rw [List.map_append, hvt, HT.out]; rfl, HHx.out.put hk2 (bc * tc % p, _, zipI (· + ·) be te) HSx.out HAP.out⟩
          case measure => simp [intOf]; omega
    · have e : k = us.length := by omega
      subst e
      go_wp2
      go_ret
      refine ⟨_, rfl, ?_, HH.out.down HB2.out⟩
      have h := HH.out.done hvk
      rw [hvt, List.take_of_length_le (Nat.le_refl _), HUS.out] at h
      exact h
end Go.Proofs.YtilogbggilchaaaDoor
