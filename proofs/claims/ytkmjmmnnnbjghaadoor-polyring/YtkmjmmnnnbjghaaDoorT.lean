/- Put of the reference. -/
import Derived.Test.YtkmjmmnnnbjghaaDoorQ
namespace Go.Proofs.YtkmjmmnnnbjghaaDoor
set_option linter.unusedSimpArgs false
set_option linter.unusedVariables false
open Go.RowKit

theorem ownsRow_sl {w : World} {B : Nat} {v : Value} {zs : List Int} {T : TypeId} (h : w.ownsRow B T 1 v zs.length (zs.map (Value.int .i64))) : Sl w v zs := by
  obtain ⟨_, h | ⟨g, cap, cur, rfl, hg, hh, hn, hm, hcs, ht⟩⟩ := h
  · obtain ⟨rfl, h0⟩ := h
    refine ⟨none, 0, by rw [h0], fun hp => absurd hp (by omega)⟩
  · refine ⟨_, cap, rfl, fun _ => ⟨g, 0, rfl, ?_, fun i hi => ?_⟩⟩
    · apply Nat.lt_of_not_le; intro hle; rw [Array.getElem?_eq_none hle] at hh; simp at hh
    · have e : cur.toList[i]? = some (.int .i64 (zs.getD i 0)) := by
        have h1 : (cur.toList.take (zs.length * 1))[i]? = (zs.map (Value.int .i64))[i]? := by rw [ht]
        rw [List.getElem?_take, if_pos (by omega), List.getElem?_map] at h1
        rw [h1, List.getD_eq_getElem?_getD, List.getElem?_eq_getElem hi]; rfl
      unfold World.cell?
      simp only [hh, Nat.zero_add]
      simpa using e

theorem take_map_snoc {zs : List Int} {k : Nat} (h : k < zs.length) {z : Int} (hz : zs.getD k 0 = z) : (zs.take (k + 1)).map (Value.int .i64) = (zs.take k).map (Value.int .i64) ++ [.int .i64 z] := by
  rw [List.take_succ_eq_append_getElem h, List.map_append]
  rw [List.getD_eq_getElem?_getD, List.getElem?_eq_getElem h] at hz
  simp at hz
  simp [hz]

theorem one_cell1 (z : Int) : ∀ u ∈ [Value.int .i64 z], u.oneCell' = true := by
  intro u hu; simp at hu; subst hu; rfl
/-- An append of one, on what is owned. -/
theorem put_step {w wr w1 : World} {v v' : Value} {zs : List Int} {k : Nat} {T : TypeId} {z : Int} {O : Obj} (hk : k < zs.length) (hz : zs.getD k 0 = z)
    (hb : Below w.heap.size w wr) (hown : wr.ownsRow w.heap.size T 1 v k ((zs.take k).map (Value.int .i64)))
    (hown' : w1.ownsRow w.heap.size T 1 v' (k + 1) ((zs.take k).map (Value.int .i64) ++ [.int .i64 z])) (hg : (wr.alloc O).grownBy w1 v.ownBlock) :
    w1.ownsRow w.heap.size T 1 v' (k + 1) ((zs.take (k + 1)).map (Value.int .i64)) ∧ Below w.heap.size w w1 := by
  refine ⟨by rw [take_map_snoc hk hz]; exact hown', ?_⟩
  refine (hb.alloc hb.size O).grown hg (Nat.le_trans hb.size (by simp)) (fun k' hk' => ?_)
  obtain ⟨_, h | ⟨g, cap, cur, rfl, hgb, _⟩⟩ := hown
  · obtain ⟨rfl, _⟩ := h; simp [Value.ownBlock] at hk'
  · simp [Value.ownBlock] at hk'; omega

set_option maxHeartbeats 1000000 in
theorem putTimes_any (xs ys : List Int) (b off cap b2 off2 cap2 : Nat) (w : World) (hm : xs.length ≤ 3) (hxy : xs.length = ys.length)
    (hbx : ∀ x ∈ xs, 0 ≤ x ∧ x ≤ 200) (hby : ∀ x ∈ ys, 0 ≤ x ∧ x ≤ 200) (hlt : b < w.heap.size) (hlt2 : b2 < w.heap.size) (hc : IntsAt w b off xs) (hc2 : IntsAt w b2 off2 ys) :
    Calls Tryd.prog 30 #[.slice (some ⟨b, off, none⟩) xs.length cap, .slice (some ⟨b2, off2, none⟩) ys.length cap2, .int .i64 1] w fun e w' =>
      ∃ u, e = .returned u ∧ Sl w' u (zipI (· + ·) xs ys) ∧ Below w.heap.size w w' := by
  have HC := hid hc
  have HC2 := hid hc2
  have HBX := hid hbx
  have HBY := hid hby
  have HLZ := hid (zipI_len (· + ·) xs ys hxy)
  rw [← hxy]
  have HXY := hid hxy
  clear hc hc2 hbx hby hxy
  obtain ⟨i0, hi, hz0, hz1, hz2⟩ := info_parts Tryd.info_int
  go_enter Tryd.func30, Tryd.ntmps30
  go_wp2
  go_loopw [7, 8] (fun v i wr => ∃ k : Nat, k ≤ xs.length ∧ i = .int .i64 k ∧ wr.ownsRow w.heap.size 3 1 v k (((zipI (· + ·) xs ys).take k).map (Value.int .i64)) ∧ Below w.heap.size w wr) (fun _ i _ => xs.length - (intOf i).toNat)
  case atStart => exact ⟨0, Nat.zero_le _, rfl, World.ownsRow_nil _ _ _ _, Below.refl _ _⟩
  case round =>
    obtain ⟨k, hk, rfl, hown, hbr⟩ := hrel
    have HOWN := hid hown
    have HBR := hid hbr
    by_cases hk2 : k < xs.length
    · have hcell := HC.out k hk2
      have hcell2 := HC2.out k (by rw [← HXY.out]; exact hk2)
      have HZ := hid (zipI_at (· + ·) xs ys HXY.out k hk2)
      have hx := HBX.out _ (getD_mem xs k hk2)
      have hy := HBY.out _ (getD_mem ys k (by rw [← HXY.out]; exact hk2))
      generalize xs.getD k 0 = x at hcell HZ hx
      generalize ys.getD k 0 = y at hcell2 HZ hy
      rw [← hbr.cell (p := ⟨b, off + k, none⟩) hlt] at hcell
      rw [← hbr.cell (p := ⟨b2, off2 + k, none⟩) hlt2] at hcell2
      have hsz := hbr.size
      obtain ⟨hx1, hx2⟩ := hx
      obtain ⟨hy1, hy2⟩ := hy
      clear hown hbr
      go_wp2_with (at_builtin; refine wpList_append_own _ rfl _ _ 36 rfl w.heap.size 3 i0 (.int .i64 0) 1 8 Tryd.underlying36 hi hz0 hz1 hz2 rfl (by decide) _ _ _ rfl (HOWN.out.alloc _) ⟨wr.heap.size, 0, none⟩ 1 1 [.int .i64 (x + y)] rfl rfl (cell_one_new _ _ _) (one_cell1 _) (by unfold maxLen; omega) (by omega) (by simp; omega) ?_)
      intro v' w1 hown' hgrow _
      rw [← List.map_take] at hown'
      have R := put_step (zs := zipI (· + ·) xs ys) (by rw [HLZ.out]; exact hk2) (HZ.out.trans rfl) HBR.out HOWN.out hown' hgrow
      have R2 := hid R
      clear hown' hgrow R
      go_wp2
      go_roundw
      case rel => exact ⟨k + 1, by omega, by go_num, R2.out.1, R2.out.2⟩
      case measure => simp [intOf]; omega
    · go_wp2
      go_ret
      have e1 : k = (zipI (· + ·) xs ys).length := by rw [HLZ.out]; omega
      subst e1
      have h2 := HOWN.out
      rw [List.take_of_length_le (Nat.le_refl _)] at h2
      exact ⟨_, rfl, ownsRow_sl h2, HBR.out⟩

set_option maxHeartbeats 1000000 in
theorem putOver_any (xs ys : List Int) (b off cap b2 off2 cap2 : Nat) (w : World) (hm : xs.length ≤ 3) (hxy : xs.length = ys.length)
    (hbx : ∀ x ∈ xs, 0 ≤ x ∧ x ≤ 200) (hby : ∀ x ∈ ys, 0 ≤ x ∧ x ≤ 200) (hlt : b < w.heap.size) (hlt2 : b2 < w.heap.size) (hc : IntsAt w b off xs) (hc2 : IntsAt w b2 off2 ys) :
    Calls Tryd.prog 30 #[.slice (some ⟨b, off, none⟩) xs.length cap, .slice (some ⟨b2, off2, none⟩) ys.length cap2, .int .i64 2] w fun e w' =>
      ∃ u, e = .returned u ∧ Sl w' u (zipI (· - ·) xs ys) ∧ Below w.heap.size w w' := by
  have HC := hid hc
  have HC2 := hid hc2
  have HBX := hid hbx
  have HBY := hid hby
  have HLZ := hid (zipI_len (· - ·) xs ys hxy)
  rw [← hxy]
  have HXY := hid hxy
  clear hc hc2 hbx hby hxy
  obtain ⟨i0, hi, hz0, hz1, hz2⟩ := info_parts Tryd.info_int
  go_enter Tryd.func30, Tryd.ntmps30
  go_wp2
  go_loopw [7, 8] (fun v i wr => ∃ k : Nat, k ≤ xs.length ∧ i = .int .i64 k ∧ wr.ownsRow w.heap.size 3 1 v k (((zipI (· - ·) xs ys).take k).map (Value.int .i64)) ∧ Below w.heap.size w wr) (fun _ i _ => xs.length - (intOf i).toNat)
  case atStart => exact ⟨0, Nat.zero_le _, rfl, World.ownsRow_nil _ _ _ _, Below.refl _ _⟩
  case round =>
    obtain ⟨k, hk, rfl, hown, hbr⟩ := hrel
    have HOWN := hid hown
    have HBR := hid hbr
    by_cases hk2 : k < xs.length
    · have hcell := HC.out k hk2
      have hcell2 := HC2.out k (by rw [← HXY.out]; exact hk2)
      have HZ := hid (zipI_at (· - ·) xs ys HXY.out k hk2)
      have hx := HBX.out _ (getD_mem xs k hk2)
      have hy := HBY.out _ (getD_mem ys k (by rw [← HXY.out]; exact hk2))
      generalize xs.getD k 0 = x at hcell HZ hx
      generalize ys.getD k 0 = y at hcell2 HZ hy
      rw [← hbr.cell (p := ⟨b, off + k, none⟩) hlt] at hcell
      rw [← hbr.cell (p := ⟨b2, off2 + k, none⟩) hlt2] at hcell2
      have hsz := hbr.size
      obtain ⟨hx1, hx2⟩ := hx
      obtain ⟨hy1, hy2⟩ := hy
      clear hown hbr
      go_wp2_with (at_builtin; refine wpList_append_own _ rfl _ _ 36 rfl w.heap.size 3 i0 (.int .i64 0) 1 8 Tryd.underlying36 hi hz0 hz1 hz2 rfl (by decide) _ _ _ rfl (HOWN.out.alloc _) ⟨wr.heap.size, 0, none⟩ 1 1 [.int .i64 (x - y)] rfl rfl (cell_one_new _ _ _) (one_cell1 _) (by unfold maxLen; omega) (by omega) (by simp; omega) ?_)
      intro v' w1 hown' hgrow _
      rw [← List.map_take] at hown'
      have R := put_step (zs := zipI (· - ·) xs ys) (by rw [HLZ.out]; exact hk2) (HZ.out.trans rfl) HBR.out HOWN.out hown' hgrow
      have R2 := hid R
      clear hown' hgrow R
      go_wp2
      go_roundw
      case rel => exact ⟨k + 1, by omega, by go_num, R2.out.1, R2.out.2⟩
      case measure => simp [intOf]; omega
    · go_wp2
      go_ret
      have e1 : k = (zipI (· - ·) xs ys).length := by rw [HLZ.out]; omega
      subst e1
      have h2 := HOWN.out
      rw [List.take_of_length_le (Nat.le_refl _)] at h2
      exact ⟨_, rfl, ownsRow_sl h2, HBR.out⟩

set_option maxHeartbeats 1000000 in
theorem putLeast_any (xs ys : List Int) (b off cap b2 off2 cap2 : Nat) (w : World) (hm : xs.length ≤ 3) (hxy : xs.length = ys.length)
    (hbx : ∀ x ∈ xs, 0 ≤ x ∧ x ≤ 200) (hby : ∀ x ∈ ys, 0 ≤ x ∧ x ≤ 200) (hlt : b < w.heap.size) (hlt2 : b2 < w.heap.size) (hc : IntsAt w b off xs) (hc2 : IntsAt w b2 off2 ys) :
    Calls Tryd.prog 30 #[.slice (some ⟨b, off, none⟩) xs.length cap, .slice (some ⟨b2, off2, none⟩) ys.length cap2, .int .i64 3] w fun e w' =>
      ∃ u, e = .returned u ∧ Sl w' u (zipI lst xs ys) ∧ Below w.heap.size w w' := by
  have HC := hid hc
  have HC2 := hid hc2
  have HBX := hid hbx
  have HBY := hid hby
  have HLZ := hid (zipI_len lst xs ys hxy)
  rw [← hxy]
  have HXY := hid hxy
  clear hc hc2 hbx hby hxy
  obtain ⟨i0, hi, hz0, hz1, hz2⟩ := info_parts Tryd.info_int
  go_enter Tryd.func30, Tryd.ntmps30
  go_wp2
  go_loopw [7, 8] (fun v i wr => ∃ k : Nat, k ≤ xs.length ∧ i = .int .i64 k ∧ wr.ownsRow w.heap.size 3 1 v k (((zipI lst xs ys).take k).map (Value.int .i64)) ∧ Below w.heap.size w wr) (fun _ i _ => xs.length - (intOf i).toNat)
  case atStart => exact ⟨0, Nat.zero_le _, rfl, World.ownsRow_nil _ _ _ _, Below.refl _ _⟩
  case round =>
    obtain ⟨k, hk, rfl, hown, hbr⟩ := hrel
    have HOWN := hid hown
    have HBR := hid hbr
    by_cases hk2 : k < xs.length
    · have hcell := HC.out k hk2
      have hcell2 := HC2.out k (by rw [← HXY.out]; exact hk2)
      have HZ := hid (zipI_at lst xs ys HXY.out k hk2)
      have hx := HBX.out _ (getD_mem xs k hk2)
      have hy := HBY.out _ (getD_mem ys k (by rw [← HXY.out]; exact hk2))
      generalize xs.getD k 0 = x at hcell HZ hx
      generalize ys.getD k 0 = y at hcell2 HZ hy
      rw [← hbr.cell (p := ⟨b, off + k, none⟩) hlt] at hcell
      rw [← hbr.cell (p := ⟨b2, off2 + k, none⟩) hlt2] at hcell2
      have hsz := hbr.size
      obtain ⟨hx1, hx2⟩ := hx
      obtain ⟨hy1, hy2⟩ := hy
      clear hown hbr
      by_cases hxy : x < y
      · go_wp2_with (at_builtin; refine wpList_append_own _ rfl _ _ 36 rfl w.heap.size 3 i0 (.int .i64 0) 1 8 Tryd.underlying36 hi hz0 hz1 hz2 rfl (by decide) _ _ _ rfl (HOWN.out.alloc _) ⟨wr.heap.size, 0, none⟩ 1 1 [.int .i64 y] rfl rfl (cell_one_new _ _ _) (one_cell1 _) (by unfold maxLen; omega) (by omega) (by simp; omega) ?_)
        intro v' w1 hown' hgrow _
        rw [← List.map_take] at hown'
        have R := put_step (zs := zipI lst xs ys) (by rw [HLZ.out]; exact hk2) (HZ.out.trans (if_pos hxy)) HBR.out HOWN.out hown' hgrow
        have R2 := hid R
        clear hown' hgrow R
        go_wp2
        go_roundw
        case rel => exact ⟨k + 1, by omega, by go_num, R2.out.1, R2.out.2⟩
        case measure => simp [intOf]; omega
      · go_wp2_with (at_builtin; refine wpList_append_own _ rfl _ _ 36 rfl w.heap.size 3 i0 (.int .i64 0) 1 8 Tryd.underlying36 hi hz0 hz1 hz2 rfl (by decide) _ _ _ rfl (HOWN.out.alloc _) ⟨wr.heap.size, 0, none⟩ 1 1 [.int .i64 x] rfl rfl (cell_one_new _ _ _) (one_cell1 _) (by unfold maxLen; omega) (by omega) (by simp; omega) ?_)
        intro v' w1 hown' hgrow _
        rw [← List.map_take] at hown'
        have R := put_step (zs := zipI lst xs ys) (by rw [HLZ.out]; exact hk2) (HZ.out.trans (if_neg (Int.not_lt.2 hxy))) HBR.out HOWN.out hown' hgrow
        have R2 := hid R
        clear hown' hgrow R
        go_wp2
        go_roundw
        case rel => exact ⟨k + 1, by omega, by go_num, R2.out.1, R2.out.2⟩
        case measure => simp [intOf]; omega
    · go_wp2
      go_ret
      have e1 : k = (zipI lst xs ys).length := by rw [HLZ.out]; omega
      subst e1
      have h2 := HOWN.out
      rw [List.take_of_length_le (Nat.le_refl _)] at h2
      exact ⟨_, rfl, ownsRow_sl h2, HBR.out⟩

end Go.Proofs.YtkmjmmnnnbjghaaDoor

