/- Over; the reference's degree, and what goes into what. -/
import Derived.Test.YtilogbggilchaaaGreatH
import Derived.Deep.DeepCutAuto
import Derived.Test.YtilogbggilchaaaGreatM
import Derived.Deep.RegionHeld
namespace Go.Proofs.YtilogbggilchaaaGreat
set_option linter.unusedSimpArgs false
set_option linter.unusedVariables false
open Go.RowKit
def negI (x : Int) : Bool := decide (x < 0)
theorem negI_take (zs : List Int) (k : Nat) (h : k < zs.length) : (zs.take (k + 1)).any negI = ((zs.take k).any negI || negI (zs.getD k 0)) := by
  rw [List.take_succ_eq_append_getElem h, List.any_append]
  simp [List.getD_eq_getElem?_getD, h]
set_option maxHeartbeats 400000 in
theorem degreeOf_any (xs : List Int) (b off cap : Nat) (w : World) (hxs : ∀ x ∈ xs, 0 ≤ x ∧ x ≤ 40000) (hl : xs.length ≤ 3) (hc : IntsAt w b off xs) :
    Calls Tryz.prog 108 #[.slice (some ⟨b, off, none⟩) xs.length cap] w fun e w' => e = .returned (.int .i64 (sumI xs)) ∧ w' = w := by
  have HC := hid hc
  clear hc
  go_enter Tryz.func108, Tryz.ntmps108
  go_wp2
  go_loop [3, 4] (fun n i => ∃ k : Nat, k ≤ xs.length ∧ i = .int .i64 k ∧ n = .int .i64 (sumI (xs.take k))) (fun _ i => xs.length - (intOf i).toNat)
  case atStart => exact ⟨0, Nat.zero_le _, rfl, rfl⟩
  case round =>
    obtain ⟨k, hk, rfl, rfl⟩ := hrel
    have hd := sumI_bd (xs.take k) (fun x hx => hxs x (List.mem_of_mem_take hx))
    have hl2 : (xs.take k).length ≤ k := List.length_take_le _ _
    by_cases hlt : k < xs.length
    · have hsn := sumI_take xs k hlt
      have hb := hxs _ (getD_mem xs k hlt)
      have hcell := HC.out k hlt
      generalize xs.getD k 0 = y at hsn hb hcell
      have HS := hid hsn
      clear hsn hxs
      go_wp2
      go_round
      case rel => exact ⟨k + 1, by omega, by go_num, by rw [HS.out]⟩
      case measure => simp [intOf]; omega
    · go_wp2
      go_ret
      exact ⟨ret_int (by rw [List.take_of_length_le (by omega)]), rfl⟩

def lackB (xs ys : List Int) : Bool := (zipI (· - ·) xs ys).any negI

set_option maxHeartbeats 400000 in
theorem goesInto_any (xs ys : List Int) (b off cap b2 off2 cap2 : Nat) (w : World) (hm : xs.length ≤ 3) (hxy : xs.length = ys.length) (hc : IntsAt w b off xs) (hc2 : IntsAt w b2 off2 ys) :
    Calls Tryz.prog 72 #[.slice (some ⟨b2, off2, none⟩) ys.length cap2, .slice (some ⟨b, off, none⟩) xs.length cap] w fun e w' =>
      e = .returned (.bool (!lackB xs ys)) ∧ ∃ n, w' = w.drewN n := by
  have HC := hid hc
  have HC2 := hid hc2
  rw [← hxy]
  have HXY := hid hxy
  have hlz := zipI_len (· - ·) xs ys hxy
  have HLZ := hid hlz
  clear hc hc2 hxy hlz
  go_enter Tryz.func72, Tryz.ntmps72
  go_wp2
  go_loopw [5] (fun i wr => ∃ k n : Nat, k ≤ xs.length ∧ i = .int .i64 k ∧ ((zipI (· - ·) xs ys).take k).any negI = false ∧ wr = w.drewN n) (fun i _ => xs.length - (intOf i).toNat)
  case atStart => exact ⟨0, 0, Nat.zero_le _, rfl, rfl, rfl⟩
  case round =>
    obtain ⟨k, n0, hk, rfl, hn, hw0⟩ := hrel
    have HN := hid hn
    have HW := hid hw0
    clear hn hw0
    by_cases hk2 : k < xs.length
    · have hcell := HC.out k hk2
      have hcell2 := HC2.out k (by rw [← HXY.out]; exact hk2)
      have e1 : ∀ a, wr.cell? a = w.cell? a := fun a => by rw [HW.out]; rfl
      rw [← e1] at hcell hcell2
      clear e1
      have hz := zipI_at (· - ·) xs ys HXY.out k hk2
      have ht := negI_take (zipI (· - ·) xs ys) k (by rw [HLZ.out]; exact hk2)
      have ha := any_at negI (zipI (· - ·) xs ys) k (by rw [HLZ.out]; exact hk2)
      rw [hz] at ht ha
      have HT := hid ht
      have HA := hid ha
      clear hz ht ha
      generalize xs.getD k 0 = x at hcell HT HA
      generalize ys.getD k 0 = y at hcell2 HT HA
      by_cases hy : x < y
      · go_wp2
        go_quiet (fail)
        go_wp2
        go_ret
        refine ⟨?_, _, by rw [HW.out, World.drewN_drewN]⟩
        unfold lackB
        rw [HA.out (by unfold negI; exact decide_eq_true (by omega))]
        rfl
      · go_wp2
        go_quiet (fail)
        go_wp2
        go_roundw
        case rel => exact ⟨k + 1, _, by omega, by go_num, by rw [HT.out, HN.out, Bool.false_or]; unfold negI; exact decide_eq_false (by omega), by rw [HW.out, World.drewN_drewN]⟩
        case measure => simp [intOf]; omega
    · go_wp2
      go_ret
      refine ⟨?_, n0, HW.out⟩
      have := HN.out
      rw [List.take_of_length_le (by rw [HLZ.out]; omega)] at this
      unfold lackB
      rw [this]
      rfl
theorem ownsRow_sl {w : World} {B : Nat} {v : Value} {zs : List Int} {T : TypeId} (h : w.ownsRow B T 1 v zs.length (zs.map (Value.int .i64))) : Sl w v zs := by
  obtain ⟨_, h | ⟨g, cap, cur, rfl, hg, hh, hn, hm, hcs, ht⟩⟩ := h
  · obtain ⟨rfl, h0⟩ := h
    refine ⟨none, 0, by rw [h0], fun hp => absurd hp (by omega)⟩
  · refine ⟨_, cap, rfl, fun _ => ⟨g, 0, rfl, ?_, fun i hi => ?_⟩⟩
    · apply Nat.lt_of_not_le; intro hle; rw [Array.getElem?_eq_none hle] at hh; simp at hh
    · have e : cur.toList[i]? = some (.int .i64 (zs.getD i 0)) := by
        have h1 : (cur.toList.take (zs.length * 1))[i]? = (zs.map (Value.int .i64))[i]? := by rw [ht]
        rw [List.getElem?_take, if_pos (by omega), List.getElem?_map] at h1
        rw [h1, List.getD_eq_getElem?_getD, List.getElem?_eq_getElem hi]; rfl
      unfold World.cell?
      simp only [hh, Nat.zero_add]
      simpa using e

theorem take_map_snoc {zs : List Int} {k : Nat} (h : k < zs.length) {z : Int} (hz : zs.getD k 0 = z) : (zs.take (k + 1)).map (Value.int .i64) = (zs.take k).map (Value.int .i64) ++ [.int .i64 z] := by
  rw [List.take_succ_eq_append_getElem h, List.map_append]
  rw [List.getD_eq_getElem?_getD, List.getElem?_eq_getElem h] at hz
  simp at hz
  simp [hz]

theorem one_cell1 (z : Int) : ∀ u ∈ [Value.int .i64 z], u.oneCell' = true := by
  intro u hu; simp at hu; subst hu; rfl
theorem put_step {w wr w1 : World} {v v' : Value} {zs : List Int} {k : Nat} {T : TypeId} {z : Int} {O : Obj} (hk : k < zs.length) (hz : zs.getD k 0 = z)
    (hb : Below w.heap.size w wr) (hown : wr.ownsRow w.heap.size T 1 v k ((zs.take k).map (Value.int .i64)))
    (hown' : w1.ownsRow w.heap.size T 1 v' (k + 1) ((zs.take k).map (Value.int .i64) ++ [.int .i64 z])) (hg : (wr.alloc O).grownBy w1 v.ownBlock) :
    w1.ownsRow w.heap.size T 1 v' (k + 1) ((zs.take (k + 1)).map (Value.int .i64)) ∧ Below w.heap.size w w1 := by
  refine ⟨by rw [take_map_snoc hk hz]; exact hown', ?_⟩
  refine (hb.alloc hb.size O).grown hg (Nat.le_trans hb.size (by simp)) (fun k' hk' => ?_)
  obtain ⟨_, h | ⟨g, cap, cur, rfl, hgb, _⟩⟩ := hown
  · obtain ⟨rfl, _⟩ := h; simp [Value.ownBlock] at hk'
  · simp [Value.ownBlock] at hk'; omega
def moreB (o : Int) (xs ys : List Int) : Bool := decide (0 < ordS o xs ys)
theorem cmpI_pos (a b : Int) : decide (0 < cmpI a b) = decide (b < a) := by
  have := cmpI_vals a b
  exact decide_eq_decide.2 (by omega)

theorem cmpI_eq {x y : Int} (h : (x != y) = false) : cmpI x y = 0 ∧ cmpI y x = 0 := by
  have h1 : x = y := by simpa using h
  have h2 := cmpI_vals x y
  have h3 := cmpI_vals y x
  omega
theorem cmpI_ne {x y : Int} (h : (x != y) = true) : ¬ cmpI x y = 0 ∧ ¬ cmpI y x = 0 := by
  have h1 : x ≠ y := by simpa using h
  have h2 := cmpI_vals x y
  have h3 := cmpI_vals y x
  omega
theorem ret_bool {a b : Bool} (h : a = b) : Ending.returned (.bool a) = .returned (.bool b) := by rw [h]

set_option maxHeartbeats 1000000 in
theorem more_lex (p n v : Int) (xs ys : List Int) (b off cap b2 off2 cap2 : Nat) (w : World) (hm : xs.length ≤ 3) (hxy : xs.length = ys.length)
    (hbx : ∀ x ∈ xs, 0 ≤ x ∧ x ≤ 40000) (hby : ∀ x ∈ ys, 0 ≤ x ∧ x ≤ 40000) (hlt : b < w.heap.size) (hlt2 : b2 < w.heap.size) (hc : IntsAt w b off xs) (hc2 : IntsAt w b2 off2 ys) :
    Calls Tryz.prog 107 #[ringV p n 2 v, .slice (some ⟨b, off, none⟩) xs.length cap, .slice (some ⟨b2, off2, none⟩) ys.length cap2] w fun e w' =>
      e = .returned (.bool (moreB 2 xs ys)) ∧ Below w.heap.size w w' := by
  have HC := hid hc
  have HC2 := hid hc2
  have HBX := hid hbx
  have HBY := hid hby
  have HXY := hid hxy
  have hmy : ys.length ≤ 3 := by omega
  clear hc hc2 hbx hby hxy
  go_enter Tryz.func107, Tryz.ntmps107
  go_wp2_with fail
  refine (degreeOf_any xs _ _ _ _ HBX.out hm ?_).mono ?_
  · intro i hi; rw [World.cell?_alloc_lt (w := w) (o := _) (a := ⟨b, off + i, none⟩) hlt]; exact HC.out i hi
  rintro e w' ⟨rfl, rfl⟩
  go_wp2_with fail
  refine (degreeOf_any ys _ _ _ _ HBY.out hmy ?_).mono ?_
  · intro i hi; rw [World.cell?_alloc_lt (w := w) (o := _) (a := ⟨b2, off2 + i, none⟩) hlt2]; exact HC2.out i hi
  rintro e w' ⟨rfl, rfl⟩
  cases hd : (sumI xs != sumI ys)
  · have hz : cmpI (sumI xs) (sumI ys) = 0 := by
      have h1 : sumI xs = sumI ys := by simpa using hd
      have := cmpI_vals (sumI xs) (sumI ys); omega
    have HO : Hid (moreB 2 xs ys = decide (0 < lexC xs ys)) := by
      unfold Hid moreB ordS; rw [if_pos hz, if_neg (by omega)]
    clear hz
    go_wp2
    go_loopw [9] (fun i wr => ∃ k : Nat, k ≤ xs.length ∧ i = .int .i64 k ∧ lexC xs ys = lexC (xs.drop k) (ys.drop k) ∧ Below w.heap.size w wr) (fun i _ => xs.length - (intOf i).toNat)
    case atStart => exact ⟨0, Nat.zero_le _, rfl, rfl, below_one⟩
    case round =>
      obtain ⟨k, hk, rfl, hn, hbr⟩ := hrel
      have HN := hid hn
      have HBR := hid hbr
      by_cases hk2 : k < xs.length
      · have hcell := HC.out k hk2
        have hcell2 := HC2.out k (by rw [← HXY.out]; exact hk2)
        rw [← hbr.cell (p := ⟨b, off + k, none⟩) hlt] at hcell
        rw [← hbr.cell (p := ⟨b2, off2 + k, none⟩) hlt2] at hcell2
        have HD := hid (lexC_drop xs ys k hk2 (by rw [← HXY.out]; exact hk2))
        have hxl : (k : Int) < (xs.length : Int) := by omega
        have hyl : (k : Int) < (ys.length : Int) := by have := HXY.out; omega
        clear hn hbr
        generalize xs.getD k 0 = x at hcell HD
        generalize ys.getD k 0 = y at hcell2 HD
        cases hne : (x != y)
        · go_wp2
          go_quiet (fail)
          go_wp2
          go_roundw
          case rel => exact ⟨k + 1, by omega, by go_num, by rw [HN.out, HD.out, if_pos (cmpI_eq hne).1], below_drewN HBR.out _⟩
          case measure => simp [intOf]; omega
        · go_wp2
          go_quiet (fail)
          go_wp2
          go_quiet (fail)
          go_wp2
          go_ret
          refine ⟨ret_bool ?_, below_drewN (below_drewN HBR.out _) _⟩
          rw [HO.out, HN.out, HD.out, if_neg (cmpI_ne hne).1, cmpI_pos]
      · clear hn hbr
        go_wp2
        go_ret
        refine ⟨ret_bool ?_, HBR.out⟩
        rw [HO.out, HN.out, List.drop_eq_nil_of_le (by omega)]
        rfl
  · have HO : Hid (moreB 2 xs ys = decide (sumI ys < sumI xs)) := by
      have h1 : sumI xs ≠ sumI ys := by simpa using hd
      have h2 := cmpI_vals (sumI xs) (sumI ys)
      unfold Hid moreB ordS; rw [if_neg (by omega), cmpI_pos]
    go_wp2
    go_ret
    exact ⟨ret_bool HO.out.symm, below_one⟩

set_option maxHeartbeats 1000000 in
theorem more_rev (p n v : Int) (xs ys : List Int) (b off cap b2 off2 cap2 : Nat) (w : World) (hm : xs.length ≤ 3) (hxy : xs.length = ys.length)
    (hbx : ∀ x ∈ xs, 0 ≤ x ∧ x ≤ 40000) (hby : ∀ x ∈ ys, 0 ≤ x ∧ x ≤ 40000) (hlt : b < w.heap.size) (hlt2 : b2 < w.heap.size) (hc : IntsAt w b off xs) (hc2 : IntsAt w b2 off2 ys) :
    Calls Tryz.prog 107 #[ringV p n 1 v, .slice (some ⟨b, off, none⟩) xs.length cap, .slice (some ⟨b2, off2, none⟩) ys.length cap2] w fun e w' =>
      e = .returned (.bool (moreB 1 xs ys)) ∧ Below w.heap.size w w' := by
  have HC := hid hc
  have HC2 := hid hc2
  have HBX := hid hbx
  have HBY := hid hby
  have HXY := hid hxy
  have hmy : ys.length ≤ 3 := by omega
  clear hc hc2 hbx hby hxy
  go_enter Tryz.func107, Tryz.ntmps107
  go_wp2_with fail
  refine (degreeOf_any xs _ _ _ _ HBX.out hm ?_).mono ?_
  · intro i hi; rw [World.cell?_alloc_lt (w := w) (o := _) (a := ⟨b, off + i, none⟩) hlt]; exact HC.out i hi
  rintro e w' ⟨rfl, rfl⟩
  go_wp2_with fail
  refine (degreeOf_any ys _ _ _ _ HBY.out hmy ?_).mono ?_
  · intro i hi; rw [World.cell?_alloc_lt (w := w) (o := _) (a := ⟨b2, off2 + i, none⟩) hlt2]; exact HC2.out i hi
  rintro e w' ⟨rfl, rfl⟩
  cases hd : (sumI xs != sumI ys)
  · have hz : cmpI (sumI xs) (sumI ys) = 0 := by
      have h1 : sumI xs = sumI ys := by simpa using hd
      have := cmpI_vals (sumI xs) (sumI ys); omega
    have HO : Hid (moreB 1 xs ys = decide (0 < revC xs ys)) := by
      unfold Hid moreB ordS; rw [if_pos hz, if_pos rfl]
    clear hz
    go_wp2
    go_loopw [10] (fun i wr => ∃ k : Nat, k ≤ xs.length ∧ i = .int .i64 ((k : Int) - 1) ∧ revC xs ys = lexC (ys.take k).reverse (xs.take k).reverse ∧ Below w.heap.size w wr) (fun i _ => (intOf i + 1).toNat)
    case atStart => exact ⟨xs.length, Nat.le_refl _, rfl, by rw [List.take_of_length_le (by have := HXY.out; omega), List.take_of_length_le (by omega)]; rfl, below_one⟩
    case round =>
      obtain ⟨k, hk, rfl, hn, hbr⟩ := hrel
      have HN := hid hn
      have HBR := hid hbr
      cases k with
      | succ k =>
        have hk2 : k < xs.length := by omega
        have hcell := HC.out k hk2
        have hcell2 := HC2.out k (by rw [← HXY.out]; exact hk2)
        rw [← hbr.cell (p := ⟨b, off + k, none⟩) hlt] at hcell
        rw [← hbr.cell (p := ⟨b2, off2 + k, none⟩) hlt2] at hcell2
        have HD := hid (lexC_take xs ys k hk2 (by rw [← HXY.out]; exact hk2))
        have hxl : (k : Int) < (xs.length : Int) := by omega
        have hyl : (k : Int) < (ys.length : Int) := by have := HXY.out; omega
        have ek : (((k + 1 : Nat) : Int) - 1) = (k : Int) := by omega
        rw [ek]
        clear hn hbr ek
        generalize xs.getD k 0 = x at hcell HD
        generalize ys.getD k 0 = y at hcell2 HD
        cases hne : (x != y)
        · go_wp2
          go_quiet (fail)
          go_wp2
          go_roundw
          case rel => exact ⟨k, by omega, rfl, by rw [HN.out, HD.out, if_pos (cmpI_eq hne).2], below_drewN HBR.out _⟩
          case measure => simp [intOf]
        · go_wp2
          go_quiet (fail)
          go_wp2
          go_quiet (fail)
          go_wp2
          go_ret
          refine ⟨ret_bool ?_, below_drewN (below_drewN HBR.out _) _⟩
          rw [HO.out, HN.out, HD.out, if_neg (cmpI_ne hne).2, cmpI_pos]
      | zero =>
        clear hn hbr
        go_wp2
        go_ret
        refine ⟨ret_bool ?_, HBR.out⟩
        rw [HO.out, HN.out]
        rfl
  · have HO : Hid (moreB 1 xs ys = decide (sumI ys < sumI xs)) := by
      have h1 : sumI xs ≠ sumI ys := by simpa using hd
      have h2 := cmpI_vals (sumI xs) (sumI ys)
      unfold Hid moreB ordS; rw [if_neg (by omega), cmpI_pos]
    go_wp2
    go_ret
    exact ⟨ret_bool HO.out.symm, below_one⟩

theorem more_any (p n o v : Int) (x y : Value) (xs ys : List Int) (w : World) (ho : o = 1 ∨ o = 2) (h0 : 0 < xs.length) (hm : xs.length ≤ 3) (hxy : xs.length = ys.length)
    (hbx : ∀ x ∈ xs, 0 ≤ x ∧ x ≤ 40000) (hby : ∀ x ∈ ys, 0 ≤ x ∧ x ≤ 40000) (hs : Sl w x xs) (hs2 : Sl w y ys) :
    Calls Tryz.prog 107 #[ringV p n o v, x, y] w fun e w' => e = .returned (.bool (moreB o xs ys)) ∧ Below w.heap.size w w' := by
  obtain ⟨a, cap, rfl, h1⟩ := hs
  obtain ⟨a2, cap2, rfl, h2⟩ := hs2
  obtain ⟨b, off, rfl, hlt, hc⟩ := h1 h0
  obtain ⟨b2, off2, rfl, hlt2, hc2⟩ := h2 (by omega)
  rcases ho with rfl | rfl
  · exact more_rev p n v xs ys b off cap b2 off2 cap2 w hm hxy hbx hby hlt hlt2 hc hc2
  · exact more_lex p n v xs ys b off cap b2 off2 cap2 w hm hxy hbx hby hlt hlt2 hc hc2
end Go.Proofs.YtilogbggilchaaaGreat
