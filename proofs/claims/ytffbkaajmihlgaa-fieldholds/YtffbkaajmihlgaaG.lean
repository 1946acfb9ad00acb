/- Order. -/
import Derived.Test.YtffbkaajmihlgaaF
namespace Go.Proofs.Ytffbkaajmihlgaa
set_option linter.unusedSimpArgs false
set_option linter.unusedVariables false
open Go.RowKit

theorem below_two {w : World} {A B : Obj} : Below w.heap.size w ((w.alloc A).alloc B) := ((Below.refl _ _).alloc (Nat.le_refl _) _).alloc (by simp) _
theorem below_ndraws {w W : World} {B : Nat} (h : Below B w W) {w' : World} (hd : ∃ n, w' = W.drewN n) : Below B w w' := by
  obtain ⟨n, rfl⟩ := hd; exact below_drewN h n

set_option maxHeartbeats 400000 in
theorem order_bad (p n o v : Int) (x y : Value) (xs ys : List Int) (w : World) (hs : Sl w x xs) (hs2 : Sl w y ys) (hz : (errAll p n o v [xs, ys] != 0) = true) :
    Calls Try.prog 23 #[ringV p n o v, x, y] w fun e w' => e = .returned (.tuple #[.int .i64 0, .int .i64 (errAll p n o v [xs, ys])]) ∧ Below w.heap.size w w' := by
  have HS := hid hs
  have HS2 := hid hs2
  obtain ⟨a, cap, rfl, _⟩ := hs
  obtain ⟨a2, cap2, rfl, _⟩ := hs2
  go_enter Try.func23, Try.ntmps23
  go_wp2_with fail
  refine (checkAll_any p n o v [xs, ys] _ _ _ _ (by simp) (by simp) ?_).mono ?_
  · exact (HS.out.below below_two).sls2 (HS2.out.below below_two) (by simp [go_sem]) (by simp [go_sem])
  · rintro e w1 ⟨rfl, hb1⟩
    go_wp2
    go_ret2
    exact ⟨rfl, below_two.trans (hb1.mono (by simp; omega))⟩

theorem ordS_deg {o : Int} {xs ys : List Int} (h : (cmpI (sumI xs) (sumI ys) != 0) = true) : ordS o xs ys = cmpI (sumI xs) (sumI ys) := by
  unfold ordS; rw [if_neg (by simpa using h)]
theorem ordS_rev {xs ys : List Int} (h : (cmpI (sumI xs) (sumI ys) != 0) = false) : ordS 1 xs ys = revC xs ys := by
  unfold ordS; rw [if_pos (by simpa using h), if_pos rfl]
theorem ordS_lex {xs ys : List Int} (h : (cmpI (sumI xs) (sumI ys) != 0) = false) : ordS 2 xs ys = lexC xs ys := by
  unfold ordS; rw [if_pos (by simpa using h), if_neg (by omega)]

set_option maxHeartbeats 1000000 in
theorem order_ok (p n o v : Int) (x y : Value) (xs ys : List Int) (w : World) (hs : Sl w x xs) (hs2 : Sl w y ys) (hz : errAll p n o v [xs, ys] = 0) :
    Calls Try.prog 23 #[ringV p n o v, x, y] w fun e w' => e = .returned (.tuple #[.int .i64 (ordS o xs ys), .int .i64 0]) ∧ Below w.heap.size w w' := by
  obtain ⟨hr, hx, hy⟩ := errAll_two hz
  obtain ⟨_, hn1, hn2, ho, _⟩ := ring_ok hr
  obtain ⟨hlx, hbx, _⟩ := errM_ok hx
  obtain ⟨hly, hby, _⟩ := errM_ok hy
  have HZ := hid hz
  have HS := hid hs
  have HS2 := hid hs2
  have hmx : xs.length ≤ 3 := by omega
  have hmy : ys.length ≤ 3 := by omega
  have HXY := hid (show xs.length = ys.length by omega)
  obtain ⟨a, cap, rfl, h1⟩ := hs
  obtain ⟨a2, cap2, rfl, h2⟩ := hs2
  obtain ⟨b, off, rfl, hlt, hc⟩ := h1 (by omega)
  obtain ⟨b2, off2, rfl, hlt2, hc2⟩ := h2 (by omega)
  have HC := hid hc
  have HC2 := hid hc2
  have HBX := hid (show ∀ x ∈ xs, 0 ≤ x ∧ x ≤ 400 from fun x h => by have := hbx x h; omega)
  have HBY := hid (show ∀ x ∈ ys, 0 ≤ x ∧ x ≤ 400 from fun x h => by have := hby x h; omega)
  clear hz hr hx hy hlx hly h1 h2 hc hc2 hbx hby
  have key : ∀ w1 : World, Below w.heap.size w w1 → IntsAt w1 b off xs ∧ IntsAt w1 b2 off2 ys := fun w1 hb =>
    ⟨fun i hi => by rw [hb.cell (p := ⟨b, off + i, none⟩) hlt]; exact HC.out i hi, fun i hi => by rw [hb.cell (p := ⟨b2, off2 + i, none⟩) hlt2]; exact HC2.out i hi⟩
  have KEY := hid key
  clear key
  cases hd : (cmpI (sumI xs) (sumI ys) != 0)
  · rcases ho with rfl | rfl
    · rw [ordS_rev hd]
      go_enter Try.func23, Try.ntmps23
      go_wp2_with fail
      refine (checkAll_any p n 1 v [xs, ys] _ _ _ _ (by simp) (by simp) ?_).mono ?_
      · exact (HS.out.below below_two).sls2 (HS2.out.below below_two) (by simp [go_sem]) (by simp [go_sem])
      rintro e w1 ⟨rfl, hb1⟩
      have hb0 : Below w.heap.size w w1 := below_two.trans (hb1.mono (by simp; omega))
      have hbox : w1.cell? ⟨w.heap.size, 2, none⟩ = some (.int .i64 1) := by rw [hb1.cell (p := ⟨w.heap.size, 2, none⟩) (by simp; omega)]; simp [go_sem]
      rw [HZ.out]
      obtain ⟨k1, k2⟩ := KEY.out w1 hb0
      have K1 := hid k1
      have K2 := hid k2
      clear k1 k2 hb1 KEY
      go_wp2_with fail
      refine (degree_any xs _ _ _ _ HBX.out hmx K1.out).mono ?_
      rintro e w' ⟨rfl, rfl⟩
      go_wp2_with fail
      refine (degree_any ys _ _ _ _ HBY.out hmy K2.out).mono ?_
      rintro e w' ⟨rfl, rfl⟩
      go_wp2_with fail
      refine (compare_any _ _ _).mono ?_
      rintro e w' ⟨rfl, rfl⟩
      go_wp2_with fail
      refine (revCompare_any xs ys _ _ _ _ _ _ _ hmx HXY.out K1.out K2.out).mono ?_
      rintro e w2 ⟨rfl, hw2⟩
      go_wp2
      go_ret2
      exact ⟨rfl, below_ndraws hb0 hw2⟩
    · rw [ordS_lex hd]
      go_enter Try.func23, Try.ntmps23
      go_wp2_with fail
      refine (checkAll_any p n 2 v [xs, ys] _ _ _ _ (by simp) (by simp) ?_).mono ?_
      · exact (HS.out.below below_two).sls2 (HS2.out.below below_two) (by simp [go_sem]) (by simp [go_sem])
      rintro e w1 ⟨rfl, hb1⟩
      have hb0 : Below w.heap.size w w1 := below_two.trans (hb1.mono (by simp; omega))
      have hbox : w1.cell? ⟨w.heap.size, 2, none⟩ = some (.int .i64 2) := by rw [hb1.cell (p := ⟨w.heap.size, 2, none⟩) (by simp; omega)]; simp [go_sem]
      rw [HZ.out]
      obtain ⟨k1, k2⟩ := KEY.out w1 hb0
      have K1 := hid k1
      have K2 := hid k2
      clear k1 k2 hb1 KEY
      go_wp2_with fail
      refine (degree_any xs _ _ _ _ HBX.out hmx K1.out).mono ?_
      rintro e w' ⟨rfl, rfl⟩
      go_wp2_with fail
      refine (degree_any ys _ _ _ _ HBY.out hmy K2.out).mono ?_
      rintro e w' ⟨rfl, rfl⟩
      go_wp2_with fail
      refine (compare_any _ _ _).mono ?_
      rintro e w' ⟨rfl, rfl⟩
      go_wp2_with fail
      refine (lexCompare_any xs ys _ _ _ _ _ _ _ hmx HXY.out K1.out K2.out).mono ?_
      rintro e w' ⟨rfl, rfl⟩
      go_wp2
      go_ret2
      exact ⟨rfl, hb0⟩
  · rw [ordS_deg hd]
    go_enter Try.func23, Try.ntmps23
    go_wp2_with fail
    refine (checkAll_any p n o v [xs, ys] _ _ _ _ (by simp) (by simp) ?_).mono ?_
    · exact (HS.out.below below_two).sls2 (HS2.out.below below_two) (by simp [go_sem]) (by simp [go_sem])
    rintro e w1 ⟨rfl, hb1⟩
    have hb0 : Below w.heap.size w w1 := below_two.trans (hb1.mono (by simp; omega))
    rw [HZ.out]
    obtain ⟨k1, k2⟩ := KEY.out w1 hb0
    have K1 := hid k1
    have K2 := hid k2
    clear k1 k2 hb1 KEY
    go_wp2_with fail
    refine (degree_any xs _ _ _ _ HBX.out hmx K1.out).mono ?_
    rintro e w' ⟨rfl, rfl⟩
    go_wp2_with fail
    refine (degree_any ys _ _ _ _ HBY.out hmy K2.out).mono ?_
    rintro e w' ⟨rfl, rfl⟩
    go_wp2_with fail
    refine (compare_any _ _ _).mono ?_
    rintro e w' ⟨rfl, rfl⟩
    go_wp2
    go_ret2
    exact ⟨rfl, hb0⟩

end Go.Proofs.Ytffbkaajmihlgaa
