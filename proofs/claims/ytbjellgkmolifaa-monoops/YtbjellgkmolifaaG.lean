/- Order. -/
import Derived.Test.YtbjellgkmolifaaF
namespace Go.Proofs.Ytbjellgkmolifaa
set_option linter.unusedSimpArgs false
set_option linter.unusedVariables false
open Go.RowKit

theorem below_two {w : World} {A B : Obj} : Below w.heap.size w ((w.alloc A).alloc B) := ((Below.refl _ _).alloc (Nat.le_refl _) _).alloc (by simp) _
theorem below_ndraws {w W : World} {B : Nat} (h : Below B w W) {w' : World} (hd : ∃ n, w' = W.drewN n) : Below B w w' := by
  obtain ⟨n, rfl⟩ := hd; exact below_drewN h n

set_option maxHeartbeats 400000 in
theorem order_bad (p n o v : Int) (x y : Value) (xs ys : List Int) (w : World) (hs : Sl w x xs) (hs2 : Sl w y ys) (hz : (errAll p n o v [xs, ys] != 0) = true) :
    Calls Try.prog 25 #[ringV p n o v, x, y] w fun e w' => e = .returned (.tuple #[.int .i64 0, .int .i64 (errAll p n o v [xs, ys])]) ∧ Below w.heap.size w w' := by
  have HS := hid hs
  have HS2 := hid hs2
  obtain ⟨a, cap, rfl, _⟩ := hs
  obtain ⟨a2, cap2, rfl, _⟩ := hs2
  go_enter Try.func25, Try.ntmps25
  go_wp2_with fail
  refine (checkAll_any p n o v [xs, ys] _ _ _ _ (by simp) (by simp) ?_).mono ?_
  · exact (HS.out.below below_two).sls2 (HS2.out.below below_two) (by simp [go_sem]) (by simp [go_sem])
  · rintro e w1 ⟨rfl, hb1⟩
    go_wp2
    go_ret2
    exact ⟨rfl, below_two.trans (hb1.mono (by simp; omega))⟩

theorem ordS_deg {o : Int} {xs ys : List Int} (h : (cmpI (sumI xs) (sumI ys) != 0) = true) : ordS o xs ys = cmpI (sumI xs) (sumI ys) := by
  unfold ordS; rw [if_neg (by simpa using h)]
theorem ordS_rev {xs ys : List Int} (h : (cmpI (sumI xs) (sumI ys) != 0) = false) : ordS 1 xs ys = revC xs ys := by
  unfold ordS; rw [if_pos (by simpa using h), if_pos rfl]
theorem ordS_lex {xs ys : List Int} (h : (cmpI (sumI xs) (sumI ys) != 0) = false) : ordS 2 xs ys = lexC xs ys := by
  unfold ordS; rw [if_pos (by simpa using h), if_neg (by omega)]

theorem below_oneG {w : World} {A : Obj} : Below w.heap.size w (w.alloc A) := (Below.refl _ _).alloc (Nat.le_refl _) _

set_option maxHeartbeats 1000000 in
theorem bareCompare_any (p n o v : Int) (x y : Value) (xs ys : List Int) (w : World) (ho : o = 1 ∨ o = 2) (h0 : 0 < xs.length) (hm : xs.length ≤ 3) (hxy : xs.length = ys.length)
    (hbx : ∀ x ∈ xs, 0 ≤ x ∧ x ≤ 400) (hby : ∀ x ∈ ys, 0 ≤ x ∧ x ≤ 400) (hs : Sl w x xs) (hs2 : Sl w y ys) :
    Calls Try.prog 69 #[ringV p n o v, x, y] w fun e w' => e = .returned (.int .i64 (ordS o xs ys)) ∧ Below w.heap.size w w' := by
  have HXY := hid hxy
  have HBX := hid hbx
  have HBY := hid hby
  have hmy : ys.length ≤ 3 := by omega
  obtain ⟨a, cap, rfl, h1⟩ := hs
  obtain ⟨a2, cap2, rfl, h2⟩ := hs2
  obtain ⟨b, off, rfl, hlt, hc⟩ := h1 h0
  obtain ⟨b2, off2, rfl, hlt2, hc2⟩ := h2 (by omega)
  have HC := hid hc
  have HC2 := hid hc2
  clear hxy hbx hby h1 h2 hc hc2
  have key : ∀ w1 : World, Below w.heap.size w w1 → IntsAt w1 b off xs ∧ IntsAt w1 b2 off2 ys := fun w1 hb =>
    ⟨fun i hi => by rw [hb.cell (p := ⟨b, off + i, none⟩) hlt]; exact HC.out i hi, fun i hi => by rw [hb.cell (p := ⟨b2, off2 + i, none⟩) hlt2]; exact HC2.out i hi⟩
  have KEY := hid key
  clear key
  cases hd : (cmpI (sumI xs) (sumI ys) != 0)
  · rcases ho with rfl | rfl
    · rw [ordS_rev hd]
      go_enter Try.func69, Try.ntmps69
      go_wp2_with fail
      refine (degree_any xs _ _ _ _ HBX.out hm (KEY.out _ below_oneG).1).mono ?_
      rintro e w' ⟨rfl, rfl⟩
      go_wp2_with fail
      refine (degree_any ys _ _ _ _ HBY.out hmy (KEY.out _ below_oneG).2).mono ?_
      rintro e w' ⟨rfl, rfl⟩
      go_wp2_with fail
      refine (compare_any _ _ _).mono ?_
      rintro e w' ⟨rfl, rfl⟩
      go_wp2_with fail
      refine (revCompare_any xs ys _ _ _ _ _ _ _ hm HXY.out (KEY.out _ below_oneG).1 (KEY.out _ below_oneG).2).mono ?_
      rintro e w1 ⟨rfl, hd2⟩
      go_wp2
      go_ret
      exact ⟨rfl, below_ndraws below_oneG hd2⟩
    · rw [ordS_lex hd]
      go_enter Try.func69, Try.ntmps69
      go_wp2_with fail
      refine (degree_any xs _ _ _ _ HBX.out hm (KEY.out _ below_oneG).1).mono ?_
      rintro e w' ⟨rfl, rfl⟩
      go_wp2_with fail
      refine (degree_any ys _ _ _ _ HBY.out hmy (KEY.out _ below_oneG).2).mono ?_
      rintro e w' ⟨rfl, rfl⟩
      go_wp2_with fail
      refine (compare_any _ _ _).mono ?_
      rintro e w' ⟨rfl, rfl⟩
      go_wp2_with fail
      refine (lexCompare_any xs ys _ _ _ _ _ _ _ hm HXY.out (KEY.out _ below_oneG).1 (KEY.out _ below_oneG).2).mono ?_
      rintro e w' ⟨rfl, rfl⟩
      go_wp2
      go_ret
      exact ⟨rfl, below_oneG⟩
  · rw [ordS_deg hd]
    go_enter Try.func69, Try.ntmps69
    go_wp2_with fail
    refine (degree_any xs _ _ _ _ HBX.out hm (KEY.out _ below_oneG).1).mono ?_
    rintro e w' ⟨rfl, rfl⟩
    go_wp2_with fail
    refine (degree_any ys _ _ _ _ HBY.out hmy (KEY.out _ below_oneG).2).mono ?_
    rintro e w' ⟨rfl, rfl⟩
    go_wp2_with fail
    refine (compare_any _ _ _).mono ?_
    rintro e w' ⟨rfl, rfl⟩
    go_wp2
    go_ret
    exact ⟨rfl, below_oneG⟩

set_option maxHeartbeats 1000000 in
theorem order_ok (p n o v : Int) (x y : Value) (xs ys : List Int) (w : World) (hs : Sl w x xs) (hs2 : Sl w y ys) (hz : errAll p n o v [xs, ys] = 0) :
    Calls Try.prog 25 #[ringV p n o v, x, y] w fun e w' => e = .returned (.tuple #[.int .i64 (ordS o xs ys), .int .i64 0]) ∧ Below w.heap.size w w' := by
  obtain ⟨hr, hx, hy⟩ := errAll_two hz
  obtain ⟨_, hn1, hn2, ho, _⟩ := ring_ok hr
  obtain ⟨hlx, hbx, _⟩ := errM_ok hx
  obtain ⟨hly, hby, _⟩ := errM_ok hy
  have HZ := hid hz
  have HS := hid hs
  have HS2 := hid hs2
  have HO := hid ho
  have hmx : xs.length ≤ 3 := by omega
  have h0 : 0 < xs.length := by omega
  have HXY := hid (show xs.length = ys.length by omega)
  have HBX := hid (show ∀ x ∈ xs, 0 ≤ x ∧ x ≤ 400 from fun x h => by have := hbx x h; omega)
  have HBY := hid (show ∀ x ∈ ys, 0 ≤ x ∧ x ≤ 400 from fun x h => by have := hby x h; omega)
  obtain ⟨a, cap, rfl, _⟩ := hs
  obtain ⟨a2, cap2, rfl, _⟩ := hs2
  clear hz hr hx hy hlx hly hbx hby ho
  go_enter Try.func25, Try.ntmps25
  go_wp2_with fail
  refine (checkAll_any p n o v [xs, ys] _ _ _ _ (by simp) (by simp) ?_).mono ?_
  · exact (HS.out.below below_two).sls2 (HS2.out.below below_two) (by simp [go_sem]) (by simp [go_sem])
  rintro e w1 ⟨rfl, hb1⟩
  have hb0 : Below w.heap.size w w1 := below_two.trans (hb1.mono (by simp; omega))
  have hbox0 : w1.cell? ⟨w.heap.size, 0, none⟩ = some (.int .i64 p) := by rw [hb1.cell (p := ⟨w.heap.size, 0, none⟩) (by simp; omega)]; simp [go_sem]
  have hbox1 : w1.cell? ⟨w.heap.size, 1, none⟩ = some (.int .i64 n) := by rw [hb1.cell (p := ⟨w.heap.size, 1, none⟩) (by simp; omega)]; simp [go_sem]
  have hbox2 : w1.cell? ⟨w.heap.size, 2, none⟩ = some (.int .i64 o) := by rw [hb1.cell (p := ⟨w.heap.size, 2, none⟩) (by simp; omega)]; simp [go_sem]
  have hbox3 : w1.cell? ⟨w.heap.size, 3, none⟩ = some (.int .i64 v) := by rw [hb1.cell (p := ⟨w.heap.size, 3, none⟩) (by simp; omega)]; simp [go_sem]
  rw [HZ.out]
  clear hb1
  go_wp2_with fail
  refine (bareCompare_any p n o v _ _ xs ys _ HO.out h0 hmx HXY.out HBX.out HBY.out (HS.out.below hb0) (HS2.out.below hb0)).mono ?_
  rintro e w2 ⟨rfl, hb2⟩
  go_wp2
  go_ret2
  exact ⟨rfl, hb0.trans (hb2.mono hb0.size)⟩

end Go.Proofs.Ytbjellgkmolifaa
