/- Order. -/
import Derived.Test.YtilogbggilchaaaDoorF
namespace Go.Proofs.YtilogbggilchaaaDoor
set_option linter.unusedSimpArgs false
set_option linter.unusedVariables false
open Go.RowKit
theorem below_two {w : World} {A B : Obj} : Below w.heap.size w ((w.alloc A).alloc B) := ((Below.refl _ _).alloc (Nat.le_refl _) _).alloc (by simp) _
theorem below_ndraws {w W : World} {B : Nat} (h : Below B w W) {w' : World} (hd : ∃ n, w' = W.drewN n) : Below B w w' := by
  obtain ⟨n, rfl⟩ := hd; exact below_drewN h n

theorem ordS_deg {o : Int} {xs ys : List Int} (h : (cmpI (sumI xs) (sumI ys) != 0) = true) : ordS o xs ys = cmpI (sumI xs) (sumI ys) := by
  unfold ordS; rw [if_neg (by simpa using h)]
theorem ordS_rev {xs ys : List Int} (h : (cmpI (sumI xs) (sumI ys) != 0) = false) : ordS 1 xs ys = revC xs ys := by
  unfold ordS; rw [if_pos (by simpa using h), if_pos rfl]
theorem ordS_lex {xs ys : List Int} (h : (cmpI (sumI xs) (sumI ys) != 0) = false) : ordS 2 xs ys = lexC xs ys := by
  unfold ordS; rw [if_pos (by simpa using h), if_neg (by omega)]

theorem below_oneG {w : World} {A : Obj} : Below w.heap.size w (w.alloc A) := (Below.refl _ _).alloc (Nat.le_refl _) _

set_option maxHeartbeats 1000000 in
theorem bareCompare_any (p n o v : Int) (x y : Value) (xs ys : List Int) (w : World) (ho : o = 1 ∨ o = 2) (h0 : 0 < xs.length) (hm : xs.length ≤ 3) (hxy : xs.length = ys.length)
    (hbx : ∀ x ∈ xs, 0 ≤ x ∧ x ≤ 400) (hby : ∀ x ∈ ys, 0 ≤ x ∧ x ≤ 400) (hs : Sl w x xs) (hs2 : Sl w y ys) :
    Calls Tryd.prog 75 #[ringV p n o v, x, y] w fun e w' => e = .returned (.int .i64 (ordS o xs ys)) ∧ Below w.heap.size w w' := by
  have HXY := hid hxy
  have HBX := hid hbx
  have HBY := hid hby
  have hmy : ys.length ≤ 3 := by omega
  obtain ⟨a, cap, rfl, h1⟩ := hs
  obtain ⟨a2, cap2, rfl, h2⟩ := hs2
  obtain ⟨b, off, rfl, hlt, hc⟩ := h1 h0
  obtain ⟨b2, off2, rfl, hlt2, hc2⟩ := h2 (by omega)
  have HC := hid hc
  have HC2 := hid hc2
  clear hxy hbx hby h1 h2 hc hc2
  have key : ∀ w1 : World, Below w.heap.size w w1 → IntsAt w1 b off xs ∧ IntsAt w1 b2 off2 ys := fun w1 hb =>
    ⟨fun i hi => by rw [hb.cell (p := ⟨b, off + i, none⟩) hlt]; exact HC.out i hi, fun i hi => by rw [hb.cell (p := ⟨b2, off2 + i, none⟩) hlt2]; exact HC2.out i hi⟩
  have KEY := hid key
  clear key
  cases hd : (cmpI (sumI xs) (sumI ys) != 0)
  · rcases ho with rfl | rfl
    · rw [ordS_rev hd]
      go_enter Tryd.func75, Tryd.ntmps75
      go_wp2_with fail
      refine (degree_any xs _ _ _ _ HBX.out hm (KEY.out _ below_oneG).1).mono ?_
      rintro e w' ⟨rfl, rfl⟩
      go_wp2_with fail
      refine (degree_any ys _ _ _ _ HBY.out hmy (KEY.out _ below_oneG).2).mono ?_
      rintro e w' ⟨rfl, rfl⟩
      go_wp2_with fail
      refine (compare_any _ _ _).mono ?_
      rintro e w' ⟨rfl, rfl⟩
      go_wp2_with fail
      refine (revCompare_any xs ys _ _ _ _ _ _ _ hm HXY.out (KEY.out _ below_oneG).1 (KEY.out _ below_oneG).2).mono ?_
      rintro e w1 ⟨rfl, hd2⟩
      go_wp2
      go_ret
      exact ⟨rfl, below_ndraws below_oneG hd2⟩
    · rw [ordS_lex hd]
      go_enter Tryd.func75, Tryd.ntmps75
      go_wp2_with fail
      refine (degree_any xs _ _ _ _ HBX.out hm (KEY.out _ below_oneG).1).mono ?_
      rintro e w' ⟨rfl, rfl⟩
      go_wp2_with fail
      refine (degree_any ys _ _ _ _ HBY.out hmy (KEY.out _ below_oneG).2).mono ?_
      rintro e w' ⟨rfl, rfl⟩
      go_wp2_with fail
      refine (compare_any _ _ _).mono ?_
      rintro e w' ⟨rfl, rfl⟩
      go_wp2_with fail
      refine (lexCompare_any xs ys _ _ _ _ _ _ _ hm HXY.out (KEY.out _ below_oneG).1 (KEY.out _ below_oneG).2).mono ?_
      rintro e w' ⟨rfl, rfl⟩
      go_wp2
      go_ret
      exact ⟨rfl, below_oneG⟩
  · rw [ordS_deg hd]
    go_enter Tryd.func75, Tryd.ntmps75
    go_wp2_with fail
    refine (degree_any xs _ _ _ _ HBX.out hm (KEY.out _ below_oneG).1).mono ?_
    rintro e w' ⟨rfl, rfl⟩
    go_wp2_with fail
    refine (degree_any ys _ _ _ _ HBY.out hmy (KEY.out _ below_oneG).2).mono ?_
    rintro e w' ⟨rfl, rfl⟩
    go_wp2_with fail
    refine (compare_any _ _ _).mono ?_
    rintro e w' ⟨rfl, rfl⟩
    go_wp2
    go_ret
    exact ⟨rfl, below_oneG⟩
end Go.Proofs.YtilogbggilchaaaDoor
