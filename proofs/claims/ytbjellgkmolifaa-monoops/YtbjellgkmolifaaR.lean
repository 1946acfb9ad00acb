/- Over; CheckMono, CheckMonos of the reference. -/
import Derived.Test.YtbjellgkmolifaaQ
import Derived.Deep.DeepCutAuto
namespace Go.Proofs.Ytbjellgkmolifaa
set_option linter.unusedSimpArgs false
set_option linter.unusedVariables false
open Go.RowKit

def ovE (p n o v : Int) (xs ys : List Int) : Int :=
  if errAll p n o v [xs, ys] = 0 then (if lackB xs ys then 5 else 0) else errAll p n o v [xs, ys]
def ovR (p n o v : Int) (xs ys : List Int) : List Int := if ovE p n o v xs ys = 0 then zipI (· - ·) xs ys else []

set_option maxHeartbeats 1000000 in
theorem monoOver_any (p n o v : Int) (x y : Value) (xs ys : List Int) (w : World) (hs : Sl w x xs) (hs2 : Sl w y ys) :
    Calls Try.prog 23 #[ringV p n o v, x, y] w fun e w' =>
      ∃ u, e = .returned (.tuple #[u, .int .i64 (ovE p n o v xs ys)]) ∧ Sl w' u (ovR p n o v xs ys) ∧ Below w.heap.size w w' := by
  have HS := hid hs
  have HS2 := hid hs2
  cases hz : (errAll p n o v [xs, ys] != 0)
  · have hz0 : errAll p n o v [xs, ys] = 0 := by simpa using hz
    obtain ⟨hr, hx, hy⟩ := errAll_two hz0
    obtain ⟨_, hn1, hn2, ho, _⟩ := ring_ok hr
    obtain ⟨hlx, hbx, _⟩ := errM_ok hx
    obtain ⟨hly, hby, _⟩ := errM_ok hy
    have hmx : xs.length ≤ 3 := by omega
    have hxy : xs.length = ys.length := by omega
    have HXY := hid hxy
    have HB := hid (And.intro hbx hby)
    obtain ⟨a, cap, rfl, h1⟩ := hs
    obtain ⟨a2, cap2, rfl, h2⟩ := hs2
    obtain ⟨b, off, rfl, hlt, hc⟩ := h1 (by omega)
    obtain ⟨b2, off2, rfl, hlt2, hc2⟩ := h2 (by omega)
    have HC := hid hc
    have HC2 := hid hc2
    have hlz := zipI_len (· - ·) xs ys hxy
    have hbz := zipI_mem (g := (· - ·)) (a := -200) (b := 200) (by intro x y h1 h2; show -200 ≤ x - y ∧ x - y ≤ 200; omega) hbx hby
    have HLZ := hid hlz
    have HBZ := hid hbz
    have HR : Hid (lackB xs ys = true → ovE p n o v xs ys = 5 ∧ ovR p n o v xs ys = []) := by
      intro h
      have e1 : ovE p n o v xs ys = 5 := by unfold ovE; rw [if_pos hz0, if_pos h]
      exact ⟨e1, by unfold ovR; rw [if_neg (by rw [e1]; decide)]⟩
    have HQ : Hid (lackB xs ys = false → ovE p n o v xs ys = 0 ∧ ovR p n o v xs ys = zipI (· - ·) xs ys) := by
      intro h
      have e1 : ovE p n o v xs ys = 0 := by unfold ovE; rw [if_pos hz0, if_neg (by simp [h])]
      exact ⟨e1, by unfold ovR; rw [if_pos e1]⟩
    have HZ0 := hid hz0
    have hx0 : 0 < xs.length := by omega
    clear hz0 hr hx hy hlx hly h1 h2 hc hc2 hbx hby hlz hbz hxy
    go_enter Try.func23, Try.ntmps23
    go_wp2_with fail
    refine (checkAll_any p n o v [xs, ys] _ _ _ _ (by simp) (by simp) ?_).mono ?_
    · exact (HS.out.below below_two).sls2 (HS2.out.below below_two) (by simp [go_sem]) (by simp [go_sem])
    rintro e w1 ⟨rfl, hb1⟩
    have hb0 : Below w.heap.size w w1 := below_two.trans (hb1.mono (by simp; omega))
    have hsz : w.heap.size ≤ w1.heap.size := hb0.size
    rw [HZ0.out]
    clear hb1
    go_wp2_with fail
    refine (eachOver_any xs ys _ _ _ _ _ _ _ hmx HXY.out HB.out.1 HB.out.2 (by omega) (by omega) ?_ ?_).mono ?_
    · intro i hi; rw [hb0.cell (p := ⟨b, off + i, none⟩) hlt]; exact HC.out i hi
    · intro i hi; rw [hb0.cell (p := ⟨b2, off2 + i, none⟩) hlt2]; exact HC2.out i hi
    rintro e w2 ⟨rfl, how⟩
    have HOW : Hid (OwnK w1 w2 (zipI (· - ·) xs ys).length (zipI (· - ·) xs ys).length (zipI (· - ·) xs ys)) := by rw [HLZ.out]; exact how
    have hb2 : Below w.heap.size w w2 := hb0.trans (how.1.mono hsz)
    have hmz : (zipI (· - ·) xs ys).length ≤ 3 := by rw [HLZ.out]; exact hmx
    rw [← HLZ.out]
    clear how
    go_wp2_with fail
    refine (min_any (zipI (· - ·) xs ys) _ _ _ _ hmz (by rw [HLZ.out]; exact hx0) ?_).mono ?_
    · intro i hi; rw [Nat.zero_add]; exact HOW.out.2.2.2 i hi
    rintro e w' ⟨r, rfl, hr, rfl⟩
    have HRR := hid hr
    by_cases hd : r < 0
    · clear hr
      go_wp2
      go_ret2
      obtain ⟨e1, e2⟩ := HR.out (by show (zipI _ xs ys).any negI = true; rw [← HRR.out]; exact decide_eq_true hd)
      rw [e1, e2]
      exact ⟨_, rfl, Sl.empty _, hb2⟩
    · clear hr
      go_wp2
      go_ret2
      obtain ⟨e1, e2⟩ := HQ.out (by show (zipI _ xs ys).any negI = false; rw [← HRR.out]; exact decide_eq_false (by omega))
      rw [e1, e2]
      exact ⟨_, rfl, HOW.out.sl, hb2⟩
  · have e1 : ovE p n o v xs ys = errAll p n o v [xs, ys] := by unfold ovE; rw [if_neg (by simpa using hz)]
    have e2 : ovR p n o v xs ys = [] := by unfold ovR; rw [if_neg (by rw [e1]; simpa using hz)]
    rw [e1, e2]
    clear e1 e2
    obtain ⟨a, cap, rfl, _⟩ := hs
    obtain ⟨a2, cap2, rfl, _⟩ := hs2
    go_enter Try.func23, Try.ntmps23
    go_wp2_with fail
    refine (checkAll_any p n o v [xs, ys] _ _ _ _ (by simp) (by simp) ?_).mono ?_
    · exact (HS.out.below below_two).sls2 (HS2.out.below below_two) (by simp [go_sem]) (by simp [go_sem])
    rintro e w1 ⟨rfl, hb1⟩
    go_wp2
    go_ret2
    exact ⟨_, rfl, Sl.empty _, below_two.trans (hb1.mono (by simp; omega))⟩

theorem outB_between (x : Int) : outB x = !betweenB x 0 200 := by
  unfold outB betweenB
  by_cases h1 : 0 ≤ x <;> by_cases h2 : x ≤ 200 <;> simp [h1, h2] <;> omega

set_option maxHeartbeats 400000 in
theorem checkMono_any (p n o v : Int) (x : Value) (xs : List Int) (w : World) (hn : 1 ≤ n ∧ n ≤ 3) (hs : Sl w x xs) :
    Calls Try.prog 70 #[ringV p n o v, x] w fun e w' => e = .returned (.int .i64 (errM n xs)) ∧ Below w.heap.size w w' := by
  obtain ⟨a, cap, rfl, hs⟩ := hs
  obtain ⟨hn1, hn2⟩ := hn
  by_cases hl : (xs.length : Int) = n
  · subst hl
    obtain ⟨b, off, rfl, hlt, hc⟩ := hs (by omega)
    clear hs
    have HC := hid hc
    clear hc
    have hm : xs.length ≤ 3 := by omega
    go_enter Try.func70, Try.ntmps70
    go_wp2
    go_loop [5] (fun i => ∃ k : Nat, k ≤ xs.length ∧ i = .int .i64 k ∧ (xs.take k).any outB = false) (fun i => xs.length - (intOf i).toNat)
    case atStart => exact ⟨0, Nat.zero_le _, rfl, by simp⟩
    case round =>
      obtain ⟨k, hk, rfl, hn⟩ := hrel
      have HN := hid hn
      clear hn
      by_cases hk2 : k < xs.length
      · have hcell := HC.out k hk2
        have H1 := hid (any_take outB xs k hk2 HN.out)
        have H2 := hid (any_at outB xs k hk2)
        rw [← World.cell?_alloc_lt (w := w) (o := .cells #[.int .i64 p, .int .i64 xs.length, .int .i64 o, .int .i64 v] 39) (a := ⟨b, off + k, none⟩) hlt] at hcell
        generalize xs.getD k 0 = y at hcell H1 H2
        rw [outB_between] at H1 H2
        cases hy : betweenB y 0 200
        · go_wp2_with (go_at_call 59; refine (between_any _ _ _ _).mono ?_; rintro e w' ⟨rfl, rfl⟩)
          go_ret
          refine ⟨ret_int ?_, below_one⟩
          unfold errM
          rw [if_neg (by simp), if_pos (H2.out (by rw [hy]; rfl))]
        · go_wp2_with (go_at_call 59; refine (between_any _ _ _ _).mono ?_; rintro e w' ⟨rfl, rfl⟩)
          go_round
          case rel => exact ⟨k + 1, by omega, by go_num, H1.out (by rw [hy]; rfl)⟩
          case measure => simp [intOf]; omega
      · have hy := HN.out
        rw [List.take_of_length_le (by omega)] at hy
        have hb := any_bd hy
        have hb2 := hid (show ∀ x ∈ xs, 0 ≤ x ∧ x ≤ 400 from fun x hx => by have := hb x hx; omega)
        have HE : Hid (errM xs.length xs = if 200 < sumI xs then 3 else 0) := by
          show errM xs.length xs = _
          unfold errM
          rw [if_neg (by simp), if_neg (by simp [hy])]
        clear hb hy
        go_wp2_with fail
        refine (degreeOf_any xs _ _ _ _ hb2.out hm ?_).mono ?_
        · intro i hi; rw [World.cell?_alloc_lt (w := w) (o := _) (a := ⟨b, off + i, none⟩) hlt]; exact HC.out i hi
        rintro e w' ⟨rfl, rfl⟩
        by_cases hd : 200 < sumI xs
        · go_wp2
          go_ret
          exact ⟨ret_int (by rw [HE.out, if_pos hd]), below_one⟩
        · go_wp2
          go_ret
          exact ⟨ret_int (by rw [HE.out, if_neg (by omega)]), below_one⟩
  · have he : errM n xs = 1 := by simp [errM, hl]
    rw [he]; clear he hs
    have hl2 : ((xs.length : Int) != n) = true := by simpa using hl
    clear hl
    go_enter Try.func70, Try.ntmps70
    go_wp2
    go_ret
    exact ⟨rfl, below_one⟩

end Go.Proofs.Ytbjellgkmolifaa
