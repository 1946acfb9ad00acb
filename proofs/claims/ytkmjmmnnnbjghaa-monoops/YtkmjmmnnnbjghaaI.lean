/- together, Times, Least, Over. -/
import Derived.Test.YtkmjmmnnnbjghaaH
namespace Go.Proofs.Ytkmjmmnnnbjghaa
set_option linter.unusedSimpArgs false
set_option linter.unusedVariables false
open Go.RowKit

def tgE (g : Int → Int → Int) (p n o v : Int) (xs ys : List Int) : Int :=
  if errAll p n o v [xs, ys] = 0 then (if 200 < sumI (zipI g xs ys) then 2 else 0) else errAll p n o v [xs, ys]
def tgR (g : Int → Int → Int) (p n o v : Int) (xs ys : List Int) : List Int := if tgE g p n o v xs ys = 0 then zipI g xs ys else []

theorem Sl.empty (w : World) : Sl w (.slice none 0 0) [] := ⟨none, 0, rfl, fun h => absurd h (by simp)⟩
theorem OwnK.sl {w w' : World} {zs : List Int} (h : OwnK w w' zs.length zs.length zs) : Sl w' (.slice (some ⟨w.heap.size, 0, none⟩) zs.length zs.length) zs :=
  ⟨_, _, rfl, fun _ => ⟨_, _, rfl, h.2.1, fun i hi => by rw [Nat.zero_add]; exact h.2.2.2 i hi⟩⟩
theorem zipI_mem {g : Int → Int → Int} {xs ys : List Int} {a b : Int} (hg : ∀ x y, 0 ≤ x ∧ x ≤ 200 → 0 ≤ y ∧ y ≤ 200 → a ≤ g x y ∧ g x y ≤ b) (hx : ∀ x ∈ xs, 0 ≤ x ∧ x ≤ 200) (hy : ∀ x ∈ ys, 0 ≤ x ∧ x ≤ 200) : ∀ z ∈ zipI g xs ys, a ≤ z ∧ z ≤ b := by
  induction xs generalizing ys with
  | nil => intro z hz; simp [zipI] at hz
  | cons x xs ih => cases ys with
    | nil => intro z hz; simp [zipI] at hz
    | cons y ys =>
      intro z hz
      simp only [zipI, List.mem_cons] at hz
      rcases hz with rfl | hz
      · exact hg _ _ (hx _ (by simp)) (hy _ (by simp))
      · exact ih (fun x h => hx x (by simp [h])) (fun x h => hy x (by simp [h])) z hz

set_option maxHeartbeats 1000000 in
theorem togetherTimes_any (p n o v : Int) (x y : Value) (xs ys : List Int) (w : World) (hs : Sl w x xs) (hs2 : Sl w y ys) :
    Calls Try.prog 62 #[ringV p n o v, x, y, .func (.func 63) #[] #[]] w fun e w' =>
      ∃ u, e = .returned (.tuple #[u, .int .i64 (tgE (· + ·) p n o v xs ys)]) ∧ Sl w' u (tgR (· + ·) p n o v xs ys) ∧ Below w.heap.size w w' := by
  have HS := hid hs
  have HS2 := hid hs2
  cases hz : (errAll p n o v [xs, ys] != 0)
  · have hz0 : errAll p n o v [xs, ys] = 0 := by simpa using hz
    obtain ⟨hr, hx, hy⟩ := errAll_two hz0
    obtain ⟨_, hn1, hn2, ho, _⟩ := ring_ok hr
    obtain ⟨hlx, hbx, _⟩ := errM_ok hx
    obtain ⟨hly, hby, _⟩ := errM_ok hy
    have hmx : xs.length ≤ 3 := by omega
    have hxy : xs.length = ys.length := by omega
    have HXY := hid hxy
    have HB := hid (And.intro hbx hby)
    obtain ⟨a, cap, rfl, h1⟩ := hs
    obtain ⟨a2, cap2, rfl, h2⟩ := hs2
    obtain ⟨b, off, rfl, hlt, hc⟩ := h1 (by omega)
    obtain ⟨b2, off2, rfl, hlt2, hc2⟩ := h2 (by omega)
    have HC := hid hc
    have HC2 := hid hc2
    have hlz := zipI_len (· + ·) xs ys hxy
    have hbz := zipI_mem (g := (· + ·)) (a := 0) (b := 400) (by intro x y h1 h2; show 0 ≤ x + y ∧ x + y ≤ 400; omega) hbx hby
    have HLZ := hid hlz
    have HBZ := hid hbz
    have HE : Hid (∀ c : Prop, [Decidable c] → c = (200 < sumI (zipI (· + ·) xs ys)) → tgE (· + ·) p n o v xs ys = if c then 2 else 0) := by
      intro c _ hc; subst hc; unfold tgE; rw [if_pos hz0]; congr
    have HR : Hid (200 < sumI (zipI (· + ·) xs ys) → tgE (· + ·) p n o v xs ys = 2 ∧ tgR (· + ·) p n o v xs ys = []) := by
      intro h
      have e1 : tgE (· + ·) p n o v xs ys = 2 := by unfold tgE; rw [if_pos hz0, if_pos h]
      exact ⟨e1, by unfold tgR; rw [if_neg (by rw [e1]; decide)]⟩
    have HQ : Hid (¬ 200 < sumI (zipI (· + ·) xs ys) → tgE (· + ·) p n o v xs ys = 0 ∧ tgR (· + ·) p n o v xs ys = zipI (· + ·) xs ys) := by
      intro h
      have e1 : tgE (· + ·) p n o v xs ys = 0 := by unfold tgE; rw [if_pos hz0, if_neg h]
      exact ⟨e1, by unfold tgR; rw [if_pos e1]⟩
    have HZ0 := hid hz0
    clear hz0 hr hx hy hlx hly h1 h2 hc hc2 hbx hby hlz hbz hxy HE
    go_enter Try.func62, Try.ntmps62
    go_wp2_with fail
    refine (checkAll_any p n o v [xs, ys] _ _ _ _ (by simp) (by simp) ?_).mono ?_
    · exact (HS.out.below below_two).sls2 (HS2.out.below below_two) (by simp [go_sem]) (by simp [go_sem])
    rintro e w1 ⟨rfl, hb1⟩
    have hb0 : Below w.heap.size w w1 := below_two.trans (hb1.mono (by simp; omega))
    have hsz : w.heap.size ≤ w1.heap.size := hb0.size
    rw [HZ0.out]
    clear hb1
    go_wp2_with fail
    refine (eachTimes_any xs ys _ _ _ _ _ _ _ hmx HXY.out HB.out.1 HB.out.2 (by omega) (by omega) ?_ ?_).mono ?_
    · intro i hi; rw [hb0.cell (p := ⟨b, off + i, none⟩) hlt]; exact HC.out i hi
    · intro i hi; rw [hb0.cell (p := ⟨b2, off2 + i, none⟩) hlt2]; exact HC2.out i hi
    rintro e w2 ⟨rfl, how⟩
    have HOW : Hid (OwnK w1 w2 (zipI (· + ·) xs ys).length (zipI (· + ·) xs ys).length (zipI (· + ·) xs ys)) := by rw [HLZ.out]; exact how
    have hb2 : Below w.heap.size w w2 := hb0.trans (how.1.mono hsz)
    have hmz : (zipI (· + ·) xs ys).length ≤ 3 := by rw [HLZ.out]; exact hmx
    rw [← HLZ.out]
    clear how
    go_wp2_with fail
    refine (degree_any (zipI (· + ·) xs ys) _ _ _ _ HBZ.out hmz ?_).mono ?_
    · intro i hi; rw [Nat.zero_add]; exact HOW.out.2.2.2 i hi
    rintro e w' ⟨rfl, rfl⟩
    by_cases hd : 200 < sumI (zipI (· + ·) xs ys)
    · go_wp2
      go_ret2
      obtain ⟨e1, e2⟩ := HR.out hd
      rw [e1, e2]
      exact ⟨_, rfl, Sl.empty _, hb2⟩
    · go_wp2
      go_ret2
      obtain ⟨e1, e2⟩ := HQ.out (by omega)
      rw [e1, e2]
      exact ⟨_, rfl, HOW.out.sl, hb2⟩
  · have e1 : tgE (· + ·) p n o v xs ys = errAll p n o v [xs, ys] := by unfold tgE; rw [if_neg (by simpa using hz)]
    have e2 : tgR (· + ·) p n o v xs ys = [] := by unfold tgR; rw [if_neg (by rw [e1]; simpa using hz)]
    rw [e1, e2]
    clear e1 e2
    obtain ⟨a, cap, rfl, _⟩ := hs
    obtain ⟨a2, cap2, rfl, _⟩ := hs2
    go_enter Try.func62, Try.ntmps62
    go_wp2_with fail
    refine (checkAll_any p n o v [xs, ys] _ _ _ _ (by simp) (by simp) ?_).mono ?_
    · exact (HS.out.below below_two).sls2 (HS2.out.below below_two) (by simp [go_sem]) (by simp [go_sem])
    rintro e w1 ⟨rfl, hb1⟩
    go_wp2
    go_ret2
    exact ⟨_, rfl, Sl.empty _, below_two.trans (hb1.mono (by simp; omega))⟩

set_option maxHeartbeats 400000 in
theorem monoTimes_any (p n o v : Int) (x y : Value) (xs ys : List Int) (w : World) (hs : Sl w x xs) (hs2 : Sl w y ys) :
    Calls Try.prog 22 #[ringV p n o v, x, y] w fun e w' =>
      ∃ u, e = .returned (.tuple #[u, .int .i64 (tgE (· + ·) p n o v xs ys)]) ∧ Sl w' u (tgR (· + ·) p n o v xs ys) ∧ Below w.heap.size w w' := by
  have HS := hid hs
  have HS2 := hid hs2
  clear hs hs2
  have hb1 : ∀ A, Below w.heap.size w (w.alloc A) := fun A => (Below.refl _ _).alloc (Nat.le_refl _) _
  go_enter Try.func22, Try.ntmps22
  go_wp2_with fail
  refine (togetherTimes_any p n o v x y xs ys _ ?_ ?_).mono ?_
  · exact HS.out.below (hb1 _)
  · exact HS2.out.below (hb1 _)
  rintro e w1 ⟨u, rfl, hu, hb⟩
  obtain ⟨a, cap, rfl, _⟩ := id hu
  have HU := hid hu
  clear hu
  go_wp2
  go_ret2
  exact ⟨_, rfl, HU.out, (hb1 _).trans (hb.mono (by simp))⟩

set_option maxHeartbeats 1000000 in
theorem togetherLeast_any (p n o v : Int) (x y : Value) (xs ys : List Int) (w : World) (hs : Sl w x xs) (hs2 : Sl w y ys) :
    Calls Try.prog 62 #[ringV p n o v, x, y, .func (.func 68) #[] #[]] w fun e w' =>
      ∃ u, e = .returned (.tuple #[u, .int .i64 (tgE lst p n o v xs ys)]) ∧ Sl w' u (tgR lst p n o v xs ys) ∧ Below w.heap.size w w' := by
  have HS := hid hs
  have HS2 := hid hs2
  cases hz : (errAll p n o v [xs, ys] != 0)
  · have hz0 : errAll p n o v [xs, ys] = 0 := by simpa using hz
    obtain ⟨hr, hx, hy⟩ := errAll_two hz0
    obtain ⟨_, hn1, hn2, ho, _⟩ := ring_ok hr
    obtain ⟨hlx, hbx, _⟩ := errM_ok hx
    obtain ⟨hly, hby, _⟩ := errM_ok hy
    have hmx : xs.length ≤ 3 := by omega
    have hxy : xs.length = ys.length := by omega
    have HXY := hid hxy
    have HB := hid (And.intro hbx hby)
    obtain ⟨a, cap, rfl, h1⟩ := hs
    obtain ⟨a2, cap2, rfl, h2⟩ := hs2
    obtain ⟨b, off, rfl, hlt, hc⟩ := h1 (by omega)
    obtain ⟨b2, off2, rfl, hlt2, hc2⟩ := h2 (by omega)
    have HC := hid hc
    have HC2 := hid hc2
    have hlz := zipI_len lst xs ys hxy
    have hbz := zipI_mem (g := lst) (a := 0) (b := 400) (by intro x y h1 h2; unfold lst; split <;> omega) hbx hby
    have HLZ := hid hlz
    have HBZ := hid hbz
    have HE : Hid (∀ c : Prop, [Decidable c] → c = (200 < sumI (zipI lst xs ys)) → tgE lst p n o v xs ys = if c then 2 else 0) := by
      intro c _ hc; subst hc; unfold tgE; rw [if_pos hz0]; congr
    have HR : Hid (200 < sumI (zipI lst xs ys) → tgE lst p n o v xs ys = 2 ∧ tgR lst p n o v xs ys = []) := by
      intro h
      have e1 : tgE lst p n o v xs ys = 2 := by unfold tgE; rw [if_pos hz0, if_pos h]
      exact ⟨e1, by unfold tgR; rw [if_neg (by rw [e1]; decide)]⟩
    have HQ : Hid (¬ 200 < sumI (zipI lst xs ys) → tgE lst p n o v xs ys = 0 ∧ tgR lst p n o v xs ys = zipI lst xs ys) := by
      intro h
      have e1 : tgE lst p n o v xs ys = 0 := by unfold tgE; rw [if_pos hz0, if_neg h]
      exact ⟨e1, by unfold tgR; rw [if_pos e1]⟩
    have HZ0 := hid hz0
    clear hz0 hr hx hy hlx hly h1 h2 hc hc2 hbx hby hlz hbz hxy HE
    go_enter Try.func62, Try.ntmps62
    go_wp2_with fail
    refine (checkAll_any p n o v [xs, ys] _ _ _ _ (by simp) (by simp) ?_).mono ?_
    · exact (HS.out.below below_two).sls2 (HS2.out.below below_two) (by simp [go_sem]) (by simp [go_sem])
    rintro e w1 ⟨rfl, hb1⟩
    have hb0 : Below w.heap.size w w1 := below_two.trans (hb1.mono (by simp; omega))
    have hsz : w.heap.size ≤ w1.heap.size := hb0.size
    rw [HZ0.out]
    clear hb1
    go_wp2_with fail
    refine (eachLeast_any xs ys _ _ _ _ _ _ _ hmx HXY.out HB.out.1 HB.out.2 (by omega) (by omega) ?_ ?_).mono ?_
    · intro i hi; rw [hb0.cell (p := ⟨b, off + i, none⟩) hlt]; exact HC.out i hi
    · intro i hi; rw [hb0.cell (p := ⟨b2, off2 + i, none⟩) hlt2]; exact HC2.out i hi
    rintro e w2 ⟨rfl, how⟩
    have HOW : Hid (OwnK w1 w2 (zipI lst xs ys).length (zipI lst xs ys).length (zipI lst xs ys)) := by rw [HLZ.out]; exact how
    have hb2 : Below w.heap.size w w2 := hb0.trans (how.1.mono hsz)
    have hmz : (zipI lst xs ys).length ≤ 3 := by rw [HLZ.out]; exact hmx
    rw [← HLZ.out]
    clear how
    go_wp2_with fail
    refine (degree_any (zipI lst xs ys) _ _ _ _ HBZ.out hmz ?_).mono ?_
    · intro i hi; rw [Nat.zero_add]; exact HOW.out.2.2.2 i hi
    rintro e w' ⟨rfl, rfl⟩
    by_cases hd : 200 < sumI (zipI lst xs ys)
    · go_wp2
      go_ret2
      obtain ⟨e1, e2⟩ := HR.out hd
      rw [e1, e2]
      exact ⟨_, rfl, Sl.empty _, hb2⟩
    · go_wp2
      go_ret2
      obtain ⟨e1, e2⟩ := HQ.out (by omega)
      rw [e1, e2]
      exact ⟨_, rfl, HOW.out.sl, hb2⟩
  · have e1 : tgE lst p n o v xs ys = errAll p n o v [xs, ys] := by unfold tgE; rw [if_neg (by simpa using hz)]
    have e2 : tgR lst p n o v xs ys = [] := by unfold tgR; rw [if_neg (by rw [e1]; simpa using hz)]
    rw [e1, e2]
    clear e1 e2
    obtain ⟨a, cap, rfl, _⟩ := hs
    obtain ⟨a2, cap2, rfl, _⟩ := hs2
    go_enter Try.func62, Try.ntmps62
    go_wp2_with fail
    refine (checkAll_any p n o v [xs, ys] _ _ _ _ (by simp) (by simp) ?_).mono ?_
    · exact (HS.out.below below_two).sls2 (HS2.out.below below_two) (by simp [go_sem]) (by simp [go_sem])
    rintro e w1 ⟨rfl, hb1⟩
    go_wp2
    go_ret2
    exact ⟨_, rfl, Sl.empty _, below_two.trans (hb1.mono (by simp; omega))⟩

set_option maxHeartbeats 400000 in
theorem monoLeast_any (p n o v : Int) (x y : Value) (xs ys : List Int) (w : World) (hs : Sl w x xs) (hs2 : Sl w y ys) :
    Calls Try.prog 24 #[ringV p n o v, x, y] w fun e w' =>
      ∃ u, e = .returned (.tuple #[u, .int .i64 (tgE lst p n o v xs ys)]) ∧ Sl w' u (tgR lst p n o v xs ys) ∧ Below w.heap.size w w' := by
  have HS := hid hs
  have HS2 := hid hs2
  clear hs hs2
  have hb1 : ∀ A, Below w.heap.size w (w.alloc A) := fun A => (Below.refl _ _).alloc (Nat.le_refl _) _
  go_enter Try.func24, Try.ntmps24
  go_wp2_with fail
  refine (togetherLeast_any p n o v x y xs ys _ ?_ ?_).mono ?_
  · exact HS.out.below (hb1 _)
  · exact HS2.out.below (hb1 _)
  rintro e w1 ⟨u, rfl, hu, hb⟩
  obtain ⟨a, cap, rfl, _⟩ := id hu
  have HU := hid hu
  clear hu
  go_wp2
  go_ret2
  exact ⟨_, rfl, HU.out, (hb1 _).trans (hb.mono (by simp))⟩

end Go.Proofs.Ytkmjmmnnnbjghaa
