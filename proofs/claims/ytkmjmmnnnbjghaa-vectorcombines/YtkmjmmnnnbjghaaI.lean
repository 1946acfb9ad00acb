/- together, Times, Least, Over. -/
import Derived.Test.YtkmjmmnnnbjghaaA
import Derived.Deep.DeepCutAuto
import Derived.ProofKit
import Derived.OpenShut
import Derived.ShutString
import Derived.ChangeOld
import Derived.Lib.SmallJoins
namespace Go.Proofs.Ytkmjmmnnnbjghaa
set_option linter.unusedSimpArgs false
set_option linter.unusedVariables false
open Go.RowKit

def tgE (g : Int → Int → Int) (p n o v : Int) (xs ys : List Int) : Int :=
  if errAll p n o v [xs, ys] = 0 then (if 200 < sumI (zipI g xs ys) then 2 else 0) else errAll p n o v [xs, ys]
def tgR (g : Int → Int → Int) (p n o v : Int) (xs ys : List Int) : List Int := if tgE g p n o v xs ys = 0 then zipI g xs ys else []

theorem Sl.empty (w : World) : Sl w (.slice none 0 0) [] := ⟨none, 0, rfl, fun h => absurd h (by simp)⟩
theorem OwnK.sl {w w' : World} {zs : List Int} (h : OwnK w w' zs.length zs.length zs) : Sl w' (.slice (some ⟨w.heap.size, 0, none⟩) zs.length zs.length) zs :=
  ⟨_, _, rfl, fun _ => ⟨_, _, rfl, h.2.1, fun i hi => by rw [Nat.zero_add]; exact h.2.2.2 i hi⟩⟩
theorem zipI_mem {g : Int → Int → Int} {xs ys : List Int} {a b : Int} (hg : ∀ x y, 0 ≤ x ∧ x ≤ 200 → 0 ≤ y ∧ y ≤ 200 → a ≤ g x y ∧ g x y ≤ b) (hx : ∀ x ∈ xs, 0 ≤ x ∧ x ≤ 200) (hy : ∀ x ∈ ys, 0 ≤ x ∧ x ≤ 200) : ∀ z ∈ zipI g xs ys, a ≤ z ∧ z ≤ b := by
  induction xs generalizing ys with
  | nil => intro z hz; simp [zipI] at hz
  | cons x xs ih => cases ys with
    | nil => intro z hz; simp [zipI] at hz
    | cons y ys =>
      intro z hz
      simp only [zipI, List.mem_cons] at hz
      rcases hz with rfl | hz
      · exact hg _ _ (hx _ (by simp)) (hy _ (by simp))
      · exact ih (fun x h => hx x (by simp [h])) (fun x h => hy x (by simp [h])) z hz

set_option maxHeartbeats 1000000 in
theorem togetherTimes_any (p n o v : Int) (x y : Value) (xs ys : List Int) (w : World) (hs : Sl w x xs) (hs2 : Sl w y ys) :
    Calls Try.prog 62 #[ringV p n o v, x, y, .func (.func 63) #[] #[]] w fun e w' =>
      ∃ u, e = .returned (.tuple #[u, .int .i64 (tgE (· + ·) p n o v xs ys)]) ∧ Sl w' u (tgR (· + ·) p n o v xs ys) ∧ Below w.heap.size w w' := by
  have HS := hid hs
  have HS2 := hid hs2
  cases hz : (errAll p n o v [xs, ys] != 0)
  · have hz0 : errAll p n o v [xs, ys] = 0 := by simpa using hz
    obtain ⟨hr, hx, hy⟩ := errAll_two hz0
    obtain ⟨_, hn1, hn2, ho, _⟩ := ring_ok hr
    obtain ⟨hlx, hbx, _⟩ := errM_ok hx
    obtain ⟨hly, hby, _⟩ := errM_ok hy
    have hmx : xs.length ≤ 3 := by omega
    have hxy : xs.length = ys.length := by omega
    have HXY := hid hxy
    have HB := hid (And.intro hbx hby)
    obtain ⟨a, cap, rfl, h1⟩ := hs
    obtain ⟨a2, cap2, rfl, h2⟩ := hs2
    obtain ⟨b, off, rfl, hlt, hc⟩ := h1 (by omega)
    obtain ⟨b2, off2, rfl, hlt2, hc2⟩ := h2 (by omega)
    have HC := hid hc
    have HC2 := hid hc2
    have hlz := zipI_len (· + ·) xs ys hxy
    have hbz := zipI_mem (g := (· + ·)) (a := 0) (b := 400) (by intro x y h1 h2; show 0 ≤ x + y ∧ x + y ≤ 400; omega) hbx hby
    have HLZ := hid hlz
    have HBZ := hid hbz
    have HE : Hid (∀ c : Prop, [Decidable c] → c = (200 < sumI (zipI (· + ·) xs ys)) → tgE (· + ·) p n o v xs ys = if c then 2 else 0) := by
      intro c _ hc; subst hc; unfold tgE; rw [if_pos hz0]; congr
    have HR : Hid (200 < sumI (zipI (· + ·) xs ys) → tgE (· + ·) p n o v xs ys = 2 ∧ tgR (· + ·) p n o v xs ys = []) := by
      intro h
      have e1 : tgE (· + ·) p n o v xs ys = 2 := by unfold tgE; rw [if_pos hz0, if_pos h]
      exact ⟨e1, by unfold tgR; rw [if_neg (by rw [e1]; decide)]⟩
    have HQ : Hid (¬ 200 < sumI (zipI (· + ·) xs ys) → tgE (· + ·) p n o v xs ys = 0 ∧ tgR (· + ·) p n o v xs ys = zipI (· + ·) xs ys) := by
      intro h
      have e1 : tgE (· + ·) p n o v xs ys = 0 := by unfold tgE; rw [if_pos hz0, if_neg h]
      exact ⟨e1, by unfold tgR; rw [if_pos e1]⟩
    have HZ0 := hid hz0
    clear hz0 hr hx hy hlx hly h1 h2 hc hc2 hbx hby hlz hbz hxy HE
    go_enter Try.func62, Try.ntmps62
    go_wp2_with fail
    refine (checkAll_any p n o v [xs, ys] _ _ _ _ (by simp) (by simp) ?_).mono ?_
    · exact (HS.out.below below_two).sls2 (HS2.out.below below_two) (by simp [go_sem]) (by simp [go_sem])
    rintro e w1 ⟨rfl, hb1⟩
    have hb0 : Below w.heap.size w w1 := below_two.trans (hb1.mono (by simp; omega))
    have hsz : w.heap.size ≤ w1.heap.size := hb0.size
    rw [HZ0.out]
    clear hb1
    go_wp2_with fail
    refine (eachTimes_any xs ys _ _ _ _ _ _ _ hmx HXY.out HB.out.1 HB.out.2 (by omega) (by omega) ?_ ?_).mono ?_
    · intro i hi; rw [hb0.cell (p := ⟨b, off + i, none⟩) hlt]; exact HC.out i hi
    · intro i hi; rw [hb0.cell (p := ⟨b2, off2 + i, none⟩) hlt2]; exact HC2.out i hi
    rintro e w2 ⟨rfl, how⟩
    have HOW : Hid (OwnK w1 w2 (zipI (· + ·) xs ys).length (zipI (· + ·) xs ys).length (zipI (· + ·) xs ys)) := by rw [HLZ.out]; exact how
    have hb2 : Below w.heap.size w w2 := hb0.trans (how.1.mono hsz)
    have hmz : (zipI (· + ·) xs ys).length ≤ 3 := by rw [HLZ.out]; exact hmx
    rw [← HLZ.out]
    clear how
    go_wp2_with fail
    refine (degree_any (zipI (· + ·) xs ys) _ _ _ _ HBZ.out hmz ?_).mono ?_
    · intro i hi; rw [Nat.zero_add]; exact HOW.out.2.2.2 i hi
    rintro e w' ⟨rfl, rfl⟩
    by_cases hd : 200 < sumI (zipI (· + ·) xs ys)
    · go_wp2
      go_ret2
      obtain ⟨e1, e2⟩ := HR.out hd
      rw [e1, e2]
      exact ⟨_, rfl, Sl.empty _, hb2⟩
    · go_wp2
      go_ret2
      obtain ⟨e1, e2⟩ := HQ.out (by omega)
      rw [e1, e2]
      exact ⟨_, rfl, HOW.out.sl, hb2⟩
  · have e1 : tgE (· + ·) p n o v xs ys = errAll p n o v [xs, ys] := by unfold tgE; rw [if_neg (by simpa using hz)]
    have e2 : tgR (· + ·) p n o v xs ys = [] := by unfold tgR; rw [if_neg (by rw [e1]; simpa using hz)]
    rw [e1, e2]
    clear e1 e2
    obtain ⟨a, cap, rfl, _⟩ := hs
    obtain ⟨a2, cap2, rfl, _⟩ := hs2
    go_enter Try.func62, Try.ntmps62
    go_wp2_with fail
    refine (checkAll_any p n o v [xs, ys] _ _ _ _ (by simp) (by simp) ?_).mono ?_
    · exact (HS.out.below below_two).sls2 (HS2.out.below below_two) (by simp [go_sem]) (by simp [go_sem])
    rintro e w1 ⟨rfl, hb1⟩
    go_wp2
    go_ret2
    exact ⟨_, rfl, Sl.empty _, below_two.trans (hb1.mono (by simp; omega))⟩

set_option maxHeartbeats 400000 in
theorem monoTimes_any (p n o v : Int) (x y : Value) (xs ys : List Int) (w : World) (hs : Sl w x xs) (hs2 : Sl w y ys) :
    Calls Try.prog 22 #[ringV p n o v, x, y] w fun e w' =>
      ∃ u, e = .returned (.tuple #[u, .int .i64 (tgE (· + ·) p n o v xs ys)]) ∧ Sl w' u (tgR (· + ·) p n o v xs ys) ∧ Below w.heap.size w w' := by
  have HS := hid hs
  have HS2 := hid hs2
  clear hs hs2
  have hb1 : ∀ A, Below w.heap.size w (w.alloc A) := fun A => (Below.refl _ _).alloc (Nat.le_refl _) _
  go_enter Try.func22, Try.ntmps22
  go_wp2_with fail
  refine (togetherTimes_any p n o v x y xs ys _ ?_ ?_).mono ?_
  · exact HS.out.below (hb1 _)
  · exact HS2.out.below (hb1 _)
  rintro e w1 ⟨u, rfl, hu, hb⟩
  obtain ⟨a, cap, rfl, _⟩ := id hu
  have HU := hid hu
  clear hu
  go_wp2
  go_ret2
  exact ⟨_, rfl, HU.out, (hb1 _).trans (hb.mono (by simp))⟩

set_option maxHeartbeats 1000000 in
theorem togetherLeast_any (p n o v : Int) (x y : Value) (xs ys : List Int) (w : World) (hs : Sl w x xs) (hs2 : Sl w y ys) :
    Calls Try.prog 62 #[ringV p n o v, x, y, .func (.func 68) #[] #[]] w fun e w' =>
      ∃ u, e = .returned (.tuple #[u, .int .i64 (tgE lst p n o v xs ys)]) ∧ Sl w' u (tgR lst p n o v xs ys) ∧ Below w.heap.size w w' := by
  have HS := hid hs
  have HS2 := hid hs2
  cases hz : (errAll p n o v [xs, ys] != 0)
  · have hz0 : errAll p n o v [xs, ys] = 0 := by simpa using hz
    obtain ⟨hr, hx, hy⟩ := errAll_two hz0
    obtain ⟨_, hn1, hn2, ho, _⟩ := ring_ok hr
    obtain ⟨hlx, hbx, _⟩ := errM_ok hx
    obtain ⟨hly, hby, _⟩ := errM_ok hy
    have hmx : xs.length ≤ 3 := by omega
    have hxy : xs.length = ys.length := by omega
    have HXY := hid hxy
    have HB := hid (And.intro hbx hby)
    obtain ⟨a, cap, rfl, h1⟩ := hs
    obtain ⟨a2, cap2, rfl, h2⟩ := hs2
    obtain ⟨b, off, rfl, hlt, hc⟩ := h1 (by omega)
    obtain ⟨b2, off2, rfl, hlt2, hc2⟩ := h2 (by omega)
    have HC := hid hc
    have HC2 := hid hc2
    have hlz := zipI_len lst xs ys hxy
    have hbz := zipI_mem (g := lst) (a := 0) (b := 400) (by intro x y h1 h2; unfold lst; split <;> omega) hbx hby
    have HLZ := hid hlz
    have HBZ := hid hbz
    have HE : Hid (∀ c : Prop, [Decidable c] → c = (200 < sumI (zipI lst xs ys)) → tgE lst p n o v xs ys = if c then 2 else 0) := by
      intro c _ hc; subst hc; unfold tgE; rw [if_pos hz0]; congr
    have HR : Hid (200 < sumI (zipI lst xs ys) → tgE lst p n o v xs ys = 2 ∧ tgR lst p n o v xs ys = []) := by
      intro h
      have e1 : tgE lst p n o v xs ys = 2 := by unfold tgE; rw [if_pos hz0, if_pos h]
      exact ⟨e1, by unfold tgR; rw [if_neg (by rw [e1]; decide)]⟩
    have HQ : Hid (¬ 200 < sumI (zipI lst xs ys) → tgE lst p n o v xs ys = 0 ∧ tgR lst p n o v xs ys = zipI lst xs ys) := by
      intro h
      have e1 : tgE lst p n o v xs ys = 0 := by unfold tgE; rw [if_pos hz0, if_neg h]
      exact ⟨e1, by unfold tgR; rw [if_pos e1]⟩
    have HZ0 := hid hz0
    clear hz0 hr hx hy hlx hly h1 h2 hc hc2 hbx hby hlz hbz hxy HE
    go_enter Try.func62, Try.ntmps62
    go_wp2_with fail
    refine (checkAll_any p n o v [xs, ys] _ _ _ _ (by simp) (by simp) ?_).mono ?_
    · exact (HS.out.below below_two).sls2 (HS2.out.below below_two) (by simp [go_sem]) (by simp [go_sem])
    rintro e w1 ⟨rfl, hb1⟩
    have hb0 : Below w.heap.size w w1 := below_two.trans (hb1.mono (by simp; omega))
    have hsz : w.heap.size ≤ w1.heap.size := hb0.size
    rw [HZ0.out]
    clear hb1
    go_wp2_with fail
    refine (eachLeast_any xs ys _ _ _ _ _ _ _ hmx HXY.out HB.out.1 HB.out.2 (by omega) (by omega) ?_ ?_).mono ?_
    · intro i hi; rw [hb0.cell (p := ⟨b, off + i, none⟩) hlt]; exact HC.out i hi
    · intro i hi; rw [hb0.cell (p := ⟨b2, off2 + i, none⟩) hlt2]; exact HC2.out i hi
    rintro e w2 ⟨rfl, how⟩
    have HOW : Hid (OwnK w1 w2 (zipI lst xs ys).length (zipI lst xs ys).length (zipI lst xs ys)) := by rw [HLZ.out]; exact how
    have hb2 : Below w.heap.size w w2 := hb0.trans (how.1.mono hsz)
    have hmz : (zipI lst xs ys).length ≤ 3 := by rw [HLZ.out]; exact hmx
    rw [← HLZ.out]
    clear how
    go_wp2_with fail
    refine (degree_any (zipI lst xs ys) _ _ _ _ HBZ.out hmz ?_).mono ?_
    · intro i hi; rw [Nat.zero_add]; exact HOW.out.2.2.2 i hi
    rintro e w' ⟨rfl, rfl⟩
    by_cases hd : 200 < sumI (zipI lst xs ys)
    · go_wp2
      go_ret2
      obtain ⟨e1, e2⟩ := HR.out hd
      rw [e1, e2]
      exact ⟨_, rfl, Sl.empty _, hb2⟩
    · go_wp2
      go_ret2
      obtain ⟨e1, e2⟩ := HQ.out (by omega)
      rw [e1, e2]
      exact ⟨_, rfl, HOW.out.sl, hb2⟩
  · have e1 : tgE lst p n o v xs ys = errAll p n o v [xs, ys] := by unfold tgE; rw [if_neg (by simpa using hz)]
    have e2 : tgR lst p n o v xs ys = [] := by unfold tgR; rw [if_neg (by rw [e1]; simpa using hz)]
    rw [e1, e2]
    clear e1 e2
    obtain ⟨a, cap, rfl, _⟩ := hs
    obtain ⟨a2, cap2, rfl, _⟩ := hs2
    go_enter Try.func62, Try.ntmps62
    go_wp2_with fail
    refine (checkAll_any p n o v [xs, ys] _ _ _ _ (by simp) (by simp) ?_).mono ?_
    · exact (HS.out.below below_two).sls2 (HS2.out.below below_two) (by simp [go_sem]) (by simp [go_sem])
    rintro e w1 ⟨rfl, hb1⟩
    go_wp2
    go_ret2
    exact ⟨_, rfl, Sl.empty _, below_two.trans (hb1.mono (by simp; omega))⟩

set_option maxHeartbeats 400000 in
theorem monoLeast_any (p n o v : Int) (x y : Value) (xs ys : List Int) (w : World) (hs : Sl w x xs) (hs2 : Sl w y ys) :
    Calls Try.prog 24 #[ringV p n o v, x, y] w fun e w' =>
      ∃ u, e = .returned (.tuple #[u, .int .i64 (tgE lst p n o v xs ys)]) ∧ Sl w' u (tgR lst p n o v xs ys) ∧ Below w.heap.size w w' := by
  have HS := hid hs
  have HS2 := hid hs2
  clear hs hs2
  have hb1 : ∀ A, Below w.heap.size w (w.alloc A) := fun A => (Below.refl _ _).alloc (Nat.le_refl _) _
  go_enter Try.func24, Try.ntmps24
  go_wp2_with fail
  refine (togetherLeast_any p n o v x y xs ys _ ?_ ?_).mono ?_
  · exact HS.out.below (hb1 _)
  · exact HS2.out.below (hb1 _)
  rintro e w1 ⟨u, rfl, hu, hb⟩
  obtain ⟨a, cap, rfl, _⟩ := id hu
  have HU := hid hu
  clear hu
  go_wp2
  go_ret2
  exact ⟨_, rfl, HU.out, (hb1 _).trans (hb.mono (by simp))⟩

end Go.Proofs.Ytkmjmmnnnbjghaa

/- SameInts, xy. -/
namespace Go.Proofs.Ytkmjmmnnnbjghaa
set_option linter.unusedSimpArgs false
set_option linter.unusedVariables false
open Go.RowKit

def sameB (xs ys : List Int) : Bool := decide (xs = ys)
theorem take_same {xs ys : List Int} {k : Nat} (h : k < xs.length) (h2 : k < ys.length) (ht : xs.take k = ys.take k) (he : xs.getD k 0 = ys.getD k 0) : xs.take (k + 1) = ys.take (k + 1) := by
  rw [List.take_succ_eq_append_getElem h, List.take_succ_eq_append_getElem h2, ht]
  simp [List.getD_eq_getElem?_getD, h, h2] at he
  rw [he]

set_option maxHeartbeats 400000 in
theorem sameInts_any (x y : Value) (xs ys : List Int) (w : World) (hm : xs.length ≤ 3) (hs : Sl w x xs) (hs2 : Sl w y ys) :
    Calls Try.prog 36 #[x, y] w fun e w' => e = .returned (.bool (sameB xs ys)) ∧ ∃ n, w' = w.drewN n := by
  obtain ⟨a, cap, rfl, h1⟩ := hs
  obtain ⟨a2, cap2, rfl, h2⟩ := hs2
  by_cases hl : xs.length = ys.length
  · rw [← hl]
    by_cases h0 : xs.length = 0
    · have e1 : xs = [] := List.length_eq_zero_iff.1 h0
      have e2 : ys = [] := List.length_eq_zero_iff.1 (by omega)
      subst e1 e2
      clear h1 h2 hl h0
      go_enter Try.func36, Try.ntmps36
      go_wp2
      go_loop [5] (fun i => i = .int .i64 0) (fun _ => 0)
      case atStart => rfl
      case round =>
        subst hrel
        go_wp2
        go_ret
        exact ⟨rfl, 0, rfl⟩
    · obtain ⟨b, off, rfl, hlt, hc⟩ := h1 (by omega)
      obtain ⟨b2, off2, rfl, hlt2, hc2⟩ := h2 (by omega)
      have HC := hid hc
      have HC2 := hid hc2
      have HXY := hid hl
      clear h1 h2 hc hc2 hl h0
      go_enter Try.func36, Try.ntmps36
      go_wp2
      go_loopw [5] (fun i wr => ∃ k n : Nat, k ≤ xs.length ∧ i = .int .i64 k ∧ xs.take k = ys.take k ∧ wr = w.drewN n) (fun i _ => xs.length - (intOf i).toNat)
      case atStart => exact ⟨0, 0, Nat.zero_le _, rfl, rfl, rfl⟩
      case round =>
        obtain ⟨k, n0, hk, rfl, hn, hw0⟩ := hrel
        have HN := hid hn
        have HW := hid hw0
        clear hn hw0
        by_cases hk2 : k < xs.length
        · have hcell := HC.out k hk2
          have hcell2 := HC2.out k (by rw [← HXY.out]; exact hk2)
          have e1 : ∀ a, wr.cell? a = w.cell? a := fun a => by rw [HW.out]; rfl
          rw [← e1] at hcell hcell2
          clear e1
          have HT := hid (take_same hk2 (by rw [← HXY.out]; exact hk2) HN.out)
          have HF : Hid (¬ xs.getD k 0 = ys.getD k 0 → sameB xs ys = false) := by
            intro h
            unfold sameB
            apply decide_eq_false
            intro e; exact h (by rw [e])
          generalize xs.getD k 0 = u at hcell HT HF
          generalize ys.getD k 0 = t at hcell2 HT HF
          cases hy : (u != t)
          · go_wp2
            go_quiet (fail)
            go_wp2
            go_roundw
            case rel => exact ⟨k + 1, _, by omega, by go_num, HT.out (by simpa using hy), by rw [HW.out, World.drewN_drewN]⟩
            case measure => simp [intOf]; omega
          · go_wp2
            go_quiet (fail)
            go_wp2
            go_ret
            exact ⟨by rw [HF.out (by simpa using hy)]; rfl, _, by rw [HW.out, World.drewN_drewN]⟩
        · go_wp2
          go_ret
          refine ⟨?_, n0, HW.out⟩
          have := HN.out
          rw [List.take_of_length_le (by omega), List.take_of_length_le (by have := HXY.out; omega)] at this
          simp [sameB, this]
  · have he : sameB xs ys = false := by
      unfold sameB; apply decide_eq_false; intro e; exact hl (by rw [e])
    rw [he]
    have hl2 : ((xs.length : Int) != (ys.length : Int)) = true := by simp; omega
    clear he h1 h2 hl
    go_enter Try.func36, Try.ntmps36
    go_wp2
    go_ret
    exact ⟨rfl, 0, rfl⟩

set_option maxHeartbeats 400000 in
theorem xy_any (w : World) : Calls Try.prog 72 #[] w fun e w' => e = .returned (ringV 7 2 1 1) ∧ Below w.heap.size w w' := by
  go_enter Try.func72, Try.ntmps72
  go_wp2
  exact bodyPost_ret (v := ringV 7 2 1 1) (by simp [results, Try.results72, go_sem]) rfl ⟨rfl, (Below.refl _ _).alloc (Nat.le_refl _) _⟩

end Go.Proofs.Ytkmjmmnnnbjghaa

/- monoBegun. -/
namespace Go.Proofs.Ytkmjmmnnnbjghaa
set_option linter.unusedSimpArgs false
set_option linter.unusedVariables false
open Go.RowKit

theorem Sl.new2 (w : World) (a b : Int) (T : TypeId) : Sl (w.alloc (.cells #[.int .i64 a, .int .i64 b] T)) (.slice (some ⟨w.heap.size, 0, none⟩) 2 2) [a, b] := by
  refine ⟨_, _, rfl, fun _ => ⟨_, _, rfl, by simp, fun i hi => ?_⟩⟩
  simp at hi
  rcases i with _ | _ | i
  · simp
  · simp
  · omega

theorem Sl.new2s (w : World) (A : Obj) (a b : Int) (T : TypeId) : Sl ((w.alloc A).alloc (.cells #[.int .i64 a, .int .i64 b] T)) (.slice (some ⟨w.heap.size + 1, 0, none⟩) 2 2) [a, b] := by
  have h := Sl.new2 (w.alloc A) a b T
  rwa [show (w.alloc A).heap.size = w.heap.size + 1 by simp] at h
theorem below_one {w : World} {A : Obj} : Below w.heap.size w (w.alloc A) := (Below.refl _ _).alloc (Nat.le_refl _) _

set_option maxHeartbeats 1000000 in
theorem monoBegun_any (w : World) : Calls Try.prog 31 #[] w fun e w' => e = .returned (.bool true) ∧ Below w.heap.size w w' := by
  have t1 : tgE (· + ·) 7 2 1 1 [1, 2] [3, 0] = 0 := by decide +kernel
  have t2 : tgR (· + ·) 7 2 1 1 [1, 2] [3, 0] = [4, 2] := by decide +kernel
  have t3 : errAll 7 2 1 1 [[2, 0], [1, 1]] = 0 := by decide +kernel
  have t4 : ordS 1 [2, 0] [1, 1] = 1 := by decide +kernel
  have t5 : errR 7 2 1 1 = 0 := by decide +kernel
  have t6 : errAll 7 2 1 1 [[0, 0]] = 0 := by decide +kernel
  have T1 := hid t1
  have T2 := hid t2
  have T3 := hid t3
  have T4 := hid t4
  have T5 := hid t5
  have T6 := hid t6
  clear t1 t2 t3 t4 t5 t6
  go_enter Try.func31, Try.ntmps31
  go_wp2_with fail
  refine (xy_any _).mono ?_
  rintro e w1 ⟨rfl, hb1⟩
  go_wp2_with fail
  refine (monoTimes_any 7 2 1 1 _ _ [1, 2] [3, 0] _ ?_ ?_).mono ?_
  · exact (Sl.new2 _ _ _ _).below below_one
  · exact Sl.new2s _ _ _ _ _
  rintro e w2 ⟨u, rfl, hu, hb2⟩
  rw [T1.out]
  rw [T2.out] at hu
  have hbb2 : Below w.heap.size w w2 := hb1.trans ((below_two.trans (hb2.mono (by simp; omega))).mono hb1.size)
  obtain ⟨ua, ucap, rfl, _⟩ := id hu
  have HU := hid hu
  clear hu hb1 hb2
  go_wp2_with fail
  refine (xy_any _).mono ?_
  rintro e w3 ⟨rfl, hb3⟩
  have HU3 := hid (HU.out.below hb3)
  have hbb3 : Below w.heap.size w w3 := hbb2.trans (hb3.mono hbb2.size)
  clear HU hb3
  go_wp2_with fail
  refine (order_ok 7 2 1 1 _ _ [2, 0] [1, 1] _ ?_ ?_ T3.out).mono ?_
  · exact (Sl.new2 _ _ _ _).below below_one
  · exact Sl.new2s _ _ _ _ _
  rintro e w4 ⟨rfl, hb4⟩
  rw [T4.out]
  have hb34 : Below w3.heap.size w3 w4 := below_two.trans (hb4.mono (by simp; omega))
  have HU4 := hid (HU3.out.below hb34)
  have hbb4 : Below w.heap.size w w4 := hbb3.trans (hb34.mono hbb3.size)
  clear HU3 hb4 hb34
  go_wp2_with fail
  refine (sameInts_any _ _ [4, 2] [4, 2] _ (by simp) ?_ ?_).mono ?_
  · exact HU4.out.below below_one
  · exact Sl.new2 _ _ _ _
  rintro e w5 ⟨rfl, hw5⟩
  have hb45 : Below w4.heap.size w4 w5 := below_ndraws below_one hw5
  have hbb5 : Below w.heap.size w w5 := hbb4.trans (hb45.mono hbb4.size)
  have hsm : sameB [4, 2] [4, 2] = true := by decide
  rw [hsm]
  clear hw5 hb45 hsm
  go_wp2_with fail
  refine (xy_any _).mono ?_
  rintro e w6 ⟨rfl, hb6⟩
  have hbb6 : Below w.heap.size w w6 := hbb5.trans (hb6.mono hbb5.size)
  clear hb6
  go_wp2_with fail
  refine (ring_any 7 2 1 1 _).mono ?_
  rintro e w7 ⟨rfl, hb7⟩
  have hbb7 : Below w.heap.size w w7 := hbb6.trans (hb7.mono hbb6.size)
  rw [T5.out]
  clear hb7
  go_wp2_with fail
  refine (xy_any _).mono ?_
  rintro e w8 ⟨rfl, hb8⟩
  have hbb8 : Below w.heap.size w w8 := hbb7.trans (hb8.mono hbb7.size)
  clear hb8
  go_wp2_with fail
  refine (monoCheck_any 7 2 1 1 _ [0, 0] _ ?_).mono ?_
  · exact Sl.new2 _ _ _ _
  rintro e w9 ⟨rfl, hb9⟩
  have hbb9 : Below w.heap.size w w9 := hbb8.trans ((below_one.trans (hb9.mono (by simp))).mono hbb8.size)
  rw [T6.out]
  go_wp2
  go_ret
  exact ⟨rfl, hbb9⟩

end Go.Proofs.Ytkmjmmnnnbjghaa

/- The plain mathematics of the order of monomials. -/
namespace Go.Proofs.Ytkmjmmnnnbjghaa
set_option linter.unusedSimpArgs false
set_option linter.unusedVariables false
open Go.RowKit

theorem cmpI_neg (a b : Int) : cmpI a b = - cmpI b a := by
  unfold cmpI; split <;> split <;> omega
theorem cmpI_vals (a b : Int) : cmpI a b = -1 ∧ a < b ∨ cmpI a b = 0 ∧ a = b ∨ cmpI a b = 1 ∧ b < a := by
  unfold cmpI; split
  · omega
  · split <;> omega
theorem cmpI_add (a b c : Int) : cmpI (a + c) (b + c) = cmpI a b := by
  have h1 := cmpI_vals a b
  have h2 := cmpI_vals (a + c) (b + c)
  omega

theorem lexC_neg : ∀ xs ys : List Int, lexC xs ys = - lexC ys xs
  | [], [] => by simp [lexC]
  | [], _ :: _ => by simp [lexC]
  | _ :: _, [] => by simp [lexC]
  | x :: xs, y :: ys => by
    simp only [lexC]
    have h1 := cmpI_neg x y
    have h2 := lexC_neg xs ys
    by_cases h : cmpI x y = 0
    · rw [if_pos h, if_pos (by omega)]; exact h2
    · rw [if_neg h, if_neg (by omega)]; exact h1
theorem lexC_bd : ∀ xs ys : List Int, -1 ≤ lexC xs ys ∧ lexC xs ys ≤ 1
  | [], [] => by simp [lexC]
  | [], _ :: _ => by simp [lexC]
  | _ :: _, [] => by simp [lexC]
  | x :: xs, y :: ys => by
    simp only [lexC]
    have h1 := cmpI_vals x y
    have h2 := lexC_bd xs ys
    by_cases h : cmpI x y = 0
    · rw [if_pos h]; exact h2
    · rw [if_neg h]; omega
theorem lexC_zero : ∀ xs ys : List Int, xs.length = ys.length → (lexC xs ys = 0 ↔ xs = ys)
  | [], [], _ => by simp [lexC]
  | [], _ :: _, h => by simp at h
  | _ :: _, [], h => by simp at h
  | x :: xs, y :: ys, hl => by
    simp only [lexC, List.cons.injEq]
    have h1 := cmpI_vals x y
    have h2 := lexC_zero xs ys (by simpa using hl)
    by_cases h : cmpI x y = 0
    · rw [if_pos h, h2]
      constructor
      · intro e; exact ⟨by omega, e⟩
      · intro e; exact e.2
    · rw [if_neg h]
      constructor
      · intro e; exact absurd e h
      · intro e; omega
theorem lexC_trans : ∀ xs ys zs : List Int, xs.length = ys.length → ys.length = zs.length → 0 < lexC xs ys → 0 < lexC ys zs → 0 < lexC xs zs
  | [], [], _, _, _, h, _ => by simp [lexC] at h
  | [], _ :: _, _, h, _, _, _ => by simp at h
  | _ :: _, [], _, h, _, _, _ => by simp at h
  | _ :: _, _ :: _, [], _, h, _, _ => by simp at h
  | x :: xs, y :: ys, z :: zs, h1, h2, h3, h4 => by
    simp only [lexC] at h3 h4 ⊢
    have hxy := cmpI_vals x y
    have hyz := cmpI_vals y z
    have hxz := cmpI_vals x z
    by_cases a : cmpI x y = 0
    · rw [if_pos a] at h3
      by_cases b : cmpI y z = 0
      · rw [if_pos b] at h4
        rw [if_pos (by omega)]
        exact lexC_trans xs ys zs (by simpa using h1) (by simpa using h2) h3 h4
      · rw [if_neg b] at h4
        rw [if_neg (by omega)]; omega
    · rw [if_neg a] at h3
      by_cases b : cmpI y z = 0
      · rw [if_neg (by omega)]; omega
      · rw [if_neg b] at h4
        rw [if_neg (by omega)]; omega
theorem lexC_add : ∀ xs ys zs : List Int, xs.length = ys.length → ys.length = zs.length → lexC (zipI (· + ·) xs zs) (zipI (· + ·) ys zs) = lexC xs ys
  | [], [], _, _, _ => by simp [lexC, zipI]
  | [], _ :: _, _, h, _ => by simp at h
  | _ :: _, [], _, h, _ => by simp at h
  | _ :: _, _ :: _, [], _, h => by simp at h
  | x :: xs, y :: ys, z :: zs, h1, h2 => by
    simp only [lexC, zipI]
    rw [cmpI_add, lexC_add xs ys zs (by simpa using h1) (by simpa using h2)]

theorem zipI_snoc (g : Int → Int → Int) : ∀ (xs ys : List Int) (x y : Int), xs.length = ys.length → zipI g (xs ++ [x]) (ys ++ [y]) = zipI g xs ys ++ [g x y]
  | [], [], _, _, _ => by simp [zipI]
  | [], _ :: _, _, _, h => by simp at h
  | _ :: _, [], _, _, h => by simp at h
  | a :: xs, b :: ys, x, y, h => by simp [zipI, zipI_snoc g xs ys x y (by simpa using h)]
theorem zipI_rev (g : Int → Int → Int) : ∀ (xs ys : List Int), xs.length = ys.length → (zipI g xs ys).reverse = zipI g xs.reverse ys.reverse
  | [], [], _ => by simp [zipI]
  | [], _ :: _, h => by simp at h
  | _ :: _, [], h => by simp at h
  | a :: xs, b :: ys, h => by
    simp only [zipI, List.reverse_cons]
    rw [zipI_snoc g _ _ _ _ (by simpa using h), zipI_rev g xs ys (by simpa using h)]
theorem sumI_zip : ∀ xs ys : List Int, xs.length = ys.length → sumI (zipI (· + ·) xs ys) = sumI xs + sumI ys
  | [], [], _ => by simp [sumI, zipI]
  | [], _ :: _, h => by simp at h
  | _ :: _, [], h => by simp at h
  | a :: xs, b :: ys, h => by
    simp only [zipI, sumI]
    rw [sumI_zip xs ys (by simpa using h)]; omega

theorem ordS_neg (o : Int) (xs ys : List Int) : ordS o xs ys = - ordS o ys xs := by
  unfold ordS revC
  have h1 := cmpI_neg (sumI xs) (sumI ys)
  by_cases h : cmpI (sumI xs) (sumI ys) = 0
  · have h' : cmpI (sumI ys) (sumI xs) = 0 := by omega
    rw [if_pos h, if_pos h']
    by_cases ho : o = 1
    · rw [if_pos ho, if_pos ho]; exact lexC_neg _ _
    · rw [if_neg ho, if_neg ho]; exact lexC_neg _ _
  · rw [if_neg h, if_neg (by omega)]; exact h1
theorem ordS_bd (o : Int) (xs ys : List Int) : -1 ≤ ordS o xs ys ∧ ordS o xs ys ≤ 1 := by
  unfold ordS revC
  have h1 := cmpI_vals (sumI xs) (sumI ys)
  by_cases h : cmpI (sumI xs) (sumI ys) = 0
  · rw [if_pos h]
    by_cases ho : o = 1
    · rw [if_pos ho]; exact lexC_bd _ _
    · rw [if_neg ho]; exact lexC_bd _ _
  · rw [if_neg h]; omega
theorem ordS_zero (o : Int) (xs ys : List Int) (hl : xs.length = ys.length) : (ordS o xs ys = 0) ↔ xs = ys := by
  unfold ordS revC
  have h1 := cmpI_vals (sumI xs) (sumI ys)
  by_cases h : cmpI (sumI xs) (sumI ys) = 0
  · rw [if_pos h]
    by_cases ho : o = 1
    · rw [if_pos ho, lexC_zero _ _ (by simp; omega)]
      constructor
      · intro e; have := congrArg List.reverse e; simpa using this.symm
      · intro e; rw [e]
    · rw [if_neg ho, lexC_zero _ _ hl]
  · rw [if_neg h]
    constructor
    · intro e; exact absurd e h
    · intro e; rw [e] at h1; rw [e] at h; omega
theorem ordS_trans (o : Int) (xs ys zs : List Int) (h1 : xs.length = ys.length) (h2 : ys.length = zs.length) (h3 : 0 < ordS o xs ys) (h4 : 0 < ordS o ys zs) : 0 < ordS o xs zs := by
  unfold ordS revC at *
  have hxy := cmpI_vals (sumI xs) (sumI ys)
  have hyz := cmpI_vals (sumI ys) (sumI zs)
  have hxz := cmpI_vals (sumI xs) (sumI zs)
  by_cases a : cmpI (sumI xs) (sumI ys) = 0
  · rw [if_pos a] at h3
    by_cases b : cmpI (sumI ys) (sumI zs) = 0
    · rw [if_pos b] at h4
      rw [if_pos (by omega)]
      by_cases ho : o = 1
      · rw [if_pos ho] at h3 h4 ⊢
        have k1 := lexC_neg ys.reverse xs.reverse
        have k2 := lexC_neg zs.reverse ys.reverse
        exact Int.not_le.1 (fun hn => by
          have k3 := lexC_neg zs.reverse xs.reverse
          have k4 := lexC_trans zs.reverse ys.reverse xs.reverse (by simp; omega) (by simp; omega) h4 h3
          omega)
      · rw [if_neg ho] at h3 h4 ⊢
        exact lexC_trans xs ys zs h1 h2 h3 h4
    · rw [if_neg b] at h4
      rw [if_neg (by omega)]; omega
  · rw [if_neg a] at h3
    by_cases b : cmpI (sumI ys) (sumI zs) = 0
    · rw [if_neg (by omega)]; omega
    · rw [if_neg b] at h4
      rw [if_neg (by omega)]; omega
theorem ordS_add (o : Int) (xs ys zs : List Int) (h1 : xs.length = ys.length) (h2 : ys.length = zs.length) : ordS o (zipI (· + ·) xs zs) (zipI (· + ·) ys zs) = ordS o xs ys := by
  unfold ordS revC
  rw [sumI_zip xs zs (by omega), sumI_zip ys zs h2, cmpI_add, zipI_rev _ xs zs (by omega), zipI_rev _ ys zs h2,
    lexC_add _ _ _ (by simp; omega) (by simp; omega), lexC_add xs ys zs h1 h2]

theorem sumI_rep (n : Nat) : sumI (List.replicate n 0) = 0 := by
  induction n with
  | zero => rfl
  | succ n ih => simp [List.replicate_succ, sumI, ih]
theorem sumI_nil : ∀ xs : List Int, (∀ x ∈ xs, 0 ≤ x ∧ x ≤ 200) → sumI xs = 0 → xs = List.replicate xs.length 0
  | [], _, _ => rfl
  | x :: xs, h, hs => by
    have h1 := h x (by simp)
    have h2 := sumI_bd xs (fun y hy => by have := h y (by simp [hy]); omega)
    simp only [sumI] at hs
    have e : x = 0 := by omega
    subst e
    rw [List.length_cons, List.replicate_succ, ← sumI_nil xs (fun y hy => h y (by simp [hy])) (by omega)]
theorem ordS_one (o : Int) (xs : List Int) (h : ∀ x ∈ xs, 0 ≤ x ∧ x ≤ 200) : 0 ≤ ordS o xs (List.replicate xs.length 0) := by
  have h2 := sumI_bd xs (fun y hy => by have := h y hy; omega)
  by_cases h0 : sumI xs = 0
  · have e := sumI_nil xs h h0
    have := (ordS_zero o xs (List.replicate xs.length 0) (by simp)).2 e
    omega
  · unfold ordS
    have hv := cmpI_vals (sumI xs) (sumI (List.replicate xs.length 0))
    rw [sumI_rep] at hv ⊢
    rw [if_neg (by omega)]; omega

theorem mem_le_sum : ∀ xs : List Int, (∀ x ∈ xs, 0 ≤ x ∧ x ≤ 400) → ∀ x ∈ xs, x ≤ sumI xs
  | [], _, x, hx => by simp at hx
  | y :: xs, h, x, hx => by
    have h1 := h y (by simp)
    have h2 := sumI_bd xs (fun z hz => h z (by simp [hz]))
    simp only [List.mem_cons] at hx
    simp only [sumI]
    rcases hx with rfl | hx
    · omega
    · have := mem_le_sum xs (fun z hz => h z (by simp [hz])) x hx; omega
theorem errM_mk {n : Int} {xs : List Int} (hl : (xs.length : Int) = n) (hb : ∀ x ∈ xs, 0 ≤ x ∧ x ≤ 400) (hs : sumI xs ≤ 200) : errM n xs = 0 := by
  unfold errM
  rw [if_neg (by simp [hl])]
  have h2 : xs.any outB = false := by
    rw [List.any_eq_false]
    intro x hx
    have h1 := hb x hx
    have h3 := mem_le_sum xs hb x hx
    simp [outB]; omega
  rw [if_neg (by simp [h2]), if_neg (by omega)]
theorem errAll_mk {p n o v : Int} {xs ys : List Int} (h : errR p n o v = 0) (hx : errM n xs = 0) (hy : errM n ys = 0) : errAll p n o v [xs, ys] = 0 := by
  unfold errAll; rw [if_pos h]; simp [firstErr, hx, hy]

/-- What a good product is. -/
theorem tg_ok {g : Int → Int → Int} {p n o v : Int} {xs ys : List Int} (h : tgE g p n o v xs ys = 0) : errAll p n o v [xs, ys] = 0 ∧ sumI (zipI g xs ys) ≤ 200 ∧ tgR g p n o v xs ys = zipI g xs ys := by
  have hr : tgR g p n o v xs ys = zipI g xs ys := by unfold tgR; rw [if_pos h]
  unfold tgE at h
  by_cases h1 : errAll p n o v [xs, ys] = 0
  · rw [if_pos h1] at h
    by_cases h2 : 200 < sumI (zipI g xs ys)
    · rw [if_pos h2] at h; omega
    · exact ⟨h1, by omega, hr⟩
  · rw [if_neg h1] at h; exact absurd h h1

end Go.Proofs.Ytkmjmmnnnbjghaa

/- MonoOrders, walked. -/
namespace Go.Proofs.Ytkmjmmnnnbjghaa
set_option linter.unusedSimpArgs false
set_option linter.unusedVariables false
open Go.RowKit

def ordA (p n o v : Int) (xs ys : List Int) : Int := if errAll p n o v [xs, ys] = 0 then ordS o xs ys else 0
theorem order_any (p n o v : Int) (x y : Value) (xs ys : List Int) (w : World) (hs : Sl w x xs) (hs2 : Sl w y ys) :
    Calls Try.prog 25 #[ringV p n o v, x, y] w fun e w' => e = .returned (.tuple #[.int .i64 (ordA p n o v xs ys), .int .i64 (errAll p n o v [xs, ys])]) ∧ Below w.heap.size w w' := by
  by_cases h : errAll p n o v [xs, ys] = 0
  · have e : ordA p n o v xs ys = ordS o xs ys := by unfold ordA; rw [if_pos h]
    rw [e, h]
    exact order_ok p n o v x y xs ys w hs hs2 h
  · have e : ordA p n o v xs ys = 0 := by unfold ordA; rw [if_neg h]
    rw [e]
    exact order_bad p n o v x y xs ys w hs hs2 (by simpa using h)

/-- A ring that is boxed at this block. -/
def BoxAt (w : World) (b : Nat) (p n o v : Int) : Prop :=
  b < w.heap.size ∧ w.cell? ⟨b, 0, none⟩ = some (.int .i64 p) ∧ w.cell? ⟨b, 1, none⟩ = some (.int .i64 n) ∧ w.cell? ⟨b, 2, none⟩ = some (.int .i64 o) ∧ w.cell? ⟨b, 3, none⟩ = some (.int .i64 v)
theorem BoxAt.below {w w' : World} {b : Nat} {p n o v : Int} (h : BoxAt w b p n o v) (hb : Below w.heap.size w w') : BoxAt w' b p n o v := by
  obtain ⟨h0, h1, h2, h3, h4⟩ := h
  exact ⟨Nat.lt_of_lt_of_le h0 hb.size, by rw [hb.cell (p := ⟨b, 0, none⟩) h0]; exact h1, by rw [hb.cell (p := ⟨b, 1, none⟩) h0]; exact h2, by rw [hb.cell (p := ⟨b, 2, none⟩) h0]; exact h3, by rw [hb.cell (p := ⟨b, 3, none⟩) h0]; exact h4⟩
theorem BoxAt.new (w : World) (p n o v : Int) (T : TypeId) : BoxAt (w.alloc (.cells #[.int .i64 p, .int .i64 n, .int .i64 o, .int .i64 v] T)) w.heap.size p n o v :=
  ⟨by simp, by simp, by simp, by simp, by simp⟩

/-- What is known of a world in the middle of the law. -/
structure Mid (w w' : World) (x y z : Value) (xs ys zs : List Int) (p n o v : Int) : Prop where
  below : Below w.heap.size w w'
  box : BoxAt w' w.heap.size p n o v
  sx : Sl w' x xs
  sy : Sl w' y ys
  sz : Sl w' z zs
theorem Mid.next {w w' w2 : World} {x y z : Value} {xs ys zs : List Int} {p n o v : Int} (h : Mid w w' x y z xs ys zs p n o v) (hb : Below w'.heap.size w' w2) : Mid w w2 x y z xs ys zs p n o v :=
  ⟨h.below.trans (hb.mono h.below.size), h.box.below hb, h.sx.below hb, h.sy.below hb, h.sz.below hb⟩

set_option maxHeartbeats 1000000 in
theorem monoOrders_bad (p n o v : Int) (x y z : Value) (xs ys zs : List Int) (w : World) (hs : Sl w x xs) (hs2 : Sl w y ys) (hs3 : Sl w z zs)
    (hbad : ¬ (errAll p n o v [xs, ys] = 0 ∧ errAll p n o v [ys, xs] = 0 ∧ errAll p n o v [ys, zs] = 0 ∧ errAll p n o v [xs, zs] = 0)) :
    Calls Try.prog 7 #[ringV p n o v, x, y, z] w fun e w' => e = .returned (.bool true) ∧ Below w.heap.size w w' := by
  have HS := hid hs
  have HS2 := hid hs2
  have HS3 := hid hs3
  obtain ⟨a1, cap1, rfl, _⟩ := hs
  obtain ⟨a2, cap2, rfl, _⟩ := hs2
  obtain ⟨a3, cap3, rfl, _⟩ := hs3
  have HB : Hid ((errAll p n o v [xs, ys] != 0) = true ∨ ((errAll p n o v [xs, ys] != 0) = false ∧ (errAll p n o v [ys, xs] != 0) = true) ∨ ((errAll p n o v [xs, ys] != 0) = false ∧ (errAll p n o v [ys, xs] != 0) = false ∧ (errAll p n o v [ys, zs] != 0) = true) ∨ ((errAll p n o v [xs, ys] != 0) = false ∧ (errAll p n o v [ys, xs] != 0) = false ∧ (errAll p n o v [ys, zs] != 0) = false ∧ (errAll p n o v [xs, zs] != 0) = true)) := by
    unfold Hid
    by_cases h1 : errAll p n o v [xs, ys] = 0
    · by_cases h2 : errAll p n o v [ys, xs] = 0
      · by_cases h3 : errAll p n o v [ys, zs] = 0
        · by_cases h4 : errAll p n o v [xs, zs] = 0
          · exact absurd ⟨h1, h2, h3, h4⟩ hbad
          · simp [h1, h2, h3, h4]
        · simp [h1, h2, h3]
      · simp [h1, h2]
    · simp [h1]
  clear hbad
  rcases HB.out with h1 | ⟨h1, h2⟩ | ⟨h1, h2, h3⟩ | ⟨h1, h2, h3, h4⟩
  all_goals
    clear HB
    go_enter Try.func7, Try.ntmps7
    go_wp2_with fail
    refine (monoBegun_any _).mono ?_
    rintro e w1 ⟨rfl, hb1⟩
    have mid : Mid w w1 _ _ _ xs ys zs p n o v := Mid.mk (below_one.trans (hb1.mono (by simp))) ((BoxAt.new w p n o v _).below hb1) (HS.out.below (below_one.trans (hb1.mono (by simp)))) (HS2.out.below (below_one.trans (hb1.mono (by simp)))) (HS3.out.below (below_one.trans (hb1.mono (by simp))))
    have MID := hid mid
    obtain ⟨c, c0, c1, c2, c3⟩ := mid.box
    clear hb1 mid
    go_wp2_with fail
    refine (order_any p n o v _ _ xs ys _ MID.out.sx MID.out.sy).mono ?_
    rintro e w2 ⟨rfl, hb⟩
    have MID2 := hid (MID.out.next hb)
    clear MID c c0 c1 c2 c3 hb
    obtain ⟨c, c0, c1, c2, c3⟩ := MID2.out.box
    go_wp2_with fail
    refine (order_any p n o v _ _ ys xs _ MID2.out.sy MID2.out.sx).mono ?_
    rintro e w3 ⟨rfl, hb⟩
    have MID3 := hid (MID2.out.next hb)
    clear MID2 c c0 c1 c2 c3 hb
    obtain ⟨c, c0, c1, c2, c3⟩ := MID3.out.box
    go_wp2_with fail
    refine (order_any p n o v _ _ ys zs _ MID3.out.sy MID3.out.sz).mono ?_
    rintro e w4 ⟨rfl, hb⟩
    have MID4 := hid (MID3.out.next hb)
    clear MID3 c c0 c1 c2 c3 hb
    obtain ⟨c, c0, c1, c2, c3⟩ := MID4.out.box
    go_wp2_with fail
    refine (order_any p n o v _ _ xs zs _ MID4.out.sx MID4.out.sz).mono ?_
    rintro e w5 ⟨rfl, hb⟩
    have MID5 := hid (MID4.out.next hb)
    clear MID4 c c0 c1 c2 c3 hb
    go_wp2
    go_ret
    exact ⟨rfl, MID5.out.below⟩

end Go.Proofs.Ytkmjmmnnnbjghaa

/- MonoOrders, the way where all is right. -/
namespace Go.Proofs.Ytkmjmmnnnbjghaa
set_option linter.unusedSimpArgs false
set_option linter.unusedVariables false
open Go.RowKit

theorem ordA_ok {p n o v : Int} {xs ys : List Int} (h : errAll p n o v [xs, ys] = 0) : ordA p n o v xs ys = ordS o xs ys := by unfold ordA; rw [if_pos h]

theorem Sl.made (w : World) (n : Nat) (T : TypeId) : Sl (w.alloc (.cells (madeCells #[.int .i64 0] n) T)) (.slice (some ⟨w.heap.size, 0, none⟩) n n) (List.replicate n 0) := by
  refine ⟨some ⟨w.heap.size, 0, none⟩, n, by simp, fun _ => ⟨_, _, rfl, by simp, fun i hi => ?_⟩⟩
  simp at hi
  simp [madeCells, hi, Nat.mod_one]
theorem errM_zero (n : Nat) : errM n (List.replicate n 0) = 0 := by
  refine errM_mk (by simp) (fun x hx => ?_) (by rw [sumI_rep]; omega)
  rw [List.eq_of_mem_replicate hx]; omega

set_option maxRecDepth 100000 in
set_option maxHeartbeats 1000000 in
theorem monoOrders_good (p n o v : Int) (x y z : Value) (xs ys zs : List Int) (w : World) (hs : Sl w x xs) (hs2 : Sl w y ys) (hs3 : Sl w z zs)
    (hR : errR p n o v = 0) (hx : errM n xs = 0) (hy : errM n ys = 0) (hz : errM n zs = 0) :
    Calls Try.prog 7 #[ringV p n o v, x, y, z] w fun e w' => e = .returned (.bool true) ∧ Below w.heap.size w w' := by
  have HS := hid hs
  have HS2 := hid hs2
  have HS3 := hid hs3
  obtain ⟨a1, cap1, rfl, _⟩ := hs
  obtain ⟨a2, cap2, rfl, _⟩ := hs2
  obtain ⟨a3, cap3, rfl, _⟩ := hs3
  have E1 := hid (errAll_mk hR hx hy)
  have E2 := hid (errAll_mk hR hy hx)
  have E3 := hid (errAll_mk hR hy hz)
  have E4 := hid (errAll_mk hR hx hz)
  obtain ⟨_, hn1, hn2, ho, _⟩ := ring_ok hR
  obtain ⟨hlx, hbx, _⟩ := errM_ok hx
  subst hlx
  obtain ⟨hly, hby, _⟩ := errM_ok hy
  obtain ⟨hlz, hbz, _⟩ := errM_ok hz
  have HXB := hid hbx
  have hmx : xs.length ≤ 3 := by omega
  have HRM := hid (And.intro hR (And.intro hx (And.intro hy hz)))
  have HL := hid (And.intro hly hlz)
  have hneg := ordS_neg o xs ys
  have hzero := ordS_zero o xs ys (by omega)
  have htr := ordS_trans o xs ys zs (by omega) (by omega)
  have hA := ordS_bd o xs ys
  have hB := ordS_bd o ys xs
  have HSM : Hid (sameB xs ys = decide (ordS o xs ys = 0)) := by
    show decide (xs = ys) = _; exact (decide_eq_decide.2 hzero).symm
  have hAdd := hid (ordS_add o xs ys zs (by omega) (by omega))
  clear hR hx hy hz hly hlz hbx hby hbz hzero
  have H9 : Hid (ordA p xs.length o v xs ys = ordS o xs ys ∧ ordA p xs.length o v ys xs = ordS o ys xs ∧ ordA p xs.length o v ys zs = ordS o ys zs ∧ ordA p xs.length o v xs zs = ordS o xs zs) := ⟨ordA_ok E1.out, ordA_ok E2.out, ordA_ok E3.out, ordA_ok E4.out⟩
  generalize ordS o xs ys = A at hneg htr hA HSM hAdd H9
  generalize ordS o ys xs = B at hneg hB H9
  generalize ordS o ys zs = C at htr H9
  generalize ordS o xs zs = D at htr H9
  obtain ⟨hA1, hA2⟩ := hA
  obtain ⟨hB1, hB2⟩ := hB
  have hAB : (A != -B) = false := by simp; omega
  have hcase : (A ≤ 0) ∨ (0 < A ∧ C ≤ 0) ∨ (0 < A ∧ 0 < C ∧ 0 < D) := by
    by_cases h1 : 0 < A
    · by_cases h2 : 0 < C
      · exact Or.inr (Or.inr ⟨h1, h2, htr h1 h2⟩)
      · exact Or.inr (Or.inl ⟨h1, by omega⟩)
    · exact Or.inl (by omega)
  have HCASE := hid hcase
  clear hneg htr hcase
  go_enter Try.func7, Try.ntmps7
  go_wp2_with fail
  refine (monoBegun_any _).mono ?_
  rintro e w1 ⟨rfl, hb1⟩
  have mid : Mid w w1 _ _ _ xs ys zs p xs.length o v := Mid.mk (below_one.trans (hb1.mono (by simp))) ((BoxAt.new w p xs.length o v _).below hb1) (HS.out.below (below_one.trans (hb1.mono (by simp)))) (HS2.out.below (below_one.trans (hb1.mono (by simp)))) (HS3.out.below (below_one.trans (hb1.mono (by simp))))
  have MID := hid mid
  obtain ⟨c, c0, c1, c2, c3⟩ := mid.box
  clear hb1 mid
  go_wp2_with fail
  refine (order_any p xs.length o v _ _ xs ys _ MID.out.sx MID.out.sy).mono ?_
  rintro e w2 ⟨rfl, hb⟩
  have MID2 := hid (MID.out.next hb)
  clear MID c c0 c1 c2 c3 hb
  obtain ⟨c, c0, c1, c2, c3⟩ := MID2.out.box
  rw [E1.out, H9.out.1]
  go_wp2_with fail
  refine (order_any p xs.length o v _ _ ys xs _ MID2.out.sy MID2.out.sx).mono ?_
  rintro e w3 ⟨rfl, hb⟩
  have MID3 := hid (MID2.out.next hb)
  clear MID2 c c0 c1 c2 c3 hb
  obtain ⟨c, c0, c1, c2, c3⟩ := MID3.out.box
  rw [E2.out, H9.out.2.1]
  go_wp2_with fail
  refine (order_any p xs.length o v _ _ ys zs _ MID3.out.sy MID3.out.sz).mono ?_
  rintro e w4 ⟨rfl, hb⟩
  have MID4 := hid (MID3.out.next hb)
  clear MID3 c c0 c1 c2 c3 hb
  obtain ⟨c, c0, c1, c2, c3⟩ := MID4.out.box
  rw [E3.out, H9.out.2.2.1]
  go_wp2_with fail
  refine (order_any p xs.length o v _ _ xs zs _ MID4.out.sx MID4.out.sz).mono ?_
  rintro e w5 ⟨rfl, hb⟩
  have MID5 := hid (MID4.out.next hb)
  clear MID4 c c0 c1 c2 c3 hb
  obtain ⟨c, c0, c1, c2, c3⟩ := MID5.out.box
  rw [E4.out, H9.out.2.2.2]
  go_upto_region 9 with fail
  go_cut [89] (fun s89 wc => s89 = .bool false ∧ Mid w wc (.slice a1 xs.length cap1) (.slice a2 ys.length cap2) (.slice a3 zs.length cap3) xs ys zs p xs.length o v)
  case first =>
    have hsame : (A == 0) = decide (A = 0) := rfl
    rcases HCASE.out with k1 | ⟨k1, k2⟩ | ⟨k1, k2, k3⟩
    all_goals
      go_wp2_with fail
      refine (sameInts_any _ _ xs ys _ hmx MID5.out.sx MID5.out.sy).mono ?_
      rintro e w6 ⟨rfl, hd6⟩
      rw [HSM.out]
      have MID6 := hid (MID5.out.next (below_ndraws (Below.refl _ _) hd6))
      clear MID5 c c0 c1 c2 c3 hd6
      go_wp2_with fail
      go_meet
      case rel => exact ⟨by first | rfl | (congr 1; simp; omega), MID6.out⟩
  case rest =>
  obtain ⟨rfl, hmid⟩ := hcut
  have MID6 := hid hmid
  clear MID5 c c0 c1 c2 c3 hmid HCASE
  obtain ⟨c, c0, c1, c2, c3⟩ := MID6.out.box
  have hE5 := errAll_mk HRM.out.1 HRM.out.2.1 (errM_zero xs.length)
  have hF1 := ordS_one o xs HXB.out
  have hF2 := ordA_ok hE5
  rw [← hF2] at hF1
  have HE5 := hid hE5
  clear hE5 hF2
  have HF := hid hF1
  clear hF1
  go_upto_region 11 with fail
  go_cut [17, 18] (fun s17 s18 wc => (∃ F : Int, s17 = .int .i64 F ∧ 0 ≤ F) ∧ s18 = .int .i64 0 ∧ Mid w wc (.slice a1 xs.length cap1) (.slice a2 ys.length cap2) (.slice a3 zs.length cap3) xs ys zs p xs.length o v)
  case first =>
    have hmk := fun (w : World) => run_make_row' (P := Try.prog) 36 3 (.int .i64 0) 8 Try.underlying36 Try.info_int rfl .i64 .i64 xs.length (by omega) (by omega) w
    go_region_with (go_at_call 25; refine (order_any p xs.length o v _ _ xs (List.replicate xs.length 0) _ ?_ ?_).mono ?_; exact MID6.out.sx.below (below_one.drew); exact Sl.made _ _ _; rintro e w7 ⟨rfl, hb7⟩; rw [HE5.out])
    all_goals
      have MID7 := hid (MID6.out.next ((below_one.drew).trans (hb7.mono (by simp))))
      clear hb7
      go_wp2_with fail
      go_meet
      case rel => exact ⟨⟨_, rfl, HF.out⟩, rfl, MID7.out⟩
  case rest =>
  obtain ⟨⟨F, rfl, hF⟩, rfl, hmid⟩ := hcut
  have MID7 := hid hmid
  clear MID6 c c0 c1 c2 c3 hmid HF HE5
  obtain ⟨c, c0, c1, c2, c3⟩ := MID7.out.box
  go_wp2_with fail
  refine (monoTimes_any p xs.length o v _ _ xs zs _ MID7.out.sx MID7.out.sz).mono ?_
  rintro e w8 ⟨u1, rfl, hu1, hb8⟩
  have MID8 := hid (MID7.out.next hb8)
  have HU1 := hid hu1
  obtain ⟨ua1, ucap1, rfl, _⟩ := hu1
  clear MID7 c c0 c1 c2 c3 hb8
  obtain ⟨c, c0, c1, c2, c3⟩ := MID8.out.box
  go_wp2_with fail
  refine (monoTimes_any p xs.length o v _ _ ys zs _ MID8.out.sy MID8.out.sz).mono ?_
  rintro e w9 ⟨u2, rfl, hu2, hb9⟩
  have MID9 := hid (MID8.out.next hb9)
  have HU1 := hid (HU1.out.below hb9)
  have HU2 := hid hu2
  obtain ⟨ua2, ucap2, rfl, _⟩ := hu2
  clear MID8 c c0 c1 c2 c3 hb9
  obtain ⟨c, c0, c1, c2, c3⟩ := MID9.out.box
  cases hq1 : (tgE (· + ·) p xs.length o v xs zs != 0)
  · have hq1' : tgE (· + ·) p xs.length o v xs zs = 0 := by simpa using hq1
    rw [hq1']
    obtain ⟨_, hq1s, hq1r⟩ := tg_ok hq1'
    cases hq2 : (tgE (· + ·) p xs.length o v ys zs != 0)
    · have hq2' : tgE (· + ·) p xs.length o v ys zs = 0 := by simpa using hq2
      rw [hq2']
      obtain ⟨_, hq2s, hq2r⟩ := tg_ok hq2'
      obtain ⟨hlx, hbx, _⟩ := errM_ok HRM.out.2.1
      obtain ⟨hly, hby, _⟩ := errM_ok HRM.out.2.2.1
      obtain ⟨hlz, hbz, _⟩ := errM_ok HRM.out.2.2.2
      have g : ∀ x y : Int, 0 ≤ x ∧ x ≤ 200 → 0 ≤ y ∧ y ≤ 200 → 0 ≤ x + y ∧ x + y ≤ 400 := fun x y h1 h2 => by omega
      have m1 : errM xs.length (zipI (· + ·) xs zs) = 0 := errM_mk (by rw [zipI_len _ _ _ (by omega)]) (zipI_mem g hbx hbz) hq1s
      have m2 : errM xs.length (zipI (· + ·) ys zs) = 0 := errM_mk (by rw [zipI_len _ _ _ (by omega)]; omega) (zipI_mem g hby hbz) hq2s
      have HE6 := hid (errAll_mk HRM.out.1 m1 m2)
      have HA6 := hid (ordA_ok HE6.out)
      rw [hq1r] at HU1
      rw [hq2r] at HU2
      rw [hq1r, hq2r]
      clear hq1 hq1' hq1s hq1r hq2 hq2' hq2s hq2r hlx hbx hly hby hlz hbz g m1 m2
      go_wp2_with fail
      refine (order_any p xs.length o v _ _ (zipI (· + ·) xs zs) (zipI (· + ·) ys zs) _ HU1.out HU2.out).mono ?_
      rintro e w10 ⟨rfl, hb10⟩
      rw [HE6.out, HA6.out, hAdd.out]
      go_wp2
      go_ret
      exact ⟨by simp, MID9.out.below.trans (hb10.mono MID9.out.below.size)⟩
    · clear hq1 hq1' hq1s hq1r
      go_wp2
      go_ret
      exact ⟨rfl, MID9.out.below⟩
  · go_wp2
    go_ret
    exact ⟨rfl, MID9.out.below⟩

end Go.Proofs.Ytkmjmmnnnbjghaa

/- The frame of the rows: what comes in, as slices and rings. -/
namespace Go.Proofs.Ytkmjmmnnnbjghaa
set_option linter.unusedSimpArgs false
set_option linter.unusedVariables false
open Go.ChangeShapes Go.WideShapes Go.ChangeAt Go.RowKit Go.Joins

theorem Try.own : ownKnob Try.prog.godebug = none := by kernel_rfl
theorem Try.laidOut : laidOutB Try.prog = true := by kernel_rfl
theorem Try.cellsInt : Try.prog.cellsOf 3 = 1 := by kernel_rfl
theorem Try.cellsRing : Try.prog.cellsOf 39 = 4 := by kernel_rfl

theorem cell_lt {w : World} {a : Addr} {v : Value} (h : w.cell? a = some v) : a.block < w.heap.size := by
  unfold World.cell? at h
  apply Nat.lt_of_not_le
  intro hn
  rw [Array.getElem?_eq_none hn] at h
  simp at h

/-- A slice of integers that came in. -/
theorem sl_of {H : Type} {enc : TypeId × Value → H} {W : World} {a : Option Addr} {len cap : Nat} {d : DataW H} {p : List MemPlace}
    (h : DataW.Trod enc Try.prog W 0 (fun _ => true) true 36 (.slice a len cap) d p) : ∃ xs : List Int, Sl W (.slice a len cap) xs := by
  obtain ⟨fuel, hf⟩ := h
  rcases open_ints Try.underlying36 Try.underlying3 Try.cellsInt hf with ⟨hcs, _⟩ | ⟨x, l, c, zs, hcs, _, hl, hm, hz, _, hcell, hwz⟩
  · simp [Value.cells] at hcs
    obtain ⟨rfl, rfl, rfl⟩ := hcs
    exact ⟨[], none, 0, rfl, fun h => absurd h (by simp)⟩
  · simp [Value.cells] at hcs
    obtain ⟨rfl, rfl, rfl⟩ := hcs
    simp at hz
    have hlen : (zs.take len).length = len := by rw [List.length_take]; omega
    refine ⟨zs.take len, some x, cap, by rw [hlen], fun hp => ?_⟩
    rw [hlen] at hp
    obtain ⟨b, off, spot⟩ := x
    have hc := hcell 0 (by omega)
    have hspot : spot = none := by simpa [Addr.add] using World.cell?_spot hc
    subst hspot
    refine ⟨b, off, rfl, ?_, fun i hi => ?_⟩
    · exact cell_lt hc
    · rw [hlen] at hi
      have := hcell i (by omega)
      have e : (zs.take len).getD i 0 = zs.getD i 0 := by
        simp [List.getD_eq_getElem?_getD, List.getElem?_take, hi]
      rw [e]
      by_cases h0 : i = 0
      · subst h0; simpa [Addr.add] using this
      · simpa [Addr.add, h0] using this

set_option maxRecDepth 100000 in
/-- A ring that came in. -/
theorem ring_of {H : Type} {enc : TypeId × Value → H} {W : World} {b0 : Nat} {v : Value} {d : DataW H} {p : List MemPlace} (hv : Value.okWide Try.prog W .any b0 39 v)
    (h : DataW.Trod enc Try.prog W 0 (fun _ => true) true 39 v d p) : ∃ a b c e : Int, v = ringV a b c e := by
  obtain ⟨c0, c1, c2, c3, y0, y1, y2, y3, m, rfl, _, _, hy0, hy1, hy2, hy3⟩ := open_agg4 Try.underlying39 (by kernel_rfl) Try.cellsRing hv h
  obtain ⟨a, e0, _, _⟩ := DataW.trod_int Try.underlying3 hy0
  obtain ⟨b, e1, _, _⟩ := DataW.trod_int Try.underlying3 hy1
  obtain ⟨c, e2, _, _⟩ := DataW.trod_int Try.underlying3 hy2
  obtain ⟨e, e3, _, _⟩ := DataW.trod_int Try.underlying3 hy3
  simp at e0 e1 e2 e3
  subst e0 e1 e2 e3
  exact ⟨a, b, c, e, rfl⟩

end Go.Proofs.Ytkmjmmnnnbjghaa
