/- Over; CheckMono, CheckMonos of the reference. -/
import Derived.Test.YtilogbggilchaaaDoorQ
import Derived.Deep.DeepCutAuto
namespace Go.Proofs.YtilogbggilchaaaDoor
set_option linter.unusedSimpArgs false
set_option linter.unusedVariables false
open Go.RowKit
theorem outB_between (x : Int) : outB x = !betweenB x 0 200 := by
  unfold outB betweenB
  by_cases h1 : 0 ≤ x <;> by_cases h2 : x ≤ 200 <;> simp [h1, h2] <;> omega

set_option maxHeartbeats 400000 in
theorem checkMono_any (p n o v : Int) (x : Value) (xs : List Int) (w : World) (hn : 1 ≤ n ∧ n ≤ 3) (hs : Sl w x xs) :
    Calls Tryd.prog 43 #[ringV p n o v, x] w fun e w' => e = .returned (.int .i64 (errM n xs)) ∧ Below w.heap.size w w' := by
  obtain ⟨a, cap, rfl, hs⟩ := hs
  obtain ⟨hn1, hn2⟩ := hn
  by_cases hl : (xs.length : Int) = n
  · subst hl
    obtain ⟨b, off, rfl, hlt, hc⟩ := hs (by omega)
    clear hs
    have HC := hid hc
    clear hc
    have hm : xs.length ≤ 3 := by omega
    go_enter Tryd.func43, Tryd.ntmps43
    go_wp2
    go_loop [5] (fun i => ∃ k : Nat, k ≤ xs.length ∧ i = .int .i64 k ∧ (xs.take k).any outB = false) (fun i => xs.length - (intOf i).toNat)
    case atStart => exact ⟨0, Nat.zero_le _, rfl, by simp⟩
    case round =>
      obtain ⟨k, hk, rfl, hn⟩ := hrel
      have HN := hid hn
      clear hn
      by_cases hk2 : k < xs.length
      · have hcell := HC.out k hk2
        have H1 := hid (any_take outB xs k hk2 HN.out)
        have H2 := hid (any_at outB xs k hk2)
        rw [← World.cell?_alloc_lt (w := w) (o := .cells #[.int .i64 p, .int .i64 xs.length, .int .i64 o, .int .i64 v] 23) (a := ⟨b, off + k, none⟩) hlt] at hcell
        generalize xs.getD k 0 = y at hcell H1 H2
        rw [outB_between] at H1 H2
        cases hy : betweenB y 0 200
        · go_wp2_with (go_at_call 42; refine (between_any _ _ _ _).mono ?_; rintro e w' ⟨rfl, rfl⟩)
          go_ret
          refine ⟨ret_int ?_, below_one⟩
          unfold errM
          rw [if_neg (by simp), if_pos (H2.out (by rw [hy]; rfl))]
        · go_wp2_with (go_at_call 42; refine (between_any _ _ _ _).mono ?_; rintro e w' ⟨rfl, rfl⟩)
          go_round
          case rel => exact ⟨k + 1, by omega, by go_num, H1.out (by rw [hy]; rfl)⟩
          case measure => simp [intOf]; omega
      · have hy := HN.out
        rw [List.take_of_length_le (by omega)] at hy
        have hb := any_bd hy
        have hb2 := hid (show ∀ x ∈ xs, 0 ≤ x ∧ x ≤ 400 from fun x hx => by have := hb x hx; omega)
        have HE : Hid (errM xs.length xs = if 200 < sumI xs then 3 else 0) := by
          show errM xs.length xs = _
          unfold errM
          rw [if_neg (by simp), if_neg (by simp [hy])]
        clear hb hy
        go_wp2_with fail
        refine (degreeOf_any xs _ _ _ _ hb2.out hm ?_).mono ?_
        · intro i hi; rw [World.cell?_alloc_lt (w := w) (o := _) (a := ⟨b, off + i, none⟩) hlt]; exact HC.out i hi
        rintro e w' ⟨rfl, rfl⟩
        by_cases hd : 200 < sumI xs
        · go_wp2
          go_ret
          exact ⟨ret_int (by rw [HE.out, if_pos hd]), below_one⟩
        · go_wp2
          go_ret
          exact ⟨ret_int (by rw [HE.out, if_neg (by omega)]), below_one⟩
  · have he : errM n xs = 1 := by simp [errM, hl]
    rw [he]; clear he hs
    have hl2 : ((xs.length : Int) != n) = true := by simpa using hl
    clear hl
    go_enter Tryd.func43, Tryd.ntmps43
    go_wp2
    go_ret
    exact ⟨rfl, below_one⟩
end Go.Proofs.YtilogbggilchaaaDoor
