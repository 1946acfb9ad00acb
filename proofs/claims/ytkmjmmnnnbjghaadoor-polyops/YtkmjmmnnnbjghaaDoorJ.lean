/- SameInts, xy. -/
import Derived.Test.YtkmjmmnnnbjghaaDoorI
namespace Go.Proofs.YtkmjmmnnnbjghaaDoor
set_option linter.unusedSimpArgs false
set_option linter.unusedVariables false
open Go.RowKit

def sameB (xs ys : List Int) : Bool := decide (xs = ys)
theorem take_same {xs ys : List Int} {k : Nat} (h : k < xs.length) (h2 : k < ys.length) (ht : xs.take k = ys.take k) (he : xs.getD k 0 = ys.getD k 0) : xs.take (k + 1) = ys.take (k + 1) := by
  rw [List.take_succ_eq_append_getElem h, List.take_succ_eq_append_getElem h2, ht]
  simp [List.getD_eq_getElem?_getD, h, h2] at he
  rw [he]

set_option maxHeartbeats 400000 in
theorem sameInts_any (x y : Value) (xs ys : List Int) (w : World) (hm : xs.length ≤ 3) (hs : Sl w x xs) (hs2 : Sl w y ys) :
    Calls Tryd.prog 45 #[x, y] w fun e w' => e = .returned (.bool (sameB xs ys)) ∧ ∃ n, w' = w.drewN n := by
  obtain ⟨a, cap, rfl, h1⟩ := hs
  obtain ⟨a2, cap2, rfl, h2⟩ := hs2
  by_cases hl : xs.length = ys.length
  · rw [← hl]
    by_cases h0 : xs.length = 0
    · have e1 : xs = [] := List.length_eq_zero_iff.1 h0
      have e2 : ys = [] := List.length_eq_zero_iff.1 (by omega)
      subst e1 e2
      clear h1 h2 hl h0
      go_enter Tryd.func45, Tryd.ntmps45
      go_wp2
      go_loop [5] (fun i => i = .int .i64 0) (fun _ => 0)
      case atStart => rfl
      case round =>
        subst hrel
        go_wp2
        go_ret
        exact ⟨rfl, 0, rfl⟩
    · obtain ⟨b, off, rfl, hlt, hc⟩ := h1 (by omega)
      obtain ⟨b2, off2, rfl, hlt2, hc2⟩ := h2 (by omega)
      have HC := hid hc
      have HC2 := hid hc2
      have HXY := hid hl
      clear h1 h2 hc hc2 hl h0
      go_enter Tryd.func45, Tryd.ntmps45
      go_wp2
      go_loopw [5] (fun i wr => ∃ k n : Nat, k ≤ xs.length ∧ i = .int .i64 k ∧ xs.take k = ys.take k ∧ wr = w.drewN n) (fun i _ => xs.length - (intOf i).toNat)
      case atStart => exact ⟨0, 0, Nat.zero_le _, rfl, rfl, rfl⟩
      case round =>
        obtain ⟨k, n0, hk, rfl, hn, hw0⟩ := hrel
        have HN := hid hn
        have HW := hid hw0
        clear hn hw0
        by_cases hk2 : k < xs.length
        · have hcell := HC.out k hk2
          have hcell2 := HC2.out k (by rw [← HXY.out]; exact hk2)
          have e1 : ∀ a, wr.cell? a = w.cell? a := fun a => by rw [HW.out]; rfl
          rw [← e1] at hcell hcell2
          clear e1
          have HT := hid (take_same hk2 (by rw [← HXY.out]; exact hk2) HN.out)
          have HF : Hid (¬ xs.getD k 0 = ys.getD k 0 → sameB xs ys = false) := by
            intro h
            unfold sameB
            apply decide_eq_false
            intro e; exact h (by rw [e])
          generalize xs.getD k 0 = u at hcell HT HF
          generalize ys.getD k 0 = t at hcell2 HT HF
          cases hy : (u != t)
          · go_wp2
            go_quiet (fail)
            go_wp2
            go_roundw
            case rel => exact ⟨k + 1, _, by omega, by go_num, HT.out (by simpa using hy), by rw [HW.out, World.drewN_drewN]⟩
            case measure => simp [intOf]; omega
          · go_wp2
            go_quiet (fail)
            go_wp2
            go_ret
            exact ⟨by rw [HF.out (by simpa using hy)]; rfl, _, by rw [HW.out, World.drewN_drewN]⟩
        · go_wp2
          go_ret
          refine ⟨?_, n0, HW.out⟩
          have := HN.out
          rw [List.take_of_length_le (by omega), List.take_of_length_le (by have := HXY.out; omega)] at this
          simp [sameB, this]
  · have he : sameB xs ys = false := by
      unfold sameB; apply decide_eq_false; intro e; exact hl (by rw [e])
    rw [he]
    have hl2 : ((xs.length : Int) != (ys.length : Int)) = true := by simp; omega
    clear he h1 h2 hl
    go_enter Tryd.func45, Tryd.ntmps45
    go_wp2
    go_ret
    exact ⟨rfl, 0, rfl⟩

set_option maxHeartbeats 400000 in
theorem xy_any (w : World) : Calls Tryd.prog 32 #[] w fun e w' => e = .returned (ringV 7 2 1 1) ∧ Below w.heap.size w w' := by
  go_enter Tryd.func32, Tryd.ntmps32
  go_wp2
  exact bodyPost_ret (v := ringV 7 2 1 1) (by simp [results, Tryd.results32, go_sem]) rfl ⟨rfl, (Below.refl _ _).alloc (Nat.le_refl _) _⟩

end Go.Proofs.YtkmjmmnnnbjghaaDoor
