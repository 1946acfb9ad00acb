/- checkRows; CheckRows of the reference. -/
import Derived.Test.YtilogbggilchaaaDoorFD
import Derived.Deep.DeepCutAuto
namespace Go.Proofs.YtilogbggilchaaaDoor
set_option linter.unusedSimpArgs false
set_option linter.unusedVariables false
open Go.RowKit
theorem belowTwo {w : World} {A B : Obj} : Below w.heap.size w ((w.alloc A).alloc B) := belowNew.trans (belowNew.mono (by simp))
theorem longR_ok {xss : List (List Int)} (h : xss.any longR = false) : ∀ xs ∈ xss, xs.length ≤ 400 := by
  intro xs hx
  rw [List.any_eq_false] at h
  have := h xs hx
  simp [longR] at this; omega

set_option maxHeartbeats 1000000 in
theorem checkRows_any (p : Int) (v : Value) (xss : List (List Int)) (w : World) (hr : Rws w v xss) :
    Calls Tryd.prog 73 #[.int .i64 p, v] w fun e w' => e = .returned (.int .i64 (rowsE p xss)) ∧ Below w.heap.size w w' := by
  have HR := hid hr
  obtain ⟨a, cap, rfl, _⟩ := hr
  cases hp : (errP p != 0)
  · have hp0 : errP p = 0 := by simpa using hp
    have HE : Hid (rowsE p xss = rowE p xss) := by unfold Hid rowsE; rw [if_pos hp0]
    rw [HE.out]
    clear HE hp0
    by_cases hl : 400 < (xss.length : Int)
    · have e : rowE p xss = 2 := by unfold rowE; rw [if_pos (Or.inl hl)]
      rw [e]
      clear e
      go_enter Tryd.func73, Tryd.ntmps73
      go_wp2_with fail
      refine (check_any _ _).mono ?_
      rintro e w' ⟨rfl, rfl⟩
      go_wp2
      go_ret
      exact ⟨rfl, belowTwo⟩
    · have hm : xss.length ≤ 400 := by omega
      cases h1 : xss.any longR
      · have h1' := longR_ok h1
        have H1 := hid h1'
        cases h2 : xss.any (unlikeR (xss.getD 0 []).length)
        · cases h3 : xss.any (fun xs => xs.any (outP p))
          all_goals
            have e : rowE p xss = if xss.any (fun xs => xs.any (outP p)) then 3 else 0 := by unfold rowE; rw [if_neg (by simp [h1]; omega), if_neg (by rw [h2]; exact Bool.false_ne_true)]
            rw [e, h3]
            clear e h1'
            go_enter Tryd.func73, Tryd.ntmps73
            go_wp2_with fail
            refine (check_any _ _).mono ?_
            rintro e w' ⟨rfl, rfl⟩
            go_wp2_with fail
            refine (containsLong_any longR _ xss _ hm (HR.out.below belowTwo) (fun W v xs hb hs _ => longFn_any v xs W hs)).mono ?_
            rintro e w1 ⟨rfl, hb1⟩
            have hc1 := hb1.cell (p := ⟨w.heap.size + 1, 0, none⟩) (by simp)
            have hc0 := hb1.cell (p := ⟨w.heap.size, 0, none⟩) (by simp; omega)
            have hs1 : w.heap.size + 2 ≤ w1.heap.size := by have := hb1.size; simp at this; omega
            have hbw1 : Below w.heap.size w w1 := belowTwo.trans (hb1.mono (by simp; omega))
            simp [go_sem] at hc1 hc0
            clear hb1
            go_wp2_with fail
            refine (containsUnlike_any (unlikeR (xss.getD 0 []).length) _ xss _ _ hm (HR.out.below hbw1) (fun W v xs hb hs hx => unlikeFn_any v _ xs xss _ W hs (HR.out.below (hbw1.trans (hb.mono hbw1.size))) (List.length_pos_of_mem hx) (by rw [hb.cell (p := ⟨w.heap.size + 1, 0, none⟩) (show w.heap.size + 1 < _ by omega)]; exact hc1))).mono ?_
            rintro e w2 ⟨rfl, hb2⟩
            rw [h2]
            have hd1 := hb2.cell (p := ⟨w.heap.size + 1, 0, none⟩) (show w.heap.size + 1 < _ by omega)
            have hd0 := hb2.cell (p := ⟨w.heap.size, 0, none⟩) (show w.heap.size < _ by omega)
            rw [hc1] at hd1
            rw [hc0] at hd0
            have hs2 : w.heap.size + 2 ≤ w2.heap.size := Nat.le_trans hs1 hb2.size
            have hbw2 : Below w.heap.size w w2 := hbw1.trans (hb2.mono hbw1.size)
            clear hb2 hc0 hc1 hs1 hbw1
            go_wp2_with fail
            refine (containsRange_any (fun xs => xs.any (outP p)) _ xss _ _ hm (HR.out.below hbw2) (fun W v xs hb hs hx => rangeFn_any p v xs _ W (H1.out xs hx) hs (by rw [hb.cell (p := ⟨w.heap.size, 0, none⟩) (show w.heap.size < _ by omega)]; exact hd0))).mono ?_
            rintro e w3 ⟨rfl, hb3⟩
            have hbw3 : Below w.heap.size w w3 := hbw2.trans (hb3.mono hbw2.size)
            rw [h3]
            go_wp2
            go_ret
            exact ⟨rfl, hbw3⟩
        · have e : rowE p xss = 1 := by unfold rowE; rw [if_neg (by simp [h1]; omega), if_pos h2]
          rw [e]
          clear e h1'
          go_enter Tryd.func73, Tryd.ntmps73
          go_wp2_with fail
          refine (check_any _ _).mono ?_
          rintro e w' ⟨rfl, rfl⟩
          go_wp2_with fail
          refine (containsLong_any longR _ xss _ hm (HR.out.below belowTwo) (fun W v xs hb hs _ => longFn_any v xs W hs)).mono ?_
          rintro e w1 ⟨rfl, hb1⟩
          have hc1 := hb1.cell (p := ⟨w.heap.size + 1, 0, none⟩) (by simp)
          have hs1 : w.heap.size + 2 ≤ w1.heap.size := by have := hb1.size; simp at this; omega
          have hbw1 : Below w.heap.size w w1 := belowTwo.trans (hb1.mono (by simp; omega))
          simp [go_sem] at hc1
          clear hb1
          go_wp2_with fail
          refine (containsUnlike_any (unlikeR (xss.getD 0 []).length) _ xss _ _ hm (HR.out.below hbw1) (fun W v xs hb hs hx => unlikeFn_any v _ xs xss _ W hs (HR.out.below (hbw1.trans (hb.mono hbw1.size))) (List.length_pos_of_mem hx) (by rw [hb.cell (p := ⟨w.heap.size + 1, 0, none⟩) (show w.heap.size + 1 < _ by omega)]; exact hc1))).mono ?_
          rintro e w2 ⟨rfl, hb2⟩
          rw [h2]
          go_wp2
          go_ret
          exact ⟨rfl, hbw1.trans (hb2.mono hbw1.size)⟩
      · have e : rowE p xss = 2 := by unfold rowE; rw [if_pos (Or.inr h1)]
        rw [e]
        clear e
        go_enter Tryd.func73, Tryd.ntmps73
        go_wp2_with fail
        refine (check_any _ _).mono ?_
        rintro e w' ⟨rfl, rfl⟩
        go_wp2_with fail
        refine (containsLong_any longR _ xss _ hm (HR.out.below belowTwo) (fun W v xs hb hs _ => longFn_any v xs W hs)).mono ?_
        rintro e w1 ⟨rfl, hb1⟩
        go_wp2
        go_ret
        exact ⟨rfl, belowTwo.trans (hb1.mono (by simp; omega))⟩
  · have e : rowsE p xss = errP p := by unfold rowsE; rw [if_neg (by simpa using hp)]
    rw [e]
    clear e
    go_enter Tryd.func73, Tryd.ntmps73
    go_wp2_with fail
    refine (check_any _ _).mono ?_
    rintro e w' ⟨rfl, rfl⟩
    go_wp2
    go_ret
    exact ⟨rfl, belowTwo⟩
end Go.Proofs.YtilogbggilchaaaDoor
