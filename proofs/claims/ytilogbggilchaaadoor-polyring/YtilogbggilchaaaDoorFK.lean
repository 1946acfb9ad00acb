/- Rank; what must be in any case. -/
import Derived.Test.YtilogbggilchaaaDoorFJ
namespace Go.Proofs.YtilogbggilchaaaDoor
set_option linter.unusedSimpArgs false
set_option linter.unusedVariables false
open Go.RowKit
def rankR (p : Int) (xss : List (List Int)) : Int := if rowsE p xss = 0 then ((pivs p xss).length : Int) else 0

theorem rowsE_ok {p : Int} {xss : List (List Int)} (h : rowsE p xss = 0) : errP p = 0 ∧ xss.length ≤ 400 ∧ (xss.getD 0 []).length ≤ 400 ∧ ∀ r ∈ xss, RowOk p (xss.getD 0 []).length r := by
  unfold rowsE at h
  by_cases h1 : errP p = 0
  · rw [if_pos h1] at h
    unfold rowE at h
    by_cases h2 : 400 < (xss.length : Int) ∨ xss.any longR = true
    · rw [if_pos h2] at h; omega
    · rw [if_neg h2] at h
      cases h3 : xss.any (unlikeR (xss.getD 0 []).length)
      · rw [if_neg (by rw [h3]; exact Bool.false_ne_true)] at h
        cases h4 : xss.any (fun xs => xs.any (outP p))
        · have hl : xss.any longR = false := by
            cases hh : xss.any longR
            · rfl
            · exact absurd (Or.inr hh) h2
          have hlen := longR_ok hl
          refine ⟨h1, by omega, ?_, fun r hr => ⟨?_, ?_⟩⟩
          · cases xss with
            | nil => simp
            | cons x r => simpa using hlen x (by simp)
          · rw [List.any_eq_false] at h3
            have := h3 r hr
            simp only [unlikeR, bne_iff_ne, ne_eq, Decidable.not_not] at this
            omega
          · rw [List.any_eq_false] at h4
            have := h4 r hr
            exact outP_all (by simpa using this)
        · rw [if_pos h4] at h; omega
      · rw [if_pos h3] at h; omega
  · rw [if_neg h1] at h; exact absurd h h1

set_option maxHeartbeats 400000 in
theorem rank_any (p : Int) (v : Value) (xss : List (List Int)) (w : World) (hr : Rws w v xss) :
    Calls Tryd.prog 50 #[.int .i64 p, v] w fun e w' => e = .returned (.tuple #[.int .i64 (rankR p xss), .int .i64 (rowsE p xss)]) ∧ Below w.heap.size w w' := by
  have HR := hid hr
  obtain ⟨a, cap, rfl, _⟩ := hr
  cases hz : (rowsE p xss != 0)
  · have hz0 : rowsE p xss = 0 := by simpa using hz
    obtain ⟨h1, h2, h3, h4⟩ := rowsE_ok hz0
    obtain ⟨hp1, hp2, _⟩ := errP_ok h1
    have e1 : rankR p xss = ((pivs p xss).length : Int) := by unfold rankR; rw [if_pos hz0]
    rw [e1, hz0]
    have HZ := hid hz0
    have H4 := hid h4
    obtain ⟨pn, rfl⟩ : ∃ n : Nat, p = n := ⟨p.toNat, by omega⟩
    clear e1 hz0 hz h1 h4
    generalize (xss.getD 0 []).length = n at *
    go_enter Tryd.func50, Tryd.ntmps50
    go_wp2_with fail
    refine (checkRows_any pn _ xss _ HR.out).mono ?_
    rintro e w1 ⟨rfl, hb1⟩
    rw [HZ.out]
    go_wp2_with fail
    refine (pivots_any pn n _ xss _ (by omega) (by omega) h2 h3 H4.out (HR.out.below hb1)).mono ?_
    rintro e w2 ⟨ua, uc, rfl, hb2⟩
    go_wp2
    go_ret2
    exact ⟨rfl, hb1.trans (hb2.mono hb1.size)⟩
  · have e1 : rankR p xss = 0 := by unfold rankR; rw [if_neg (by simpa using hz)]
    rw [e1]
    clear e1
    go_enter Tryd.func50, Tryd.ntmps50
    go_wp2_with fail
    refine (checkRows_any p _ xss _ HR.out).mono ?_
    rintro e w1 ⟨rfl, hb1⟩
    go_wp2
    go_ret2
    exact ⟨rfl, hb1⟩

theorem begun_rows (w : World) (T U : TypeId) : Rws ((((w.alloc (.cells #[.int .i64 1, .int .i64 2] T)).alloc (.cells #[.int .i64 2, .int .i64 4] T)).alloc (.cells #[.int .i64 0, .int .i64 1] T)).alloc
    (.cells #[.slice (some ⟨w.heap.size, 0, none⟩) 2 2, .slice (some ⟨w.heap.size + 1, 0, none⟩) 2 2, .slice (some ⟨w.heap.size + 2, 0, none⟩) 2 2] U)) (.slice (some ⟨w.heap.size + 3, 0, none⟩) 3 3) [[1, 2], [2, 4], [0, 1]] := by
  have s0 := (((Sl.of2 w 1 2 T).below (belowTwo (A := .cells #[.int .i64 2, .int .i64 4] T) (B := .cells #[.int .i64 0, .int .i64 1] T))))
  have s1 := (((Sl.of2 (w.alloc (.cells #[.int .i64 1, .int .i64 2] T)) 2 4 T).below (belowNew (A := .cells #[.int .i64 0, .int .i64 1] T))))
  have s2 := Sl.of2 ((w.alloc (.cells #[.int .i64 1, .int .i64 2] T)).alloc (.cells #[.int .i64 2, .int .i64 4] T)) 0 1 T
  have e1 : (w.alloc (.cells #[.int .i64 1, .int .i64 2] T)).heap.size = w.heap.size + 1 := by simp
  have e2 : ((w.alloc (.cells #[.int .i64 1, .int .i64 2] T)).alloc (.cells #[.int .i64 2, .int .i64 4] T)).heap.size = w.heap.size + 2 := by simp
  rw [e1] at s1
  rw [e2] at s2
  refine ⟨_, _, rfl, fun _ => ⟨_, _, rfl, by simp, fun i hi => ?_⟩⟩
  simp at hi
  rcases i with _ | _ | _ | i
  · exact ⟨_, by simp [go_sem], s0.below belowNew⟩
  · exact ⟨_, by simp [go_sem], s1.below belowNew⟩
  · exact ⟨_, by simp [go_sem], s2.below belowNew⟩
  · omega

set_option maxHeartbeats 1000000 in
theorem fieldBegun_any (w : World) : Calls Tryd.prog 21 #[] w fun e w' => e = .returned (.bool true) ∧ Below w.heap.size w w' := by
  have T1 := hid (show ivE 7 3 = 0 ∧ ivR 7 3 = 5 by decide +kernel)
  have T2 := hid (show numE 7 [4, 5] = 0 ∧ fopR (· + ·) 7 4 5 = 2 by decide +kernel)
  have T3 := hid (show rowsE 7 [[1, 2], [2, 4], [0, 1]] = 0 ∧ rankR 7 [[1, 2], [2, 4], [0, 1]] = 2 by decide +kernel)
  have T4 := hid (show errP 7 = 0 by decide +kernel)
  go_enter Tryd.func21, Tryd.ntmps21
  go_wp2_with fail
  refine (fieldInverse_any 7 3 _).mono ?_
  rintro e w1 ⟨rfl, hb1⟩
  rw [T1.out.1, T1.out.2]
  go_wp2_with fail
  refine (fieldAdd_any 7 4 5 _).mono ?_
  rintro e w2 ⟨rfl, hb2⟩
  rw [T2.out.1, T2.out.2]
  have hbb2 : Below w.heap.size w w2 := hb1.trans (hb2.mono hb1.size)
  clear hb1 hb2
  go_wp2_with fail
  refine (rank_any 7 _ [[1, 2], [2, 4], [0, 1]] _ (begun_rows _ _ _)).mono ?_
  rintro e w3 ⟨rfl, hb3⟩
  rw [T3.out.1, T3.out.2]
  have hbb3 : Below w.heap.size w w3 := hbb2.trans ((belowThree.trans (belowNew.mono (by simp; omega))).trans (hb3.mono (by simp; omega)) |>.mono hbb2.size)
  clear hb3
  go_wp2_with fail
  refine (check_any 7 _).mono ?_
  rintro e w' ⟨rfl, rfl⟩
  rw [T4.out]
  go_wp2
  go_ret
  exact ⟨rfl, hbb3⟩
end Go.Proofs.YtilogbggilchaaaDoor
