/- Inverse; the reference's. -/
import Derived.Test.YtilogbggilchaaaDoorFB
namespace Go.Proofs.YtilogbggilchaaaDoor
set_option linter.unusedSimpArgs false
set_option linter.unusedVariables false
open Go.RowKit
theorem numE_one {p a : Int} (h : numE p [a] = 0) : errP p = 0 ∧ 0 ≤ a ∧ a < p := by
  unfold numE at h
  by_cases h1 : errP p = 0
  · rw [if_pos h1] at h
    cases h2 : [a].any (outP p)
    · have ha := outP_all h2 a (by simp)
      exact ⟨h1, ha.1, ha.2⟩
    · rw [if_pos h2] at h; omega
  · rw [if_neg h1] at h; exact absurd h h1
def ivE (p a : Int) : Int := if numE p [a] = 0 then (if a = 0 then 5 else 0) else numE p [a]
def ivR (p a : Int) : Int := if ivE p a = 0 then invI p a else 0

set_option maxHeartbeats 400000 in
theorem fieldInverse_any (p a : Int) (w : World) :
    Calls Tryd.prog 48 #[.int .i64 p, .int .i64 a] w fun e w' => e = .returned (.tuple #[.int .i64 (ivR p a), .int .i64 (ivE p a)]) ∧ Below w.heap.size w w' := by
  cases hz : (numE p [a] != 0)
  · have hz0 : numE p [a] = 0 := by simpa using hz
    obtain ⟨h1, ha, ha2⟩ := numE_one hz0
    obtain ⟨hp1, hp2, _⟩ := errP_ok h1
    have HZ := hid hz0
    cases h0 : (a == 0)
    · have h0' : a ≠ 0 := by simpa using h0
      have e1 : ivE p a = 0 := by unfold ivE; rw [if_pos hz0, if_neg h0']
      have e2 : ivR p a = invI p a := by unfold ivR; rw [if_pos e1]
      rw [e1, e2]
      obtain ⟨pn, rfl⟩ : ∃ n : Nat, p = n := ⟨p.toNat, by omega⟩
      obtain ⟨an, rfl⟩ : ∃ n : Nat, a = n := ⟨a.toNat, by omega⟩
      have e3 : invI (pn : Int) (an : Int) = invN pn an := rfl
      rw [e3]
      clear e1 e2 e3 h1 hz0 hz h0'
      go_enter Tryd.func48, Tryd.ntmps48
      go_wp2_with fail
      refine (checkNumbers_any pn _ [(an : Int)] _ (by simp) (Sl.of1 _ _ _)).mono ?_
      rintro e w1 ⟨rfl, hb1⟩
      rw [HZ.out]
      go_wp2_with fail
      refine (inverse_any pn an _ (by omega) (by omega) (by omega)).mono ?_
      rintro e w' ⟨rfl, rfl⟩
      go_wp2
      go_ret2
      exact ⟨rfl, belowNew.trans (hb1.mono (by simp))⟩
    · have h0' : a = 0 := by simpa using h0
      have e1 : ivE p a = 5 := by unfold ivE; rw [if_pos hz0, if_pos h0']
      have e2 : ivR p a = 0 := by unfold ivR; rw [if_neg (by rw [e1]; decide)]
      rw [e1, e2]
      clear e1 e2 h1 hz0 hz h0'
      go_enter Tryd.func48, Tryd.ntmps48
      go_wp2_with fail
      refine (checkNumbers_any p _ [a] _ (by simp) (Sl.of1 _ _ _)).mono ?_
      rintro e w1 ⟨rfl, hb1⟩
      rw [HZ.out]
      go_wp2
      go_ret2
      exact ⟨rfl, belowNew.trans (hb1.mono (by simp))⟩
  · have e1 : ivE p a = numE p [a] := by unfold ivE; rw [if_neg (by simpa using hz)]
    have e2 : ivR p a = 0 := by unfold ivR; rw [if_neg (by rw [e1]; simpa using hz)]
    rw [e1, e2]
    clear e1 e2
    go_enter Tryd.func48, Tryd.ntmps48
    go_wp2_with fail
    refine (checkNumbers_any p _ [a] _ (by simp) (Sl.of1 _ _ _)).mono ?_
    rintro e w1 ⟨rfl, hb1⟩
    go_wp2
    go_ret2
    exact ⟨rfl, belowNew.trans (hb1.mono (by simp))⟩
end Go.Proofs.YtilogbggilchaaaDoor
