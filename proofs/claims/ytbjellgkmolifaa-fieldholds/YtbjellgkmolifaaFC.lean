/- Inverse; the reference's. -/
import Derived.Test.YtbjellgkmolifaaFB
namespace Go.Proofs.Ytbjellgkmolifaa
set_option linter.unusedSimpArgs false
set_option linter.unusedVariables false
open Go.RowKit

theorem numE_one {p a : Int} (h : numE p [a] = 0) : errP p = 0 ∧ 0 ≤ a ∧ a < p := by
  unfold numE at h
  by_cases h1 : errP p = 0
  · rw [if_pos h1] at h
    cases h2 : [a].any (outP p)
    · have ha := outP_all h2 a (by simp)
      exact ⟨h1, ha.1, ha.2⟩
    · rw [if_pos h2] at h; omega
  · rw [if_neg h1] at h; exact absurd h h1
def ivE (p a : Int) : Int := if numE p [a] = 0 then (if a = 0 then 5 else 0) else numE p [a]
def ivR (p a : Int) : Int := if ivE p a = 0 then invI p a else 0

set_option maxHeartbeats 400000 in
theorem fieldInverse_any (p a : Int) (w : World) :
    Calls Try.prog 12 #[.int .i64 p, .int .i64 a] w fun e w' => e = .returned (.tuple #[.int .i64 (ivR p a), .int .i64 (ivE p a)]) ∧ Below w.heap.size w w' := by
  cases hz : (numE p [a] != 0)
  · have hz0 : numE p [a] = 0 := by simpa using hz
    obtain ⟨h1, ha, ha2⟩ := numE_one hz0
    obtain ⟨hp1, hp2, _⟩ := errP_ok h1
    have HZ := hid hz0
    cases h0 : (a == 0)
    · have h0' : a ≠ 0 := by simpa using h0
      have e1 : ivE p a = 0 := by unfold ivE; rw [if_pos hz0, if_neg h0']
      have e2 : ivR p a = invI p a := by unfold ivR; rw [if_pos e1]
      rw [e1, e2]
      obtain ⟨pn, rfl⟩ : ∃ n : Nat, p = n := ⟨p.toNat, by omega⟩
      obtain ⟨an, rfl⟩ : ∃ n : Nat, a = n := ⟨a.toNat, by omega⟩
      have e3 : invI (pn : Int) (an : Int) = invN pn an := rfl
      rw [e3]
      clear e1 e2 e3 h1 hz0 hz h0'
      go_enter Try.func12, Try.ntmps12
      go_wp2_with fail
      refine (checkNumbers_any pn _ [(an : Int)] _ (by simp) (Sl.of1 _ _ _)).mono ?_
      rintro e w1 ⟨rfl, hb1⟩
      rw [HZ.out]
      go_wp2_with fail
      refine (inverse_any pn an _ (by omega) (by omega) (by omega)).mono ?_
      rintro e w' ⟨rfl, rfl⟩
      go_wp2
      go_ret2
      exact ⟨rfl, belowNew.trans (hb1.mono (by simp))⟩
    · have h0' : a = 0 := by simpa using h0
      have e1 : ivE p a = 5 := by unfold ivE; rw [if_pos hz0, if_pos h0']
      have e2 : ivR p a = 0 := by unfold ivR; rw [if_neg (by rw [e1]; decide)]
      rw [e1, e2]
      clear e1 e2 h1 hz0 hz h0'
      go_enter Try.func12, Try.ntmps12
      go_wp2_with fail
      refine (checkNumbers_any p _ [a] _ (by simp) (Sl.of1 _ _ _)).mono ?_
      rintro e w1 ⟨rfl, hb1⟩
      rw [HZ.out]
      go_wp2
      go_ret2
      exact ⟨rfl, belowNew.trans (hb1.mono (by simp))⟩
  · have e1 : ivE p a = numE p [a] := by unfold ivE; rw [if_neg (by simpa using hz)]
    have e2 : ivR p a = 0 := by unfold ivR; rw [if_neg (by rw [e1]; simpa using hz)]
    rw [e1, e2]
    clear e1 e2
    go_enter Try.func12, Try.ntmps12
    go_wp2_with fail
    refine (checkNumbers_any p _ [a] _ (by simp) (Sl.of1 _ _ _)).mono ?_
    rintro e w1 ⟨rfl, hb1⟩
    go_wp2
    go_ret2
    exact ⟨rfl, belowNew.trans (hb1.mono (by simp))⟩

theorem invOk_parts {p a : Nat} (h : invOk p a = true) : 1 ≤ invN p a ∧ invN p a < p ∧ a * invN p a % p = 1 % p ∧ ∀ b, b < invN p a → a * b % p ≠ 1 % p := by
  unfold invOk at h
  simp only [Bool.and_eq_true, decide_eq_true_eq, List.all_eq_true, beq_iff_eq, bne_iff_ne] at h
  obtain ⟨⟨⟨h1, h2⟩, h3⟩, h4⟩ := h
  exact ⟨h1, h2, h3, fun b hb => h4 b (by simpa using hb)⟩

theorem cast_test (p a k : Nat) : ((a : Int) * (k : Int) % (p : Int) == 1 % (p : Int)) = decide (a * k % p = 1 % p) := by
  have e1 : (a : Int) * (k : Int) % (p : Int) = ((a * k % p : Nat) : Int) := by simp
  have e2 : (1 : Int) % (p : Int) = ((1 % p : Nat) : Int) := by simp
  rw [e1, e2]
  by_cases h : a * k % p = 1 % p
  · simp [h]
  · rw [decide_eq_false h]; simp only [beq_eq_false_iff_ne]; intro e; exact h (by exact_mod_cast e)

set_option maxHeartbeats 400000 in
theorem inverseOf_any (p a : Nat) (w : World) (hp : 2 ≤ p) (hp2 : p ≤ 101) (ha : a < p) (hok : invOk p a = true) :
    Calls Try.prog 15 #[.int .i64 p, .int .i64 a] w fun e w' => e = .returned (.int .i64 (invN p a)) ∧ ∃ n, w' = w.drewN n := by
  have PARTS := hid (invOk_parts hok)
  clear hok
  go_enter Try.func15, Try.ntmps15
  go_wp2
  go_loopw [5] (fun i wr => ∃ k n : Nat, 1 ≤ k ∧ k ≤ invN p a ∧ i = .int .i64 k ∧ wr = w.drewN n) (fun i _ => p - (intOf i).toNat)
  case atStart => exact ⟨1, 0, by omega, PARTS.out.1, rfl, rfl⟩
  case round =>
    obtain ⟨k, n0, hk1, hk, rfl, hw0⟩ := hrel
    have HW := hid hw0
    have HK := hid hk
    have hkp : k < p := by have := PARTS.out.2.1; omega
    have hmb := mul_bd (a := (a : Int)) (b := (k : Int)) ⟨by omega, by omega, by omega, by omega⟩
    obtain ⟨hm1, hm2⟩ := hmb
    have hct := cast_test p a k
    clear hw0 hk
    by_cases he : k = invN p a
    · have ht : ((a : Int) * (k : Int) % (p : Int) == 1 % (p : Int)) = true := by rw [hct, he]; exact decide_eq_true PARTS.out.2.2.1
      have HE := hid he
      clear hct he
      go_wp2
      go_quiet (fail)
      go_wp2
      go_ret
      exact ⟨ret_int (by rw [← HE.out]), _, by rw [HW.out, World.drewN_drewN]⟩
    · have ht : ((a : Int) * (k : Int) % (p : Int) == 1 % (p : Int)) = false := by
        rw [hct]; exact decide_eq_false (PARTS.out.2.2.2 k (by have := HK.out; omega))
      have HE := hid he
      clear hct he
      go_wp2
      go_quiet (fail)
      go_wp2
      go_roundw
      case rel => exact ⟨k + 1, _, by omega, by have := HK.out; have := HE.out; omega, by go_num, by rw [HW.out, World.drewN_drewN]⟩
      case measure => simp [intOf]; omega

end Go.Proofs.Ytbjellgkmolifaa
