/- Contracts of what is asked of primes and of rings. -/
import Derived.Test.YtilogbggilchaaaDoorA
namespace Go.Proofs.YtilogbggilchaaaDoor
set_option linter.unusedSimpArgs false
set_option linter.unusedVariables false
open Go.RowKit
def noDiv (p n : Nat) : Bool := (List.range n).all fun d => d < 2 || p % d != 0
def primeB (p : Int) : Bool := noDiv p.toNat p.toNat
def errP (p : Int) : Int := if p < 2 ∨ 101 < p then 3 else if primeB p then 0 else 4

theorem noDiv_succ (p n : Nat) : noDiv p (n + 1) = (noDiv p n && (n < 2 || p % n != 0)) := by
  simp [noDiv, List.range_succ, List.all_append]
theorem noDiv_false {p n m : Nat} (h : noDiv p n = false) (hm : n ≤ m) : noDiv p m = false := by
  induction hm with
  | refl => exact h
  | step _ ih => rw [noDiv_succ, ih]; rfl
theorem root_all : ∀ p, p < 102 → ∀ k, k < 12 → p < k * k → noDiv p k = true → noDiv p p = true := by decide +kernel

theorem noDiv_at {p k : Nat} (h2 : 2 ≤ k) (h : noDiv p k = true) : noDiv p (k + 1) = (p % k != 0) := by
  rw [noDiv_succ, h]
  have : ¬ k < 2 := by omega
  simp [this]

theorem rem_cast (p k : Nat) (h : 0 < k) : ((p : Int) % (k : Int) == 0) = !(p % k != 0) := by
  have : ((p : Int) % (k : Int)) = ((p % k : Nat) : Int) := by omega
  rw [this]
  cases hh : p % k with
  | zero => rfl
  | succ n => simp; omega

theorem errP_yes {n : Nat} (h1 : 2 ≤ n) (h2 : n ≤ 101) (h : noDiv n n = true) : errP (n : Int) = 0 := by
  have hp : primeB (n : Int) = true := h
  unfold errP; rw [if_neg (by omega), if_pos hp]
theorem errP_no {n : Nat} (h1 : 2 ≤ n) (h2 : n ≤ 101) (h : noDiv n n = false) : errP (n : Int) = 4 := by
  have hp : primeB (n : Int) = false := h
  unfold errP; rw [if_neg (by omega), if_neg (by simp [hp])]

set_option maxHeartbeats 400000 in
theorem check_any (p : Int) (w : World) :
    Calls Tryd.prog 51 #[.int .i64 p] w fun e w' => e = .returned (.int .i64 (errP p)) ∧ w' = w := by
  by_cases h1 : p < 2
  · have he : errP p = 3 := by simp [errP, h1]
    rw [he]; clear he
    go_enter Tryd.func51, Tryd.ntmps51
    go_wp2
    go_ret
    exact ⟨rfl, rfl⟩
  by_cases h2 : 101 < p
  · have he : errP p = 3 := by simp [errP, h2]
    rw [he]; clear he
    go_enter Tryd.func51, Tryd.ntmps51
    go_wp2
    go_ret
    exact ⟨rfl, rfl⟩
  obtain ⟨n, rfl⟩ : ∃ n : Nat, p = n := ⟨p.toNat, by omega⟩
  have hn1 : 2 ≤ n := by omega
  have hn2 : n ≤ 101 := by omega
  clear h1 h2
  go_enter Tryd.func51, Tryd.ntmps51
  go_wp2
  go_loop [3] (fun d => ∃ k : Nat, 2 ≤ k ∧ k ≤ 11 ∧ d = .int .i64 k ∧ noDiv n k = true) (fun d => 12 - (intOf d).toNat)
  case atStart => exact ⟨2, by omega, by omega, rfl, rfl⟩
  case round =>
    obtain ⟨k, hk1, hk2, rfl, hnd⟩ := hrel
    have HN := hid hnd
    clear hnd
    by_cases hlt : k * k ≤ n
    · have hk3 : k ≤ 10 := by
        apply Nat.le_of_not_lt; intro h
        have : 11 * 11 ≤ k * k := Nat.mul_le_mul h h
        omega
      have hlt2 : (k : Int) * k ≤ n := by exact_mod_cast hlt
      have hkk : (k : Int) * k ≤ 101 := by omega
      have hk0 : (0 : Int) ≤ (k : Int) * k := by exact_mod_cast Nat.zero_le _
      have hat := noDiv_at (p := n) hk1 HN.out
      have hmc := rem_cast n k (by omega)
      cases hz : (n % k != 0)
      · rw [hz] at hat hmc
        have HA := hid hat
        clear hat
        have hmc2 : ((n : Int) % (k : Int) == 0) = true := hmc
        clear hmc hz
        go_wp2
        go_ret
        exact ⟨ret_int (by
          have hkn : k + 1 ≤ n := by
            have : 2 * k ≤ k * k := Nat.mul_le_mul_right k hk1
            omega
          exact (errP_no hn1 hn2 (noDiv_false HA.out hkn)).symm), rfl⟩
      · rw [hz] at hat hmc
        have HA := hid hat
        clear hat
        have hmc2 : ((n : Int) % (k : Int) == 0) = false := hmc
        clear hmc hz
        go_wp2
        go_round
        case rel => exact ⟨k + 1, by omega, by omega, by go_num, HA.out⟩
        case measure => simp [intOf]; omega
    · have hlt2 : ¬ (k : Int) * k ≤ n := by
        intro h; apply hlt; exact_mod_cast h
      have hk0 : (0 : Int) ≤ (k : Int) * k := by exact_mod_cast Nat.zero_le _
      have hk9 : (k : Int) * k ≤ 121 := by
        have : k * k ≤ 11 * 11 := Nat.mul_le_mul hk2 hk2
        exact_mod_cast this
      go_wp2
      go_ret
      exact ⟨ret_int (errP_yes hn1 hn2 (root_all n (by omega) k (by omega) (by omega) HN.out)).symm, rfl⟩

def betweenB (n a b : Int) : Bool := decide (a ≤ n) && decide (n ≤ b)
set_option maxHeartbeats 400000 in
theorem between_any (n a b : Int) (w : World) :
    Calls Tryd.prog 42 #[.int .i64 n, .int .i64 a, .int .i64 b] w fun e w' => e = .returned (.bool (betweenB n a b)) ∧ w' = w := by
  by_cases h : a ≤ n
  · have he : betweenB n a b = decide (n ≤ b) := by simp [betweenB, h]
    rw [he]; clear he
    go_enter Tryd.func42, Tryd.ntmps42
    go_wp2
    go_ret
    exact ⟨rfl, rfl⟩
  · have he : betweenB n a b = false := by simp [betweenB, h]
    rw [he]; clear he
    go_enter Tryd.func42, Tryd.ntmps42
    go_wp2
    go_ret
    exact ⟨rfl, rfl⟩

set_option maxHeartbeats 400000 in
theorem checkPrime_any (p : Int) (w : World) :
    Calls Tryd.prog 60 #[.int .i64 p] w fun e w' => e = .returned (.int .i64 (errP p)) ∧ w' = w := by
  cases hb : betweenB p 2 101
  · have he : errP p = 3 := by simp [betweenB] at hb; unfold errP; rw [if_pos (by omega)]
    rw [he]; clear he
    go_enter Tryd.func60, Tryd.ntmps60
    go_wp2_with (go_at_call 42; refine (between_any _ _ _ _).mono ?_; rintro e w' ⟨rfl, rfl⟩)
    go_ret
    exact ⟨rfl, rfl⟩
  · have hb2 : 2 ≤ p ∧ p ≤ 101 := by simpa [betweenB] using hb
    obtain ⟨n, rfl⟩ : ∃ n : Nat, p = n := ⟨p.toNat, by omega⟩
    have hn1 : 2 ≤ n := by omega
    have hn2 : n ≤ 101 := by omega
    clear hb2
    go_enter Tryd.func60, Tryd.ntmps60
    go_wp2_with (go_at_call 42; refine (between_any _ _ _ _).mono ?_; rintro e w' ⟨rfl, rfl⟩)
    go_loop [3] (fun d => ∃ k : Nat, 2 ≤ k ∧ k ≤ n ∧ d = .int .i64 k ∧ noDiv n k = true) (fun d => 102 - (intOf d).toNat)
    case atStart => exact ⟨2, by omega, by omega, rfl, rfl⟩
    case round =>
      obtain ⟨k, hk1, hk2, rfl, hnd⟩ := hrel
      have HN := hid hnd
      clear hnd
      by_cases hlt : k < n
      · have hat := noDiv_at (p := n) hk1 HN.out
        have hmc := rem_cast n k (by omega)
        cases hz : (n % k != 0)
        · rw [hz] at hat hmc
          have HA := hid hat
          clear hat
          have hmc2 : ((n : Int) % (k : Int) == 0) = true := hmc
          clear hmc hz
          go_wp2
          go_ret
          exact ⟨ret_int (errP_no hn1 hn2 (noDiv_false HA.out hlt)).symm, rfl⟩
        · rw [hz] at hat hmc
          have HA := hid hat
          clear hat
          have hmc2 : ((n : Int) % (k : Int) == 0) = false := hmc
          clear hmc hz
          go_wp2
          go_round
          case rel => exact ⟨k + 1, by omega, by omega, by go_num, HA.out⟩
          case measure => simp [intOf]; omega
      · have hkn : k = n := by omega
        subst hkn
        go_wp2
        go_ret
        exact ⟨ret_int (errP_yes hn1 hn2 HN.out).symm, rfl⟩

def errR (p n o v : Int) : Int := if errP p ≠ 0 then errP p else if n < 1 ∨ 3 < n then 3 else if (o ≠ 1 ∧ o ≠ 2) ∨ (v ≠ 1 ∧ v ≠ 2) then 6 else 0
abbrev ringV (p n o v : Int) : Value := .agg #[.int .i64 p, .int .i64 n, .int .i64 o, .int .i64 v]
end Go.Proofs.YtilogbggilchaaaDoor
