/- Contracts of what is asked of primes and of rings. -/
import Derived.Test.YtilogbggilchaaaDoorA
namespace Go.Proofs.YtilogbggilchaaaDoor
set_option linter.unusedSimpArgs false
set_option linter.unusedVariables false
open Go.RowKit
def noDiv (p n : Nat) : Bool := (List.range n).all fun d => d < 2 || p % d != 0
def primeB (p : Int) : Bool := noDiv p.toNat p.toNat
def errP (p : Int) : Int := if p < 2 ∨ 101 < p then 3 else if primeB p then 0 else 4

theorem noDiv_succ (p n : Nat) : noDiv p (n + 1) = (noDiv p n && (n < 2 || p % n != 0)) := by
  simp [noDiv, List.range_succ, List.all_append]
theorem noDiv_false {p n m : Nat} (h : noDiv p n = false) (hm : n ≤ m) : noDiv p m = false := by
  induction hm with
  | refl => exact h
  | step _ ih => rw [noDiv_succ, ih]; rfl
theorem root_all : ∀ p, p < 102 → ∀ k, k < 12 → p < k * k → noDiv p k = true → noDiv p p = true := by decide +kernel

theorem noDiv_at {p k : Nat} (h2 : 2 ≤ k) (h : noDiv p k = true) : noDiv p (k + 1) = (p % k != 0) := by
  rw [noDiv_succ, h]
  have : ¬ k < 2 := by omega
  simp [this]

theorem rem_cast (p k : Nat) (h : 0 < k) : ((p : Int) % (k : Int) == 0) = !(p % k != 0) := by
  have : ((p : Int) % (k : Int)) = ((p % k : Nat) : Int) := by omega
  rw [this]
  cases hh : p % k with
  | zero => rfl
  | succ n => simp; omega

theorem errP_yes {n : Nat} (h1 : 2 ≤ n) (h2 : n ≤ 101) (h : noDiv n n = true) : errP (n : Int) = 0 := by
  have hp : primeB (n : Int) = true := h
  unfold errP; rw [if_neg (by omega), if_pos hp]
theorem errP_no {n : Nat} (h1 : 2 ≤ n) (h2 : n ≤ 101) (h : noDiv n n = false) : errP (n : Int) = 4 := by
  have hp : primeB (n : Int) = false := h
  unfold errP; rw [if_neg (by omega), if_neg (by simp [hp])]

set_option maxHeartbeats 400000 in
theorem check_any (p : Int) (w : World) :
    Calls Tryd.prog 51 #[.int .i64 p] w fun e w' => e = .returned (.int .i64 (errP p)) ∧ w' = w := by
  by_cases h1 : p < 2
  · have he : errP p = 3 := by simp [errP, h1]
    rw [he]; clear he
    go_enter Tryd.func51, Tryd.ntmps51
    go_wp2
    go_ret
    exact ⟨rfl, rfl⟩
  by_cases h2 : 101 < p
  · have he : errP p = 3 := by simp [errP, h2]
    rw [he]; clear he
    go_enter Tryd.func51, Tryd.ntmps51
    go_wp2
    go_ret
    exact ⟨rfl, rfl⟩
  obtain ⟨n, rfl⟩ : ∃ n : Nat, p = n := ⟨p.toNat, by omega⟩
  have hn1 : 2 ≤ n := by omega
  have hn2 : n ≤ 101 := by omega
  clear h1 h2
  go_enter Tryd.func51, Tryd.ntmps51
  go_wp2
  go_loop [3] (fun d => ∃ k : Nat, 2 ≤ k ∧ k ≤ 11 ∧ d = .int .i64 k ∧ noDiv n k = true) (fun d => 12 - (intOf d).toNat)
  case atStart => exact ⟨2, by omega, by omega, rfl, rfl⟩
  case round =>
    obtain ⟨k, hk1, hk2, rfl, hnd⟩ := hrel
    have HN := hid hnd
    clear hnd
    by_cases hlt : k * k ≤ n
    · have hk3 : k ≤ 10 := by
        apply Nat.le_of_not_lt; intro h
        have : 11 * 11 ≤ k * k := Nat.mul_le_mul h h
        omega
      have hlt2 : (k : Int) * k ≤ n := by exact_mod_cast hlt
      have hkk : (k : Int) * k ≤ 101 := by omega
      have hk0 : (0 : Int) ≤ (k : Int) * k := by exact_mod_cast Nat.zero_le _
      have hat := noDiv_at (p := n) hk1 HN.out
      have hmc := rem_cast n k (by omega)
      cases hz : (n % k != 0)
      · rw [hz] at hat hmc
        have HA := hid hat
        clear hat
        have hmc2 : ((n : Int) % (k : Int) == 0) = true := hmc
        clear hmc hz
        go_wp2
        go_ret
        exact ⟨ret_int (by
          have hkn : k + 1 ≤ n := by
            have : 2 * k ≤ k * k := Nat.mul_le_mul_right k hk1
            omega
          exact (errP_no hn1 hn2 (noDiv_false HA.out hkn)).symm), rfl⟩
      · rw [hz] at hat hmc
        have HA := hid hat
        clear hat
        have hmc2 : ((n : Int) % (k : Int) == 0) = false := hmc
        clear hmc hz
        go_wp2
        go_round
        case rel => exact ⟨k + 1, by omega, by omega, by go_num, HA.out⟩
        case measure => simp [intOf]; omega
    · have hlt2 : ¬ (k : Int) * k ≤ n := by
        intro h; apply hlt; exact_mod_cast h
      have hk0 : (0 : Int) ≤ (k : Int) * k := by exact_mod_cast Nat.zero_le _
      have hk9 : (k : Int) * k ≤ 121 := by
        have : k * k ≤ 11 * 11 := Nat.mul_le_mul hk2 hk2
        exact_mod_cast this
      go_wp2
      go_ret
      exact ⟨ret_int (errP_yes hn1 hn2 (root_all n (by omega) k (by omega) (by omega) HN.out)).symm, rfl⟩

def betweenB (n a b : Int) : Bool := decide (a ≤ n) && decide (n ≤ b)
def errR (p n o v : Int) : Int := if errP p ≠ 0 then errP p else if n < 1 ∨ 3 < n then 3 else if (o ≠ 1 ∧ o ≠ 2) ∨ (v ≠ 1 ∧ v ≠ 2) then 6 else 0
abbrev ringV (p n o v : Int) : Value := .agg #[.int .i64 p, .int .i64 n, .int .i64 o, .int .i64 v]
theorem errR_p {p n o v : Int} (h : (errP p != 0) = true) : errR p n o v = errP p := by
  have : errP p ≠ 0 := by simpa using h
  unfold errR; rw [if_pos this]
theorem errR_n {p n o v : Int} (h : (errP p != 0) = false) (hn : n < 1 ∨ 3 < n) : errR p n o v = 3 := by
  have : ¬ errP p ≠ 0 := by simpa using h
  unfold errR; rw [if_neg this, if_pos hn]
theorem errR_k {p n o v : Int} (h : (errP p != 0) = false) (hn : ¬ (n < 1 ∨ 3 < n)) (hk : (o ≠ 1 ∧ o ≠ 2) ∨ (v ≠ 1 ∧ v ≠ 2)) : errR p n o v = 6 := by
  have : ¬ errP p ≠ 0 := by simpa using h
  unfold errR; rw [if_neg this, if_neg hn, if_pos hk]
theorem errR_0 {p n o v : Int} (h : (errP p != 0) = false) (hn : ¬ (n < 1 ∨ 3 < n)) (hk : ¬ ((o ≠ 1 ∧ o ≠ 2) ∨ (v ≠ 1 ∧ v ≠ 2))) : errR p n o v = 0 := by
  have : ¬ errP p ≠ 0 := by simpa using h
  unfold errR; rw [if_neg this, if_neg hn, if_neg hk]

set_option maxHeartbeats 1000000 in
theorem ring_any (p n o v : Int) (w : World) :
    Calls Tryd.prog 62 #[ringV p n o v] w fun e w' => e = .returned (.int .i64 (errR p n o v)) ∧ Below w.heap.size w w' := by
  cases hp : (errP p != 0)
  · by_cases hn1 : n < 1
    · rw [errR_n hp (Or.inl hn1)]
      go_enter Tryd.func62, Tryd.ntmps62
      go_wp2_with (go_at_call 51; refine (check_any _ _).mono ?_; rintro e w' ⟨rfl, rfl⟩)
      go_ret
      exact ⟨rfl, (Below.refl _ _).alloc (Nat.le_refl _) _⟩
    by_cases hn3 : 3 < n
    · rw [errR_n hp (Or.inr hn3)]
      go_enter Tryd.func62, Tryd.ntmps62
      go_wp2_with (go_at_call 51; refine (check_any _ _).mono ?_; rintro e w' ⟨rfl, rfl⟩)
      go_ret
      exact ⟨rfl, (Below.refl _ _).alloc (Nat.le_refl _) _⟩
    have hn : ¬ (n < 1 ∨ 3 < n) := by omega
    by_cases ho : o ≠ 1 ∧ o ≠ 2
    · rw [errR_k hp hn (Or.inl ho)]
      obtain ⟨ho1, ho2⟩ := ho
      have ho1' : (o != 1) = true := by simpa using ho1
      have ho2' : (o != 2) = true := by simpa using ho2
      clear ho1 ho2 hn
      go_enter Tryd.func62, Tryd.ntmps62
      go_wp2_with (go_at_call 51; refine (check_any _ _).mono ?_; rintro e w' ⟨rfl, rfl⟩)
      go_ret
      exact ⟨rfl, (Below.refl _ _).alloc (Nat.le_refl _) _⟩
    by_cases hv : v ≠ 1 ∧ v ≠ 2
    · rw [errR_k hp hn (Or.inr hv)]
      obtain ⟨hv1, hv2⟩ := hv
      have hv1' : (v != 1) = true := by simpa using hv1
      have hv2' : (v != 2) = true := by simpa using hv2
      have ho' : o = 1 ∨ o = 2 := by omega
      clear hv1 hv2 hn ho
      rcases ho' with rfl | rfl
      all_goals
        go_enter Tryd.func62, Tryd.ntmps62
        go_wp2_with (go_at_call 51; refine (check_any _ _).mono ?_; rintro e w' ⟨rfl, rfl⟩)
        go_ret
        exact ⟨rfl, (Below.refl _ _).alloc (Nat.le_refl _) _⟩
    · rw [errR_0 hp hn (by omega)]
      have ho' : o = 1 ∨ o = 2 := by omega
      have hv' : v = 1 ∨ v = 2 := by omega
      clear hv hn ho
      rcases ho' with rfl | rfl <;> rcases hv' with rfl | rfl
      all_goals
        go_enter Tryd.func62, Tryd.ntmps62
        go_wp2_with (go_at_call 51; refine (check_any _ _).mono ?_; rintro e w' ⟨rfl, rfl⟩)
        go_ret
        exact ⟨rfl, (Below.refl _ _).alloc (Nat.le_refl _) _⟩
  · rw [errR_p hp]
    go_enter Tryd.func62, Tryd.ntmps62
    go_wp2_with (go_at_call 51; refine (check_any _ _).mono ?_; rintro e w' ⟨rfl, rfl⟩)
    go_ret
    exact ⟨rfl, (Below.refl _ _).alloc (Nat.le_refl _) _⟩
end Go.Proofs.YtilogbggilchaaaDoor
