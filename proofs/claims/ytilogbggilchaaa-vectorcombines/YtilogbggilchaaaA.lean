/- Contracts of the small functions: isNaN, Compare, the closures. -/
import Derived.Test.YtilogbggilchaaaProg
import GoSem.Claim
import GoSem.ClaimJoined
import GoSem.ClaimMapViews
import Derived.JoinedTies
import Derived.KernelRfl
import Derived.RowKit
import Derived.WalkKit
import Derived.WalkSpells
import Derived.WalkLawsBesides
import Derived.BigQuiet
import Derived.Deep.QuietTactic
namespace Go.Proofs.Ytilogbggilchaaa
set_option linter.unusedSimpArgs false
set_option linter.unusedVariables false
open Go.RowKit
theorem hid {p : Prop} (h : p) : Hid p := h
theorem ret_int {k : IntKind} {a b : Int} (h : a = b) : Ending.returned (.int k a) = .returned (.int k b) := by rw [h]

def cmpI (a b : Int) : Int := if a < b then -1 else if b < a then 1 else 0

set_option maxHeartbeats 400000 in
theorem compare_any (a b : Int) (w : World) :
    Calls Try.prog 83 #[.int .i64 a, .int .i64 b] w fun e w' => e = .returned (.int .i64 (cmpI a b)) ∧ w' = w := by
  unfold cmpI
  by_cases h1 : a < b
  · go_enter Try.func83, Try.ntmps83
    go_wp2
    go_ret
    exact ⟨by simp [h1], rfl⟩
  · by_cases h2 : b < a
    · go_enter Try.func83, Try.ntmps83
      go_wp2
      go_ret
      exact ⟨by simp [h1, h2], rfl⟩
    · go_enter Try.func83, Try.ntmps83
      go_wp2
      go_ret
      exact ⟨by simp [h1, h2], rfl⟩

def outB (x : Int) : Bool := decide (x < 0 ∨ 200 < x)
set_option maxHeartbeats 400000 in
theorem expFn_any (x : Int) (w : World) :
    Calls Try.prog 92 #[.int .i64 x] w fun e w' => e = .returned (.bool (outB x)) ∧ w' = w := by
  unfold outB
  by_cases h : x < 0
  · go_enter Try.func92, Try.ntmps92
    go_wp2
    go_ret
    exact ⟨by simp [h], rfl⟩
  · go_enter Try.func92, Try.ntmps92
    go_wp2
    go_ret
    exact ⟨by simp; omega, rfl⟩
def IntsAt (w : World) (b off : Nat) (xs : List Int) : Prop := ∀ i, i < xs.length → w.cell? ⟨b, off + i, none⟩ = some (.int .i64 (xs.getD i 0))

def sumI : List Int → Int
  | [] => 0
  | x :: xs => x + sumI xs
theorem sumI_take (xs : List Int) (k : Nat) (h : k < xs.length) : sumI (xs.take (k + 1)) = sumI (xs.take k) + xs.getD k 0 := by
  induction xs generalizing k with
  | nil => simp at h
  | cons x xs ih =>
    cases k with
    | zero => simp [sumI]
    | succ k => simp only [List.take_succ_cons, sumI]; rw [ih k (by simpa using h)]; simp; omega
theorem sumI_bd (xs : List Int) (h : ∀ x ∈ xs, 0 ≤ x ∧ x ≤ 400) : 0 ≤ sumI xs ∧ sumI xs ≤ 400 * xs.length := by
  induction xs with
  | nil => simp [sumI]
  | cons x xs ih =>
    have h1 := h x (by simp)
    have h2 := ih (fun y hy => h y (by simp [hy]))
    simp only [sumI, List.length_cons]; omega
theorem getD_mem (xs : List Int) (k : Nat) (h : k < xs.length) : xs.getD k 0 ∈ xs := by
  rw [List.getD_eq_getElem?_getD, List.getElem?_eq_getElem h]; simp

set_option maxHeartbeats 400000 in
theorem degree_any (xs : List Int) (b off cap : Nat) (w : World) (hxs : ∀ x ∈ xs, 0 ≤ x ∧ x ≤ 400) (hl : xs.length ≤ 3) (hc : IntsAt w b off xs) :
    Calls Try.prog 73 #[.slice (some ⟨b, off, none⟩) xs.length cap] w fun e w' => e = .returned (.int .i64 (sumI xs)) ∧ w' = w := by
  have HC : Hid (IntsAt w b off xs) := hc
  clear hc
  go_enter Try.func73, Try.ntmps73
  go_wp2
  go_loop [3, 8] (fun n i => ∃ k : Nat, k ≤ xs.length ∧ i = .int .i64 k ∧ n = .int .i64 (sumI (xs.take k))) (fun _ i => xs.length - (intOf i).toNat)
  case atStart => exact ⟨0, Nat.zero_le _, rfl, rfl⟩
  case round =>
    obtain ⟨k, hk, rfl, rfl⟩ := hrel
    have hd := sumI_bd (xs.take k) (fun x hx => hxs x (List.mem_of_mem_take hx))
    have hl2 : (xs.take k).length ≤ k := List.length_take_le _ _
    by_cases hlt : k < xs.length
    · have hsn := sumI_take xs k hlt
      have hb := hxs _ (getD_mem xs k hlt)
      have hcell := HC.out k hlt
      generalize xs.getD k 0 = y at hsn hb hcell
      have HS : Hid (sumI (xs.take (k + 1)) = sumI (xs.take k) + y) := hsn
      clear hsn hxs
      go_wp2
      go_round
      case rel => exact ⟨k + 1, by omega, by go_num, by rw [HS.out]⟩
      case measure => simp [intOf]; omega
    · go_wp2
      go_ret
      exact ⟨ret_int (by rw [List.take_of_length_le (by omega)]), rfl⟩

def Sl (w : World) (v : Value) (xs : List Int) : Prop :=
  ∃ a cap, v = .slice a xs.length cap ∧ (0 < xs.length → ∃ b off, a = some ⟨b, off, none⟩ ∧ b < w.heap.size ∧ IntsAt w b off xs)

theorem Sl.below {w w' : World} {v : Value} {xs : List Int} (h : Sl w v xs) (hb : Below w.heap.size w w') : Sl w' v xs := by
  obtain ⟨a, cap, rfl, h⟩ := h
  refine ⟨a, cap, rfl, fun hp => ?_⟩
  obtain ⟨b, off, rfl, hlt, hc⟩ := h hp
  refine ⟨b, off, rfl, Nat.lt_of_lt_of_le hlt hb.size, fun i hi => ?_⟩
  rw [hb.cell (p := ⟨b, off + i, none⟩) hlt]; exact hc i hi

theorem any_take (f : Int → Bool) (xs : List Int) (k : Nat) (h : k < xs.length) (h0 : (xs.take k).any f = false) (h1 : f (xs.getD k 0) = false) : (xs.take (k + 1)).any f = false := by
  rw [List.take_succ_eq_append_getElem h, List.any_append, h0]
  rw [List.getD_eq_getElem?_getD, List.getElem?_eq_getElem h] at h1
  simpa using h1
theorem any_at (f : Int → Bool) (xs : List Int) (k : Nat) (h : k < xs.length) (h1 : f (xs.getD k 0) = true) : xs.any f = true := by
  rw [List.any_eq_true]; exact ⟨_, getD_mem xs k h, h1⟩

set_option maxHeartbeats 400000 in
theorem indexExp_any (xs : List Int) (b off cap : Nat) (w : World) (hm : xs.length ≤ 3) (hc : IntsAt w b off xs) :
    Calls Try.prog 72 #[.slice (some ⟨b, off, none⟩) xs.length cap, .func (.func 92) #[] #[]] w fun e w' =>
      ∃ r : Int, e = .returned (.int .i64 r) ∧ decide (0 ≤ r) = xs.any outB ∧ w' = w := by
  have HC : Hid (IntsAt w b off xs) := hc
  clear hc
  go_enter Try.func72, Try.ntmps72
  go_wp2
  go_loop [8] (fun i => ∃ k : Nat, k ≤ xs.length ∧ i = .int .i64 k ∧ (xs.take k).any outB = false) (fun i => xs.length - (intOf i).toNat)
  case atStart => exact ⟨0, Nat.zero_le _, rfl, by simp⟩
  case round =>
    obtain ⟨k, hk, rfl, hn⟩ := hrel
    have HN : Hid ((xs.take k).any outB = false) := hn
    clear hn
    by_cases hlt : k < xs.length
    · have hcell := HC.out k hlt
      have h1 := any_take outB xs k hlt HN.out
      have h2 := any_at outB xs k hlt
      have H1 := hid h1
      have H2 := hid h2
      clear h1 h2
      generalize xs.getD k 0 = y at hcell H1 H2
      cases hy : outB y
      · go_wp2_with (go_at_call 92; refine (expFn_any _ _).mono ?_; rintro e w' ⟨rfl, rfl⟩)
        go_round
        case rel => exact ⟨k + 1, by omega, by go_num, H1.out hy⟩
        case measure => simp [intOf]; omega
      · go_wp2_with (go_at_call 92; refine (expFn_any _ _).mono ?_; rintro e w' ⟨rfl, rfl⟩)
        go_ret
        exact ⟨(k : Int), rfl, by rw [H2.out hy]; simp, rfl⟩
    · go_wp2
      go_ret
      exact ⟨-1, rfl, by have := HN.out; rw [List.take_of_length_le (by omega)] at this; rw [this]; simp, rfl⟩

set_option maxHeartbeats 400000 in
theorem containsExp_any (xs : List Int) (b off cap : Nat) (w : World) (hm : xs.length ≤ 3) (hc : IntsAt w b off xs) :
    Calls Try.prog 50 #[.slice (some ⟨b, off, none⟩) xs.length cap, .func (.func 92) #[] #[]] w fun e w' =>
      e = .returned (.bool (xs.any outB)) ∧ w' = w := by
  have HC := hid hc
  clear hc
  go_enter Try.func50, Try.ntmps50
  go_wp2_with (go_at_call 72; refine (indexExp_any xs _ _ _ _ hm HC.out).mono ?_; rintro e w' ⟨r, rfl, hr, rfl⟩)
  go_ret
  exact ⟨by rw [← hr]; rfl, rfl⟩

def errM (n : Int) (xs : List Int) : Int := if (xs.length : Int) ≠ n then 1 else if xs.any outB then 3 else if 200 < sumI xs then 3 else 0

theorem any_bd {xs : List Int} (h : xs.any outB = false) : ∀ x ∈ xs, 0 ≤ x ∧ x ≤ 200 := by
  intro x hx
  rw [List.any_eq_false] at h
  have := h x hx
  simp [outB] at this; omega

set_option maxHeartbeats 400000 in
theorem checkExp_any (n : Int) (v : Value) (xs : List Int) (w : World) (hn : 1 ≤ n ∧ n ≤ 3) (hs : Sl w v xs) :
    Calls Try.prog 91 #[.int .i64 n, v] w fun e w' => e = .returned (.int .i64 (errM n xs)) ∧ w' = w := by
  obtain ⟨a, cap, rfl, hs⟩ := hs
  obtain ⟨hn1, hn2⟩ := hn
  by_cases hl : (xs.length : Int) = n
  · subst hl
    obtain ⟨b, off, rfl, _, hc⟩ := hs (by omega)
    clear hs
    have HC := hid hc
    clear hc
    have hm : xs.length ≤ 3 := by omega
    cases hy : xs.any outB
    · have hb := any_bd hy
      have hb2 := hid (show ∀ x ∈ xs, 0 ≤ x ∧ x ≤ 400 from fun x hx => by have := hb x hx; omega)
      clear hb
      by_cases hd : 200 < sumI xs
      · have he : errM xs.length xs = 3 := by simp [errM, hy, hd]
        rw [he]; clear he
        go_enter Try.func91, Try.ntmps91
        go_wp2_with (first | (go_at_call 50; refine (containsExp_any xs _ _ _ _ hm HC.out).mono ?_; rintro e w' ⟨rfl, rfl⟩) | (go_at_call 73; refine (degree_any xs _ _ _ _ hb2.out hm HC.out).mono ?_; rintro e w' ⟨rfl, rfl⟩))
        go_ret
        exact ⟨rfl, rfl⟩
      · have he : errM xs.length xs = 0 := by simp [errM, hy, hd]
        rw [he]; clear he
        go_enter Try.func91, Try.ntmps91
        go_wp2_with (first | (go_at_call 50; refine (containsExp_any xs _ _ _ _ hm HC.out).mono ?_; rintro e w' ⟨rfl, rfl⟩) | (go_at_call 73; refine (degree_any xs _ _ _ _ hb2.out hm HC.out).mono ?_; rintro e w' ⟨rfl, rfl⟩))
        go_ret
        exact ⟨rfl, rfl⟩
    · have he : errM xs.length xs = 3 := by simp [errM, hy]
      rw [he]; clear he
      go_enter Try.func91, Try.ntmps91
      go_wp2_with (go_at_call 50; refine (containsExp_any xs _ _ _ _ hm HC.out).mono ?_; rintro e w' ⟨rfl, rfl⟩)
      go_ret
      exact ⟨rfl, rfl⟩
  · have he : errM n xs = 1 := by simp [errM, hl]
    rw [he]; clear he hs
    have hl2 : ((xs.length : Int) != n) = true := by simpa using hl
    clear hl
    go_enter Try.func91, Try.ntmps91
    go_wp2
    go_ret
    exact ⟨rfl, rfl⟩
def noDiv (p n : Nat) : Bool := (List.range n).all fun d => d < 2 || p % d != 0
def primeB (p : Int) : Bool := noDiv p.toNat p.toNat
def errP (p : Int) : Int := if p < 2 ∨ 101 < p then 3 else if primeB p then 0 else 4

theorem noDiv_succ (p n : Nat) : noDiv p (n + 1) = (noDiv p n && (n < 2 || p % n != 0)) := by
  simp [noDiv, List.range_succ, List.all_append]
theorem noDiv_false {p n m : Nat} (h : noDiv p n = false) (hm : n ≤ m) : noDiv p m = false := by
  induction hm with
  | refl => exact h
  | step _ ih => rw [noDiv_succ, ih]; rfl
theorem root_all : ∀ p, p < 102 → ∀ k, k < 12 → p < k * k → noDiv p k = true → noDiv p p = true := by decide +kernel

theorem noDiv_at {p k : Nat} (h2 : 2 ≤ k) (h : noDiv p k = true) : noDiv p (k + 1) = (p % k != 0) := by
  rw [noDiv_succ, h]
  have : ¬ k < 2 := by omega
  simp [this]

theorem rem_cast (p k : Nat) (h : 0 < k) : ((p : Int) % (k : Int) == 0) = !(p % k != 0) := by
  have : ((p : Int) % (k : Int)) = ((p % k : Nat) : Int) := by omega
  rw [this]
  cases hh : p % k with
  | zero => rfl
  | succ n => simp; omega

theorem errP_yes {n : Nat} (h1 : 2 ≤ n) (h2 : n ≤ 101) (h : noDiv n n = true) : errP (n : Int) = 0 := by
  have hp : primeB (n : Int) = true := h
  unfold errP; rw [if_neg (by omega), if_pos hp]
theorem errP_no {n : Nat} (h1 : 2 ≤ n) (h2 : n ≤ 101) (h : noDiv n n = false) : errP (n : Int) = 4 := by
  have hp : primeB (n : Int) = false := h
  unfold errP; rw [if_neg (by omega), if_neg (by simp [hp])]

set_option maxHeartbeats 400000 in
theorem check_any (p : Int) (w : World) :
    Calls Try.prog 70 #[.int .i64 p] w fun e w' => e = .returned (.int .i64 (errP p)) ∧ w' = w := by
  by_cases h1 : p < 2
  · have he : errP p = 3 := by simp [errP, h1]
    rw [he]; clear he
    go_enter Try.func70, Try.ntmps70
    go_wp2
    go_ret
    exact ⟨rfl, rfl⟩
  by_cases h2 : 101 < p
  · have he : errP p = 3 := by simp [errP, h2]
    rw [he]; clear he
    go_enter Try.func70, Try.ntmps70
    go_wp2
    go_ret
    exact ⟨rfl, rfl⟩
  obtain ⟨n, rfl⟩ : ∃ n : Nat, p = n := ⟨p.toNat, by omega⟩
  have hn1 : 2 ≤ n := by omega
  have hn2 : n ≤ 101 := by omega
  clear h1 h2
  go_enter Try.func70, Try.ntmps70
  go_wp2
  go_loop [3] (fun d => ∃ k : Nat, 2 ≤ k ∧ k ≤ 11 ∧ d = .int .i64 k ∧ noDiv n k = true) (fun d => 12 - (intOf d).toNat)
  case atStart => exact ⟨2, by omega, by omega, rfl, rfl⟩
  case round =>
    obtain ⟨k, hk1, hk2, rfl, hnd⟩ := hrel
    have HN := hid hnd
    clear hnd
    by_cases hlt : k * k ≤ n
    · have hk3 : k ≤ 10 := by
        apply Nat.le_of_not_lt; intro h
        have : 11 * 11 ≤ k * k := Nat.mul_le_mul h h
        omega
      have hlt2 : (k : Int) * k ≤ n := by exact_mod_cast hlt
      have hkk : (k : Int) * k ≤ 101 := by omega
      have hk0 : (0 : Int) ≤ (k : Int) * k := by exact_mod_cast Nat.zero_le _
      have hat := noDiv_at (p := n) hk1 HN.out
      have hmc := rem_cast n k (by omega)
      cases hz : (n % k != 0)
      · rw [hz] at hat hmc
        have HA := hid hat
        clear hat
        have hmc2 : ((n : Int) % (k : Int) == 0) = true := hmc
        clear hmc hz
        go_wp2
        go_ret
        exact ⟨ret_int (by
          have hkn : k + 1 ≤ n := by
            have : 2 * k ≤ k * k := Nat.mul_le_mul_right k hk1
            omega
          exact (errP_no hn1 hn2 (noDiv_false HA.out hkn)).symm), rfl⟩
      · rw [hz] at hat hmc
        have HA := hid hat
        clear hat
        have hmc2 : ((n : Int) % (k : Int) == 0) = false := hmc
        clear hmc hz
        go_wp2
        go_round
        case rel => exact ⟨k + 1, by omega, by omega, by go_num, HA.out⟩
        case measure => simp [intOf]; omega
    · have hlt2 : ¬ (k : Int) * k ≤ n := by
        intro h; apply hlt; exact_mod_cast h
      have hk0 : (0 : Int) ≤ (k : Int) * k := by exact_mod_cast Nat.zero_le _
      have hk9 : (k : Int) * k ≤ 121 := by
        have : k * k ≤ 11 * 11 := Nat.mul_le_mul hk2 hk2
        exact_mod_cast this
      go_wp2
      go_ret
      exact ⟨ret_int (errP_yes hn1 hn2 (root_all n (by omega) k (by omega) (by omega) HN.out)).symm, rfl⟩

def betweenB (n a b : Int) : Bool := decide (a ≤ n) && decide (n ≤ b)
set_option maxHeartbeats 400000 in
theorem between_any (n a b : Int) (w : World) :
    Calls Try.prog 33 #[.int .i64 n, .int .i64 a, .int .i64 b] w fun e w' => e = .returned (.bool (betweenB n a b)) ∧ w' = w := by
  by_cases h : a ≤ n
  · have he : betweenB n a b = decide (n ≤ b) := by simp [betweenB, h]
    rw [he]; clear he
    go_enter Try.func33, Try.ntmps33
    go_wp2
    go_ret
    exact ⟨rfl, rfl⟩
  · have he : betweenB n a b = false := by simp [betweenB, h]
    rw [he]; clear he
    go_enter Try.func33, Try.ntmps33
    go_wp2
    go_ret
    exact ⟨rfl, rfl⟩

set_option maxHeartbeats 400000 in
theorem checkPrime_any (p : Int) (w : World) :
    Calls Try.prog 65 #[.int .i64 p] w fun e w' => e = .returned (.int .i64 (errP p)) ∧ w' = w := by
  cases hb : betweenB p 2 101
  · have he : errP p = 3 := by simp [betweenB] at hb; unfold errP; rw [if_pos (by omega)]
    rw [he]; clear he
    go_enter Try.func65, Try.ntmps65
    go_wp2_with (go_at_call 33; refine (between_any _ _ _ _).mono ?_; rintro e w' ⟨rfl, rfl⟩)
    go_ret
    exact ⟨rfl, rfl⟩
  · have hb2 : 2 ≤ p ∧ p ≤ 101 := by simpa [betweenB] using hb
    obtain ⟨n, rfl⟩ : ∃ n : Nat, p = n := ⟨p.toNat, by omega⟩
    have hn1 : 2 ≤ n := by omega
    have hn2 : n ≤ 101 := by omega
    clear hb2
    go_enter Try.func65, Try.ntmps65
    go_wp2_with (go_at_call 33; refine (between_any _ _ _ _).mono ?_; rintro e w' ⟨rfl, rfl⟩)
    go_loop [3] (fun d => ∃ k : Nat, 2 ≤ k ∧ k ≤ n ∧ d = .int .i64 k ∧ noDiv n k = true) (fun d => 102 - (intOf d).toNat)
    case atStart => exact ⟨2, by omega, by omega, rfl, rfl⟩
    case round =>
      obtain ⟨k, hk1, hk2, rfl, hnd⟩ := hrel
      have HN := hid hnd
      clear hnd
      by_cases hlt : k < n
      · have hat := noDiv_at (p := n) hk1 HN.out
        have hmc := rem_cast n k (by omega)
        cases hz : (n % k != 0)
        · rw [hz] at hat hmc
          have HA := hid hat
          clear hat
          have hmc2 : ((n : Int) % (k : Int) == 0) = true := hmc
          clear hmc hz
          go_wp2
          go_ret
          exact ⟨ret_int (errP_no hn1 hn2 (noDiv_false HA.out hlt)).symm, rfl⟩
        · rw [hz] at hat hmc
          have HA := hid hat
          clear hat
          have hmc2 : ((n : Int) % (k : Int) == 0) = false := hmc
          clear hmc hz
          go_wp2
          go_round
          case rel => exact ⟨k + 1, by omega, by omega, by go_num, HA.out⟩
          case measure => simp [intOf]; omega
      · have hkn : k = n := by omega
        subst hkn
        go_wp2
        go_ret
        exact ⟨ret_int (errP_yes hn1 hn2 HN.out).symm, rfl⟩

def errR (p n o v : Int) : Int := if errP p ≠ 0 then errP p else if n < 1 ∨ 3 < n then 3 else if (o ≠ 1 ∧ o ≠ 2) ∨ (v ≠ 1 ∧ v ≠ 2) then 6 else 0
abbrev ringV (p n o v : Int) : Value := .agg #[.int .i64 p, .int .i64 n, .int .i64 o, .int .i64 v]
end Go.Proofs.Ytilogbggilchaaa
