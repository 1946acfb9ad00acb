/- Contracts of the small functions: isNaN, Compare, the closures. -/
import Derived.Test.YtilogbggilchaaaGreatProg
import GoSem.Claim
import GoSem.ClaimJoined
import GoSem.ClaimMapViews
import Derived.JoinedTies
import Derived.KernelRfl
import Derived.RowKit
import Derived.WalkKit
import Derived.WalkSpells
import Derived.WalkLawsBesides
import Derived.BigQuiet
import Derived.Deep.QuietTactic
namespace Go.Proofs.YtilogbggilchaaaGreat
set_option linter.unusedSimpArgs false
set_option linter.unusedVariables false
open Go.RowKit
theorem hid {p : Prop} (h : p) : Hid p := h
theorem ret_int {k : IntKind} {a b : Int} (h : a = b) : Ending.returned (.int k a) = .returned (.int k b) := by rw [h]

def cmpI (a b : Int) : Int := if a < b then -1 else if b < a then 1 else 0

set_option maxHeartbeats 400000 in
theorem compare_any (a b : Int) (w : World) :
    Calls Tryz.prog 126 #[.int .i64 a, .int .i64 b] w fun e w' => e = .returned (.int .i64 (cmpI a b)) ∧ w' = w := by
  unfold cmpI
  by_cases h1 : a < b
  · go_enter Tryz.func126, Tryz.ntmps126
    go_wp2
    go_ret
    exact ⟨by simp [h1], rfl⟩
  · by_cases h2 : b < a
    · go_enter Tryz.func126, Tryz.ntmps126
      go_wp2
      go_ret
      exact ⟨by simp [h1, h2], rfl⟩
    · go_enter Tryz.func126, Tryz.ntmps126
      go_wp2
      go_ret
      exact ⟨by simp [h1, h2], rfl⟩

def outB (x : Int) : Bool := decide (x < 0 ∨ 200 < x)
set_option maxHeartbeats 400000 in
theorem expFn_any (x : Int) (w : World) :
    Calls Tryz.prog 155 #[.int .i64 x] w fun e w' => e = .returned (.bool (outB x)) ∧ w' = w := by
  unfold outB
  by_cases h : x < 0
  · go_enter Tryz.func155, Tryz.ntmps155
    go_wp2
    go_ret
    exact ⟨by simp [h], rfl⟩
  · go_enter Tryz.func155, Tryz.ntmps155
    go_wp2
    go_ret
    exact ⟨by simp; omega, rfl⟩
def IntsAt (w : World) (b off : Nat) (xs : List Int) : Prop := ∀ i, i < xs.length → w.cell? ⟨b, off + i, none⟩ = some (.int .i64 (xs.getD i 0))

def sumI : List Int → Int
  | [] => 0
  | x :: xs => x + sumI xs
theorem sumI_take (xs : List Int) (k : Nat) (h : k < xs.length) : sumI (xs.take (k + 1)) = sumI (xs.take k) + xs.getD k 0 := by
  induction xs generalizing k with
  | nil => simp at h
  | cons x xs ih =>
    cases k with
    | zero => simp [sumI]
    | succ k => simp only [List.take_succ_cons, sumI]; rw [ih k (by simpa using h)]; simp; omega
theorem sumI_bd (xs : List Int) (h : ∀ x ∈ xs, 0 ≤ x ∧ x ≤ 40000) : 0 ≤ sumI xs ∧ sumI xs ≤ 40000 * xs.length := by
  induction xs with
  | nil => simp [sumI]
  | cons x xs ih =>
    have h1 := h x (by simp)
    have h2 := ih (fun y hy => h y (by simp [hy]))
    simp only [sumI, List.length_cons]; omega
theorem getD_mem (xs : List Int) (k : Nat) (h : k < xs.length) : xs.getD k 0 ∈ xs := by
  rw [List.getD_eq_getElem?_getD, List.getElem?_eq_getElem h]; simp

set_option maxHeartbeats 400000 in
theorem degree_any (xs : List Int) (b off cap : Nat) (w : World) (hxs : ∀ x ∈ xs, 0 ≤ x ∧ x ≤ 40000) (hl : xs.length ≤ 3) (hc : IntsAt w b off xs) :
    Calls Tryz.prog 21 #[.slice (some ⟨b, off, none⟩) xs.length cap] w fun e w' => e = .returned (.int .i64 (sumI xs)) ∧ w' = w := by
  have HC : Hid (IntsAt w b off xs) := hc
  clear hc
  go_enter Tryz.func21, Tryz.ntmps21
  go_wp2
  go_loop [3, 8] (fun n i => ∃ k : Nat, k ≤ xs.length ∧ i = .int .i64 k ∧ n = .int .i64 (sumI (xs.take k))) (fun _ i => xs.length - (intOf i).toNat)
  case atStart => exact ⟨0, Nat.zero_le _, rfl, rfl⟩
  case round =>
    obtain ⟨k, hk, rfl, rfl⟩ := hrel
    have hd := sumI_bd (xs.take k) (fun x hx => hxs x (List.mem_of_mem_take hx))
    have hl2 : (xs.take k).length ≤ k := List.length_take_le _ _
    by_cases hlt : k < xs.length
    · have hsn := sumI_take xs k hlt
      have hb := hxs _ (getD_mem xs k hlt)
      have hcell := HC.out k hlt
      generalize xs.getD k 0 = y at hsn hb hcell
      have HS : Hid (sumI (xs.take (k + 1)) = sumI (xs.take k) + y) := hsn
      clear hsn hxs
      go_wp2
      go_round
      case rel => exact ⟨k + 1, by omega, by go_num, by rw [HS.out]⟩
      case measure => simp [intOf]; omega
    · go_wp2
      go_ret
      exact ⟨ret_int (by rw [List.take_of_length_le (by omega)]), rfl⟩

def Sl (w : World) (v : Value) (xs : List Int) : Prop :=
  ∃ a cap, v = .slice a xs.length cap ∧ (0 < xs.length → ∃ b off, a = some ⟨b, off, none⟩ ∧ b < w.heap.size ∧ IntsAt w b off xs)

theorem Sl.below {w w' : World} {v : Value} {xs : List Int} (h : Sl w v xs) (hb : Below w.heap.size w w') : Sl w' v xs := by
  obtain ⟨a, cap, rfl, h⟩ := h
  refine ⟨a, cap, rfl, fun hp => ?_⟩
  obtain ⟨b, off, rfl, hlt, hc⟩ := h hp
  refine ⟨b, off, rfl, Nat.lt_of_lt_of_le hlt hb.size, fun i hi => ?_⟩
  rw [hb.cell (p := ⟨b, off + i, none⟩) hlt]; exact hc i hi

theorem any_take (f : Int → Bool) (xs : List Int) (k : Nat) (h : k < xs.length) (h0 : (xs.take k).any f = false) (h1 : f (xs.getD k 0) = false) : (xs.take (k + 1)).any f = false := by
  rw [List.take_succ_eq_append_getElem h, List.any_append, h0]
  rw [List.getD_eq_getElem?_getD, List.getElem?_eq_getElem h] at h1
  simpa using h1
theorem any_at (f : Int → Bool) (xs : List Int) (k : Nat) (h : k < xs.length) (h1 : f (xs.getD k 0) = true) : xs.any f = true := by
  rw [List.any_eq_true]; exact ⟨_, getD_mem xs k h, h1⟩

set_option maxHeartbeats 400000 in
theorem indexExp_any (xs : List Int) (b off cap : Nat) (w : World) (hm : xs.length ≤ 3) (hc : IntsAt w b off xs) :
    Calls Tryz.prog 110 #[.slice (some ⟨b, off, none⟩) xs.length cap, .func (.func 155) #[] #[]] w fun e w' =>
      ∃ r : Int, e = .returned (.int .i64 r) ∧ decide (0 ≤ r) = xs.any outB ∧ w' = w := by
  have HC : Hid (IntsAt w b off xs) := hc
  clear hc
  go_enter Tryz.func110, Tryz.ntmps110
  go_wp2
  go_loop [8] (fun i => ∃ k : Nat, k ≤ xs.length ∧ i = .int .i64 k ∧ (xs.take k).any outB = false) (fun i => xs.length - (intOf i).toNat)
  case atStart => exact ⟨0, Nat.zero_le _, rfl, by simp⟩
  case round =>
    obtain ⟨k, hk, rfl, hn⟩ := hrel
    have HN : Hid ((xs.take k).any outB = false) := hn
    clear hn
    by_cases hlt : k < xs.length
    · have hcell := HC.out k hlt
      have h1 := any_take outB xs k hlt HN.out
      have h2 := any_at outB xs k hlt
      have H1 := hid h1
      have H2 := hid h2
      clear h1 h2
      generalize xs.getD k 0 = y at hcell H1 H2
      cases hy : outB y
      · go_wp2_with (go_at_call 155; refine (expFn_any _ _).mono ?_; rintro e w' ⟨rfl, rfl⟩)
        go_round
        case rel => exact ⟨k + 1, by omega, by go_num, H1.out hy⟩
        case measure => simp [intOf]; omega
      · go_wp2_with (go_at_call 155; refine (expFn_any _ _).mono ?_; rintro e w' ⟨rfl, rfl⟩)
        go_ret
        exact ⟨(k : Int), rfl, by rw [H2.out hy]; simp, rfl⟩
    · go_wp2
      go_ret
      exact ⟨-1, rfl, by have := HN.out; rw [List.take_of_length_le (by omega)] at this; rw [this]; simp, rfl⟩

set_option maxHeartbeats 400000 in
theorem containsExp_any (xs : List Int) (b off cap : Nat) (w : World) (hm : xs.length ≤ 3) (hc : IntsAt w b off xs) :
    Calls Tryz.prog 79 #[.slice (some ⟨b, off, none⟩) xs.length cap, .func (.func 155) #[] #[]] w fun e w' =>
      e = .returned (.bool (xs.any outB)) ∧ w' = w := by
  have HC := hid hc
  clear hc
  go_enter Tryz.func79, Tryz.ntmps79
  go_wp2_with (go_at_call 110; refine (indexExp_any xs _ _ _ _ hm HC.out).mono ?_; rintro e w' ⟨r, rfl, hr, rfl⟩)
  go_ret
  exact ⟨by rw [← hr]; rfl, rfl⟩

def errM (n : Int) (xs : List Int) : Int := if (xs.length : Int) ≠ n then 1 else if xs.any outB then 3 else if 200 < sumI xs then 3 else 0

theorem any_bd {xs : List Int} (h : xs.any outB = false) : ∀ x ∈ xs, 0 ≤ x ∧ x ≤ 200 := by
  intro x hx
  rw [List.any_eq_false] at h
  have := h x hx
  simp [outB] at this; omega

set_option maxHeartbeats 400000 in
theorem checkExp_any (n : Int) (v : Value) (xs : List Int) (w : World) (hn : 1 ≤ n ∧ n ≤ 3) (hs : Sl w v xs) :
    Calls Tryz.prog 154 #[.int .i64 n, v] w fun e w' => e = .returned (.int .i64 (errM n xs)) ∧ w' = w := by
  obtain ⟨a, cap, rfl, hs⟩ := hs
  obtain ⟨hn1, hn2⟩ := hn
  by_cases hl : (xs.length : Int) = n
  · subst hl
    obtain ⟨b, off, rfl, _, hc⟩ := hs (by omega)
    clear hs
    have HC := hid hc
    clear hc
    have hm : xs.length ≤ 3 := by omega
    cases hy : xs.any outB
    · have hb := any_bd hy
      have hb2 := hid (show ∀ x ∈ xs, 0 ≤ x ∧ x ≤ 40000 from fun x hx => by have := hb x hx; omega)
      clear hb
      by_cases hd : 200 < sumI xs
      · have he : errM xs.length xs = 3 := by simp [errM, hy, hd]
        rw [he]; clear he
        go_enter Tryz.func154, Tryz.ntmps154
        go_wp2_with (first | (go_at_call 79; refine (containsExp_any xs _ _ _ _ hm HC.out).mono ?_; rintro e w' ⟨rfl, rfl⟩) | (go_at_call 21; refine (degree_any xs _ _ _ _ hb2.out hm HC.out).mono ?_; rintro e w' ⟨rfl, rfl⟩))
        go_ret
        exact ⟨rfl, rfl⟩
      · have he : errM xs.length xs = 0 := by simp [errM, hy, hd]
        rw [he]; clear he
        go_enter Tryz.func154, Tryz.ntmps154
        go_wp2_with (first | (go_at_call 79; refine (containsExp_any xs _ _ _ _ hm HC.out).mono ?_; rintro e w' ⟨rfl, rfl⟩) | (go_at_call 21; refine (degree_any xs _ _ _ _ hb2.out hm HC.out).mono ?_; rintro e w' ⟨rfl, rfl⟩))
        go_ret
        exact ⟨rfl, rfl⟩
    · have he : errM xs.length xs = 3 := by simp [errM, hy]
      rw [he]; clear he
      go_enter Tryz.func154, Tryz.ntmps154
      go_wp2_with (go_at_call 79; refine (containsExp_any xs _ _ _ _ hm HC.out).mono ?_; rintro e w' ⟨rfl, rfl⟩)
      go_ret
      exact ⟨rfl, rfl⟩
  · have he : errM n xs = 1 := by simp [errM, hl]
    rw [he]; clear he hs
    have hl2 : ((xs.length : Int) != n) = true := by simpa using hl
    clear hl
    go_enter Tryz.func154, Tryz.ntmps154
    go_wp2
    go_ret
    exact ⟨rfl, rfl⟩
def noDiv (p n : Nat) : Bool := (List.range n).all fun d => d < 2 || p % d != 0
def primeB (p : Int) : Bool := noDiv p.toNat p.toNat
def errP (p : Int) : Int := if p < 2 ∨ 101 < p then 3 else if primeB p then 0 else 4

theorem noDiv_succ (p n : Nat) : noDiv p (n + 1) = (noDiv p n && (n < 2 || p % n != 0)) := by
  simp [noDiv, List.range_succ, List.all_append]
theorem noDiv_false {p n m : Nat} (h : noDiv p n = false) (hm : n ≤ m) : noDiv p m = false := by
  induction hm with
  | refl => exact h
  | step _ ih => rw [noDiv_succ, ih]; rfl
theorem root_all : ∀ p, p < 102 → ∀ k, k < 12 → p < k * k → noDiv p k = true → noDiv p p = true := by decide +kernel

theorem noDiv_at {p k : Nat} (h2 : 2 ≤ k) (h : noDiv p k = true) : noDiv p (k + 1) = (p % k != 0) := by
  rw [noDiv_succ, h]
  have : ¬ k < 2 := by omega
  simp [this]

theorem rem_cast (p k : Nat) (h : 0 < k) : ((p : Int) % (k : Int) == 0) = !(p % k != 0) := by
  have : ((p : Int) % (k : Int)) = ((p % k : Nat) : Int) := by omega
  rw [this]
  cases hh : p % k with
  | zero => rfl
  | succ n => simp; omega

theorem errP_yes {n : Nat} (h1 : 2 ≤ n) (h2 : n ≤ 101) (h : noDiv n n = true) : errP (n : Int) = 0 := by
  have hp : primeB (n : Int) = true := h
  unfold errP; rw [if_neg (by omega), if_pos hp]
theorem errP_no {n : Nat} (h1 : 2 ≤ n) (h2 : n ≤ 101) (h : noDiv n n = false) : errP (n : Int) = 4 := by
  have hp : primeB (n : Int) = false := h
  unfold errP; rw [if_neg (by omega), if_neg (by simp [hp])]

set_option maxHeartbeats 400000 in
theorem check_any (p : Int) (w : World) :
    Calls Tryz.prog 111 #[.int .i64 p] w fun e w' => e = .returned (.int .i64 (errP p)) ∧ w' = w := by
  by_cases h1 : p < 2
  · have he : errP p = 3 := by simp [errP, h1]
    rw [he]; clear he
    go_enter Tryz.func111, Tryz.ntmps111
    go_wp2
    go_ret
    exact ⟨rfl, rfl⟩
  by_cases h2 : 101 < p
  · have he : errP p = 3 := by simp [errP, h2]
    rw [he]; clear he
    go_enter Tryz.func111, Tryz.ntmps111
    go_wp2
    go_ret
    exact ⟨rfl, rfl⟩
  obtain ⟨n, rfl⟩ : ∃ n : Nat, p = n := ⟨p.toNat, by omega⟩
  have hn1 : 2 ≤ n := by omega
  have hn2 : n ≤ 101 := by omega
  clear h1 h2
  go_enter Tryz.func111, Tryz.ntmps111
  go_wp2
  go_loop [3] (fun d => ∃ k : Nat, 2 ≤ k ∧ k ≤ 11 ∧ d = .int .i64 k ∧ noDiv n k = true) (fun d => 12 - (intOf d).toNat)
  case atStart => exact ⟨2, by omega, by omega, rfl, rfl⟩
  case round =>
    obtain ⟨k, hk1, hk2, rfl, hnd⟩ := hrel
    have HN := hid hnd
    clear hnd
    by_cases hlt : k * k ≤ n
    · have hk3 : k ≤ 10 := by
        apply Nat.le_of_not_lt; intro h
        have : 11 * 11 ≤ k * k := Nat.mul_le_mul h h
        omega
      have hlt2 : (k : Int) * k ≤ n := by exact_mod_cast hlt
      have hkk : (k : Int) * k ≤ 101 := by omega
      have hk0 : (0 : Int) ≤ (k : Int) * k := by exact_mod_cast Nat.zero_le _
      have hat := noDiv_at (p := n) hk1 HN.out
      have hmc := rem_cast n k (by omega)
      cases hz : (n % k != 0)
      · rw [hz] at hat hmc
        have HA := hid hat
        clear hat
        have hmc2 : ((n : Int) % (k : Int) == 0) = true := hmc
        clear hmc hz
        go_wp2
        go_ret
        exact ⟨ret_int (by
          have hkn : k + 1 ≤ n := by
            have : 2 * k ≤ k * k := Nat.mul_le_mul_right k hk1
            omega
          exact (errP_no hn1 hn2 (noDiv_false HA.out hkn)).symm), rfl⟩
      · rw [hz] at hat hmc
        have HA := hid hat
        clear hat
        have hmc2 : ((n : Int) % (k : Int) == 0) = false := hmc
        clear hmc hz
        go_wp2
        go_round
        case rel => exact ⟨k + 1, by omega, by omega, by go_num, HA.out⟩
        case measure => simp [intOf]; omega
    · have hlt2 : ¬ (k : Int) * k ≤ n := by
        intro h; apply hlt; exact_mod_cast h
      have hk0 : (0 : Int) ≤ (k : Int) * k := by exact_mod_cast Nat.zero_le _
      have hk9 : (k : Int) * k ≤ 121 := by
        have : k * k ≤ 11 * 11 := Nat.mul_le_mul hk2 hk2
        exact_mod_cast this
      go_wp2
      go_ret
      exact ⟨ret_int (errP_yes hn1 hn2 (root_all n (by omega) k (by omega) (by omega) HN.out)).symm, rfl⟩

def betweenB (n a b : Int) : Bool := decide (a ≤ n) && decide (n ≤ b)
def errR (p n o v : Int) : Int := if errP p ≠ 0 then errP p else if n < 1 ∨ 3 < n then 3 else if (o ≠ 1 ∧ o ≠ 2) ∨ (v ≠ 1 ∧ v ≠ 2) then 6 else 0
abbrev ringV (p n o v : Int) : Value := .agg #[.int .i64 p, .int .i64 n, .int .i64 o, .int .i64 v]
theorem errR_p {p n o v : Int} (h : (errP p != 0) = true) : errR p n o v = errP p := by
  have : errP p ≠ 0 := by simpa using h
  unfold errR; rw [if_pos this]
theorem errR_n {p n o v : Int} (h : (errP p != 0) = false) (hn : n < 1 ∨ 3 < n) : errR p n o v = 3 := by
  have : ¬ errP p ≠ 0 := by simpa using h
  unfold errR; rw [if_neg this, if_pos hn]
theorem errR_k {p n o v : Int} (h : (errP p != 0) = false) (hn : ¬ (n < 1 ∨ 3 < n)) (hk : (o ≠ 1 ∧ o ≠ 2) ∨ (v ≠ 1 ∧ v ≠ 2)) : errR p n o v = 6 := by
  have : ¬ errP p ≠ 0 := by simpa using h
  unfold errR; rw [if_neg this, if_neg hn, if_pos hk]
theorem errR_0 {p n o v : Int} (h : (errP p != 0) = false) (hn : ¬ (n < 1 ∨ 3 < n)) (hk : ¬ ((o ≠ 1 ∧ o ≠ 2) ∨ (v ≠ 1 ∧ v ≠ 2))) : errR p n o v = 0 := by
  have : ¬ errP p ≠ 0 := by simpa using h
  unfold errR; rw [if_neg this, if_neg hn, if_neg hk]

set_option maxHeartbeats 1000000 in
theorem ring_any (p n o v : Int) (w : World) :
    Calls Tryz.prog 84 #[ringV p n o v] w fun e w' => e = .returned (.int .i64 (errR p n o v)) ∧ Below w.heap.size w w' := by
  cases hp : (errP p != 0)
  · by_cases hn1 : n < 1
    · rw [errR_n hp (Or.inl hn1)]
      go_enter Tryz.func84, Tryz.ntmps84
      go_wp2_with (go_at_call 111; refine (check_any _ _).mono ?_; rintro e w' ⟨rfl, rfl⟩)
      go_ret
      exact ⟨rfl, (Below.refl _ _).alloc (Nat.le_refl _) _⟩
    by_cases hn3 : 3 < n
    · rw [errR_n hp (Or.inr hn3)]
      go_enter Tryz.func84, Tryz.ntmps84
      go_wp2_with (go_at_call 111; refine (check_any _ _).mono ?_; rintro e w' ⟨rfl, rfl⟩)
      go_ret
      exact ⟨rfl, (Below.refl _ _).alloc (Nat.le_refl _) _⟩
    have hn : ¬ (n < 1 ∨ 3 < n) := by omega
    by_cases ho : o ≠ 1 ∧ o ≠ 2
    · rw [errR_k hp hn (Or.inl ho)]
      obtain ⟨ho1, ho2⟩ := ho
      have ho1' : (o != 1) = true := by simpa using ho1
      have ho2' : (o != 2) = true := by simpa using ho2
      clear ho1 ho2 hn
      go_enter Tryz.func84, Tryz.ntmps84
      go_wp2_with (go_at_call 111; refine (check_any _ _).mono ?_; rintro e w' ⟨rfl, rfl⟩)
      go_ret
      exact ⟨rfl, (Below.refl _ _).alloc (Nat.le_refl _) _⟩
    by_cases hv : v ≠ 1 ∧ v ≠ 2
    · rw [errR_k hp hn (Or.inr hv)]
      obtain ⟨hv1, hv2⟩ := hv
      have hv1' : (v != 1) = true := by simpa using hv1
      have hv2' : (v != 2) = true := by simpa using hv2
      have ho' : o = 1 ∨ o = 2 := by omega
      clear hv1 hv2 hn ho
      rcases ho' with rfl | rfl
      all_goals
        go_enter Tryz.func84, Tryz.ntmps84
        go_wp2_with (go_at_call 111; refine (check_any _ _).mono ?_; rintro e w' ⟨rfl, rfl⟩)
        go_ret
        exact ⟨rfl, (Below.refl _ _).alloc (Nat.le_refl _) _⟩
    · rw [errR_0 hp hn (by omega)]
      have ho' : o = 1 ∨ o = 2 := by omega
      have hv' : v = 1 ∨ v = 2 := by omega
      clear hv hn ho
      rcases ho' with rfl | rfl <;> rcases hv' with rfl | rfl
      all_goals
        go_enter Tryz.func84, Tryz.ntmps84
        go_wp2_with (go_at_call 111; refine (check_any _ _).mono ?_; rintro e w' ⟨rfl, rfl⟩)
        go_ret
        exact ⟨rfl, (Below.refl _ _).alloc (Nat.le_refl _) _⟩
  · rw [errR_p hp]
    go_enter Tryz.func84, Tryz.ntmps84
    go_wp2_with (go_at_call 111; refine (check_any _ _).mono ?_; rintro e w' ⟨rfl, rfl⟩)
    go_ret
    exact ⟨rfl, (Below.refl _ _).alloc (Nat.le_refl _) _⟩
theorem bcell {W w1 : World} (hb : Below W.heap.size W w1) : (∀ b o, b < W.heap.size → w1.cell? ⟨b, o, none⟩ = W.cell? ⟨b, o, none⟩) ∧ (∀ b o, b < W.heap.size → w1.frozen? ⟨b, o, none⟩ = W.frozen? ⟨b, o, none⟩) :=
  ⟨fun b o h => hb.cell (p := ⟨b, o, none⟩) h, fun b o h => hb.frozen (p := ⟨b, o, none⟩) h⟩

def firstErr (n : Int) : List (List Int) → Int
  | [] => 0
  | xs :: r => if errM n xs = 0 then firstErr n r else errM n xs

def SlsAt (w : World) (b off : Nat) (xss : List (List Int)) : Prop :=
  ∀ i, i < xss.length → ∃ v, w.cell? ⟨b, off + i, none⟩ = some v ∧ Sl w v (xss.getD i [])

theorem SlsAt.below {w w' : World} {b off : Nat} {xss : List (List Int)} (h : SlsAt w b off xss) (hlt : b < w.heap.size) (hb : Below w.heap.size w w') : SlsAt w' b off xss := by
  intro i hi
  obtain ⟨v, hc, hs⟩ := h i hi
  exact ⟨v, by rw [hb.cell (p := ⟨b, off + i, none⟩) hlt]; exact hc, hs.below hb⟩

theorem firstErr_drop (n : Int) (xss : List (List Int)) (k : Nat) (h : k < xss.length) :
    firstErr n (xss.drop k) = if errM n (xss.getD k []) = 0 then firstErr n (xss.drop (k + 1)) else errM n (xss.getD k []) := by
  rw [List.drop_eq_getElem_cons h]
  simp [firstErr, List.getD_eq_getElem?_getD, h]

def errAll (p n o v : Int) (xss : List (List Int)) : Int := if errR p n o v = 0 then firstErr n xss else errR p n o v

theorem ring_ok {p n o v : Int} (h : errR p n o v = 0) : errP p = 0 ∧ 1 ≤ n ∧ n ≤ 3 ∧ (o = 1 ∨ o = 2) ∧ (v = 1 ∨ v = 2) := by
  unfold errR at h
  by_cases h1 : errP p = 0
  · rw [if_neg (by simp [h1])] at h
    by_cases h2 : n < 1 ∨ 3 < n
    · rw [if_pos h2] at h; omega
    · rw [if_neg h2] at h
      by_cases h3 : (o ≠ 1 ∧ o ≠ 2) ∨ (v ≠ 1 ∧ v ≠ 2)
      · rw [if_pos h3] at h; omega
      · exact ⟨h1, by omega, by omega, by omega, by omega⟩
  · rw [if_pos h1] at h; exact absurd h h1

set_option maxHeartbeats 400000 in
theorem checkAll_any (p n o v : Int) (xss : List (List Int)) (b off cap : Nat) (w : World) (hl : xss.length ≤ 2) (hlt : b < w.heap.size) (hs : SlsAt w b off xss) :
    Calls Tryz.prog 151 #[ringV p n o v, .slice (some ⟨b, off, none⟩) xss.length cap] w fun e w' => e = .returned (.int .i64 (errAll p n o v xss)) ∧ Below w.heap.size w w' := by
  have HS := hid hs
  clear hs
  cases hp : (errR p n o v != 0)
  · have hp0 : errR p n o v = 0 := by simpa using hp
    obtain ⟨_, hn1, hn2, _⟩ := ring_ok hp0
    have he : errAll p n o v xss = firstErr n xss := by unfold errAll; rw [if_pos hp0]
    rw [he]; clear he hp0
    go_enter Tryz.func151, Tryz.ntmps151
    go_wp2_with (go_at_call 84; refine (ring_any _ _ _ _ _).mono ?_; rintro e w1 ⟨rfl, hb1⟩)
    have hb0 : Below w.heap.size w w1 := ((Below.refl _ _).alloc (Nat.le_refl _) _).trans (hb1.mono (by simp))
    obtain ⟨hcl, _⟩ := bcell hb1
    have hbox : w1.cell? ⟨w.heap.size, 1, none⟩ = some (.int .i64 n) := by rw [hcl _ _ (by simp)]; simp [go_sem]
    have HS1 := hid (HS.out.below hlt hb0)
    clear hcl HS
    go_loop [16] (fun i => ∃ k : Nat, k ≤ xss.length ∧ i = .int .i64 k ∧ firstErr n xss = firstErr n (xss.drop k)) (fun i => xss.length - (intOf i).toNat)
    case atStart => exact ⟨0, Nat.zero_le _, rfl, by simp⟩
    case round =>
      obtain ⟨k, hk, rfl, hf⟩ := hrel
      have HF := hid hf
      clear hf
      by_cases hk2 : k < xss.length
      · obtain ⟨vv, hcell, hsl⟩ := HS1.out k hk2
        have HSL := hid hsl
        have HD := hid (firstErr_drop n xss k hk2)
        clear hsl
        generalize xss.getD k [] = xs at HSL HD
        obtain ⟨a, cc, hvv, _⟩ := HSL.out
        subst hvv
        cases hz : (errM n xs != 0)
        · go_wp2_with (go_at_call 154; refine (checkExp_any _ _ xs _ ⟨hn1, hn2⟩ HSL.out).mono ?_; rintro e w' ⟨rfl, rfl⟩)
          go_round
          case rel => exact ⟨k + 1, by omega, by go_num, by rw [HF.out, HD.out, if_pos (by simpa using hz)]⟩
          case measure => simp [intOf]; omega
        · go_wp2_with (go_at_call 154; refine (checkExp_any _ _ xs _ ⟨hn1, hn2⟩ HSL.out).mono ?_; rintro e w' ⟨rfl, rfl⟩)
          go_ret
          exact ⟨ret_int (by rw [HF.out, HD.out, if_neg (by simpa using hz)]), hb0⟩
      · go_wp2
        go_ret
        exact ⟨ret_int (by rw [HF.out, List.drop_eq_nil_of_le (by omega)]; rfl), hb0⟩
  · have he : errAll p n o v xss = errR p n o v := by unfold errAll; rw [if_neg (by simpa using hp)]
    rw [he]; clear he
    go_enter Tryz.func151, Tryz.ntmps151
    go_wp2_with (go_at_call 84; refine (ring_any _ _ _ _ _).mono ?_; rintro e w1 ⟨rfl, hb1⟩)
    go_ret
    exact ⟨rfl, ((Below.refl _ _).alloc (Nat.le_refl _) _).trans (hb1.mono (by simp))⟩
def lexC : List Int → List Int → Int
  | x :: xs, y :: ys => if cmpI x y = 0 then lexC xs ys else cmpI x y
  | _, _ => 0
def revC (xs ys : List Int) : Int := lexC ys.reverse xs.reverse

theorem lexC_drop (xs ys : List Int) (k : Nat) (h : k < xs.length) (h2 : k < ys.length) :
    lexC (xs.drop k) (ys.drop k) = if cmpI (xs.getD k 0) (ys.getD k 0) = 0 then lexC (xs.drop (k + 1)) (ys.drop (k + 1)) else cmpI (xs.getD k 0) (ys.getD k 0) := by
  rw [List.drop_eq_getElem_cons h, List.drop_eq_getElem_cons h2]
  simp [lexC, List.getD_eq_getElem?_getD, h, h2]
theorem take_rev (xs : List Int) (k : Nat) (h : k < xs.length) : (xs.take (k + 1)).reverse = xs.getD k 0 :: (xs.take k).reverse := by
  rw [List.take_succ_eq_append_getElem h, List.reverse_append]
  simp [List.getD_eq_getElem?_getD, h]
theorem lexC_take (xs ys : List Int) (k : Nat) (h : k < xs.length) (h2 : k < ys.length) :
    lexC (ys.take (k + 1)).reverse (xs.take (k + 1)).reverse = if cmpI (ys.getD k 0) (xs.getD k 0) = 0 then lexC (ys.take k).reverse (xs.take k).reverse else cmpI (ys.getD k 0) (xs.getD k 0) := by
  rw [take_rev xs k h, take_rev ys k h2]; simp [lexC]

set_option maxHeartbeats 400000 in
theorem lexCompare_any (xs ys : List Int) (b off cap b2 off2 cap2 : Nat) (w : World) (hm : xs.length ≤ 3) (hxy : xs.length = ys.length) (hc : IntsAt w b off xs) (hc2 : IntsAt w b2 off2 ys) :
    Calls Tryz.prog 128 #[.slice (some ⟨b, off, none⟩) xs.length cap, .slice (some ⟨b2, off2, none⟩) ys.length cap2] w fun e w' =>
      e = .returned (.int .i64 (lexC xs ys)) ∧ w' = w := by
  have HC := hid hc
  have HC2 := hid hc2
  clear hc hc2
  rw [← hxy]
  have HXY := hid hxy
  clear hxy
  go_enter Tryz.func128, Tryz.ntmps128
  go_wp2
  go_loop [11] (fun i => ∃ k : Nat, k ≤ xs.length ∧ i = .int .i64 k ∧ lexC xs ys = lexC (xs.drop k) (ys.drop k)) (fun i => xs.length - (intOf i).toNat)
  case atStart => exact ⟨0, Nat.zero_le _, rfl, by simp⟩
  case round =>
    obtain ⟨k, hk, rfl, hn⟩ := hrel
    have HN := hid hn
    clear hn
    by_cases hlt : k < xs.length
    · have hcell := HC.out k hlt
      have hcell2 := HC2.out k (by rw [← HXY.out]; exact hlt)
      have HD := hid (lexC_drop xs ys k hlt (by rw [← HXY.out]; exact hlt))
      generalize xs.getD k 0 = x at hcell HD
      generalize ys.getD k 0 = y at hcell2 HD
      cases hy : (cmpI x y != 0)
      · go_wp2_with (go_at_call 126; refine (compare_any _ _ _).mono ?_; rintro e w' ⟨rfl, rfl⟩)
        go_round
        case rel => exact ⟨k + 1, by omega, by go_num, by rw [HN.out, HD.out, if_pos (by simpa using hy)]⟩
        case measure => simp [intOf]; omega
      · go_wp2_with (go_at_call 126; refine (compare_any _ _ _).mono ?_; rintro e w' ⟨rfl, rfl⟩)
        go_ret
        exact ⟨ret_int (by rw [HN.out, HD.out, if_neg (by simpa using hy)]), rfl⟩
    · go_wp2
      go_ret
      exact ⟨ret_int (by rw [HN.out, List.drop_eq_nil_of_le (by omega)]; rfl), rfl⟩

set_option maxHeartbeats 400000 in
theorem revCompare_any (xs ys : List Int) (b off cap b2 off2 cap2 : Nat) (w : World) (hm : xs.length ≤ 3) (hxy : xs.length = ys.length) (hc : IntsAt w b off xs) (hc2 : IntsAt w b2 off2 ys) :
    Calls Tryz.prog 127 #[.slice (some ⟨b, off, none⟩) xs.length cap, .slice (some ⟨b2, off2, none⟩) ys.length cap2] w fun e w' =>
      e = .returned (.int .i64 (revC xs ys)) ∧ ∃ n, w' = w.drewN n := by
  have HC := hid hc
  have HC2 := hid hc2
  clear hc hc2
  rw [← hxy]
  have HXY := hid hxy
  clear hxy
  go_enter Tryz.func127, Tryz.ntmps127
  go_wp2
  go_loopw [5] (fun i wr => ∃ k n : Nat, k ≤ xs.length ∧ i = .int .i64 ((k : Int) - 1) ∧ revC xs ys = lexC (ys.take k).reverse (xs.take k).reverse ∧ wr = w.drewN n) (fun i _ => (intOf i + 1).toNat)
  case atStart => exact ⟨xs.length, 0, Nat.le_refl _, rfl, by rw [List.take_of_length_le (by have := HXY.out; omega), List.take_of_length_le (by omega)]; rfl, rfl⟩
  case round =>
    obtain ⟨k, n0, hk, rfl, hn, hw0⟩ := hrel
    have HN := hid hn
    have HW := hid hw0
    clear hn hw0
    cases k with
    | succ k =>
      have hlt : k < xs.length := by omega
      have hcell := HC.out k hlt
      have hcell2 := HC2.out k (by rw [← HXY.out]; exact hlt)
      have e1 : ∀ a, wr.cell? a = w.cell? a := fun a => by rw [HW.out]; rfl
      rw [← e1] at hcell hcell2
      clear e1
      have HD := hid (lexC_take xs ys k hlt (by rw [← HXY.out]; exact hlt))
      have ek : (((k + 1 : Nat) : Int) - 1) = (k : Int) := by omega
      rw [ek]
      clear ek
      generalize xs.getD k 0 = x at hcell HD
      generalize ys.getD k 0 = y at hcell2 HD
      cases hy : (cmpI y x != 0)
      · go_wp2
        go_quiet ((go_at_call 126; exact Calls.quiet_of_same (compare_any _ _ _)))
        go_wp2
        go_roundw
        case rel => exact ⟨k, _, by omega, rfl, by rw [HN.out, HD.out, if_pos (by simpa using hy)], by rw [HW.out, World.drewN_drewN]⟩
        case measure => simp [intOf]
      · go_wp2
        go_quiet ((go_at_call 126; exact Calls.quiet_of_same (compare_any _ _ _)))
        go_wp2
        go_ret
        exact ⟨ret_int (by rw [HN.out, HD.out, if_neg (by simpa using hy)]), _, by rw [HW.out, World.drewN_drewN]⟩
    | zero =>
      go_wp2
      go_ret
      exact ⟨ret_int (by rw [HN.out]; rfl), n0, HW.out⟩

theorem errM_ok {n : Int} {xs : List Int} (h : errM n xs = 0) : (xs.length : Int) = n ∧ (∀ x ∈ xs, 0 ≤ x ∧ x ≤ 200) ∧ sumI xs ≤ 200 := by
  unfold errM at h
  by_cases h1 : (xs.length : Int) = n
  · rw [if_neg (by simp [h1])] at h
    cases h2 : xs.any outB
    · rw [if_neg (by simp [h2])] at h
      by_cases h3 : 200 < sumI xs
      · rw [if_pos h3] at h; omega
      · exact ⟨h1, any_bd h2, by omega⟩
    · rw [if_pos h2] at h; omega
  · rw [if_pos h1] at h; omega
theorem Sl.sls1 {w : World} {v : Value} {xs : List Int} {b : Nat} (h : Sl w v xs) (hc : w.cell? ⟨b, 0, none⟩ = some v) : SlsAt w b 0 [xs] := by
  intro i hi
  simp at hi; subst hi
  exact ⟨v, hc, h⟩
set_option maxHeartbeats 400000 in
theorem monoCheck_any (p n o v : Int) (x : Value) (xs : List Int) (w : World) (hs : Sl w x xs) :
    Calls Tryz.prog 144 #[ringV p n o v, x] w fun e w' => e = .returned (.int .i64 (errAll p n o v [xs])) ∧ Below w.heap.size w w' := by
  have HS := hid hs
  obtain ⟨a, cap, rfl, _⟩ := hs
  go_enter Tryz.func144, Tryz.ntmps144
  go_wp2_with fail
  have hb : ∀ A B, Below w.heap.size w ((w.alloc A).alloc B) := fun A B => ((Below.refl _ _).alloc (Nat.le_refl _) _).alloc (by simp) _
  refine (checkAll_any p n o v [xs] _ _ _ _ (by simp) (by simp) ?_).mono ?_
  · exact (HS.out.below (hb _ _)).sls1 (by simp [go_sem])
  · rintro e w1 ⟨rfl, hb1⟩
    go_wp2
    go_ret
    exact ⟨rfl, (hb _ _).trans (hb1.mono (by simp; omega))⟩

def ordS (o : Int) (xs ys : List Int) : Int :=
  if cmpI (sumI xs) (sumI ys) = 0 then (if o = 1 then revC xs ys else lexC xs ys) else cmpI (sumI xs) (sumI ys)
theorem below_two {w : World} {A B : Obj} : Below w.heap.size w ((w.alloc A).alloc B) := ((Below.refl _ _).alloc (Nat.le_refl _) _).alloc (by simp) _
theorem below_ndraws {w W : World} {B : Nat} (h : Below B w W) {w' : World} (hd : ∃ n, w' = W.drewN n) : Below B w w' := by
  obtain ⟨n, rfl⟩ := hd; exact below_drewN h n

theorem ordS_deg {o : Int} {xs ys : List Int} (h : (cmpI (sumI xs) (sumI ys) != 0) = true) : ordS o xs ys = cmpI (sumI xs) (sumI ys) := by
  unfold ordS; rw [if_neg (by simpa using h)]
theorem ordS_rev {xs ys : List Int} (h : (cmpI (sumI xs) (sumI ys) != 0) = false) : ordS 1 xs ys = revC xs ys := by
  unfold ordS; rw [if_pos (by simpa using h), if_pos rfl]
theorem ordS_lex {xs ys : List Int} (h : (cmpI (sumI xs) (sumI ys) != 0) = false) : ordS 2 xs ys = lexC xs ys := by
  unfold ordS; rw [if_pos (by simpa using h), if_neg (by omega)]

theorem below_oneG {w : World} {A : Obj} : Below w.heap.size w (w.alloc A) := (Below.refl _ _).alloc (Nat.le_refl _) _

set_option maxHeartbeats 1000000 in
theorem bareCompare_any (p n o v : Int) (x y : Value) (xs ys : List Int) (w : World) (ho : o = 1 ∨ o = 2) (h0 : 0 < xs.length) (hm : xs.length ≤ 3) (hxy : xs.length = ys.length)
    (hbx : ∀ x ∈ xs, 0 ≤ x ∧ x ≤ 40000) (hby : ∀ x ∈ ys, 0 ≤ x ∧ x ≤ 40000) (hs : Sl w x xs) (hs2 : Sl w y ys) :
    Calls Tryz.prog 109 #[ringV p n o v, x, y] w fun e w' => e = .returned (.int .i64 (ordS o xs ys)) ∧ Below w.heap.size w w' := by
  have HXY := hid hxy
  have HBX := hid hbx
  have HBY := hid hby
  have hmy : ys.length ≤ 3 := by omega
  obtain ⟨a, cap, rfl, h1⟩ := hs
  obtain ⟨a2, cap2, rfl, h2⟩ := hs2
  obtain ⟨b, off, rfl, hlt, hc⟩ := h1 h0
  obtain ⟨b2, off2, rfl, hlt2, hc2⟩ := h2 (by omega)
  have HC := hid hc
  have HC2 := hid hc2
  clear hxy hbx hby h1 h2 hc hc2
  have key : ∀ w1 : World, Below w.heap.size w w1 → IntsAt w1 b off xs ∧ IntsAt w1 b2 off2 ys := fun w1 hb =>
    ⟨fun i hi => by rw [hb.cell (p := ⟨b, off + i, none⟩) hlt]; exact HC.out i hi, fun i hi => by rw [hb.cell (p := ⟨b2, off2 + i, none⟩) hlt2]; exact HC2.out i hi⟩
  have KEY := hid key
  clear key
  cases hd : (cmpI (sumI xs) (sumI ys) != 0)
  · rcases ho with rfl | rfl
    · rw [ordS_rev hd]
      go_enter Tryz.func109, Tryz.ntmps109
      go_wp2_with fail
      refine (degree_any xs _ _ _ _ HBX.out hm (KEY.out _ below_oneG).1).mono ?_
      rintro e w' ⟨rfl, rfl⟩
      go_wp2_with fail
      refine (degree_any ys _ _ _ _ HBY.out hmy (KEY.out _ below_oneG).2).mono ?_
      rintro e w' ⟨rfl, rfl⟩
      go_wp2_with fail
      refine (compare_any _ _ _).mono ?_
      rintro e w' ⟨rfl, rfl⟩
      go_wp2_with fail
      refine (revCompare_any xs ys _ _ _ _ _ _ _ hm HXY.out (KEY.out _ below_oneG).1 (KEY.out _ below_oneG).2).mono ?_
      rintro e w1 ⟨rfl, hd2⟩
      go_wp2
      go_ret
      exact ⟨rfl, below_ndraws below_oneG hd2⟩
    · rw [ordS_lex hd]
      go_enter Tryz.func109, Tryz.ntmps109
      go_wp2_with fail
      refine (degree_any xs _ _ _ _ HBX.out hm (KEY.out _ below_oneG).1).mono ?_
      rintro e w' ⟨rfl, rfl⟩
      go_wp2_with fail
      refine (degree_any ys _ _ _ _ HBY.out hmy (KEY.out _ below_oneG).2).mono ?_
      rintro e w' ⟨rfl, rfl⟩
      go_wp2_with fail
      refine (compare_any _ _ _).mono ?_
      rintro e w' ⟨rfl, rfl⟩
      go_wp2_with fail
      refine (lexCompare_any xs ys _ _ _ _ _ _ _ hm HXY.out (KEY.out _ below_oneG).1 (KEY.out _ below_oneG).2).mono ?_
      rintro e w' ⟨rfl, rfl⟩
      go_wp2
      go_ret
      exact ⟨rfl, below_oneG⟩
  · rw [ordS_deg hd]
    go_enter Tryz.func109, Tryz.ntmps109
    go_wp2_with fail
    refine (degree_any xs _ _ _ _ HBX.out hm (KEY.out _ below_oneG).1).mono ?_
    rintro e w' ⟨rfl, rfl⟩
    go_wp2_with fail
    refine (degree_any ys _ _ _ _ HBY.out hmy (KEY.out _ below_oneG).2).mono ?_
    rintro e w' ⟨rfl, rfl⟩
    go_wp2_with fail
    refine (compare_any _ _ _).mono ?_
    rintro e w' ⟨rfl, rfl⟩
    go_wp2
    go_ret
    exact ⟨rfl, below_oneG⟩
end Go.Proofs.YtilogbggilchaaaGreat
