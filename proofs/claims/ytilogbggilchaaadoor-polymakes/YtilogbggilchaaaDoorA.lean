/- Contracts of the small functions: isNaN, Compare, the closures. -/
import Derived.Test.YtilogbggilchaaaDoorProg
import GoSem.Claim
import GoSem.ClaimJoined
import GoSem.ClaimMapViews
import Derived.JoinedTies
import Derived.KernelRfl
import Derived.RowKit
import Derived.WalkKit
import Derived.WalkSpells
import Derived.WalkLawsBesides
import Derived.BigQuiet
import Derived.Deep.QuietTactic
namespace Go.Proofs.YtilogbggilchaaaDoor
set_option linter.unusedSimpArgs false
set_option linter.unusedVariables false
open Go.RowKit
theorem hid {p : Prop} (h : p) : Hid p := h
theorem ret_int {k : IntKind} {a b : Int} (h : a = b) : Ending.returned (.int k a) = .returned (.int k b) := by rw [h]

def cmpI (a b : Int) : Int := if a < b then -1 else if b < a then 1 else 0

set_option maxHeartbeats 400000 in
theorem compare_any (a b : Int) (w : World) :
    Calls Tryd.prog 89 #[.int .i64 a, .int .i64 b] w fun e w' => e = .returned (.int .i64 (cmpI a b)) ∧ w' = w := by
  unfold cmpI
  by_cases h1 : a < b
  · go_enter Tryd.func89, Tryd.ntmps89
    go_wp2
    go_ret
    exact ⟨by simp [h1], rfl⟩
  · by_cases h2 : b < a
    · go_enter Tryd.func89, Tryd.ntmps89
      go_wp2
      go_ret
      exact ⟨by simp [h1, h2], rfl⟩
    · go_enter Tryd.func89, Tryd.ntmps89
      go_wp2
      go_ret
      exact ⟨by simp [h1, h2], rfl⟩

def outB (x : Int) : Bool := decide (x < 0 ∨ 200 < x)
set_option maxHeartbeats 400000 in
theorem expFn_any (x : Int) (w : World) :
    Calls Tryd.prog 101 #[.int .i64 x] w fun e w' => e = .returned (.bool (outB x)) ∧ w' = w := by
  unfold outB
  by_cases h : x < 0
  · go_enter Tryd.func101, Tryd.ntmps101
    go_wp2
    go_ret
    exact ⟨by simp [h], rfl⟩
  · go_enter Tryd.func101, Tryd.ntmps101
    go_wp2
    go_ret
    exact ⟨by simp; omega, rfl⟩
def IntsAt (w : World) (b off : Nat) (xs : List Int) : Prop := ∀ i, i < xs.length → w.cell? ⟨b, off + i, none⟩ = some (.int .i64 (xs.getD i 0))

def sumI : List Int → Int
  | [] => 0
  | x :: xs => x + sumI xs
theorem sumI_take (xs : List Int) (k : Nat) (h : k < xs.length) : sumI (xs.take (k + 1)) = sumI (xs.take k) + xs.getD k 0 := by
  induction xs generalizing k with
  | nil => simp at h
  | cons x xs ih =>
    cases k with
    | zero => simp [sumI]
    | succ k => simp only [List.take_succ_cons, sumI]; rw [ih k (by simpa using h)]; simp; omega
theorem sumI_bd (xs : List Int) (h : ∀ x ∈ xs, 0 ≤ x ∧ x ≤ 400) : 0 ≤ sumI xs ∧ sumI xs ≤ 400 * xs.length := by
  induction xs with
  | nil => simp [sumI]
  | cons x xs ih =>
    have h1 := h x (by simp)
    have h2 := ih (fun y hy => h y (by simp [hy]))
    simp only [sumI, List.length_cons]; omega
theorem getD_mem (xs : List Int) (k : Nat) (h : k < xs.length) : xs.getD k 0 ∈ xs := by
  rw [List.getD_eq_getElem?_getD, List.getElem?_eq_getElem h]; simp

set_option maxHeartbeats 400000 in
theorem degree_any (xs : List Int) (b off cap : Nat) (w : World) (hxs : ∀ x ∈ xs, 0 ≤ x ∧ x ≤ 400) (hl : xs.length ≤ 3) (hc : IntsAt w b off xs) :
    Calls Tryd.prog 57 #[.slice (some ⟨b, off, none⟩) xs.length cap] w fun e w' => e = .returned (.int .i64 (sumI xs)) ∧ w' = w := by
  have HC : Hid (IntsAt w b off xs) := hc
  clear hc
  go_enter Tryd.func57, Tryd.ntmps57
  go_wp2
  go_loop [3, 8] (fun n i => ∃ k : Nat, k ≤ xs.length ∧ i = .int .i64 k ∧ n = .int .i64 (sumI (xs.take k))) (fun _ i => xs.length - (intOf i).toNat)
  case atStart => exact ⟨0, Nat.zero_le _, rfl, rfl⟩
  case round =>
    obtain ⟨k, hk, rfl, rfl⟩ := hrel
    have hd := sumI_bd (xs.take k) (fun x hx => hxs x (List.mem_of_mem_take hx))
    have hl2 : (xs.take k).length ≤ k := List.length_take_le _ _
    by_cases hlt : k < xs.length
    · have hsn := sumI_take xs k hlt
      have hb := hxs _ (getD_mem xs k hlt)
      have hcell := HC.out k hlt
      generalize xs.getD k 0 = y at hsn hb hcell
      have HS : Hid (sumI (xs.take (k + 1)) = sumI (xs.take k) + y) := hsn
      clear hsn hxs
      go_wp2
      go_round
      case rel => exact ⟨k + 1, by omega, by go_num, by rw [HS.out]⟩
      case measure => simp [intOf]; omega
    · go_wp2
      go_ret
      exact ⟨ret_int (by rw [List.take_of_length_le (by omega)]), rfl⟩

def Sl (w : World) (v : Value) (xs : List Int) : Prop :=
  ∃ a cap, v = .slice a xs.length cap ∧ (0 < xs.length → ∃ b off, a = some ⟨b, off, none⟩ ∧ b < w.heap.size ∧ IntsAt w b off xs)

theorem Sl.below {w w' : World} {v : Value} {xs : List Int} (h : Sl w v xs) (hb : Below w.heap.size w w') : Sl w' v xs := by
  obtain ⟨a, cap, rfl, h⟩ := h
  refine ⟨a, cap, rfl, fun hp => ?_⟩
  obtain ⟨b, off, rfl, hlt, hc⟩ := h hp
  refine ⟨b, off, rfl, Nat.lt_of_lt_of_le hlt hb.size, fun i hi => ?_⟩
  rw [hb.cell (p := ⟨b, off + i, none⟩) hlt]; exact hc i hi

theorem any_take (f : Int → Bool) (xs : List Int) (k : Nat) (h : k < xs.length) (h0 : (xs.take k).any f = false) (h1 : f (xs.getD k 0) = false) : (xs.take (k + 1)).any f = false := by
  rw [List.take_succ_eq_append_getElem h, List.any_append, h0]
  rw [List.getD_eq_getElem?_getD, List.getElem?_eq_getElem h] at h1
  simpa using h1
theorem any_at (f : Int → Bool) (xs : List Int) (k : Nat) (h : k < xs.length) (h1 : f (xs.getD k 0) = true) : xs.any f = true := by
  rw [List.any_eq_true]; exact ⟨_, getD_mem xs k h, h1⟩

set_option maxHeartbeats 400000 in
theorem indexExp_any (xs : List Int) (b off cap : Nat) (w : World) (hm : xs.length ≤ 3) (hc : IntsAt w b off xs) :
    Calls Tryd.prog 64 #[.slice (some ⟨b, off, none⟩) xs.length cap, .func (.func 101) #[] #[]] w fun e w' =>
      ∃ r : Int, e = .returned (.int .i64 r) ∧ decide (0 ≤ r) = xs.any outB ∧ w' = w := by
  have HC : Hid (IntsAt w b off xs) := hc
  clear hc
  go_enter Tryd.func64, Tryd.ntmps64
  go_wp2
  go_loop [8] (fun i => ∃ k : Nat, k ≤ xs.length ∧ i = .int .i64 k ∧ (xs.take k).any outB = false) (fun i => xs.length - (intOf i).toNat)
  case atStart => exact ⟨0, Nat.zero_le _, rfl, by simp⟩
  case round =>
    obtain ⟨k, hk, rfl, hn⟩ := hrel
    have HN : Hid ((xs.take k).any outB = false) := hn
    clear hn
    by_cases hlt : k < xs.length
    · have hcell := HC.out k hlt
      have h1 := any_take outB xs k hlt HN.out
      have h2 := any_at outB xs k hlt
      have H1 := hid h1
      have H2 := hid h2
      clear h1 h2
      generalize xs.getD k 0 = y at hcell H1 H2
      cases hy : outB y
      · go_wp2_with (go_at_call 101; refine (expFn_any _ _).mono ?_; rintro e w' ⟨rfl, rfl⟩)
        go_round
        case rel => exact ⟨k + 1, by omega, by go_num, H1.out hy⟩
        case measure => simp [intOf]; omega
      · go_wp2_with (go_at_call 101; refine (expFn_any _ _).mono ?_; rintro e w' ⟨rfl, rfl⟩)
        go_ret
        exact ⟨(k : Int), rfl, by rw [H2.out hy]; simp, rfl⟩
    · go_wp2
      go_ret
      exact ⟨-1, rfl, by have := HN.out; rw [List.take_of_length_le (by omega)] at this; rw [this]; simp, rfl⟩

set_option maxHeartbeats 400000 in
theorem containsExp_any (xs : List Int) (b off cap : Nat) (w : World) (hm : xs.length ≤ 3) (hc : IntsAt w b off xs) :
    Calls Tryd.prog 37 #[.slice (some ⟨b, off, none⟩) xs.length cap, .func (.func 101) #[] #[]] w fun e w' =>
      e = .returned (.bool (xs.any outB)) ∧ w' = w := by
  have HC := hid hc
  clear hc
  go_enter Tryd.func37, Tryd.ntmps37
  go_wp2_with (go_at_call 64; refine (indexExp_any xs _ _ _ _ hm HC.out).mono ?_; rintro e w' ⟨r, rfl, hr, rfl⟩)
  go_ret
  exact ⟨by rw [← hr]; rfl, rfl⟩

def errM (n : Int) (xs : List Int) : Int := if (xs.length : Int) ≠ n then 1 else if xs.any outB then 3 else if 200 < sumI xs then 3 else 0

theorem any_bd {xs : List Int} (h : xs.any outB = false) : ∀ x ∈ xs, 0 ≤ x ∧ x ≤ 200 := by
  intro x hx
  rw [List.any_eq_false] at h
  have := h x hx
  simp [outB] at this; omega

set_option maxHeartbeats 400000 in
theorem checkExp_any (n : Int) (v : Value) (xs : List Int) (w : World) (hn : 1 ≤ n ∧ n ≤ 3) (hs : Sl w v xs) :
    Calls Tryd.prog 92 #[.int .i64 n, v] w fun e w' => e = .returned (.int .i64 (errM n xs)) ∧ w' = w := by
  obtain ⟨a, cap, rfl, hs⟩ := hs
  obtain ⟨hn1, hn2⟩ := hn
  by_cases hl : (xs.length : Int) = n
  · subst hl
    obtain ⟨b, off, rfl, _, hc⟩ := hs (by omega)
    clear hs
    have HC := hid hc
    clear hc
    have hm : xs.length ≤ 3 := by omega
    cases hy : xs.any outB
    · have hb := any_bd hy
      have hb2 := hid (show ∀ x ∈ xs, 0 ≤ x ∧ x ≤ 400 from fun x hx => by have := hb x hx; omega)
      clear hb
      by_cases hd : 200 < sumI xs
      · have he : errM xs.length xs = 3 := by simp [errM, hy, hd]
        rw [he]; clear he
        go_enter Tryd.func92, Tryd.ntmps92
        go_wp2_with (first | (go_at_call 37; refine (containsExp_any xs _ _ _ _ hm HC.out).mono ?_; rintro e w' ⟨rfl, rfl⟩) | (go_at_call 57; refine (degree_any xs _ _ _ _ hb2.out hm HC.out).mono ?_; rintro e w' ⟨rfl, rfl⟩))
        go_ret
        exact ⟨rfl, rfl⟩
      · have he : errM xs.length xs = 0 := by simp [errM, hy, hd]
        rw [he]; clear he
        go_enter Tryd.func92, Tryd.ntmps92
        go_wp2_with (first | (go_at_call 37; refine (containsExp_any xs _ _ _ _ hm HC.out).mono ?_; rintro e w' ⟨rfl, rfl⟩) | (go_at_call 57; refine (degree_any xs _ _ _ _ hb2.out hm HC.out).mono ?_; rintro e w' ⟨rfl, rfl⟩))
        go_ret
        exact ⟨rfl, rfl⟩
    · have he : errM xs.length xs = 3 := by simp [errM, hy]
      rw [he]; clear he
      go_enter Tryd.func92, Tryd.ntmps92
      go_wp2_with (go_at_call 37; refine (containsExp_any xs _ _ _ _ hm HC.out).mono ?_; rintro e w' ⟨rfl, rfl⟩)
      go_ret
      exact ⟨rfl, rfl⟩
  · have he : errM n xs = 1 := by simp [errM, hl]
    rw [he]; clear he hs
    have hl2 : ((xs.length : Int) != n) = true := by simpa using hl
    clear hl
    go_enter Tryd.func92, Tryd.ntmps92
    go_wp2
    go_ret
    exact ⟨rfl, rfl⟩
end Go.Proofs.YtilogbggilchaaaDoor
