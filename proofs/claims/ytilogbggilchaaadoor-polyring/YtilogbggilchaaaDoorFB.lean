/- Add, Mul, Inverse. -/
import Derived.Test.YtilogbggilchaaaDoorFA
namespace Go.Proofs.YtilogbggilchaaaDoor
set_option linter.unusedSimpArgs false
set_option linter.unusedVariables false
open Go.RowKit
def numE (p : Int) (xs : List Int) : Int := if errP p = 0 then (if xs.any (outP p) then 3 else 0) else errP p
theorem belowNew {w : World} {A : Obj} : Below w.heap.size w (w.alloc A) := (Below.refl _ _).alloc (Nat.le_refl _) _
theorem errP_ok {p : Int} (h : errP p = 0) : 2 ≤ p ∧ p ≤ 101 ∧ primeB p = true := by
  unfold errP at h
  by_cases h1 : p < 2 ∨ 101 < p
  · rw [if_pos h1] at h; omega
  · rw [if_neg h1] at h
    by_cases h2 : primeB p = true
    · exact ⟨by omega, by omega, h2⟩
    · rw [if_neg h2] at h; omega
theorem outP_all {p : Int} {xs : List Int} (h : xs.any (outP p) = false) : ∀ x ∈ xs, 0 ≤ x ∧ x < p := by
  intro x hx
  rw [List.any_eq_false] at h
  have := h x hx
  simp [outP] at this; omega

set_option maxHeartbeats 400000 in
theorem checkNumbers_any (p : Int) (v : Value) (xs : List Int) (w : World) (hm : xs.length ≤ 400) (hs : Sl w v xs) :
    Calls Tryd.prog 69 #[.int .i64 p, v] w fun e w' => e = .returned (.int .i64 (numE p xs)) ∧ Below w.heap.size w w' := by
  have HS := hid hs
  obtain ⟨a, cap, rfl, _⟩ := hs
  cases hp : (errP p != 0)
  · have hp0 : errP p = 0 := by simpa using hp
    cases hx : xs.any (outP p)
    · have e : numE p xs = 0 := by unfold numE; rw [if_pos hp0, if_neg (by simp [hx])]
      rw [e]
      clear e hp0
      go_enter Tryd.func69, Tryd.ntmps69
      go_wp2_with fail
      refine (check_any _ _).mono ?_
      rintro e w' ⟨rfl, rfl⟩
      go_wp2_with fail
      refine (anyOutside_any p _ xs _ hm HS.out).mono ?_
      rintro e w' ⟨rfl, hb⟩
      go_wp2
      go_ret
      exact ⟨rfl, hb⟩
    · have e : numE p xs = 3 := by unfold numE; rw [if_pos hp0, if_pos hx]
      rw [e]
      clear e hp0
      go_enter Tryd.func69, Tryd.ntmps69
      go_wp2_with fail
      refine (check_any _ _).mono ?_
      rintro e w' ⟨rfl, rfl⟩
      go_wp2_with fail
      refine (anyOutside_any p _ xs _ hm HS.out).mono ?_
      rintro e w' ⟨rfl, hb⟩
      go_wp2
      go_ret
      exact ⟨rfl, hb⟩
  · have e : numE p xs = errP p := by unfold numE; rw [if_neg (by simpa using hp)]
    rw [e]
    clear e
    go_enter Tryd.func69, Tryd.ntmps69
    go_wp2_with fail
    refine (check_any _ _).mono ?_
    rintro e w' ⟨rfl, rfl⟩
    go_wp2
    go_ret
    exact ⟨rfl, Below.refl _ _⟩

theorem Sl.of1 (w : World) (a : Int) (T : TypeId) : Sl (w.alloc (.cells #[.int .i64 a] T)) (.slice (some ⟨w.heap.size, 0, none⟩) 1 1) [a] := by
  refine ⟨_, _, rfl, fun _ => ⟨_, _, rfl, by simp, fun i hi => ?_⟩⟩
  simp at hi
  subst hi
  simp
theorem Sl.of2 (w : World) (a b : Int) (T : TypeId) : Sl (w.alloc (.cells #[.int .i64 a, .int .i64 b] T)) (.slice (some ⟨w.heap.size, 0, none⟩) 2 2) [a, b] := by
  refine ⟨_, _, rfl, fun _ => ⟨_, _, rfl, by simp, fun i hi => ?_⟩⟩
  simp at hi
  rcases i with _ | _ | i
  · simp
  · simp
  · omega

def fopR (g : Int → Int → Int) (p a b : Int) : Int := if numE p [a, b] = 0 then g a b % p else 0
theorem numE_two {p a b : Int} (h : numE p [a, b] = 0) : errP p = 0 ∧ 0 ≤ a ∧ a < p ∧ 0 ≤ b ∧ b < p := by
  unfold numE at h
  by_cases h1 : errP p = 0
  · rw [if_pos h1] at h
    cases h2 : [a, b].any (outP p)
    · have := outP_all h2
      have ha := this a (by simp)
      have hb := this b (by simp)
      exact ⟨h1, ha.1, ha.2, hb.1, hb.2⟩
    · rw [if_pos h2] at h; omega
  · rw [if_neg h1] at h; exact absurd h h1

set_option maxHeartbeats 400000 in
theorem moduloAdd_any (p a b : Int) (w : World) :
    Calls Tryd.prog 71 #[.int .i64 p, .int .i64 a, .int .i64 b, .func (.func 72) #[] #[]] w fun e w' => e = .returned (.tuple #[.int .i64 (fopR (· + ·) p a b), .int .i64 (numE p [a, b])]) ∧ Below w.heap.size w w' := by
  cases hz : (numE p [a, b] != 0)
  · have hz0 : numE p [a, b] = 0 := by simpa using hz
    obtain ⟨h1, ha, ha2, hb, hb2⟩ := numE_two hz0
    obtain ⟨hp1, hp2, _⟩ := errP_ok h1
    have e1 : fopR (· + ·) p a b = (a + b) % p := by unfold fopR; rw [if_pos hz0]
    rw [e1, hz0]
    have HZ := hid hz0
    have hbd := mul_bd (a := a) (b := b) ⟨by omega, by omega, by omega, by omega⟩
    obtain ⟨hbd1, hbd2⟩ := hbd
    clear e1 h1 hz0 hz
    go_enter Tryd.func71, Tryd.ntmps71
    go_wp2_with fail
    refine (checkNumbers_any p _ [a, b] _ (by simp) (Sl.of2 _ _ _ _)).mono ?_
    rintro e w1 ⟨rfl, hb1⟩
    rw [HZ.out]
    go_wp2_with fail
    refine (addFn_any _ _ _ ⟨by omega, by omega, by omega, by omega⟩).mono ?_
    rintro e w' ⟨rfl, rfl⟩
    go_wp2
    go_ret2
    exact ⟨rfl, belowNew.trans (hb1.mono (by simp))⟩
  · have e1 : fopR (· + ·) p a b = 0 := by unfold fopR; rw [if_neg (by simpa using hz)]
    rw [e1]
    clear e1
    go_enter Tryd.func71, Tryd.ntmps71
    go_wp2_with fail
    refine (checkNumbers_any p _ [a, b] _ (by simp) (Sl.of2 _ _ _ _)).mono ?_
    rintro e w1 ⟨rfl, hb1⟩
    go_wp2
    go_ret2
    exact ⟨rfl, belowNew.trans (hb1.mono (by simp))⟩

set_option maxHeartbeats 400000 in
theorem fieldAdd_any (p a b : Int) (w : World) :
    Calls Tryd.prog 49 #[.int .i64 p, .int .i64 a, .int .i64 b] w fun e w' => e = .returned (.tuple #[.int .i64 (fopR (· + ·) p a b), .int .i64 (numE p [a, b])]) ∧ Below w.heap.size w w' := by
  go_enter Tryd.func49, Tryd.ntmps49
  go_wp2_with fail
  refine (moduloAdd_any p a b _).mono ?_
  rintro e w1 ⟨rfl, hb1⟩
  go_wp2
  go_ret2
  exact ⟨rfl, hb1⟩

def pwN (p a : Nat) : Nat → Nat
  | 0 => 1
  | k + 1 => pwN p a k * a % p
theorem pwN_lt (p a : Nat) (hp : 2 ≤ p) : ∀ k, pwN p a k < p
  | 0 => by simp [pwN]; omega
  | k + 1 => by simp only [pwN]; exact Nat.mod_lt _ (by omega)
def invN (p a : Nat) : Nat := pwN p a (p - 2)
def invI (p a : Int) : Int := invN p.toNat a.toNat

theorem cast_pw (p a k : Nat) : ((pwN p a (k + 1) : Nat) : Int) = (pwN p a k : Int) * (a : Int) % (p : Int) := by
  simp [pwN, Int.natCast_emod, Int.natCast_mul]

set_option maxHeartbeats 400000 in
theorem inverse_any (p a : Nat) (w : World) (hp : 2 ≤ p) (hp2 : p ≤ 101) (ha : a < p) :
    Calls Tryd.prog 70 #[.int .i64 p, .int .i64 a] w fun e w' => e = .returned (.int .i64 (invN p a)) ∧ w' = w := by
  go_enter Tryd.func70, Tryd.ntmps70
  go_wp2
  go_loop [5, 8] (fun r i => ∃ k : Nat, k ≤ p - 2 ∧ i = .int .i64 k ∧ r = .int .i64 (pwN p a k)) (fun _ i => p - (intOf i).toNat)
  case atStart => exact ⟨0, Nat.zero_le _, rfl, rfl⟩
  case round =>
    obtain ⟨k, hk, rfl, rfl⟩ := hrel
    have hlt := pwN_lt p a hp k
    by_cases hk2 : k < p - 2
    · have hc := cast_pw p a k
      have hmb := mul_bd (a := (pwN p a k : Int)) (b := (a : Int)) ⟨by omega, by omega, by omega, by omega⟩
      obtain ⟨hm1, hm2⟩ := hmb
      have HC := hid hc
      clear hc
      generalize hq : pwN p a k = q at *
      clear hq
      go_wp2
      go_round
      case rel => exact ⟨k + 1, by omega, by go_num, by rw [HC.out]⟩
      case measure => simp [intOf]; omega
    · have e : k = p - 2 := by omega
      go_wp2
      go_ret
      exact ⟨ret_int (by first | rfl | (rw [e]; rfl)), rfl⟩
end Go.Proofs.YtilogbggilchaaaDoor
