/- Contracts of Ring and of what looks at monomials. -/
import Derived.Test.YtilogbggilchaaaDoorC
namespace Go.Proofs.YtilogbggilchaaaDoor
set_option linter.unusedSimpArgs false
set_option linter.unusedVariables false
open Go.RowKit
theorem errR_p {p n o v : Int} (h : (errP p != 0) = true) : errR p n o v = errP p := by
  have : errP p ≠ 0 := by simpa using h
  unfold errR; rw [if_pos this]
theorem errR_n {p n o v : Int} (h : (errP p != 0) = false) (hn : n < 1 ∨ 3 < n) : errR p n o v = 3 := by
  have : ¬ errP p ≠ 0 := by simpa using h
  unfold errR; rw [if_neg this, if_pos hn]
theorem errR_k {p n o v : Int} (h : (errP p != 0) = false) (hn : ¬ (n < 1 ∨ 3 < n)) (hk : (o ≠ 1 ∧ o ≠ 2) ∨ (v ≠ 1 ∧ v ≠ 2)) : errR p n o v = 6 := by
  have : ¬ errP p ≠ 0 := by simpa using h
  unfold errR; rw [if_neg this, if_neg hn, if_pos hk]
theorem errR_0 {p n o v : Int} (h : (errP p != 0) = false) (hn : ¬ (n < 1 ∨ 3 < n)) (hk : ¬ ((o ≠ 1 ∧ o ≠ 2) ∨ (v ≠ 1 ∧ v ≠ 2))) : errR p n o v = 0 := by
  have : ¬ errP p ≠ 0 := by simpa using h
  unfold errR; rw [if_neg this, if_neg hn, if_neg hk]

set_option maxHeartbeats 1000000 in
theorem ring_any (p n o v : Int) (w : World) :
    Calls Tryd.prog 62 #[ringV p n o v] w fun e w' => e = .returned (.int .i64 (errR p n o v)) ∧ Below w.heap.size w w' := by
  cases hp : (errP p != 0)
  · by_cases hn1 : n < 1
    · rw [errR_n hp (Or.inl hn1)]
      go_enter Tryd.func62, Tryd.ntmps62
      go_wp2_with (go_at_call 51; refine (check_any _ _).mono ?_; rintro e w' ⟨rfl, rfl⟩)
      go_ret
      exact ⟨rfl, (Below.refl _ _).alloc (Nat.le_refl _) _⟩
    by_cases hn3 : 3 < n
    · rw [errR_n hp (Or.inr hn3)]
      go_enter Tryd.func62, Tryd.ntmps62
      go_wp2_with (go_at_call 51; refine (check_any _ _).mono ?_; rintro e w' ⟨rfl, rfl⟩)
      go_ret
      exact ⟨rfl, (Below.refl _ _).alloc (Nat.le_refl _) _⟩
    have hn : ¬ (n < 1 ∨ 3 < n) := by omega
    by_cases ho : o ≠ 1 ∧ o ≠ 2
    · rw [errR_k hp hn (Or.inl ho)]
      obtain ⟨ho1, ho2⟩ := ho
      have ho1' : (o != 1) = true := by simpa using ho1
      have ho2' : (o != 2) = true := by simpa using ho2
      clear ho1 ho2 hn
      go_enter Tryd.func62, Tryd.ntmps62
      go_wp2_with (go_at_call 51; refine (check_any _ _).mono ?_; rintro e w' ⟨rfl, rfl⟩)
      go_ret
      exact ⟨rfl, (Below.refl _ _).alloc (Nat.le_refl _) _⟩
    by_cases hv : v ≠ 1 ∧ v ≠ 2
    · rw [errR_k hp hn (Or.inr hv)]
      obtain ⟨hv1, hv2⟩ := hv
      have hv1' : (v != 1) = true := by simpa using hv1
      have hv2' : (v != 2) = true := by simpa using hv2
      have ho' : o = 1 ∨ o = 2 := by omega
      clear hv1 hv2 hn ho
      rcases ho' with rfl | rfl
      all_goals
        go_enter Tryd.func62, Tryd.ntmps62
        go_wp2_with (go_at_call 51; refine (check_any _ _).mono ?_; rintro e w' ⟨rfl, rfl⟩)
        go_ret
        exact ⟨rfl, (Below.refl _ _).alloc (Nat.le_refl _) _⟩
    · rw [errR_0 hp hn (by omega)]
      have ho' : o = 1 ∨ o = 2 := by omega
      have hv' : v = 1 ∨ v = 2 := by omega
      clear hv hn ho
      rcases ho' with rfl | rfl <;> rcases hv' with rfl | rfl
      all_goals
        go_enter Tryd.func62, Tryd.ntmps62
        go_wp2_with (go_at_call 51; refine (check_any _ _).mono ?_; rintro e w' ⟨rfl, rfl⟩)
        go_ret
        exact ⟨rfl, (Below.refl _ _).alloc (Nat.le_refl _) _⟩
  · rw [errR_p hp]
    go_enter Tryd.func62, Tryd.ntmps62
    go_wp2_with (go_at_call 51; refine (check_any _ _).mono ?_; rintro e w' ⟨rfl, rfl⟩)
    go_ret
    exact ⟨rfl, (Below.refl _ _).alloc (Nat.le_refl _) _⟩

set_option maxHeartbeats 1000000 in
theorem checkRing_any (p n o v : Int) (w : World) :
    Calls Tryd.prog 28 #[ringV p n o v] w fun e w' => e = .returned (.int .i64 (errR p n o v)) ∧ Below w.heap.size w w' := by
  have arm : ∀ x, betweenB x 1 2 = true ↔ (x = 1 ∨ x = 2) := fun x => by simp [betweenB]; omega
  cases hp : (errP p != 0)
  · cases hn : betweenB n 1 3
    · rw [errR_n hp (by simp [betweenB] at hn; omega)]
      clear arm
      go_enter Tryd.func28, Tryd.ntmps28
      go_wp2_with (first | (go_at_call 60; refine (checkPrime_any _ _).mono ?_; rintro e w' ⟨rfl, rfl⟩) | (go_at_call 42; refine (between_any _ _ _ _).mono ?_; rintro e w' ⟨rfl, rfl⟩))
      go_ret
      exact ⟨rfl, (Below.refl _ _).alloc (Nat.le_refl _) _⟩
    have hn' : ¬ (n < 1 ∨ 3 < n) := by simp [betweenB] at hn; omega
    cases ho : betweenB o 1 2
    · have := arm o
      rw [errR_k hp hn' (by rw [ho] at this; simp at this; omega)]
      clear arm this hn'
      go_enter Tryd.func28, Tryd.ntmps28
      go_wp2_with (first | (go_at_call 60; refine (checkPrime_any _ _).mono ?_; rintro e w' ⟨rfl, rfl⟩) | (go_at_call 42; refine (between_any _ _ _ _).mono ?_; rintro e w' ⟨rfl, rfl⟩))
      go_ret
      exact ⟨rfl, (Below.refl _ _).alloc (Nat.le_refl _) _⟩
    cases hv : betweenB v 1 2
    · have := arm v
      rw [errR_k hp hn' (by rw [hv] at this; simp at this; omega)]
      clear arm this hn'
      go_enter Tryd.func28, Tryd.ntmps28
      go_wp2_with (first | (go_at_call 60; refine (checkPrime_any _ _).mono ?_; rintro e w' ⟨rfl, rfl⟩) | (go_at_call 42; refine (between_any _ _ _ _).mono ?_; rintro e w' ⟨rfl, rfl⟩))
      go_ret
      exact ⟨rfl, (Below.refl _ _).alloc (Nat.le_refl _) _⟩
    · have h1 := (arm v).1 hv
      have h2 := (arm o).1 ho
      rw [errR_0 hp hn' (by omega)]
      clear arm h1 h2 hn'
      go_enter Tryd.func28, Tryd.ntmps28
      go_wp2_with (first | (go_at_call 60; refine (checkPrime_any _ _).mono ?_; rintro e w' ⟨rfl, rfl⟩) | (go_at_call 42; refine (between_any _ _ _ _).mono ?_; rintro e w' ⟨rfl, rfl⟩))
      go_ret
      exact ⟨rfl, (Below.refl _ _).alloc (Nat.le_refl _) _⟩
  · rw [errR_p hp]
    clear arm
    go_enter Tryd.func28, Tryd.ntmps28
    go_wp2_with (go_at_call 60; refine (checkPrime_any _ _).mono ?_; rintro e w' ⟨rfl, rfl⟩)
    go_ret
    exact ⟨rfl, (Below.refl _ _).alloc (Nat.le_refl _) _⟩
end Go.Proofs.YtilogbggilchaaaDoor
