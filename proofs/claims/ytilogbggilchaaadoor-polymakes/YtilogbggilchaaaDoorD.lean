/- Contracts of Ring and of what looks at monomials. -/
import Derived.Test.YtilogbggilchaaaDoorC
namespace Go.Proofs.YtilogbggilchaaaDoor
set_option linter.unusedSimpArgs false
set_option linter.unusedVariables false
open Go.RowKit
theorem errR_p {p n o v : Int} (h : (errP p != 0) = true) : errR p n o v = errP p := by
  have : errP p ≠ 0 := by simpa using h
  unfold errR; rw [if_pos this]
theorem errR_n {p n o v : Int} (h : (errP p != 0) = false) (hn : n < 1 ∨ 3 < n) : errR p n o v = 3 := by
  have : ¬ errP p ≠ 0 := by simpa using h
  unfold errR; rw [if_neg this, if_pos hn]
theorem errR_k {p n o v : Int} (h : (errP p != 0) = false) (hn : ¬ (n < 1 ∨ 3 < n)) (hk : (o ≠ 1 ∧ o ≠ 2) ∨ (v ≠ 1 ∧ v ≠ 2)) : errR p n o v = 6 := by
  have : ¬ errP p ≠ 0 := by simpa using h
  unfold errR; rw [if_neg this, if_neg hn, if_pos hk]
theorem errR_0 {p n o v : Int} (h : (errP p != 0) = false) (hn : ¬ (n < 1 ∨ 3 < n)) (hk : ¬ ((o ≠ 1 ∧ o ≠ 2) ∨ (v ≠ 1 ∧ v ≠ 2))) : errR p n o v = 0 := by
  have : ¬ errP p ≠ 0 := by simpa using h
  unfold errR; rw [if_neg this, if_neg hn, if_neg hk]

set_option maxHeartbeats 1000000 in
theorem ring_any (p n o v : Int) (w : World) :
    Calls Tryd.prog 62 #[ringV p n o v] w fun e w' => e = .returned (.int .i64 (errR p n o v)) ∧ Below w.heap.size w w' := by
  cases hp : (errP p != 0)
  · by_cases hn1 : n < 1
    · rw [errR_n hp (Or.inl hn1)]
      go_enter Tryd.func62, Tryd.ntmps62
      go_wp2_with (go_at_call 51; refine (check_any _ _).mono ?_; rintro e w' ⟨rfl, rfl⟩)
      go_ret
      exact ⟨rfl, (Below.refl _ _).alloc (Nat.le_refl _) _⟩
    by_cases hn3 : 3 < n
    · rw [errR_n hp (Or.inr hn3)]
      go_enter Tryd.func62, Tryd.ntmps62
      go_wp2_with (go_at_call 51; refine (check_any _ _).mono ?_; rintro e w' ⟨rfl, rfl⟩)
      go_ret
      exact ⟨rfl, (Below.refl _ _).alloc (Nat.le_refl _) _⟩
    have hn : ¬ (n < 1 ∨ 3 < n) := by omega
    by_cases ho : o ≠ 1 ∧ o ≠ 2
    · rw [errR_k hp hn (Or.inl ho)]
      obtain ⟨ho1, ho2⟩ := ho
      have ho1' : (o != 1) = true := by simpa using ho1
      have ho2' : (o != 2) = true := by simpa using ho2
      clear ho1 ho2 hn
      go_enter Tryd.func62, Tryd.ntmps62
      go_wp2_with (go_at_call 51; refine (check_any _ _).mono ?_; rintro e w' ⟨rfl, rfl⟩)
      go_ret
      exact ⟨rfl, (Below.refl _ _).alloc (Nat.le_refl _) _⟩
    by_cases hv : v ≠ 1 ∧ v ≠ 2
    · rw [errR_k hp hn (Or.inr hv)]
      obtain ⟨hv1, hv2⟩ := hv
      have hv1' : (v != 1) = true := by simpa using hv1
      have hv2' : (v != 2) = true := by simpa using hv2
      have ho' : o = 1 ∨ o = 2 := by omega
      clear hv1 hv2 hn ho
      rcases ho' with rfl | rfl
      all_goals
        go_enter Tryd.func62, Tryd.ntmps62
        go_wp2_with (go_at_call 51; refine (check_any _ _).mono ?_; rintro e w' ⟨rfl, rfl⟩)
        go_ret
        exact ⟨rfl, (Below.refl _ _).alloc (Nat.le_refl _) _⟩
    · rw [errR_0 hp hn (by omega)]
      have ho' : o = 1 ∨ o = 2 := by omega
      have hv' : v = 1 ∨ v = 2 := by omega
      clear hv hn ho
      rcases ho' with rfl | rfl <;> rcases hv' with rfl | rfl
      all_goals
        go_enter Tryd.func62, Tryd.ntmps62
        go_wp2_with (go_at_call 51; refine (check_any _ _).mono ?_; rintro e w' ⟨rfl, rfl⟩)
        go_ret
        exact ⟨rfl, (Below.refl _ _).alloc (Nat.le_refl _) _⟩
  · rw [errR_p hp]
    go_enter Tryd.func62, Tryd.ntmps62
    go_wp2_with (go_at_call 51; refine (check_any _ _).mono ?_; rintro e w' ⟨rfl, rfl⟩)
    go_ret
    exact ⟨rfl, (Below.refl _ _).alloc (Nat.le_refl _) _⟩

set_option maxHeartbeats 1000000 in
theorem checkRing_any (p n o v : Int) (w : World) :
    Calls Tryd.prog 28 #[ringV p n o v] w fun e w' => e = .returned (.int .i64 (errR p n o v)) ∧ Below w.heap.size w w' := by
  have arm : ∀ x, betweenB x 1 2 = true ↔ (x = 1 ∨ x = 2) := fun x => by simp [betweenB]; omega
  cases hp : (errP p != 0)
  · cases hn : betweenB n 1 3
    · rw [errR_n hp (by simp [betweenB] at hn; omega)]
      clear arm
      go_enter Tryd.func28, Tryd.ntmps28
      go_wp2_with (first | (go_at_call 60; refine (checkPrime_any _ _).mono ?_; rintro e w' ⟨rfl, rfl⟩) | (go_at_call 42; refine (between_any _ _ _ _).mono ?_; rintro e w' ⟨rfl, rfl⟩))
      go_ret
      exact ⟨rfl, (Below.refl _ _).alloc (Nat.le_refl _) _⟩
    have hn' : ¬ (n < 1 ∨ 3 < n) := by simp [betweenB] at hn; omega
    cases ho : betweenB o 1 2
    · have := arm o
      rw [errR_k hp hn' (by rw [ho] at this; simp at this; omega)]
      clear arm this hn'
      go_enter Tryd.func28, Tryd.ntmps28
      go_wp2_with (first | (go_at_call 60; refine (checkPrime_any _ _).mono ?_; rintro e w' ⟨rfl, rfl⟩) | (go_at_call 42; refine (between_any _ _ _ _).mono ?_; rintro e w' ⟨rfl, rfl⟩))
      go_ret
      exact ⟨rfl, (Below.refl _ _).alloc (Nat.le_refl _) _⟩
    cases hv : betweenB v 1 2
    · have := arm v
      rw [errR_k hp hn' (by rw [hv] at this; simp at this; omega)]
      clear arm this hn'
      go_enter Tryd.func28, Tryd.ntmps28
      go_wp2_with (first | (go_at_call 60; refine (checkPrime_any _ _).mono ?_; rintro e w' ⟨rfl, rfl⟩) | (go_at_call 42; refine (between_any _ _ _ _).mono ?_; rintro e w' ⟨rfl, rfl⟩))
      go_ret
      exact ⟨rfl, (Below.refl _ _).alloc (Nat.le_refl _) _⟩
    · have h1 := (arm v).1 hv
      have h2 := (arm o).1 ho
      rw [errR_0 hp hn' (by omega)]
      clear arm h1 h2 hn'
      go_enter Tryd.func28, Tryd.ntmps28
      go_wp2_with (first | (go_at_call 60; refine (checkPrime_any _ _).mono ?_; rintro e w' ⟨rfl, rfl⟩) | (go_at_call 42; refine (between_any _ _ _ _).mono ?_; rintro e w' ⟨rfl, rfl⟩))
      go_ret
      exact ⟨rfl, (Below.refl _ _).alloc (Nat.le_refl _) _⟩
  · rw [errR_p hp]
    clear arm
    go_enter Tryd.func28, Tryd.ntmps28
    go_wp2_with (go_at_call 60; refine (checkPrime_any _ _).mono ?_; rintro e w' ⟨rfl, rfl⟩)
    go_ret
    exact ⟨rfl, (Below.refl _ _).alloc (Nat.le_refl _) _⟩
theorem bcell {W w1 : World} (hb : Below W.heap.size W w1) : (∀ b o, b < W.heap.size → w1.cell? ⟨b, o, none⟩ = W.cell? ⟨b, o, none⟩) ∧ (∀ b o, b < W.heap.size → w1.frozen? ⟨b, o, none⟩ = W.frozen? ⟨b, o, none⟩) :=
  ⟨fun b o h => hb.cell (p := ⟨b, o, none⟩) h, fun b o h => hb.frozen (p := ⟨b, o, none⟩) h⟩

def firstErr (n : Int) : List (List Int) → Int
  | [] => 0
  | xs :: r => if errM n xs = 0 then firstErr n r else errM n xs

def SlsAt (w : World) (b off : Nat) (xss : List (List Int)) : Prop :=
  ∀ i, i < xss.length → ∃ v, w.cell? ⟨b, off + i, none⟩ = some v ∧ Sl w v (xss.getD i [])

theorem SlsAt.below {w w' : World} {b off : Nat} {xss : List (List Int)} (h : SlsAt w b off xss) (hlt : b < w.heap.size) (hb : Below w.heap.size w w') : SlsAt w' b off xss := by
  intro i hi
  obtain ⟨v, hc, hs⟩ := h i hi
  exact ⟨v, by rw [hb.cell (p := ⟨b, off + i, none⟩) hlt]; exact hc, hs.below hb⟩

theorem firstErr_drop (n : Int) (xss : List (List Int)) (k : Nat) (h : k < xss.length) :
    firstErr n (xss.drop k) = if errM n (xss.getD k []) = 0 then firstErr n (xss.drop (k + 1)) else errM n (xss.getD k []) := by
  rw [List.drop_eq_getElem_cons h]
  simp [firstErr, List.getD_eq_getElem?_getD, h]

def errAll (p n o v : Int) (xss : List (List Int)) : Int := if errR p n o v = 0 then firstErr n xss else errR p n o v

theorem ring_ok {p n o v : Int} (h : errR p n o v = 0) : errP p = 0 ∧ 1 ≤ n ∧ n ≤ 3 ∧ (o = 1 ∨ o = 2) ∧ (v = 1 ∨ v = 2) := by
  unfold errR at h
  by_cases h1 : errP p = 0
  · rw [if_neg (by simp [h1])] at h
    by_cases h2 : n < 1 ∨ 3 < n
    · rw [if_pos h2] at h; omega
    · rw [if_neg h2] at h
      by_cases h3 : (o ≠ 1 ∧ o ≠ 2) ∨ (v ≠ 1 ∧ v ≠ 2)
      · rw [if_pos h3] at h; omega
      · exact ⟨h1, by omega, by omega, by omega, by omega⟩
  · rw [if_pos h1] at h; exact absurd h h1

set_option maxHeartbeats 400000 in
theorem checkAll_any (p n o v : Int) (xss : List (List Int)) (b off cap : Nat) (w : World) (hl : xss.length ≤ 2) (hlt : b < w.heap.size) (hs : SlsAt w b off xss) :
    Calls Tryd.prog 78 #[ringV p n o v, .slice (some ⟨b, off, none⟩) xss.length cap] w fun e w' => e = .returned (.int .i64 (errAll p n o v xss)) ∧ Below w.heap.size w w' := by
  have HS := hid hs
  clear hs
  cases hp : (errR p n o v != 0)
  · have hp0 : errR p n o v = 0 := by simpa using hp
    obtain ⟨_, hn1, hn2, _⟩ := ring_ok hp0
    have he : errAll p n o v xss = firstErr n xss := by unfold errAll; rw [if_pos hp0]
    rw [he]; clear he hp0
    go_enter Tryd.func78, Tryd.ntmps78
    go_wp2_with (go_at_call 62; refine (ring_any _ _ _ _ _).mono ?_; rintro e w1 ⟨rfl, hb1⟩)
    have hb0 : Below w.heap.size w w1 := ((Below.refl _ _).alloc (Nat.le_refl _) _).trans (hb1.mono (by simp))
    obtain ⟨hcl, _⟩ := bcell hb1
    have hbox : w1.cell? ⟨w.heap.size, 1, none⟩ = some (.int .i64 n) := by rw [hcl _ _ (by simp)]; simp [go_sem]
    have HS1 := hid (HS.out.below hlt hb0)
    clear hcl HS
    go_loop [16] (fun i => ∃ k : Nat, k ≤ xss.length ∧ i = .int .i64 k ∧ firstErr n xss = firstErr n (xss.drop k)) (fun i => xss.length - (intOf i).toNat)
    case atStart => exact ⟨0, Nat.zero_le _, rfl, by simp⟩
    case round =>
      obtain ⟨k, hk, rfl, hf⟩ := hrel
      have HF := hid hf
      clear hf
      by_cases hk2 : k < xss.length
      · obtain ⟨vv, hcell, hsl⟩ := HS1.out k hk2
        have HSL := hid hsl
        have HD := hid (firstErr_drop n xss k hk2)
        clear hsl
        generalize xss.getD k [] = xs at HSL HD
        obtain ⟨a, cc, hvv, _⟩ := HSL.out
        subst hvv
        cases hz : (errM n xs != 0)
        · go_wp2_with (go_at_call 92; refine (checkExp_any _ _ xs _ ⟨hn1, hn2⟩ HSL.out).mono ?_; rintro e w' ⟨rfl, rfl⟩)
          go_round
          case rel => exact ⟨k + 1, by omega, by go_num, by rw [HF.out, HD.out, if_pos (by simpa using hz)]⟩
          case measure => simp [intOf]; omega
        · go_wp2_with (go_at_call 92; refine (checkExp_any _ _ xs _ ⟨hn1, hn2⟩ HSL.out).mono ?_; rintro e w' ⟨rfl, rfl⟩)
          go_ret
          exact ⟨ret_int (by rw [HF.out, HD.out, if_neg (by simpa using hz)]), hb0⟩
      · go_wp2
        go_ret
        exact ⟨ret_int (by rw [HF.out, List.drop_eq_nil_of_le (by omega)]; rfl), hb0⟩
  · have he : errAll p n o v xss = errR p n o v := by unfold errAll; rw [if_neg (by simpa using hp)]
    rw [he]; clear he
    go_enter Tryd.func78, Tryd.ntmps78
    go_wp2_with (go_at_call 62; refine (ring_any _ _ _ _ _).mono ?_; rintro e w1 ⟨rfl, hb1⟩)
    go_ret
    exact ⟨rfl, ((Below.refl _ _).alloc (Nat.le_refl _) _).trans (hb1.mono (by simp))⟩
end Go.Proofs.YtilogbggilchaaaDoor
